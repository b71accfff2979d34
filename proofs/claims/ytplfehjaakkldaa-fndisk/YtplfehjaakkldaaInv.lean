/- A region that draws its order, by what each operation leaves: each fact stands whatever else is done, so no order is gone through. -/
import Derived.Test.YtplfehjaakkldaaMem
import Derived.Orders
namespace Go.Proofs.Ytplfehjaakkldaa
section
variable {P : Program} {md : Region.Mode} {ops : Array Oper} {Q : Exit → Act → World → Prop}

theorem left_pos {listed : Array Bool} {i : Nat} (h : listed.getD i true = false) : 0 < listed.toList.count false := by
  rw [Array.getD_eq_getD_getElem?] at h
  have h1 : listed[i]? = some false := by
    cases hx : listed[i]? with
    | none => rw [hx] at h; cases h
    | some b => rw [hx] at h; simpa using h
  have h2 : listed.toList[i]? = some false := by simpa using h1
  exact List.count_pos_iff.2 (List.mem_of_getElem? h2)

theorem left_set {listed : Array Bool} {i : Nat} (h : listed.getD i true = false) : (listed.setIfInBounds i true).toList.count false + 1 = listed.toList.count false := by
  have hp := left_pos h
  rw [Array.getD_eq_getD_getElem?] at h
  have h1 : listed[i]? = some false := by
    cases hx : listed[i]? with
    | none => rw [hx] at h; cases h
    | some b => rw [hx] at h; simpa using h
  obtain ⟨hi, h2⟩ := Array.getElem?_eq_some_iff.1 h1
  have hi' : i < listed.toList.length := by simpa using hi
  have h3 : listed.toList[i] = false := by simpa using h2
  rw [Array.toList_setIfInBounds, List.count_set hi', h3]
  generalize List.count false listed.toList = c at *
  simp
  omega

/-- A region that draws: what holds of the state stays so behind each operation that may come up. -/
theorem wpAny_inv (I : Array Bool → Act → World → Prop)
    (step : ∀ listed a w i, I listed a w → i ∈ Region.ready md ops listed → wpOp P ops Q i (fun a' w' => I (listed.setIfInBounds i true) a' w') a w)
    (fin : ∀ listed a w, I listed a w → Region.ready md ops listed = [] → Q .normal a w) :
    ∀ (fuel : Nat) (listed : Array Bool) (a : Act) (w : World), listed.toList.count false ≤ fuel → I listed a w → wpAny P md ops Q fuel listed a w
  | 0, listed, a, w, hc, hI => by
    have hr : Region.ready md ops listed = [] := by
      cases h : Region.ready md ops listed with
      | nil => rfl
      | cons i r =>
        have hi : i ∈ Region.ready md ops listed := by rw [h]; exact List.mem_cons_self
        have := left_pos (mem_ready.1 hi).1
        omega
    exact ⟨hr, fin listed a w hI hr⟩
  | fuel + 1, listed, a, w, hc, hI => by
    refine ⟨fin listed a w hI, fun i hi => wpOp_mono (fun a' w' h => ?_) (step listed a w i hI hi)⟩
    have := left_set (mem_ready.1 hi).1
    exact wpAny_inv I step fin fuel _ a' w' (by omega) h

/-- What is known amid a region: each operation that has come up has left what it leaves; all other slots are as they were. -/
structure Amid (N base n : Nat) (G : Nat → Value → World → Prop) (init : Nat → Value) (D : List Deferred) (w0 : World) (listed : Array Bool) (a : Act) (w : World) : Prop where
  size : a.tmps.size = N
  lsz : listed.size = n
  defers : a.defers = D
  init : ∀ s, s < base ∨ base + n ≤ s → a.tmps.getD s undef = init s
  chg : Chg 0 0 w0 w
  got : ∀ j, j < n → listed.getD j false = true → G j (a.tmps.getD (base + j) undef) w

theorem Amid.put {N base n : Nat} {G : Nat → Value → World → Prop} {init : Nat → Value} {D : List Deferred} {w0 w w' : World} {listed : Array Bool} {a : Act} (h : Amid N base n G init D w0 listed a w)
    (mono : ∀ i v w w', Chg 0 0 w w' → G i v w → G i v w') {j : Nat} (hj : j < n) (hN : base + n ≤ N) (c : Chg 0 0 w w') {v : Value} (hv : G j v w') :
    Amid N base n G init D w0 (listed.setIfInBounds j true) (a.put (some (base + j)) v) w' := by
  obtain ⟨h1, h2, h3, h4, h5, h6⟩ := h
  refine ⟨by simp [Act.put, h1], by simp [h2], h3, fun s hs => ?_, h5.trans c, fun i hi hl => ?_⟩
  · rw [← h4 s hs]
    simp only [Act.put, Array.getD_eq_getD_getElem?]
    rw [Array.getElem?_setIfInBounds_ne (by omega)]
  · by_cases e : j = i
    · subst e
      have : (a.put (some (base + j)) v).tmps.getD (base + j) undef = v := by
        simp only [Act.put, Array.getD_eq_getD_getElem?]
        rw [Array.getElem?_setIfInBounds_self_of_lt (by omega)]; rfl
      rw [this]; exact hv
    · have e1 : (a.put (some (base + j)) v).tmps.getD (base + i) undef = a.tmps.getD (base + i) undef := by
        simp only [Act.put, Array.getD_eq_getD_getElem?]
        rw [Array.getElem?_setIfInBounds_ne (by omega)]
      rw [e1]
      refine mono i _ w w' c (h6 i hi ?_)
      rw [Array.getD_eq_getD_getElem?] at hl ⊢
      rw [Array.getElem?_setIfInBounds_ne e] at hl
      exact hl

theorem Amid.at {N base n : Nat} {G : Nat → Value → World → Prop} {init : Nat → Value} {D : List Deferred} {w0 w : World} {listed : Array Bool} {a : Act} (h : Amid N base n G init D w0 listed a w) {s : Nat} (hs : s < N) : a.tmps[s]? = some (a.tmps.getD s undef) := by
  rw [Array.getD_eq_getD_getElem?, Array.getElem?_eq_getElem (by rw [h.size]; exact hs)]; rfl

/-- All edges of a region lead back. -/
def leadBack (ops : Array Oper) : Bool := ops.toList.zipIdx.all fun p => p.1.after.all fun e => decide (e.on < p.2)

theorem ready_all {listed : Array Bool} (hs : listed.size = ops.size) (hac : leadBack ops = true) (hr : Region.ready md ops listed = []) : ∀ j, j < ops.size → listed.getD j false = true := by
  intro j
  induction j using Nat.strongRecOn with
  | _ j ih =>
    intro hj
    rw [Array.getD_eq_getD_getElem?, Array.getElem?_eq_getElem (by omega)]
    cases hb : listed[j]'(by omega) with
    | true => rfl
    | false =>
      exfalso
      have hm : j ∈ Region.ready md ops listed := by
        refine mem_ready.2 ⟨?_, ops[j], Array.getElem?_eq_getElem hj, fun e he _ => ?_⟩
        · rw [Array.getD_eq_getD_getElem?, Array.getElem?_eq_getElem (by omega), hb]; rfl
        · unfold leadBack at hac
          rw [List.all_eq_true] at hac
          have h1 := hac (ops[j], j) (by rw [List.mem_zipIdx_iff_getElem?]; simp [hj])
          have h2 := (Array.all_eq_true_iff_forall_mem.1 h1) e he
          exact ih e.on (by simpa using h2) (by have : e.on < j := by simpa using h2
                                                omega)
      rw [hr] at hm
      cases hm

/-- A region that draws, each of whose operations leaves its own slot alone and makes at most new memory. -/
theorem region_amid {id : Nat} {T : Array Value} {D : List Deferred} {w : World} (N base n : Nat) (G : Nat → Value → World → Prop) (hm : P.follows .mixedOrders = true) (hn : ops.size = n) (hac : leadBack ops = true) (hT : T.size = N)
    (step : ∀ listed a w', Amid N base n G (fun s => T.getD s undef) D w listed a w' → ∀ i, i ∈ Region.ready .any ops listed →
      wpOp P ops Q i (fun a' w'' => Amid N base n G (fun s => T.getD s undef) D w (listed.setIfInBounds i true) a' w'') a w')
    (fin : ∀ a w', a.tmps.size = N → a.defers = D → (∀ s, s < base ∨ base + n ≤ s → a.tmps.getD s undef = T.getD s undef) → Chg 0 0 w w' → (∀ j, j < n → G j (a.tmps.getD (base + j) undef) w') → Q .normal a w') :
    (Code.region id ops true).wp P Q ⟨T, D⟩ w := by
  subst hn
  refine wp_region_any hm (wpAny_inv (Amid N base ops.size G (fun s => T.getD s undef) D w) (fun listed a w' i h hi => step listed a w' h i hi) (fun listed a w' h hr => ?_) _ _ _ _ ?_ ?_)
  · exact fin a w' h.size h.defers h.init h.chg (fun j hj => h.got j hj (ready_all h.lsz hac hr j hj))
  · simp
  · exact ⟨hT, by simp, rfl, fun s _ => rfl, Chg.drew (Chg.refl 0 0 w), fun j hj hl => by simp [hj] at hl⟩

/-- The slots behind such a region, written out. -/
theorem tmps_parts {N base n : Nat} {T A : Array Value} (hT : T.size = N) (hA : A.size = N) (hN : base + n ≤ N) (h : ∀ s, s < base ∨ base + n ≤ s → A.getD s undef = T.getD s undef) :
    A = (T.toList.take base ++ ((A.toList.drop base).take n ++ T.toList.drop (base + n))).toArray := by
  apply Array.ext'
  simp only
  apply List.ext_getElem?
  intro s
  have hl : (T.toList.take base).length = base := by simp; omega
  have hl2 : ((A.toList.drop base).take n).length = n := by simp; omega
  by_cases h1 : s < base
  · rw [List.getElem?_append_left (by omega), List.getElem?_take, if_pos h1]
    have := h s (Or.inl h1)
    rw [Array.getD_eq_getD_getElem?, Array.getD_eq_getD_getElem?, Array.getElem?_eq_getElem (by omega), Array.getElem?_eq_getElem (by omega)] at this
    rw [Array.getElem?_toList, Array.getElem?_toList, Array.getElem?_eq_getElem (by omega), Array.getElem?_eq_getElem (by omega)]
    simpa using this
  · rw [List.getElem?_append_right (by omega), hl]
    by_cases h2 : s < base + n
    · rw [List.getElem?_append_left (by omega), List.getElem?_take, if_pos (by omega), List.getElem?_drop]
      congr 1
      omega
    · rw [List.getElem?_append_right (by omega), hl2, List.getElem?_drop]
      have e : base + n + (s - base - n) = s := by omega
      rw [e, Array.getElem?_toList, Array.getElem?_toList]
      by_cases h3 : s < N
      · have := h s (Or.inr (by omega))
        rw [Array.getD_eq_getD_getElem?, Array.getD_eq_getD_getElem?, Array.getElem?_eq_getElem (by omega), Array.getElem?_eq_getElem (by omega)] at this
        rw [Array.getElem?_eq_getElem (by omega), Array.getElem?_eq_getElem (by omega)]
        simpa using this
      · rw [Array.getElem?_eq_none (by omega), Array.getElem?_eq_none (by omega)]

theorem region_amid' {id : Nat} {T : Array Value} {D : List Deferred} {w : World} (N base n : Nat) (G : Nat → Value → World → Prop) (hm : P.follows .mixedOrders = true) (hn : ops.size = n) (hac : leadBack ops = true) (hT : T.size = N) (hN : base + n ≤ N)
    (step : ∀ listed a w', Amid N base n G (fun s => T.getD s undef) D w listed a w' → ∀ i, i ∈ Region.ready .any ops listed →
      wpOp P ops Q i (fun a' w'' => Amid N base n G (fun s => T.getD s undef) D w (listed.setIfInBounds i true) a' w'') a w')
    (fin : ∀ (vals : List Value) w', vals.length = n → Chg 0 0 w w' → (∀ j, j < n → G j (vals.getD j undef) w') → Q .normal ⟨(T.toList.take base ++ (vals ++ T.toList.drop (base + n))).toArray, D⟩ w') :
    (Code.region id ops true).wp P Q ⟨T, D⟩ w := by
  refine region_amid N base n G hm hn hac hT step (fun a w' h1 h2 h3 h4 h5 => ?_)
  obtain ⟨A, D'⟩ := a
  simp only at h1 h2 h3 h5
  subst h2
  rw [tmps_parts hT h1 hN h3]
  refine fin _ w' (by simp; omega) h4 (fun j hj => ?_)
  have e : ((A.toList.drop base).take n).getD j undef = A.getD (base + j) undef := by
    rw [List.getD_eq_getElem?_getD, List.getElem?_take, if_pos hj, List.getElem?_drop, Array.getElem?_toList, Array.getD_eq_getD_getElem?]
  rw [e]; exact h5 j hj

/-- One operation of such a region. -/
theorem Amid.op {N base n : Nat} {G : Nat → Value → World → Prop} {init : Nat → Value} {D : List Deferred} {w0 w : World} {listed : Array Bool} {a : Act} (h : Amid N base n G init D w0 listed a w)
    (mono : ∀ i v w w', Chg 0 0 w w' → G i v w → G i v w') (hN : base + n ≤ N) {i : Nat} (hi : i < n) {o : Oper} (ho : ops[i]? = some o) (hd : o.dst = some (base + i)) (hw : Region.wanted o (yielded ops a.tmps) = true)
    (hwp : o.wp P a w (fun a' w' => ∃ v, a' = a.put o.dst v ∧ Chg 0 0 w w' ∧ G i v w') Q) :
    wpOp P ops Q i (fun a' w' => Amid N base n G init D w0 (listed.setIfInBounds i true) a' w') a w := by
  unfold wpOp
  simp only [ho]
  rw [if_pos hw]
  refine Or.inl (Oper.wp_mono (fun a' w' h' => ?_) hwp)
  obtain ⟨v, rfl, c, hv⟩ := h'
  rw [hd]
  exact h.put mono hi hN c hv

/-- One that its guard leaves out. -/
theorem Amid.skip {N base n : Nat} {G : Nat → Value → World → Prop} {init : Nat → Value} {D : List Deferred} {w0 w : World} {listed : Array Bool} {a : Act} (h : Amid N base n G init D w0 listed a w)
    (mono : ∀ i v w w', Chg 0 0 w w' → G i v w → G i v w') (hN : base + n ≤ N) {i : Nat} (hi : i < n) {o : Oper} (ho : ops[i]? = some o) (hd : o.dst = some (base + i)) (hw : Region.wanted o (yielded ops a.tmps) = false) (hv : G i undef w) :
    wpOp P ops Q i (fun a' w' => Amid N base n G init D w0 (listed.setIfInBounds i true) a' w') a w := by
  unfold wpOp
  simp only [ho]
  rw [if_neg (by rw [hw]; simp), hd]
  exact h.put mono hi hN (Chg.refl 0 0 w) hv

/-- An operation that gives a value. -/
theorem wp_value {o : Oper} {a : Act} {w w' : World} {K : Act → World → Prop} {v : Value} (hrun : (execOp a.eval o).run P w = .ok (.value v) w') (h : K (a.put o.dst v) w') : o.wp P a w K Q := by
  unfold Oper.wp
  rw [hrun]
  exact h

/-- A call. -/
theorem wp_call {o : Oper} {a : Act} {w : World} {K : Act → World → Prop} (f : FuncId) (args : Array Value) (hrun : (execOp a.eval o).run P w = .ok (.enter f args) w)
    {R : Ending → World → Prop} (hc : Calls P f args w R) (h : ∀ e w', R e w' → ∃ v, e = .returned v ∧ K (a.put o.dst v) w') : o.wp P a w K Q := by
  unfold Oper.wp
  rw [hrun, Oper.upon_enter]
  refine hc.mono fun e w' hR => ?_
  obtain ⟨v, rfl, hK⟩ := h e w' hR
  exact hK

theorem wanted_of {tmps : Array Value} {o : Oper} {j d : Nat} {want : Bool} (hg : o.guard = some (j, want)) (hj : ((ops[j]?).bind (·.dst)) = some d) (hv : tmps[d]? = some (.bool want)) : Region.wanted o (yielded ops tmps) = true := by
  simp [Region.wanted, hg, yielded, hj, hv]

theorem wanted_not {tmps : Array Value} {o : Oper} {j d : Nat} {want : Bool} (hg : o.guard = some (j, want)) (hj : ((ops[j]?).bind (·.dst)) = some d) (hv : tmps[d]? = some (.bool (!want))) : Region.wanted o (yielded ops tmps) = false := by
  simp [Region.wanted, hg, yielded, hj, hv]

theorem dep_of {o : Oper} {listed : Array Bool} (hall : ∀ e ∈ o.after, Region.binds md e = true → listed.getD e.on false = true) (j : Nat) (h : (o.after.toList.any fun e => e.on == j && Region.binds md e) = true) : listed.getD j false = true := by
  rw [List.any_eq_true] at h
  obtain ⟨e, he, h2⟩ := h
  rw [Bool.and_eq_true, beq_iff_eq] at h2
  have := hall e (by simpa using he) h2.2
  rw [h2.1] at this
  exact this

theorem len27 (l : List Value) (h : l.length = 27) : ∃ x0 x1 x2 x3 x4 x5 x6 x7 x8 x9 x10 x11 x12 x13 x14 x15 x16 x17 x18 x19 x20 x21 x22 x23 x24 x25 x26, l = [x0, x1, x2, x3, x4, x5, x6, x7, x8, x9, x10, x11, x12, x13, x14, x15, x16, x17, x18, x19, x20, x21, x22, x23, x24, x25, x26] := by
  match l, h with
  | [x0, x1, x2, x3, x4, x5, x6, x7, x8, x9, x10, x11, x12, x13, x14, x15, x16, x17, x18, x19, x20, x21, x22, x23, x24, x25, x26], _ => exact ⟨x0, x1, x2, x3, x4, x5, x6, x7, x8, x9, x10, x11, x12, x13, x14, x15, x16, x17, x18, x19, x20, x21, x22, x23, x24, x25, x26, rfl⟩

theorem len28 (l : List Value) (h : l.length = 28) : ∃ x0 x1 x2 x3 x4 x5 x6 x7 x8 x9 x10 x11 x12 x13 x14 x15 x16 x17 x18 x19 x20 x21 x22 x23 x24 x25 x26 x27, l = [x0, x1, x2, x3, x4, x5, x6, x7, x8, x9, x10, x11, x12, x13, x14, x15, x16, x17, x18, x19, x20, x21, x22, x23, x24, x25, x26, x27] := by
  match l, h with
  | [x0, x1, x2, x3, x4, x5, x6, x7, x8, x9, x10, x11, x12, x13, x14, x15, x16, x17, x18, x19, x20, x21, x22, x23, x24, x25, x26, x27], _ => exact ⟨x0, x1, x2, x3, x4, x5, x6, x7, x8, x9, x10, x11, x12, x13, x14, x15, x16, x17, x18, x19, x20, x21, x22, x23, x24, x25, x26, x27, rfl⟩

end
end Go.Proofs.Ytplfehjaakkldaa
