import PyProof.Rows.All
import Wide.All
import OpenK.AllK
import Wide.FinOn
import PyProof.EqAt
import PyProof.EqKinds
import PyProof.TupleCall
import HandS.Base
import HandS.Call
import HandS.List
import HandS.Set
import HandS.Strs
import HandS.ForMost
import KE.KDictLaws
import KE.KParD
import HandS.Star
import HandS.ForExc
import KE.KStar
import HandS.MakeKwOnly
import HandS.OwnEq
import HandS.IsInst
import PyProof.ReprRoads
import PyProof.ReprText
import PySem.Challenge.RW_slipreach_k02_options_of_languages
import HandS.Codes
import KE.KExcSuper
import HandS.ExcField
import HandS.ExcIs
import HandS.Walk
import HandS.Style
import HandS.Conv
import PyProof.ReprLen
import HandS.Defaults
import HandS.SlotsOwn
import PyProof.InstNe
set_option Elab.async false
set_option linter.all false
set_option maxRecDepth 110000
set_option maxHeartbeats 8100000
/-! len(set(xs)), xs a list or a tuple of texts -/
namespace K2S
open PySem PySem.Spec PyProof.Rows
/-- one more, if it is not there -/
def put1 (l : List Str) (x : Str) : List Str := if x ∈ l then l else l ++ [x]
/-- each once -/
def once (xs : List Str) : List Str := xs.foldl put1 []
theorem once_snoc (xs : List Str) (x : Str) : once (xs ++ [x]) = put1 (once xs) x := by
  unfold once
  rw [List.foldl_append]
  rfl
theorem mem_put1 {l : List Str} {x y : Str} : y ∈ put1 l x ↔ y ∈ l ∨ y = x := by
  unfold put1
  split
  · rename_i h
    exact ⟨.inl, fun z => z.elim id fun e => e ▸ h⟩
  · simp
theorem mem_fold {y : Str} : ∀ (xs l : List Str), y ∈ xs.foldl put1 l ↔ y ∈ l ∨ y ∈ xs
  | [], l => by simp
  | x :: xs, l => by
    rw [List.foldl_cons, mem_fold xs (put1 l x), mem_put1, List.mem_cons]
    exact or_assoc
theorem mem_once {y : Str} (xs : List Str) : y ∈ once xs ↔ y ∈ xs := by
  unfold once
  rw [mem_fold]
  simp
theorem take_succ_at {xs : List Str} {i : Nat} (h : i < xs.length) : xs.take (i + 1) = xs.take i ++ [xs.getD i Str.empty] := by
  rw [List.take_succ, List.getElem?_eq_getElem h]
  simp [List.getD_eq_getElem?_getD, List.getElem?_eq_getElem h]
theorem len_put1 (l : List Str) (x : Str) : (put1 l x).length = if x ∈ l then l.length else l.length + 1 := by
  unfold put1
  split
  · rfl
  · simp
theorem once_le (xs : List Str) : (once xs).length ≤ xs.length := by
  have key : ∀ (xs l : List Str), (xs.foldl put1 l).length ≤ l.length + xs.length := by
    intro xs
    induction xs with
    | nil => intro l; simp
    | cons x xs ih =>
      intro l
      have h1 := ih (put1 l x)
      have h2 : (put1 l x).length ≤ l.length + 1 := by
        rw [len_put1]
        split <;> omega
      rw [List.foldl_cons, List.length_cons]
      omega
  have h := key xs []
  simpa [once] using h
theorem fold_nodup : ∀ (xs l : List Str), l.Nodup → ((xs.foldl put1 l).length = l.length + xs.length ↔ (l ++ xs).Nodup)
  | [], l, hl => by simp [hl]
  | x :: xs, l, hl => by
    rw [List.foldl_cons]
    by_cases hx : x ∈ l
    · have e : put1 l x = l := if_pos hx
      rw [e]
      have hle : (xs.foldl put1 l).length ≤ l.length + xs.length := by
        have key : ∀ (xs l : List Str), (xs.foldl put1 l).length ≤ l.length + xs.length := by
          intro xs
          induction xs with
          | nil => intro l; simp
          | cons x xs ih =>
            intro l
            have h1 := ih (put1 l x)
            have h2 : (put1 l x).length ≤ l.length + 1 := by
              rw [len_put1]
              split <;> omega
            rw [List.foldl_cons, List.length_cons]
            omega
        exact key xs l
      constructor
      · intro h
        rw [List.length_cons] at h
        omega
      · intro h
        exact absurd rfl ((List.nodup_append.mp h).2.2 x hx x List.mem_cons_self)
    · have e : put1 l x = l ++ [x] := if_neg hx
      rw [e]
      have hn : (l ++ [x]).Nodup := by
        rw [List.nodup_append]
        refine ⟨hl, by simp, fun a ha b hb => ?_⟩
        rw [List.mem_singleton] at hb
        rintro rfl
        exact hx (hb ▸ ha)
      have ih := fold_nodup xs (l ++ [x]) hn
      rw [List.append_assoc, List.singleton_append, List.length_append, List.length_singleton] at ih
      rw [List.length_cons, show l.length + (xs.length + 1) = l.length + 1 + xs.length by omega]
      exact ih
theorem once_nodup (xs : List Str) : (once xs).length = xs.length ↔ xs.Nodup := by
  have h := fold_nodup xs [] List.nodup_nil
  simpa [once] using h
section
variable {prog : Program} {w : World} {A : Around} {R : Result → Shared → Prop} {I : Addr} {fp wr : List Addr} {G : Array GenState → Array GenState → Prop} {n : Nat} {P : Nat → Value → Prop} {St : Nat → Shared → Prop}
theorem loop_in (W : WalksS prog w A.in1 I fp wr G n P St) (S : Addr) (far : S ∉ fp) (xs : List Str) (hn : xs.length = n) (few : n + 1 < scanBound) (hval : ∀ i v, P i v → ∃ t, v = .str (xs.getD i Str.empty) t) :
    ∀ (k i : Nat) (s : Shared), n - i = k → i ≤ n → St i s → s.heap.SetOf (strKind prog w) S (fun y => decide (y ∈ xs.take i)) (once (xs.take i)).length →
      (∀ s', Moved (S :: wr) G s s' → s'.heap.SetOf (strKind prog w) S (fun y => decide (y ∈ xs)) (once xs).length → R (.ok (.ret .none)) s') → codeAny (model prog w) A (.builtin "set.update.loop" ⟨[.ref S, .ref I], []⟩) R s := by
  have off : S ∉ wr := fun z => far (W.sub _ z)
  have up : ∀ b ∈ wr, b ∈ S :: wr := fun b z => List.mem_cons_of_mem _ z
  intro k
  induction k with
  | zero =>
    intro i s hk hi hst hS done
    obtain rfl : i = n := by omega
    refine codeAny_builtin F.entry_set_update_loop ?_
    rw [Around.under_plainId F.plain_set_update_loop _]
    refine (wpAny_bind (W.done s _ _ hst fun s' hm => ?_) : wpAny _ A.in1 (pyNext (.ref I) >>= _) _ _ s)
    have e : xs.take i = xs := by rw [← hn, List.take_length]
    rw [e] at hS
    obtain ⟨o, es, ep, t, ho, more⟩ := hS
    show wpAny (model prog w) A.in1 (ret .none) _ _ s'
    exact wpAny_pure (done s' (hm.mono up) ⟨o, es, ep, t, hm.heap S _ off ho, more⟩)
  | succ k ih =>
    intro i s hk hi hst hS done
    have lt : i < n := by omega
    refine codeAny_builtin F.entry_set_update_loop ?_
    rw [Around.under_plainId F.plain_set_update_loop _]
    refine (wpAny_bind (W.item i s _ _ lt hst fun v s' hP hst' hm => ?_) : wpAny _ A.in1 (pyNext (.ref I) >>= _) _ _ s)
    obtain ⟨t, rfl⟩ := hval i v hP
    have here : s'.heap.SetOf (strKind prog w) S (fun y => decide (y ∈ xs.take i)) (once (xs.take i)).length := by
      obtain ⟨o, es, ep, tb, ho, more⟩ := hS
      exact ⟨o, es, ep, tb, hm.heap S _ off ho, more⟩
    refine (wpAny_bind (wpAny_holding ?_) : wpAny _ A.in1 (holding [Value.str (xs.getD i Str.empty) t] (setAdd S (.str (xs.getD i Str.empty) t)) >>= _) _ _ s')
    unfold setAdd
    have small : (once (xs.take i)).length + 1 < scanBound := by
      have h1 := once_le (xs.take i)
      have h2 : (xs.take i).length ≤ i := by rw [List.length_take]; omega
      omega
    refine wpAny_holding (wpAny_bind ((strKind prog w).pyHash (k := xs.getD i Str.empty) (strKind_is _ _ _ _) ?_))
    refine wpAny_setAddHashed_of (knd := strKind prog w) (s := { s' with toks := s'.toks + 1 }) (strKind_is _ _ _ _) rfl here small fun h' sb hS2 => ?_
    have hi' : i < xs.length := by omega
    have next : h'.SetOf (strKind prog w) S (fun y => decide (y ∈ xs.take (i + 1))) (once (xs.take (i + 1))).length := by
      refine SetOf_congr hS2 (fun y => ?_) ?_
      · rw [take_succ_at hi']
        by_cases c1 : y ∈ xs.take i
        · simp [c1]
        · by_cases c2 : y = xs.getD i Str.empty
          · simp [c1, c2]
          · have c3 : y ∉ xs.take i ++ [xs.getD i Str.empty] := by
              rw [List.mem_append, List.mem_singleton]
              rintro (z | z)
              · exact c1 z
              · exact c2 z
            rw [decide_eq_false c1, decide_eq_false c2, decide_eq_false c3]
            rfl
      · rw [take_succ_at hi', once_snoc, len_put1]
        by_cases c1 : xs.getD i Str.empty ∈ xs.take i
        · rw [if_pos ((mem_once _).mpr c1), if_pos (decide_eq_true c1)]
        · rw [if_neg (fun z => c1 ((mem_once _).mp z)), if_neg (fun z => c1 (of_decide_eq_true z))]
    refine wpAny_pure ⟨plainId_quiet F.plain_set_update_loop _, ih (i + 1) _ (by omega) lt (W.frame _ s' _ _ hst' (Nat.le_succ _) fun b hb o e => ?_) next fun s'' hm'' hS'' => ?_⟩
    · exact (sb.2 b fun z : b = S => far (z ▸ hb)).trans e
    · exact done s'' (Moved.trans W.gtrans ((hm.mono up).then_heap (Nat.le_succ _) fun b o hb e => (sb.2 b fun z : b = S => hb (z ▸ List.mem_cons_self)).trans e) hm'') hS''
end
/-- the object of a set without members -/
def emp (led : Bool) : Obj := { cls := .type "set", dict := none, data := .set #[] 0 (.fresh 0 0 led) }
section
variable {prog : Program} {w : World} {A : Around} {E : Value → Shared → Prop} {s : Shared}
/-- set(x), x an object of the built-in type T that is walked as W says -/
theorem set_by {T : String} {cx : Addr} {o it : Obj} {items : Array Value} {m : Nat} {xs : List Str} {St : Addr → Nat → Heap → Prop} {Q : Value → Shared → Prop}
    (hh : A.handled = none) (ho : s.heap.get? cx = some o) (hcls : o.cls = .type T) (hdat : o.data = .seq items m)
    (tA : isSubtype (.type T) (.type "set") = pure false) (tB : isSubtype (.type T) (.type "frozenset") = pure false) (tC : (Value.type T == Value.type "dict") = false)
    (hi : StrsAre items.toList xs) (few : xs.length + 1 < scanBound) (hfr : it.isFreed = false)
    (hit : ∀ (s1 : Shared) (Q' : Value → Shared → Prop) (E' : Value → Shared → Prop) (A' : Around), s1.heap.get? cx = some o → Q' (.ref s1.heap.objs.size) { s1 with heap := s1.heap.push it } → wpAny (model prog w) A' (pyIter (.ref cx)) Q' E' s1)
    (W : ∀ A' : Around, A'.handled = none → ∀ I, cx ≠ I → Walks prog w A' I [I, cx] [I] items.size (fun i v => items[i]? = some v) (St I))
    (hSt : ∀ (h : Heap) I, h.get? I = some it → h.get? cx = some o → St I 0 h)
    (h : ∀ (h' : Heap) (tk : Nat), h'.SetOf (strKind prog w) s.heap.objs.size (fun y => decide (y ∈ xs)) (once xs).length → (∀ b o, b < s.heap.objs.size → s.heap.get? b = some o → h'.get? b = some o) → Q (.ref s.heap.objs.size) { s with heap := h', toks := tk }) :
    wpAny (model prog w) A (call (.type "set") [.ref cx]) Q E s := by
  obtain ⟨cc, tl, mro⟩ := F.called_set.mro
  have made := F.called_set.made
  have sub := F.called_set.sub
  have z1 := F.called_set.notType
  have z2 := F.called_set.canCreate
  have z3 := F.typeCall_set_1 (.ref cx)
  refine wpAny_call (codeAny_of_tree ?_)
  show wpAny (model prog w) _ (callAny (.type "set") _) _ _ _
  refine wpAny_pure ⟨Code.quiet_builtin _ (by decide +kernel), codeAny_builtin (b := Builtin.«type.__call__») F.entry_type_call ?_⟩
  rw [Around.under_plain (weight_type_call_type "set" [.ref cx] []) rfl]
  repeat (any_goals (first | assumption | wp_step))
  have nS : ∀ led, (s.heap.push (emp led)).get? s.heap.objs.size = some (emp led) := fun led => Heap.get?_push_size _ rfl
  have old : ∀ led b q, s.heap.get? b = some q → (s.heap.push (emp led)).get? b = some q := fun led b q z => Heap.get?_push_of_some _ z
  refine codeAny_mono (code_set_new_1 (.ref cx) (E := E) (Q₁ := fun obj s₁ => ∃ led : Bool, obj = .ref s.heap.objs.size ∧ s₁ = { s with heap := s.heap.push (emp led) }) (fun led => ⟨led, rfl, rfl⟩)) fun r s₁ hr => ?_
  cases r
  case error e => exact hr
  case ok fl =>
    cases fl
    case ret obj =>
      obtain ⟨led, rfl, rfl⟩ := hr
      have tS : Shared.TypeIs { s with heap := s.heap.push (emp led) } (.ref s.heap.objs.size) "set" := ⟨_, nS led, rfl⟩
      have y1 := F.called_set.init.lookup
      have y2 := F.called_set.init.bind (.ref s.heap.objs.size)
      repeat (any_goals (first | assumption | wp_step))
      refine codeAny_mono (codeAny_call_builtin (R := wants (fun r s₂ => r = .none ∧ ∃ h' tk, s₂ = { s with heap := h', toks := tk } ∧ h'.SetOf (strKind prog w) s.heap.objs.size (fun y => decide (y ∈ xs)) (once xs).length ∧
        (∀ b o, b < s.heap.objs.size → s.heap.get? b = some o → h'.get? b = some o)) E) F.called_set.init.plain F.entry_set_init (check_set_init_1 tS ?_)) fun r₂ s₂ hr₂ => ?_
      · obtain ⟨ocls, odict, odata, oslots⟩ := o
        simp only at hcls hdat
        subst hcls hdat
        have hoc := old led cx _ ho
        unfold Builtin.«set.__init__» noKeywords Builtin.Frozenset.updateFrom
        generalize hPI : pyIter = PI
        wp_walk
        subst hPI
        refine hit _ _ _ _ hoc ?_
        refine wpAny_bind (wpAny_runValue ?_)
        have lt : cx < s.heap.objs.size := Heap.lt_size ho
        have sz : (s.heap.push (emp led)).objs.size = s.heap.objs.size + 1 := Heap.size_push _ _
        have neI : cx ≠ (s.heap.push (emp led)).objs.size := Nat.ne_of_lt (sz ▸ Nat.lt_succ_of_lt lt)
        have neS : s.heap.objs.size ≠ (s.heap.push (emp led)).objs.size := Nat.ne_of_lt (sz ▸ Nat.lt_succ_self _)
        have far : s.heap.objs.size ∉ [(s.heap.push (emp led)).objs.size, cx] := fun z => (List.mem_cons.mp z).elim neS fun z => Nat.ne_of_gt lt (List.mem_singleton.mp z)
        have hn : xs.length = items.size := (StrsAre.len_eq hi).symm.trans Array.length_toList
        have hh3 : A.in1.in1.in1.handled = none := by simp [hh]
        refine loop_in (W _ hh3 _ neI).toS s.heap.objs.size far xs hn (by omega) (fun i v hv => SS.strs_at hi i v (by rw [Array.getElem?_toList]; exact hv)) (items.size - 0) 0 _ (by omega) (Nat.zero_le _) (hSt _ _ (Heap.get?_push_size _ hfr) (Heap.get?_push_of_some _ hoc)) ?_ fun s' hm hS' => ?_
        · exact SetOf_congr ((setObjOf_fresh (knd := strKind prog w) led).setOf (Heap.get?_push_of_some it (nS led)) (by unfold scanBound; omega)) (fun y => by simp) rfl
        · obtain ⟨h', g', d', tk', os'⟩ := s'
          obtain rfl : g' = s.gens := hm.gens
          obtain rfl : d' = s.drawn := hm.drawn
          obtain rfl : os' = s.os := hm.os
          show wpAny (model prog w) _ _ _ _ _
          refine wpAny_pure ?_
          show wpAny (model prog w) _ (ret .none) _ _ _
          refine wpAny_pure ⟨rfl, h', tk', rfl, hS', fun b o hb e => ?_⟩
          exact hm.heap b o (fun z => (List.mem_cons.mp z).elim (fun z => Nat.ne_of_lt hb z) fun z => Nat.ne_of_lt (sz ▸ Nat.lt_succ_of_lt hb) (List.mem_singleton.mp z)) (Heap.get?_push_of_some _ (old led b o e))
      · cases r₂
        case error e => exact hr₂
        case ok fl₂ =>
          cases fl₂
          case ret r =>
            obtain ⟨rfl, h', tk, rfl, u1, u2⟩ := hr₂
            repeat (any_goals (first | assumption | wp_step))
            exact h _ _ u1 u2
          all_goals exact False.elim hr₂
    all_goals exact False.elim hr
end
end K2S

namespace K2S
open PySem PySem.Spec PyProof.Rows L2
section
variable {X : Cx}
/-- len(set(xs)), xs a list or a tuple of texts: how many there are of them -/
def tMany (K : PySem.W.Frag) (ta : TE) : TE := fun σ H Q => ta σ H fun x H1 => ∃ l, ∃ xs : List Str, x = .ref l ∧ (SqL K H1 l (xs.map V.str) ∨ SqT K H1 l (xs.map V.str)) ∧ xs.length < 64 ∧ Q (.int (once xs).length) H1
theorem pe_many {a : Expr} {ta : TE} {p p2 q pos : Pos} (hc : X.calm = true) (hg : Gl X "len") (hm : X.mg "len" = none) (hg2 : Gl X "set") (hm2 : X.mg "set" = none) (ha : PE X a ta)
    (na : starEach [a] X.env = (false, eval a X.env) :: starEach [] X.env := by rfl) : PE X (.Call (.Name "len" p) [.Call (.Name "set" p2) [a] [] q] [] pos) (tMany X.K ta) := by
  refine ⟨fun pins s σ H Q I h => Call_ (ld_blt I hg hm boot_len (callWith_builtin1 (args_cons (Call_ (ld_blt I hg2 hm2 boot_set (callWith_type1 (args_cons (thn (ha.run pins s σ H _ I h) fun v s1 ⟨x, H1, I1, r1, q1⟩ => args_nil ?_) na) na rfl))) rfl) rfl rfl))⟩
  obtain ⟨l, xs, rfl, hq, few, q1⟩ := q1
  cases r1
  have bound : xs.length + 1 < scanBound := by unfold scanBound; omega
  have fin : ∀ (h' : Heap) (tk : Nat), h'.SetOf (strKind X.prog X.w) s1.heap.objs.size (fun y => decide (y ∈ xs)) (once xs).length → (∀ b o, b < s1.heap.objs.size → s1.heap.get? b = some o → h'.get? b = some o) →
      wpAny (model X.prog X.w) X.A (spliced (backTo pos (starEach [] X.env))) (fun vs s₂ => wpAny (model X.prog X.w) X.A (call (.builtin "len") (Value.ref s1.heap.objs.size :: vs)) (EP X pins σ Q) X.xe s₂) X.xe { s1 with heap := h', toks := tk } := fun h' tk hS hk => by
    obtain ⟨o, es, ep, t, ho, hex, hd, _, _, _, hf, hn⟩ := hS
    have I2 : Inv X pins σ H1 { s1 with heap := h', toks := tk } := I1.kept fun b o e => hk b o (Heap.lt_size e) e
    have le := once_le xs
    exact args_nil (call_len_set ho hex hd hf (by rw [hn]; omega) ⟨.int (once xs).length, H1, I2.tok _, ⟨_, by rw [hn]⟩, q1⟩)
  rcases hq with hq | hq
  · obtain ⟨its, r, pl, hz⟩ := I1.list hq
    obtain ⟨o, ho, hcls, m, hd⟩ := pl.isList
    exact set_by (T := "list") (it := { cls := .type "list_iterator", data := .fields #[.ref l, .int 0 0] }) (St := fun I i h => h.IsListIter I l i ∧ h.IsList l its.toArray) (I1.ok.hd hc) ho hcls hd F.sub_list_set F.sub_list_frozenset (by decide) (by simpa using strsAre_of r) bound rfl
      (fun s1 Q' E' A' e k => wpAny_pyIter_list ⟨o, e, hcls, m, hd⟩ k) (fun A' hh I ne => Walks.list hh I l ne its.toArray) (fun h I e1 e2 => ⟨⟨_, e1, rfl, rfl⟩, ⟨o, e2, hcls, m, hd⟩⟩) fin
  · obtain ⟨its, r, pl, hz⟩ := I1.tuple hq
    obtain ⟨o, ho, hcls, m, hd⟩ := pl
    exact set_by (T := "tuple") (it := { cls := .type "tuple_iterator", data := .fields #[.ref l, .int 0 0] }) (St := fun I i h => h.IsTupleIter I l i ∧ h.IsTuple l its.toArray) (I1.ok.hd hc) ho hcls hd F.sub_tuple_set F.sub_tuple_frozenset (by decide) (by simpa using strsAre_of r) bound rfl
      (fun s1 Q' E' A' e k => wpAny_pyIter_tuple ⟨o, e, hcls, m, hd⟩ k) (fun A' hh I ne => Walks.tuple hh I l ne its.toArray) (fun h I e1 e2 => ⟨⟨_, e1, rfl, rfl⟩, ⟨o, e2, hcls, m, hd⟩⟩) fin
end
end K2S

/-! d.update(e), both dicts with texts or ints as keys -/
namespace K2U
open PySem PySem.Spec PyProof.Rows L2
section
variable {X : Cx} {pins : List (Addr × Obj)} {σ : L2.St} {H : Hp} {s : Shared} {a b : Addr} {A : Around} {E : Value → Shared → Prop}
theorem d_upd {kvs more : List (Key × V)} {Q : Value → Shared → Prop} (I : Inv X pins σ H s) (e : H a = some (.dK kvs)) (e2 : Rd H b (.dK more)) (ne : a ≠ b) (hl : kvs.length + more.length ≤ sizeLine)
    (h : ∀ (w' : Value) (s' : Shared), Inv X pins σ (upd H a (.dK (mergeK kvs more))) s' → w' = .none → Q w' s') : wpAny (model X.prog X.w) A (call (.builtin "dict.update") [.ref a, .ref b]) Q E s := by
  obtain ⟨_, hd, vs, rel, dd⟩ := dk_of I.hok e
  obtain ⟨_, hd2, ws, rel2, dd2⟩ := dk_rd I.hok e2
  refine call_meetsIn F.slot_dict_update dd.typeIs F.entry_dict_update (F.args_dict_update_2 _ _) (meets_dict_update (mixKind X.prog X.w) a b ne hd2) ⟨vs, ws, dd, dd2, by rw [← rel.length, ← rel2.length]; exact hl, fun h' dd' _ hs => ?_⟩
  have he : ∃ q, h'.get? a = some q := let ⟨q, _, _, hq, _⟩ := dd'; ⟨q, hq⟩
  exact h _ _ (d_write (t' := s.toks) I (by rw [e]; exact True.intro) hs he (dk_new (Nat.le_trans (length_mergeK more kvs) hl) hd (rel2.merge rel) dd')) rfl
end
def tDUpd (td ty : TE) : TE := fun σ H Q => td σ H fun x H1 => ∃ a, x = .ref a ∧ IsD H1 a ∧ ty σ H1 fun y H2 => ∃ (b : Addr) (kvs more : List (Key × V)), y = .ref b ∧ H2 a = some (.dK kvs) ∧ Rd H2 b (.dK more) ∧ a ≠ b ∧ kvs.length + more.length ≤ sizeLine ∧
  Q .non (upd H2 a (.dK (mergeK kvs more)))
section
variable {X : Cx} {o e : Expr} {td ty : TE} {apos cpos : Pos}
theorem pe_dupd (ho : PE X o td) (he : PE X e ty) (m : M1 X o "update" apos e cpos) : PE X (.Call (.Attribute o "update" apos) [e] [] cpos) (tDUpd td ty) := by
  refine ⟨fun pins s σ H Q I h => wpAny_Call_method m.base m.few m.line F.plainAttrs_dict F.slot_dict_update F.type_dict_update (thn (ho.run pins s σ H _ I h) fun u s1 ⟨x, H1, I1, rx, a, ex, d, q1⟩ => ?_)⟩
  subst ex
  obtain rfl : u = Value.ref a := rx
  obtain ⟨t1, t2, _⟩ := isD_at I1 d
  refine ⟨t1, t2, ?_⟩
  rw [m.trees]
  refine Calls.callWith_builtin rfl (Calls.evalArgs_plain (Calls.spliced_cons (thn (he.run pins s1 σ H1 _ I1 q1) fun iv s2 ⟨y, H2, I2, ry, b, kvs, more, ey, e1, e2, ne, hl, q2⟩ => Calls.spliced_nil ?_)))
  subst ey
  obtain rfl : iv = Value.ref b := ry
  exact d_upd I2 e1 e2 ne hl fun w' s3 I3 ew => by
    subst ew
    exact ⟨.non, _, I3, rfl, q2⟩
end
end K2U

/-! a method with **more: what it binds, its promise, its call by keywords -/
namespace K2M
open PySem PySem.Spec PyProof.Rows L2 PySem.W
/-- texts with values, as the pairs of a dict -/
def kwK {α : Type} (kvs : List (Str × α)) : List (Key × α) := kvs.map fun x => (Sum.inr x.1, x.2)
theorem kwK_len {α : Type} (kvs : List (Str × α)) : (kwK kvs).length = kvs.length := List.length_map _
theorem kwK_zip : ∀ {ks : List Str} {vs : List V} {us : List Value}, Vals vs us → KV (kwK (ks.zip vs)) (kwK (ks.zip us))
  | [], _, _, _ => .nil
  | _ :: _, _, _, .nil => .nil
  | k :: ks, _, _, .cons r t => .cons ⟨rfl, r⟩ (kwK_zip t)
theorem zip_keys {α : Type} : ∀ {ks : List Str} {us : List α}, ks.length = us.length → (ks.zip us).map (·.1) = ks
  | [], [], _ => rfl
  | k :: ks, u :: us, h => by
    show k :: (ks.zip us).map (·.1) = _
    rw [zip_keys (Nat.succ.inj h)]
section
variable {prog : Program} {w : World} {A : Around} {E : Value → Shared → Prop}
theorem entries_mix : ∀ (ex : List (Str × Value)) (t : Tok), Pairs (mixKind prog w) (kwEs w.params t ex) (kwK ex)
  | [], _ => .nil
  | x :: r, t => .cons (mixKind_str prog w x.1 t) rfl (entries_mix r (t + 1))
theorem entries_hash : ∀ (ex : List (Str × Value)) (t : Tok) (e : DictEntry), e ∈ kwEs w.params t ex → ∃ k, (mixKind prog w).is k e.key = true ∧ e.hash = (mixKind prog w).hash k := fun ex t e h => by
  obtain ⟨k, u, e1, e2⟩ := kwEs_key ex t e h
  exact ⟨.inr k, by rw [e1]; exact mixKind_str prog w k u, e2.trans rfl⟩
theorem kw_mix (ex : List (Str × Value)) (t : Tok) (n : Nat) (hn : (ex.map (·.1)).Nodup) : (dictOf (kwEs w.params t ex) n).IsDictOf (mixKind prog w) (kwK ex) :=
  ⟨(kwEs w.params t ex).toArray, n, ⟨rfl, rfl, rfl⟩, rfl, fun e he => entries_hash ex t e (List.mem_toArray.mp he), entries_mix ex t, by
    have e : (kwK ex).map (·.1) = (ex.map (·.1)).map Sum.inr := by
      unfold kwK
      rw [List.map_map, List.map_map]
      rfl
    rw [e]
    exact hn.map _ fun a b h z => h (Sum.inr.inj z)⟩
/-- one name put into a dict that does not have it -/
theorem set1 {d : Addr} {Q : Unit → Shared → Prop} {s : Shared} {es : List DictEntry} {n : Nat} {k : Str} {v : Value} (ho : s.heap.get? d = some (dictOf es n)) (hs : ∀ e ∈ es, e.key.isStr k = false) (hr : ∀ e ∈ es, e.refKey = false)
    (h : ∀ h', h'.get? d = some (dictOf (es ++ [⟨PyData.keyHash w.params k, .str k s.toks, v⟩]) (n + 1)) → Heap.SameBut d s.heap h' → Q () { s with heap := h', toks := s.toks + 1 }) : wpAny (model prog w) A (nsSet d k v) Q E s := by
  have e1 : es.any (·.key.isStr k) = false := List.any_eq_false.mpr fun e he => by rw [hs e he]; exact Bool.false_ne_true
  have e2 : es.any (·.refKey) = false := List.any_eq_false.mpr fun e he => by rw [hr e he]; exact Bool.false_ne_true
  have e3 : Obj.putName k (PyData.keyHash w.params k) (.str k s.toks) v (dictOf es n) = dictOf (es ++ [⟨PyData.keyHash w.params k, .str k s.toks, v⟩]) (n + 1) := by
    rw [putName_dict, putL_new hs]
    show dictOf _ (if es.any (·.key.isStr k) then n else n + 1) = _
    rw [e1]
    rfl
  have e4 : aRefKeyMayBeTheName k es.toArray = false := by
    rw [aRefKeyMayBeTheName_at, ← Array.any_toList, ← Array.any_toList]
    show (_ && es.any (·.refKey)) = false
    rw [e2, Bool.and_false]
  have ho' : (s.heap.update d (Obj.putName k (PyData.keyHash w.params k) (.str k s.toks) v)).get? d = some (dictOf (es ++ [⟨PyData.keyHash w.params k, .str k s.toks, v⟩]) (n + 1)) := by
    rw [Heap.get?_update_self _ ho (by rw [e3]; rfl), e3]
  unfold nsSet
  refine wpAny_bind (wpAny_bind (wpAny_askSetting (wpAny_pure (wpAny_bind (wpAny_mkText (wpAny_bind (wpAny_loadPart ho ?_)))))))
  dsimp only
  rw [e4]
  exact wpAny_updatePart ho (h _ ho' (Heap.SameBut.update ..))
/-- names put into a new dict, one after another -/
theorem fill {d : Addr} {Q : PUnit → Shared → Prop} : ∀ (ex : List (Str × Value)) (s : Shared) (es : List DictEntry) (n : Nat), s.heap.get? d = some (dictOf es n) → (∀ e ∈ es, ∀ x ∈ ex, e.key.isStr x.1 = false) → (∀ e ∈ es, e.refKey = false) → (ex.map (·.1)).Nodup →
    (∀ h', h'.get? d = some (dictOf (es ++ kwEs w.params s.toks ex) (n + ex.length)) → Heap.SameBut d s.heap h' → Q ⟨⟩ { s with heap := h', toks := s.toks + ex.length }) →
    wpAny (model prog w) A (forIn ex PUnit.unit fun x _ => (nsSet d x.1 x.2 >>= fun _ => pure (ForInStep.yield PUnit.unit))) Q E s
  | [], s, es, n, ho, _, _, _, h => by
    rw [List.forIn_nil]
    exact wpAny_pure (h s.heap (by rw [show es ++ kwEs w.params s.toks [] = es from List.append_nil es]; exact ho) (Heap.SameBut.refl _ _))
  | x :: r, s, es, n, ho, hs, hr, hn, h => by
    obtain ⟨n1, n2⟩ := List.nodup_cons.mp (show (x.1 :: r.map (·.1)).Nodup from hn)
    rw [List.forIn_cons]
    refine wpAny_bind (wpAny_bind (set1 ho (fun e he => hs e he x List.mem_cons_self) hr fun h1 ho' sb => wpAny_pure (fill r { s with heap := h1, toks := s.toks + 1 } _ (n + 1) ho' (fun e he y hy => ?_) (fun e he => ?_) n2 fun h2 g2 sb2 => ?_)))
    · rcases List.mem_append.mp he with z | z
      · exact hs e z y (List.mem_cons_of_mem _ hy)
      · rw [List.mem_singleton.mp z]
        exact beq_eq_false_iff_ne.mpr fun q => n1 (q ▸ List.mem_map_of_mem hy)
    · rcases List.mem_append.mp he with z | z
      · exact hr e z
      · rw [List.mem_singleton.mp z]
        rfl
    · have t1 : s.toks + 1 + r.length = s.toks + (x :: r).length := by rw [List.length_cons]; omega
      have t2 : n + 1 + r.length = n + (x :: r).length := by rw [List.length_cons]; omega
      rw [t2, List.append_assoc] at g2
      have q := h h2 g2 (sb.trans sb2)
      rw [← t1] at q
      exact q
end
/-! ### the promise of a method with **more -/
/-- from the receiver, the keywords with their values, the heap -/
abbrev SpM := V → List (Str × V) → Hp → VK → XK → Prop
def FnM (P : Program) (w : World) (K : Frag) (mg : Str → Option Value) (base : Heap) (CX : CXT) (k : Nat) (f : Addr) (sp : SpM) : Prop :=
  ∀ (A : Around) (outer : List Env) (s : Shared) (H : Hp) (u0 : Value) (v0 : V) (ks : List Str) (us : List Value) (vs : List V) (Q : VK) (E : XK), Room k A → Env0 P w K mg base A outer s H → RelV v0 u0 → Vals vs us → ks.length = vs.length →
    sp v0 (ks.zip vs) H Q E → codeAny (model P w) A (.call (.ref f) ⟨[u0], ks.zip us⟩) (CR CX outer P w H s Q E) s
section
variable {CX : CXT} {P : Program} {w : World} {K : Frag} {mg : Str → Option Value} {base : Heap} {k : Nat} {f : Addr} {name qual : Str} {params : Arguments} {body : List Stmt} {scope : Scope} {dV kV doc pm cdv ct oc : Value} {an od : Option Addr}
  {osl : Array (Option Value)} {N : List Str} {p1 pd : Str} {sp : Sp}
/-- one object more, all old ones as they were -/
theorem env0_more {A : Around} {outer : List Env} {s : Shared} {H : Hp} {h' : Heap} {t' : Nat} {u : HO} (e0 : Env0 P w K mg base A outer s H) (kp : ∀ b x, s.heap.get? b = some x → h'.get? b = some x) (sz : s.heap.objs.size ≤ h'.objs.size)
    (new : ObjOk P w (upd H s.heap.objs.size u) h' s.heap.objs.size u) : Env0 P w K mg base A outer { s with heap := h', toks := t' } (upd H s.heap.objs.size u) where
  frames := e0.frames
  mod := e0.mod
  bs := fun b x e => ⟨kp b x (e0.bs b x e).1, by
    rw [upd_ne (Nat.ne_of_lt (Heap.lt_size (e0.bs b x e).1))]
    exact (e0.bs b x e).2⟩
  bsz := Nat.le_trans e0.bsz sz
  funs := Heap.FunFrames.of_keeps (fun b x e _ => ⟨x, kp b x e, rfl⟩) e0.funs
  frf := fun b hb => by
    obtain ⟨_, x, hx, _⟩ := e0.funs.mem hb
    rw [upd_ne (Nat.ne_of_lt (Heap.lt_size hx))]
    exact e0.frf b hb
  hok := e0.hok.laid kp (Nat.le_refl _) new
  bare := e0.bare
theorem fn_more {allowed : List (List Str)} (lk : K.lookup f = some ⟨oc, od, .func (fnOf name qual params body scope dV kV doc pm an cdv ct), osl⟩) (hcd : codeIn K cdv qual = true) (S : FnScope N [p1, pd] scope) (hCX : StX.CXUp CX)
    (hn : ∀ ks ∈ allowed, ks.Nodup ∧ ks.length ≤ 100)
    (hb : ∀ ks ∈ allowed, ∀ (u0 : Value) (us : List Value), ks.length = us.length → bindArgs (fnOf name qual params body scope dV kV doc pm an cdv ct) ⟨[u0], ks.zip us⟩ =
      ((alloc (dictOf [] 0) : Sem Addr) >>= fun d => (forIn (ks.zip us) PUnit.unit fun x _ => (nsSet d x.1 x.2 >>= fun _ => pure (ForInStep.yield PUnit.unit))) >>= fun _ => pure [(p1, u0), (pd, Value.ref d)]))
    (hbody : ∀ (A : Around) (outer : List Env) (s : Shared) (H : Hp) (vs : List V) (Q : VK) (E : XK), Room k (A.deeper (envOfC qual scope s.heap.objs.size f cdv)) → sp vs H Q E →
      ∃ t, PSs (cxOf CX P w K mg base N qual scope f cdv A outer s H E) body t ∧ t { nx := fun _ H' => Q .non H', rt := Q } (start N vs) H) :
    FnM P w K mg base CX (k + 1) f (fun v0 kvs H Q E => (∃ ks ∈ allowed, kvs.map (·.1) = ks) ∧ ∀ d, H d = none → sp [v0, .ref d] (upd H d (.dK (kwK kvs))) Q E) := by
  intro A outer s H u0 v0 ks us vs Q E hr e0 r0 r hl ⟨⟨ks', hk', ek⟩, hsp⟩
  rw [zip_keys hl] at ek
  subst ek
  have hlu : ks.length = us.length := hl.trans r.length
  have nd : ((ks.zip us).map (·.1)).Nodup := by
    rw [zip_keys hlu]
    exact (hn ks hk').1
  have fresh : H s.heap.objs.size = none := e0.hok.fresh (Nat.le_refl _)
  refine StX.run_bnd lk hcd S hr e0 (G := fun xs H2 => ∃ d, H d = none ∧ xs = [v0, .ref d] ∧ H2 = upd H d (.dK (kwK (ks.zip vs)))) (fun A' Ex Q' h => ?_) fun s2 H2 xs ⟨d, hd, ex, eH⟩ hr' => ?_
  · rw [hb ks hk' u0 us hlu]
    refine wpAny_bind (wpAny_alloc (wpAny_bind (fill (ks.zip us) { s with heap := s.heap.push (dictOf [] 0) } [] 0 (Heap.get?_push_size _ rfl) (fun _ he => nomatch he) (fun _ he => nomatch he) nd fun h1 g1 sb => wpAny_pure ?_)))
    have kp : ∀ b x, s.heap.get? b = some x → h1.get? b = some x := fun b x e => (sb.2 b (Nat.ne_of_lt (Heap.lt_size e))).trans (Heap.get?_push_of_some _ e)
    have sz : s.heap.objs.size ≤ h1.objs.size := Nat.le_of_lt (Heap.lt_size g1)
    have dd : h1.DictOf (mixKind P w) s.heap.objs.size (kwK (ks.zip us)) := Heap.dictOf_iff.mpr ⟨_, g1, kw_mix (ks.zip us) _ _ nd⟩
    have z : (kwK (ks.zip vs)).length ≤ sizeLine := by
      rw [kwK_len, List.length_zip, sizeLine_eq]
      have := (hn ks hk').2
      omega
    have new : ObjOk P w (upd H s.heap.objs.size (.dK (kwK (ks.zip vs)))) h1 s.heap.objs.size (.dK (kwK (ks.zip vs))) := dk_new z (beq_eq_false_iff_ne.mpr fun e => Nat.ne_of_lt (StX.env0_big e0) e.symm) (kwK_zip r) dd
    have un : Un (frs outer) [] H (upd H s.heap.objs.size (.dK (kwK (ks.zip vs)))) s.heap h1 := Un.laid kp (Nat.le_refl _) fresh
    exact h { s with heap := h1, toks := s.toks + (ks.zip us).length } _ [v0, .ref s.heap.objs.size] [u0, .ref s.heap.objs.size] (env0_more e0 kp sz new) un rfl (fun e s' => hCX outer s H _ _ E e s' un kp rfl) (.cons r0 (.cons rfl .nil)) rfl ⟨_, fresh, rfl, rfl⟩
  · subst ex eH
    exact hbody A outer s2 _ _ Q E hr' (hsp d hd)
end
/-! ### its call -/
def tMethM (C : Addr) (m : Str) (ks : List Str) (sp : SpM) (E : L2.St → XK) (ta : TE) (tk : TA) : TE := fun σ H Q => ta σ H fun x H1 => ∃ a dx fs, x = .ref a ∧ H1 a = some (.ins C dx fs) ∧ fs.lookup m = none ∧
  tk σ H1 fun zs H2 => zs.length = ks.length ∧ sp x (ks.zip zs) H2 Q (E σ)
section
variable {X : Cx} {CX : CXT} {k : Nat} {f C : Addr} {sp : SpM} {E : L2.St → XK} {m : Str} {pos apos : Pos} {o : Expr} {kws : List Keyword} {ta : TE} {tk : TA} {ks : List Str}
theorem pe_methM {pl : Sem Bool} (he : PE X o ta) (c : Cls X.K C) (hm : Meth X.K C m f) (F : FnM X.prog X.w X.K X.mg X.base CX k f sp) (hr : Room k X.A) (hx : ∀ σ, PassesAt CX X σ (E σ)) (hkw : PK X kws tk)
    (hall : (backToKw pos (keywordEach kws X.env)).all (·.1.isSome) = true := by rfl) (hks : (backToKw pos (keywordEach kws X.env)).filterMap (·.1) = ks := by rfl)
    (hpl : ((backTo pos (starEach [] X.env)).any (·.1) || (backToKw pos (keywordEach kws X.env)).any (·.1.isNone)) = false := by rfl)
    (ht : eval (.Call (.Attribute o m apos) [] kws pos) X.env = (do
      let ov ← eval o X.env
      standAt apos.atName
      let (f, first) ← holding [ov] (getMethod ov m pl)
      callWith pos f first (backTo pos (starEach [] X.env)) (backToKw pos (keywordEach kws X.env))) := by rfl) :
    PE X (.Call (.Attribute o m apos) [] kws pos) (tMethM C m ks sp E ta tk) := by
  refine ⟨fun pins s σ H Q I h => methodCall_KW (pl := pl) (thn (he.run pins s σ H _ I h) fun u s1 ⟨x, H1, I1, rx, a, dx, fs, ex, ea, l, q⟩ => ?_) ht⟩
  subst ex
  obtain rfl : u = Value.ref a := rx
  refine getmeth_ok I1 ea c hm l (callWith_KW0 (first := [.ref a]) (h₀ := X.base) I.ok.mod.kin hm.kp hall (thn (hkw.run pos pins s1 σ H1 _ I1 q) fun ws s2 ⟨zs, H2, I2, rz, l2, q2⟩ => ⟨I2.kIn, ?_⟩) hpl)
  rw [hks]
  refine wpAny_call (codeAny_mono (F X.A X.stack s2 H2 (.ref a) (.ref a) ks ws zs Q (E σ) hr I2.env0 rfl rz l2.symm q2) fun r s' hq => ?_)
  cases r with
  | error e => exact hx σ pins H2 s2 e s' I2 hq
  | ok fl =>
    cases fl with
    | ret u => exact I2.after hq
    | next => exact False.elim hq
    | brk => exact False.elim hq
    | cont => exact False.elim hq
end
end K2M

/-! C(**d) -/
namespace K2K
open PySem PySem.Spec PyProof.Rows L2 PySem.W K2M
section
variable {prog : Program} {w : World} {A : Around} {E : Value → Shared → Prop}
/-- a new key at the end -/
theorem put_end {d : Addr} {kvs : List (Key × Value)} {k : Key} {key v : Value} {s : Shared} {Q : Unit → Shared → Prop} (hk : (mixKind prog w).is k key = true) (hd : s.heap.DictOf (mixKind prog w) d kvs) (hn : k ∉ kvs.map (·.1)) (hz : kvs.length ≤ sizeLine)
    (h : ∀ h', h'.DictOf (mixKind prog w) d (kvs ++ [(k, v)]) → Heap.SameBut d s.heap h' → Q () { s with heap := h' }) : wpAny (model prog w) A (dictPut d ((mixKind prog w).hash k) key v) Q E s := by
  obtain ⟨o, es, ep, ho, hex, hdt, hks, hp, nd⟩ := hd
  have sz : es.size ≤ sizeLine := by
    have e1 := hp.length
    have e2 : es.toList.length = es.size := by simp
    omega
  have none_ : (es.findIdx? fun e => (mixKind prog w).is k e.key) = none := by
    have hidx : (es.findIdx? fun e => (mixKind prog w).is k e.key) = kvs.findIdx? fun kv => decide (kv.1 = k) := by
      rw [← hp.findIdx k]
      obtain ⟨l⟩ := es
      simp
    rw [hidx, List.findIdx?_eq_none_iff]
    intro x hx
    exact decide_eq_false fun e => hn (e ▸ List.mem_map_of_mem hx)
  unfold dictPut
  refine wpAny_bind (wpAny_dictFind_of hk ho hdt hks ?_)
  rw [none_]
  refine wpAny_updateDictKeys (hz := sz) ho hdt (h _ ⟨_, _, ep + 1, Heap.get?_update_self _ ho (Obj.isFreed_of_dict (Obj.data_mapDictKeys hdt _)), hex.mapDictKeys _, Obj.data_mapDictKeys hdt _, hks.push hk _, ?_, ?_⟩ (Heap.SameBut.update ..))
  · have q := hp.append hk ((mixKind prog w).hash k) v
    obtain ⟨l⟩ := es
    simpa using q
  · rw [List.map_append, List.nodup_append]
    refine ⟨nd, by simp, fun a ha b hb => ?_⟩
    have eb : b = k := by simpa using hb
    rintro rfl
    exact hn (eb ▸ ha)
theorem find_no {d : Addr} {kvs : List (Key × Value)} {k : Key} {key : Value} {s : Shared} {Q : Option Nat → Shared → Prop} (hk : (mixKind prog w).is k key = true) (hd : s.heap.DictOf (mixKind prog w) d kvs) (hn : k ∉ kvs.map (·.1)) (h : Q none s) :
    wpAny (model prog w) A (dictFind d key ((mixKind prog w).hash k)) Q E s := by
  obtain ⟨o, es, ep, ho, hex, hdt, hks, hp, nd⟩ := hd
  have none_ : (es.findIdx? fun e => (mixKind prog w).is k e.key) = none := by
    have hidx : (es.findIdx? fun e => (mixKind prog w).is k e.key) = kvs.findIdx? fun kv => decide (kv.1 = k) := by
      rw [← hp.findIdx k]
      obtain ⟨l⟩ := es
      simp
    rw [hidx, List.findIdx?_eq_none_iff]
    intro x hx
    exact decide_eq_false fun e => hn (e ▸ List.mem_map_of_mem hx)
  refine wpAny_dictFind_of hk ho hdt hks ?_
  rw [none_]
  exact h
theorem merge_new {d a : Addr} {more : List (Key × Value)} {s : Shared} {Q : Unit → Shared → Prop} (ne : a ≠ d) (hs : (a == sysModules) = false) (hd : s.heap.DictOf (mixKind prog w) d []) (ha : s.heap.DictOf (mixKind prog w) a more) (hz : more.length ≤ sizeLine)
    (h : ∀ h', h'.DictOf (mixKind prog w) d more → Heap.SameBut d s.heap h' → Q () { s with heap := h' }) : wpAny (model prog w) A (mergeMapping d (.ref a) true) Q E s := by
  have tA := ha.typeIs
  obtain ⟨oa, esa, epa, hoa, hexa, hda, hksa, hpa, nda⟩ := ha
  obtain ⟨od, esd, epd, hod, hexd, hdd, hksd, hpd, ndd⟩ := id hd
  have esd0 : esd = #[] := by
    have e := hpd.length
    have e2 : esd.toList.length = esd.size := by simp
    exact Array.size_eq_zero_iff.mp (by simpa using e)
  have len : esa.size = more.length := by
    have e := hpa.length
    simpa using e
  have nora : ∀ e ∈ esa.toList, ∃ k, (mixKind prog w).is k e.key = true ∧ e.hash = (mixKind prog w).hash k := fun e he => hksa e (Array.mem_toList_iff.mp he)
  have keep : ∀ {h' : Heap}, Heap.SameBut d s.heap h' → h'.get? a = some oa := fun sb => (sb.2 a ne).trans hoa
  unfold mergeMapping
  refine wpAny_bind (wpAny_isInstance tA isSubtype_dict_dict ?_)
  simp only [if_true]
  refine wpAny_bind (wpAny_specialOf tA F.slot_dict_iter.lookup (wpAny_bind (wpAny_pure ?_)))
  simp only [beq_self_eq_true]
  refine wp_if_neg (by rw [hs]; exact Bool.false_ne_true) ?_
  refine wpAny_bind (wpAny_dictEntries hod hdd ?_)
  refine wp_if_pos (by rw [esd0]; rfl) ?_
  refine wpAny_bind (wpAny_dictEntries hoa hda (wpAny_bind ?_))
  rw [← Array.forIn_toList]
  refine wpAny_forIn_list _ (fun rest _ s' => s' = s ∧ ∀ e ∈ rest, ∃ k, (mixKind prog w).is k e.key = true) _ ?_ ?_ _ _ ⟨rfl, fun e he => let ⟨k, hk, _⟩ := nora e he; ⟨k, hk⟩⟩
  · rintro e rest b s' ⟨rfl, all⟩
    obtain ⟨k, hk⟩ := all e List.mem_cons_self
    have more' : ∀ e ∈ rest, ∃ k, (mixKind prog w).is k e.key = true := fun x hx => all x (List.mem_cons_of_mem _ hx)
    rcases keyIs_shape hk with ⟨i, t, _, ek⟩ | ⟨x, t, _, ek⟩
    · rw [ek]
      exact wpAny_pure ⟨rfl, more'⟩
    · rw [ek]
      exact wpAny_pure ⟨rfl, more'⟩
  · rintro b s' ⟨rfl, _⟩
    refine wpAny_bind (wpAny_dictEntries hoa hda ?_)
    refine wpAny_bind (wpAny_dictEpoch hoa hda ?_)
    refine wpAny_bind ?_
    refine wpAny_forIn_list _ (fun rest _ s'' => ∃ h' i, s'' = { s' with heap := h' } ∧ rest = List.range' i (esa.size - i) ∧ i ≤ esa.size ∧ h'.DictOf (mixKind prog w) d (more.take i) ∧ Heap.SameBut d s'.heap h') _ ?_ ?_ _ _ ⟨s'.heap, 0, rfl, by rw [List.range_eq_range']; rfl, Nat.zero_le _, hd, Heap.SameBut.refl _ _⟩
    · rintro x rest b s'' ⟨h', i, rfl, er, hi, dd, sb⟩
      have hlt : i < esa.size := by
        rcases Nat.lt_or_ge i esa.size with z | z
        · exact z
        · rw [Nat.sub_eq_zero_of_le z] at er
          cases er
      obtain ⟨ex, erest⟩ : x = i ∧ rest = List.range' (i + 1) (esa.size - (i + 1)) := by
        rw [show esa.size - i = (esa.size - (i + 1)) + 1 by omega, List.range'_succ] at er
        injection er with q1 q2
        exact ⟨q1, q2⟩
      subst ex
      have hm : x < more.length := len ▸ hlt
      have hat : esa[x]? = some esa[x] := Array.getElem?_eq_getElem hlt
      obtain ⟨hk, hv⟩ := hpa.get? (e := esa[x]) (i := x) (by simp [hlt]) (List.getElem?_eq_getElem hm)
      obtain ⟨k', hk', hh⟩ := hksa esa[x] (Array.getElem_mem hlt)
      obtain rfl : k' = (more[x]).1 := (mixKind prog w).inj _ _ _ hk' hk
      have notin : (more[x]).1 ∉ (more.take x).map (·.1) := by
        intro z
        have e2 : more.map (·.1) = (more.take x).map (·.1) ++ (more[x]).1 :: (more.drop (x + 1)).map (·.1) := by
          rw [← List.map_cons, ← List.map_append, List.getElem_cons_drop, List.take_append_drop]
        rw [e2, List.nodup_append] at nda
        exact nda.2.2 _ z _ List.mem_cons_self rfl
      refine wpAny_bind (wpAny_dictEntries (keep sb) hda ?_)
      rw [hat]
      dsimp only
      refine wpAny_bind (wpAny_holding ?_)
      rw [hh, hv]
      refine wpAny_bind (find_no hk dd notin ?_)
      refine wp_if_neg (by decide) ?_
      refine put_end hk dd notin (by rw [List.length_take]; omega) fun h2 dd2 sb2 => ?_
      refine wpAny_bind (wpAny_dictEpoch (keep (sb.trans sb2)) hda ?_)
      refine wp_if_neg (by simp) ?_
      refine wpAny_pure ⟨h2, x + 1, rfl, erest, hlt, ?_, sb.trans sb2⟩
      rw [List.take_succ, List.getElem?_eq_getElem hm]
      exact dd2
    · rintro b s'' ⟨h', i, rfl, er, hi, dd, sb⟩
      have hge : esa.size ≤ i := by
        rcases Nat.lt_or_ge i esa.size with z | z
        · rw [show esa.size - i = (esa.size - (i + 1)) + 1 by omega, List.range'_succ] at er
          cases er
        · exact z
      rw [List.take_of_length_le (by omega)] at dd
      exact wpAny_pure (h h' dd sb)
/-- the keywords that a dict of texts is -/
theorem kw_in {d : Addr} {kws : List (Str × Value)} {f : Value} {s : Shared} {Q : List (Str × Value) → Shared → Prop} (hd : s.heap.DictOf (mixKind prog w) d (kwK kws)) (h : Q kws s) : wpAny (model prog w) A (keywordsIn f d) Q E s := by
  obtain ⟨o, es, ep, ho, hex, hdt, hks, hp, nd⟩ := hd
  unfold keywordsIn
  refine wpAny_bind (wpAny_dictEntries ho hdt (wpAny_bind ?_))
  rw [← Array.forIn_toList]
  refine wpAny_forIn_list _ (fun rest kw s' => s' = s ∧ ∃ more, Pairs (mixKind prog w) rest (kwK more) ∧ kw ++ more = kws) _ ?_ ?_ _ _ ⟨rfl, kws, hp, rfl⟩
  · rintro e rest kw s' ⟨rfl, more, hpr, ek⟩
    cases more with
    | nil => exact nomatch (show Pairs (mixKind prog w) (e :: rest) [] from hpr)
    | cons x more =>
      cases (show Pairs (mixKind prog w) (e :: rest) ((Sum.inr x.1, x.2) :: kwK more) from hpr) with
      | cons q1 q2 q3 =>
        rcases keyIs_shape (show keyIs (.inr x.1) e.key = true from q1) with ⟨i, t, z, _⟩ | ⟨y, t, z, ey⟩
        · exact nomatch z
        · obtain rfl : x.1 = y := Sum.inr.inj z
          rw [ey]
          refine wpAny_pure ⟨rfl, more, q3, ?_⟩
          rw [show e.val = x.2 from q2, List.append_assoc]
          exact ek
  · rintro kw s' ⟨rfl, more, hpr, ek⟩
    cases more with
    | nil =>
      rw [List.append_nil] at ek
      rw [ek]
      exact wpAny_pure h
    | cons x more => exact nomatch (show Pairs (mixKind prog w) [] (_ :: _) from hpr)
/-- f(**x) -/
theorem args_kw {f : Value} {x : Sem Value} {s : Shared} {Q : Args → Shared → Prop}
    (h : wpAny (model prog w) A x (fun v s1 => ∃ (a : Addr) (kws : List (Str × Value)), v = .ref a ∧ (a == sysModules) = false ∧ kws.length ≤ sizeLine ∧ a ≠ s.heap.objs.size ∧ s1.heap.DictOf (mixKind prog w) s.heap.objs.size [] ∧ s1.heap.DictOf (mixKind prog w) a (kwK kws) ∧
      ∀ h', h'.DictOf (mixKind prog w) s.heap.objs.size (kwK kws) → Heap.SameBut s.heap.objs.size s1.heap h' → Q ⟨[], kws⟩ { s1 with heap := h' }) E { s with heap := s.heap.push (dictOf [] 0) }) :
    wpAny (model prog w) A (evalArgs f true [] [(none, x)]) Q E s := by
  unfold evalArgs mergedKeywords
  dsimp only
  refine wpAny_bind (wpAny_bind (wpAny_pure (wpAny_pure ?_)))
  refine wpAny_bind (wpAny_pure (wpAny_holding (wp_if_neg (by simp) (wpAny_bind (wpAny_bind (wpAny_alloc (wpAny_bind (wpAny_holding (wpAny_bind ?_)))))))))
  rw [List.forIn_cons]
  refine wpAny_bind ?_
  dsimp only
  refine wpAny_bind (wp_if_pos rfl (wpAny_pure (wpAny_bind (wpAny_mono h (fun v s1 hv => ?_) fun _ _ z => z))))
  obtain ⟨a, kws, rfl, hs, hz, ne, dd, da, q⟩ := hv
  refine wpAny_bind (wpAny_onRaise (wpAny_holding (wpAny_tryCatch (wpAny_onRaise (merge_new ne hs dd da (by rw [kwK_len]; exact hz) fun h' dd' sb => ?_)))))
  refine wpAny_pure ?_
  dsimp only
  rw [List.forIn_nil]
  refine wpAny_pure ?_
  refine wp_if_pos rfl (wpAny_pure (wpAny_pure ?_))
  refine wpAny_bind (wpAny_pure ?_)
  refine wpAny_bind (wpAny_holding (kw_in dd' ?_))
  exact wpAny_pure (q h' dd' sb)
end
theorem kv_zip : ∀ {ks : List Str} {zs : List V} {vs : List (Key × Value)}, zs.length = ks.length → KV (kwK (ks.zip zs)) vs → ∃ ws : List Value, vs = kwK (ks.zip ws) ∧ Vals zs ws
  | [], [], _, _, .nil => ⟨[], rfl, .nil⟩
  | k :: ks, z :: zs, _, hl, r => by
    cases (show KV ((Sum.inr k, z) :: kwK (ks.zip zs)) _ from r) with
    | @cons _ q _ vs h t =>
      obtain ⟨ws, e, rv⟩ := kv_zip (Nat.succ.inj hl) t
      obtain ⟨q1, q2⟩ := q
      obtain ⟨h1, h2⟩ := h
      have h1 : Sum.inr k = q1 := h1
      subst h1 e
      exact ⟨q2 :: ws, rfl, .cons h2 rv⟩
/-- C(**e), e a dict with just the keys ks, in this order; a new dict is laid ahead of it -/
def tMakeD (C : Addr) (ks : List Str) (sp : Sp) (gV : List V → List V → List V) (E : XK) (te : TE) : TE := fun σ H Q => ∀ d, H d = none → te σ (upd H d (.dK [])) fun y H1 => H1 d = some (.dK []) ∧ ∃ (a : Addr) (zs : List V), y = .ref a ∧ a ≠ d ∧
  Rd H1 a (.dK (kwK (ks.zip zs))) ∧ zs.length = ks.length ∧ ∀ x dx, upd H1 d (.dK (kwK (ks.zip zs))) x = none → upd H1 d (.dK (kwK (ks.zip zs))) dx = none → dx ≠ x →
    sp (gV [.ref x] zs) (upd (upd (upd H1 d (.dK (kwK (ks.zip zs)))) dx (.own x)) x (.ins C dx [])) (fun v H3 => v = .non ∧ Q (.ref x) H3) E
section
variable {X : Cx} {CX : CXT} {k : Nat} {f C : Addr} {fd : FuncData} {ps ks : List Str} {sp : Sp} {E : XK} {x : Str} {p pos kpos : Pos} {e : Expr} {te : TE} {g : List Value → List Value → List Value} {gV : List V → List V → List V}
theorem pe_makeD (M : Mk X.K C f) (F : FnOk X.prog X.w X.K X.mg X.base CX k f fd ps sp) (hr : Room (k + 1) X.A) (hg : Gl X x) (hm : X.mg x = some (.ref C)) (hb : KBn X.K fd ps 1 ks g gV) (hx : Passes CX X E) (he : PE X e te)
    (hdb : (x == ("__debug__" : Str)) = false := by decide) (hT : starEach [] X.env = [] := by rfl) (hK : keywordEach [⟨none, e, kpos⟩] X.env = [(none, eval e X.env)] := by rfl) :
    PE X (.Call (.Name x p) [] [⟨none, e, kpos⟩] pos) (tMakeD C ks sp gV E te) := by
  refine ⟨fun pins s σ H Q I h => wpAny_Call_Name_kw (ld_glob I hg hm ?_ hdb)⟩
  rw [hT, hK]
  have fresh := I.hok.fresh (Nat.le_refl s.heap.objs.size)
  have I1 := I.laid (a := s.heap.objs.size) (o := .dK []) (h' := s.heap.push (dictOf [] 0)) (t' := s.toks) (fun _ _ q => Heap.get?_push_of_some _ q) (Nat.le_refl _) (dk_empty s.heap I.big)
  have run := he.run pins _ σ _ _ I1 (h _ fresh)
  have ev : wpAny (model X.prog X.w) X.A (evalArgs (.ref C) true [] [(none, do let v ← eval e X.env; standAt pos; pure v)]) (fun a s2 => X.K.In s2.heap ∧ wpAny (model X.prog X.w) X.A (call (.ref C) ([] ++ a.pos) a.kw) (EP X pins σ Q) X.xe s2) X.xe s := by
    refine args_kw (wpAny_bind (thn run fun v s1 ⟨y, H1, I2, ry, ed, a, zs, ey, ne, ea, lz, q⟩ => wpAny_bind (wpAny_standAt (wpAny_pure ?_))))
    subst ey
    obtain rfl : v = Value.ref a := ry
    obtain ⟨z1, hs, vs, rel, dd⟩ := dk_rd I2.hok ea
    obtain ⟨z2, hsd, vs0, rel0, dd0⟩ := dk_of I2.hok ed
    cases rel0
    obtain ⟨ws, rfl, rz⟩ := kv_zip lz rel
    refine ⟨a, ks.zip ws, rfl, hs, ?_, ne, dd0, dd, fun h' dd' sb => ?_⟩
    · rw [kwK_len, List.length_zip, lz] at z1
      rw [List.length_zip, ← rz.length, lz]
      exact z1
    · have some_ : ∃ q, h'.get? s.heap.objs.size = some q := let ⟨q, _, _, hq, _⟩ := dd'; ⟨q, hq⟩
      have I3 := d_write (t' := s1.toks) I2 (by rw [ed]; exact True.intro) sb some_ (dk_new z1 hsd rel dd')
      exact ⟨I3.kIn, run_makeK (us := []) (vs := []) M F hr hb hx I3 .nil rz rfl lz q⟩
  unfold callWith
  refine wpAny_bind (wpAny_holding (wpAny_mono ev (fun a s1 h1 => wpAny_bind (wpAny_standAt ?_)) fun _ _ z => z))
  obtain ⟨kk, hk', L⟩ := keeps_K (M := model X.prog X.w) M.kp _ h1.1
  refine wpAny_bind (L.here ?_)
  have last : ∀ {t : Sem Value}, wpAny (model X.prog X.w) X.A t (EP X pins σ Q) X.xe s1 → wpAny (model X.prog X.w) X.A (t >>= fun r => holding [r] point >>= fun _ => pure r) (EP X pins σ Q) X.xe s1 := fun ht =>
    wpAny_bind (wpAny_mono ht (fun r s2 hr => wpAny_bind (wpAny_holding (wpAny_point (wpAny_pure hr)))) fun _ _ z => z)
  have marked : ∀ mk : Value, wpAny (model X.prog X.w) X.A (callMarked mk (.ref C) ([] ++ a.pos) a.kw) (EP X pins σ Q) X.xe s1 := fun mk => by
    unfold callMarked
    exact Calls.wpAny_keep h1.2
  rcases hk' with rfl | rfl | rfl <;> dsimp only <;> first | exact last (marked _) | exact last (wpAny_operating h1.2)
end
end K2K

/-! rules that hold for every program: an own == with any answer; making and calling of instances in a try -/
namespace L2
open PySem PySem.Spec PyProof.Rows
/-- a def that may let errors out, called where none leaves -/
theorem passNo {X : Cx} {P : Program} {w : World} : Passes (L2.CX P w) X (fun _ _ _ => False) := fun _ _ _ _ _ _ _ h => by
  obtain ⟨a, B, H', cls, d, ea, fl, hok, ub, na, os, ag, he⟩ := h
  exact he.elim
section
variable {X : Cx} {CX : CXT} {k : Nat} {f C : Addr} {fd : FuncData} {ps : List Str} {sp : Sp} {x : Str} {p pos : Pos} {e : Expr} {es : List Expr} {t : TA}
theorem run_makeS {pins : List (Addr × Obj)} {σ : St} {H : Hp} {s : Shared} {Q : VK} {us : List Value} {vs : List V} {E : XK} (M : Mk X.K C f) (F : FnOk X.prog X.w X.K X.mg X.base CX k f fd ps sp) (hr : Room (k + 1) X.A) (hb : Binds X.K fd ps [])
    (hx : PassesAt CX X σ E) (I : Inv X pins σ H s) (r : Vals vs us)
    (h : ∀ x dx, H x = none → H dx = none → dx ≠ x → sp (.ref x :: vs) (upd (upd H dx (.own x)) x (.ins C dx [])) (fun v H2 => v = .non ∧ Q (.ref x) H2) E) :
    wpAny (model X.prog X.w) X.A (call (.ref C) us) (EP X pins σ Q) X.xe s := by
  have hq := h (s.heap.objs.size + 1) s.heap.objs.size (I.hok.fresh (Nat.le_succ _)) (I.hok.fresh (Nat.le_refl _)) (Nat.ne_of_lt (Nat.lt_succ_self _))
  have I2 := Inv.made (C := C) I
  have r2 : Vals (V.ref (s.heap.objs.size + 1) :: vs) (Value.ref (s.heap.objs.size + 1) :: us) := .cons rfl r
  have hl : (Value.ref (s.heap.objs.size + 1) :: us).length = ps.length := by
    have e := r2.length
    rw [F.len _ _ _ _ hq] at e
    exact e.symm
  have b := hb _ (Value.ref (s.heap.objs.size + 1) :: us) I2.kIn (by rw [List.append_nil]; exact hl)
  rw [List.append_nil] at b
  refine wpAny_call (make_map (f := f) I.kIn M.makes M.init (beq_iff_eq.mp M.fn) (codeAny_mono (F.run _ X.stack _ _ ⟨Value.ref (s.heap.objs.size + 1) :: us, []⟩ (Value.ref (s.heap.objs.size + 1) :: us) _ _ E (hr.make C us [])
    (I2.env0.make C us []) b r2 hq) fun r s' hq' => ?_))
  cases r with
  | error e => exact hx pins _ _ e s' I2 hq'
  | ok fl =>
    cases fl with
    | ret u =>
      obtain ⟨v, H', I3, rv, ev, q3⟩ := I2.after hq'
      subst ev
      exact ⟨rv, ⟨V.ref (s.heap.objs.size + 1), H', I3, rfl, q3⟩⟩
    | next => exact False.elim hq'
    | brk => exact False.elim hq'
    | cont => exact False.elim hq'
def tMakeS (C : Addr) (sp : Sp) (E : St → XK) (t : TA) : TE := fun σ H Q => t σ H fun vs H1 => ∀ x dx, H1 x = none → H1 dx = none → dx ≠ x →
  sp (.ref x :: vs) (upd (upd H1 dx (.own x)) x (.ins C dx [])) (fun v H2 => v = .non ∧ Q (.ref x) H2) (E σ)
/-- C(e, ..), made in a try; every parameter is given -/
theorem pe_makeS {E : St → XK} (M : Mk X.K C f) (F : FnOk X.prog X.w X.K X.mg X.base CX k f fd ps sp) (hr : Room (k + 1) X.A) (hg : Gl X x) (hm : X.mg x = some (.ref C)) (hb : Binds X.K fd ps []) (hx : ∀ σ, PassesAt CX X σ (E σ))
    (ha : PA X (e :: es) t) (hdb : (x == ("__debug__" : Str)) = false := by decide) (he : starEach (e :: es) X.env = (false, eval e X.env) :: starEach es X.env := by rfl) (hpl : (backTo pos (starEach es X.env)).any (·.1) = false := by rfl) :
    PE X (.Call (.Name x p) (e :: es) [] pos) (tMakeS C sp E t) := by
  refine ⟨fun pins s σ H Q I h => ?_⟩
  refine wpAny_Call_Name_kw (ld_glob I hg hm ?_ hdb)
  refine PySem.W.callWith_K (h₀ := X.base) I.ok.mod.kin M.kp (thn (ha.run pos pins s σ H _ I h) fun us s1 ⟨vs, H1, I1, r, q⟩ => ⟨I1.kIn, ?_⟩) he hpl
  exact run_makeS M F hr hb (hx σ) I1 r q
/-- o(e, ..), o an instance, called in a try -/
def tCallOS (C : Addr) (sp : Sp) (E : St → XK) (tf : TE) (t : TA) : TE := fun σ H Q => tf σ H fun y H1 => ∃ a, y = V.ref a ∧ t σ H1 fun vs H2 => (∃ dx fs, H2 a = some (.ins C dx fs)) ∧ sp (V.ref a :: vs) H2 Q (E σ)
theorem pe_callOS {E : St → XK} {fe : Expr} {tf : TE} {g : Addr} (hf : PE X fe tf) (c : StX.CallO X.K C g) (F : FnOk X.prog X.w X.K X.mg X.base CX k g fd ps sp) (hr : Room k X.A) (hb : Binds X.K fd ps []) (hx : ∀ σ, PassesAt CX X σ (E σ)) (ha : PA X (e :: es) t)
    (ht : eval (.Call fe (e :: es) [] pos) X.env = (do callWith pos (← eval fe X.env) [] (backTo pos (starEach (e :: es) X.env)) (backToKw pos (keywordEach [] X.env))) := by rfl)
    (he : starEach (e :: es) X.env = (false, eval e X.env) :: starEach es X.env := by rfl) (hpl : (backTo pos (starEach es X.env)).any (·.1) = false := by rfl) : PE X (.Call fe (e :: es) [] pos) (tCallOS C sp E tf t) := by
  refine ⟨fun pins s σ H Q I h => ?_⟩
  refine Call_ (thn (hf.run pins s σ H _ I h) fun u s1 ⟨y, H1, I1, ry, a, ey, q⟩ => ?_) ht
  subst ey
  obtain rfl : u = Value.ref a := ry
  refine StX.callO_with (thn (ha.run pos pins s1 σ H1 _ I1 q) fun us s2 ⟨vs, H2, I2, r, hi, q2⟩ => ?_) he hpl
  obtain ⟨ox, od, J, hd⟩ := StX.insC_at I2 (.inr hi)
  refine ⟨⟨C, ox, od, J, hd⟩, wpAny_call (PySem.W.kco_code I2.kIn J hd c.at_ c.fn c.fi ?_)⟩
  have r2 : Vals (V.ref a :: vs) (Value.ref a :: us) := .cons rfl r
  have hl : (Value.ref a :: us).length = ps.length := by rw [← r2.length]; exact F.len _ _ _ _ q2
  have b := hb s2 (Value.ref a :: us) I2.kIn (by rw [List.append_nil]; exact hl)
  rw [List.append_nil] at b
  refine codeAny_mono (F.run X.A X.stack s2 H2 ⟨Value.ref a :: us, []⟩ (Value.ref a :: us) (V.ref a :: vs) Q (E σ) hr I2.env0 b r2 q2) fun r s' hq => ?_
  cases r with
  | error e => exact hx σ pins H2 s2 e s' I2 hq
  | ok fl =>
    cases fl with
    | ret u => exact I2.after hq
    | next => exact False.elim hq
    | brk => exact False.elim hq
    | cont => exact False.elim hq
/-- x == y, x an instance with an own __eq__ that answers True or False -/
def rEqOwn (K : PySem.W.Frag) (C : Addr) (sp : Sp) (E : XK) : R2 := fun x y H Q => ∃ (a dx : Addr) (fs : List (Str × V)) (t : Value), x = .ref a ∧ H a = some (.ins C dx fs) ∧ TyX K H y t ∧ PySem.W.notFirst K C t = true ∧ sp [.ref a, y] H (fun v H' => ∃ b, v = .bl b ∧ Q (.bl b) H') E
theorem op_eqOwn {E : XK} (F : FnOk X.prog X.w X.K X.mg X.base CX k f fd ps sp) (hr : Room k X.A) (hs : PySem.W.findIn X.K (.ref C) "__eq__" = some (some (.ref f))) (hf : PySem.W.isFn X.K (.ref f) = true) (hb : Binds X.K fd ps []) (hx : Passes CX X E) : OpR X (compareOp .Eq) (rEqOwn X.K C sp E) := by
  intro pins s σ H x y v u Q I rx ry hq
  obtain ⟨a, dx, fs, t, rfl, ha, ty, hn, q⟩ := hq
  cases rx
  obtain ⟨mA, J, _⟩ := ins_get I.hok ha
  obtain ⟨od, J, _⟩ := J.look
  obtain ⟨P, Z, pz, _⟩ := kit_of I ry ty
  obtain ⟨m, hF⟩ := I.fr
  show wpAny (model X.prog X.w) X.A (richCompare .Eq (.ref a) u) (EP X pins σ Q) X.xe s
  refine PySem.W.cmp_K (op := .Eq) (tb := t) hr.units0 hF I.ok.mod.kin J (Z.ty _ _ I.kIn pz) hn hs hf ?_
  have r2 : Vals [V.ref a, y] [Value.ref a, u] := .cons rfl (.cons ry .nil)
  have hl : [Value.ref a, u].length = ps.length := by rw [← r2.length]; exact F.len _ _ _ _ q
  have b := hb s [Value.ref a, u] I.kIn (by rw [List.append_nil]; exact hl)
  rw [List.append_nil] at b
  refine wpAny_call (codeAny_mono (F.run X.A X.stack s H ⟨[.ref a, u], []⟩ [.ref a, u] [.ref a, y] _ E hr I.env0 b r2 q) fun r s' hq => ?_)
  cases r with
  | error e => exact hx pins σ H s e s' I hq
  | ok fl =>
    cases fl with
    | ret w =>
      obtain ⟨z, H', I', rz, c, ez, q'⟩ := I.after hq
      subst ez
      cases rz
      exact ⟨.bl c, H', I', rfl, q'⟩
    | next => exact False.elim hq
    | brk => exact False.elim hq
    | cont => exact False.elim hq
end
end L2

/-! promises of defs that ask that no repr is under way (at the law's call none is) -/
namespace L2
open PySem PySem.Spec PyProof.Rows
theorem deeper_guards (A : Around) (e : Env) : (A.deeper e).guards = A.guards := rfl
/-- as FnOk (no error leaves), where no repr is under way -/
structure FnG (P : Program) (w : World) (K : PySem.W.Frag) (mg : Str → Option Value) (base : Heap) (k : Nat) (f : Addr) (fd : FuncData) (ps : List Str) (sp : Sp) : Prop where
  gl : ∀ vs H Q E, sp vs H Q E → vs.length = ps.length
  go : ∀ (A : Around) (outer : List Env) (s : Shared) (H : Hp) (args : Args) (us : List Value) (vs : List V) (Q : VK), A.guards = some [] → Room k A → Env0 P w K mg base A outer s H →
    BindsTo s fd args (ps.zip us) → Vals vs us → sp vs H Q E0 → codeAny (model P w) A (.call (.ref f) args) (CR CX0 outer P w H s Q E0) s
section
variable {P : Program} {w : World} {K : PySem.W.Frag} {mg : Str → Option Value} {base : Heap}
theorem Fun.okG {x qual : Str} {st : Stmt} {f : Addr} {fd : FuncData} {N ps : List Str} {k : Nat} {sp : Sp} (F : Fun K x qual st f fd) (S : FnScope N ps (defScope st)) (hlen : ∀ vs H Q E, sp vs H Q E → vs.length = ps.length)
    (hb : ∀ (cdv : Value) (A : Around) (outer : List Env) (s : Shared) (H : Hp) (vs : List V) (Q : VK), (A.deeper (envOfC qual (defScope st) s.heap.objs.size f cdv)).guards = some [] →
      Room k (A.deeper (envOfC qual (defScope st) s.heap.objs.size f cdv)) → sp vs H Q E0 →
      ∃ t, PSs (cxOf CX0 P w K mg base N qual (defScope st) f cdv A outer s H E0).nox (defBody st) t ∧ t { nx := fun _ H' => Q .non H', rt := Q } (start N vs) H) : FnG P w K mg base (k + 1) f fd ps sp := by
  obtain ⟨oc, od, kV, doc, pm, an, cdv, ct, osl, rfl, lk, hcd⟩ := F.ex
  refine ⟨hlen, ?_⟩
  intro A outer s H args us vs Q hgu hroom env0 hbind hvals hsp
  have grown : ∀ b o, base.get? b = some o → s.heap.get? b = some o := fun b o e => (env0.bs b o e).1
  have inK : K.In s.heap := env0.mod.kin.keeps grown
  have noLim := env0.mod.nolimit.keeps grown
  refine codeAny_call_function hroom.depth (inK _ _ lk) rfl S.co S.gen rfl (PySem.W.codeRec_of inK hcd) (hbind _ _ _ _ ?_)
  refine wpAny_newFunctionEnv_cells S.kind ?_ ?_
  · rintro ⟨n, u⟩ hy
    have hp := S.par n (List.of_mem_zip hy).1
    cases hp with
    | inl q => exact Or.inl q
    | inr q => exact Or.inr ⟨q, PySem.W.cellsFrom_some _ _ _ (Or.inl q)⟩
  · intro env he s1 call
    subst he
    refine ⟨noLim.keeps call.toInCall.keep, codeAny_func ?_⟩
    obtain ⟨t, der, reading⟩ := hb cdv A outer s H vs Q hgu (hroom.deeper _) hsp
    have inv := inv_start (CX := CX0) (P := P) (w := w) (K := K) (mg := mg) (base := base) (E := E0) S hroom.hd env0 (hlen _ _ _ _ hsp) hvals call
    refine wpAny_mono (der.nox.run [] s1 (start N vs) H _ inv reading) ?_ ?_
    · rintro (_ | _ | _ | u) s' hs
      · obtain ⟨σ', H', J, q⟩ := hs
        exact ⟨V.non, H', J.os, J.bare, J.base, J.hok, rfl, q⟩
      · exact hs.elim fun _ z => z.elim fun _ z => z.2.elim
      · exact hs.elim fun _ z => z.elim fun _ z => z.2.elim
      · obtain ⟨v, σ', H', J, rv, q⟩ := hs
        exact ⟨v, H', J.os, J.bare, J.base, J.hok, rv, q⟩
    · exact fun e s' hs => hs
end
section
variable {X : Cx} {k : Nat} {f : Addr} {fd : FuncData} {ps : List Str} {sp : Sp} {x : Str} {p pos : Pos} {e : Expr} {es : List Expr} {t : TA}
theorem pe_callG (F : FnG X.prog X.w X.K X.mg X.base k f fd ps sp) (hgu : X.A.guards = some []) (hr : Room k X.A) (hg : Gl X x) (hm : X.mg x = some (.ref f)) (hk : PySem.W.keepIn X.K (.ref f) = true) (hb : Binds X.K fd ps []) (ha : PA X (e :: es) t)
    (hdb : (x == ("__debug__" : Str)) = false := by decide) (he : starEach (e :: es) X.env = (false, eval e X.env) :: starEach es X.env := by rfl) (hpl : (backTo pos (starEach es X.env)).any (·.1) = false := by rfl) :
    PE X (.Call (.Name x p) (e :: es) [] pos) (tCall sp [] E0 t) := by
  constructor
  intro pins s σ H Q I h
  refine wpAny_Call_Name_kw (ld_glob I hg hm ?_ hdb)
  refine PySem.W.callWith_K (h₀ := X.base) I.ok.mod.kin hk (thn (ha.run pos pins s σ H _ I h) ?_) he hpl
  rintro us s1 ⟨vs, H1, I1, r, q⟩
  refine ⟨I1.kIn, ?_⟩
  rw [List.append_nil] at q
  have hl : (us ++ []).length = ps.length := by rw [List.append_nil, ← r.length]; exact F.gl _ _ _ _ q
  have hbd := hb s1 us I1.kIn hl
  rw [List.append_nil] at hbd
  refine wpAny_call (codeAny_mono (F.go X.A X.stack s1 H1 ⟨us, []⟩ us vs Q hgu hr I1.env0 hbd r q) ?_)
  rintro (er | (_ | _ | _ | u)) s' hq
  · exact hq.elim
  · exact hq.elim
  · exact hq.elim
  · exact hq.elim
  · exact I1.after hq
end
end L2

/-! repr(data): what is shown of lists, tuples, texts, ints, bools and None at any depth -/
namespace L2
open PySem PySem.Spec PyProof.Rows
/-- the reading: d the data, shown as Python shows it -/
def rRepr (K : PySem.W.Frag) : List V → Hp → VK → Prop := fun xs H Q => ∃ (v : V) (d : PyData), xs = [v] ∧ Dp K H v d ∧ d.showable = true ∧ d.hasDict = false ∧ d.depth ≤ 60 ∧ d.shown.length ≤ sizeLine ∧ Q (.str d.shown) H
theorem call_reprD {X : Cx} (hgu : X.A.guards = some []) (hu : X.A.units + 64 < cLine) : CallR X (.builtin "repr") (rRepr X.K) := by
  intro pins s σ H xs us Q I r h
  obtain ⟨v, d, rfl, hd, hs, hnd, hdep, hsz, q⟩ := h
  obtain ⟨u, rfl, ru⟩ := vals1 r
  obtain ⟨as, hr⟩ := Dp.reads I d v u hd ru
  have fin : ∀ (s' : Shared) (t : Tok), Inv X pins σ H s' → EP X pins σ Q (.str d.shown t) s' := fun s' t J => ⟨.str d.shown, H, J, ⟨t, rfl⟩, q⟩
  have viaRef : ∀ a : Addr, u = .ref a → wpAny (model X.prog X.w) X.A (PySem.call (.builtin "repr") [u]) (EP X pins σ Q) X.xe s := fun a e => by
    subst e
    exact repr_of_reads' hr hs (fun z => by rw [hnd] at z; cases z) hgu (by omega) (fun _ _ e => e) (fun h' u tk k => fin _ _ (I.kept (t' := tk) k)) hsz
  cases hd with
  | non =>
    obtain rfl : u = .none := ru
    exact PySem.P.repr_of_none (fin _ _ (I.tok _))
  | bl b =>
    obtain rfl : u = .bool b := ru
    have e : (PyData.bool b).shown = (if b then "True" else "False" : Str) := PyData.shown_bool b
    rw [e] at fin
    cases b
    · exact PySem.P.repr_of_bool (fin _ _ (I.tok _))
    · exact PySem.P.repr_of_bool (fin _ _ (I.tok _))
  | int i =>
    obtain ⟨t, rfl⟩ := ru
    have hs' : i.natAbs.log2 < 1920 := by simpa [PyData.showable] using hs
    have e := PyData.shown_int i
    rw [e] at fin
    exact PySem.P.repr_of_int hs' (fin _ _ (I.tok _))
  | str x =>
    obtain ⟨t, rfl⟩ := ru
    have e := PyData.shown_str x
    rw [e] at fin hsz
    exact PySem.P.repr_of_str (fin _ _ (I.tok _)) hsz
  | lst _ _ => exact viaRef _ ru
  | tup _ _ => exact viaRef _ ru
end L2

/-! the end of a law row for a promise that asks that no repr is under way -/
namespace L2
open PySem PySem.Spec PyProof.Rows
section
variable {P : Program} {w : World} {K : PySem.W.Frag} {mg mb : Str → Option Value} {k : Nat} {fa a : Addr} {fd : FuncData} {x : Str} {sp : Sp} {s : Shared} {vs : List Value} {ns : List Int}
/-- what the caller asks of the end -/
abbrev AskedK (s : Shared) : Result → Shared → Prop := fun r s' => r = .ok (.ret (.bool true)) ∧ OldK s.heap s'.heap ∧ s'.os = s.os ∧ AllBare s'.gens
theorem endG_of {H : Hp} (KX : K.In s.heap) (hns : s.heap.Ns mainGlobals mg) (hb : s.heap.Ns builtinsNs mb) (hbb : ∀ x : Str, x ≠ "__name__" → mb x = bootBuiltins x) (hlim : s.heap.NoLimit) (hg : s.gens = #[])
    (hobj : s.heap.get? a = some { cls := .type "list", data := .seq vs.toArray }) (hroom : Room k callerA)
    (F : ∀ base : Heap, K.In base → base.Ns mainGlobals mg → FnG P w K mg base k fa fd [x] sp) (hbind : ∀ (s : Shared) (u : Value), BindsTo s fd ⟨[u], []⟩ [(x, u)])
    (hO : Only H) (hok : HOk P w H s.heap) (one : ∀ b, H b ≠ none → b = a) (free : H a ≠ none → K.lookup a = none)
    (hsp : sp [.ref a] H (fun v _ => v = .bl true) E0) : codeAny (model P w) callerA (.call (.ref fa) ⟨[.ref a], []⟩) (AskedK s) s := by
  have base_of : ∀ {b : Addr} {o : Obj}, s.heap.get? b = some o → H b = none → (hidT s.heap H).get? b = some o := fun e n => hidT_get e n
  have apart : ∀ {b : Addr}, b ≠ a → H b = none := fun {b} hba => Classical.byContradiction fun z => hba (one b z)
  have notDict : ∀ {b : Addr} {o : Obj} {es : Array DictEntry} {ep : Nat}, s.heap.get? b = some o → o.data = .dict es ep → H b = none := by
    intro b o es ep e d
    refine apart fun z => ?_
    rw [z, hobj] at e
    cases e
    cases d
  have keepNs : ∀ {b : Addr} {m : Str → Option Value}, s.heap.Ns b m → (hidT s.heap H).Ns b m := by
    rintro b m ⟨o, es, ep, e, d, r⟩
    exact ⟨o, es, ep, base_of e (notDict e d), d, r⟩
  have inBase : K.In (hidT s.heap H) := by
    intro b o e
    refine base_of (KX b o e) (Classical.byContradiction fun z => ?_)
    have hba := one b z
    subst hba
    rw [free z] at e
    cases e
  have md : Mod K mg (hidT s.heap H) := by
    refine ⟨inBase, keepNs hns, ⟨mb, keepNs hb, hbb⟩, ?_⟩
    obtain ⟨mc, h1, h2⟩ := hlim
    exact ⟨mc, keepNs h1, h2⟩
  have env0 : Env0 P w K mg (hidT s.heap H) callerA [] s H := by
    refine ⟨rfl, md, fun b o e => of_hidT e, Nat.le_of_eq (hidT_size _ _), trivial, ?_, hok, .of_eq hg⟩
    intro b hb
    exact absurd (show b ∈ ([] : List Addr) from hb) (by simp)
  refine codeAny_mono ((F _ inBase (keepNs hns)).go callerA [] s H ⟨[.ref a], []⟩ [.ref a] [.ref a] _ rfl hroom env0 (hbind s (.ref a)) (.cons rfl .nil) hsp) ?_
  rintro (er | (_ | _ | _ | u)) s' h
  · exact h.elim
  · exact h.elim
  · exact h.elim
  · exact h.elim
  · obtain ⟨v, H', os, bare, un, hok', rv, q⟩ := h
    have q' : v = .bl true := q
    subst q'
    obtain rfl : u = Value.bool true := rv
    refine ⟨rfl, OldK.of_keep ?_, os, bare⟩
    intro b o e
    rcases hO b with z | ⟨ob, xs, z⟩
    · exact un.keep b o e z (by intro y; exact absurd (show b ∈ ([] : List Addr) from y) (by simp)) (by simp)
    · obtain ⟨e1, _⟩ := hok b _ z
      obtain ⟨e2, _⟩ := hok' b _ (un.frzs b ob _ z)
      rw [e] at e1
      cases e1
      exact e2
theorem law_callG (KX : K.In s.heap) (hns : s.heap.Ns mainGlobals mg) (hb : s.heap.Ns builtinsNs mb) (hbb : ∀ x : Str, x ≠ "__name__" → mb x = bootBuiltins x) (hlim : s.heap.NoLimit) (hg : s.gens = #[])
    (hobj : s.heap.get? a = some { cls := .type "list", data := .seq vs.toArray }) (hi : IntsAre vs ns) (hl : ns.length ≤ sizeLine) (hroom : Room k callerA)
    (F : ∀ base : Heap, K.In base → base.Ns mainGlobals mg → FnG P w K mg base k fa fd [x] sp) (hbind : ∀ (s : Shared) (u : Value), BindsTo s fd ⟨[u], []⟩ [(x, u)])
    (hsp : ∀ H : Hp, Only H → SqL K H a (ns.map V.int) → sp [.ref a] H (fun v _ => v = .bl true) E0) : codeAny (model P w) callerA (.call (.ref fa) ⟨[.ref a], []⟩) (AskedK s) s := by
  have rv := vals_ints hi
  have lenV := hi.length
  cases hk : K.lookup a with
  | some o =>
    have e := KX a o hk
    rw [hobj] at e
    cases e
    have sq : SqL K (fun _ => none) a (ns.map V.int) := .inr ⟨_, vs.toArray, _, hk, rfl, rfl, rfl, by rw [List.size_toArray, lenV]; exact hl, by simpa using rv⟩
    have only : Only (fun _ => none) := fun _ => .inl rfl
    have hok : HOk P w (fun _ => none) s.heap := by
      intro b u z
      have z' : (none : Option HO) = some u := z
      cases z'
    exact endG_of KX hns hb hbb hlim hg hobj hroom F hbind only hok (fun b z => absurd rfl z) (fun z => absurd rfl z) (hsp _ only sq)
  | none =>
    let O : Obj := { cls := .type "list", data := .seq vs.toArray }
    let H : Hp := fun b => if b = a then some (.frz O (.lst (ns.map V.int))) else none
    have atA : H a = some (.frz O (.lst (ns.map V.int))) := if_pos rfl
    have off : ∀ b, b ≠ a → H b = none := fun b n => if_neg n
    have only : Only H := by
      intro b
      by_cases n : b = a
      · exact .inr ⟨O, ns.map V.int, by rw [n]; exact atA⟩
      · exact .inl (off b n)
    have hok : HOk P w H s.heap := by
      intro b u z
      by_cases n : b = a
      · subst n
        rw [atA] at z
        cases z
        exact ⟨hobj, by rw [List.length_map]; exact hl, vs, _, rv, hobj⟩
      · rw [off b n] at z
        cases z
    have one : ∀ b, H b ≠ none → b = a := fun b z => Classical.byContradiction fun n => z (off b n)
    exact endG_of KX hns hb hbb hlim hg hobj hroom F hbind only hok one (fun _ => hk) (hsp _ only (.inl (.inr ⟨O, atA⟩)))
end
/-- the goal that k_head leaves, from the law's promise -/
theorem walk_ofG {l : PySem.W.OpenLaw} {n k : Nat} {q : Program} {loose : List Str} {XP : (Str → Option Value) → Heap → Prop} {YP : World → Heap → Prop} {d : DefRec} {K : Params → PySem.W.Frag} {sp : World → Sp} {x : Str}
    (hn : l.most = some n) (hn2 : n ≤ sizeLine) (hdf : d.params.defaults = []) (hr : Room k callerA) (hY : ∀ (w : World) (h : Heap), YP w h → (K w.params).In h)
    (F : ∀ (w : World) (mg : Str → Option Value) (fa : Addr) (h : Heap), (K w.params).In h → h.Ns mainGlobals mg → mg d.name = some (.ref fa) →
      ∃ fd : FuncData, (∀ (s : Shared) (u : Value), BindsTo s fd ⟨[u], []⟩ [(x, u)]) ∧ ∀ base : Heap, (K w.params).In base → base.Ns mainGlobals mg → FnG l.prog w (K w.params) mg base k fa fd [x] (sp w))
    (hsp : ∀ (w : World) (H : Hp) (a : Addr) (ns : List Int), ns.length ≤ n → Only H → SqL (K w.params) H a (ns.map V.int) → sp w [.ref a] H (fun v _ => v = .bl true) E0) :
    PySem.W.WalkO q loose XP YP l.row.toRowW d [] (fun f vs => PySem.call f vs) := by
  refine Att.attach_call hn hdf ?_
  intro w s₀ s₁ mg mb fa o pm cd doc a vs ns G Y ho hd hcd hmg hobj hints hlen hg
  have KX := hY w _ Y
  obtain ⟨fd, hb, hF⟩ := F w mg fa _ KX G.T.g hmg
  exact law_callG KX G.T.g G.T.b G.T.builtins G.T.nolimit hg hobj hints (Nat.le_trans hlen hn2) hr hF hb (fun H hO hS => hsp w H a ns hlen hO hS)
end L2

namespace K2
open PySem L2
def top (i : Nat) : Stmt := PySem.Challenge.pw_slipreach_k02_options_of_languages.main.body.getD i (.Pass ⟨0, 0, 0, 0⟩)
abbrev sPool : Stmt := top 23
abbrev sPick : Stmt := top 24
/-- built-in names that the top has left alone -/
structure Bare (mg : Str → Option Value) : Prop where
  int : mg "int" = none
  len : mg "len" = none
  sum : mg "sum" = none
  abs : mg "abs" = none
  range : mg "range" = none
  str : mg "str" = none
  all : mg "all" = none
  isi : mg "isinstance" = none
  repr : mg "repr" = none
  list : mg "list" = none
  tuple : mg "tuple" = none
  set : mg "set" = none
  dict : mg "dict" = none
  bool : mg "bool" = none
/-- all but the object at p is as it was -/
def Keep (p : Addr) (H H' : Hp) : Prop := ∀ b o, b ≠ p → H b = some o → H' b = some o
theorem Keep.refl (p : Addr) (H : Hp) : Keep p H H := fun _ _ _ h => h
theorem Keep.trans {p : Addr} {H H1 H2 : Hp} (a : Keep p H H1) (b : Keep p H1 H2) : Keep p H H2 := fun c o n h => b c o n (a c o n h)
theorem Keep.new {p l : Addr} {H H1 : Hp} {o : HO} (a : Keep p H H1) (hl : H1 l = none) : Keep p H (upd H1 l o) := fun b u n h => by
  rw [upd_ne (ne_of_none (a b u n h) hl)]
  exact a b u n h
theorem Keep.own {p : Addr} {H H1 : Hp} {o : HO} (a : Keep p H H1) : Keep p H (upd H1 p o) := fun b u n h => by
  rw [upd_ne n]
  exact a b u n h
/-- at p a pool: what is left of a great cell, a start, how many were drawn (at most c) -/
def Pool (H : Hp) (p : Addr) (c : Nat) : Prop := ∃ g m k : Int, H p = some (.lst [.int g, .int m, .int k]) ∧ 0 ≤ g ∧ 0 ≤ m ∧ m ≤ 16140901064500000000 ∧ 0 ≤ k ∧ k ≤ (c : Int)
theorem Pool.new {H : Hp} {p l : Addr} {c : Nat} {o : HO} (a : Pool H p c) (hl : H l = none) : Pool (upd H l o) p c := by
  obtain ⟨g, m, k, h, r⟩ := a
  exact ⟨g, m, k, by rw [upd_ne (ne_of_none h hl)]; exact h, r⟩
theorem Pool.mono {H : Hp} {p : Addr} {c d : Nat} (a : Pool H p c) (h : c ≤ d) : Pool H p d := by
  obtain ⟨g, m, k, h1, h2, h3, h4, h5, h6⟩ := a
  exact ⟨g, m, k, h1, h2, h3, h4, h5, by omega⟩
theorem Pool.other {H : Hp} {p l : Addr} {c : Nat} {o : HO} (a : Pool H p c) (hl : p ≠ l) : Pool (upd H l o) p c := by
  obtain ⟨g, m, k, h, r⟩ := a
  exact ⟨g, m, k, by rw [upd_ne hl]; exact h, r⟩
/-- a number below many is drawn -/
def spPick : Sp := fun vs H Q _ => ∃ (p : Addr) (c : Nat) (n : Int), vs = [.ref p, .int n] ∧ Pool H p c ∧ c ≤ 1000000 ∧ 0 < n ∧ n < 1073741824 ∧
  ∀ (r : Int) (H' : Hp), 0 ≤ r → r < n → Keep p H H' → Pool H' p (c + 1) → Q (.int r) H'
section
variable {P : Program} {w : World} {K : PySem.W.Frag} {mg : Str → Option Value} {base : Heap}
theorem scPick : FnScope ["_law_pool_here", "_law_many", "_law_found", "_law_mixed_here"] ["_law_pool_here", "_law_many"] (defScope sPick) := ⟨rfl, rfl, rfl, by decide +kernel, rfl, by decide +kernel, by decide +kernel⟩
theorem pow_bound {m k : Int} (h0 : 0 ≤ m) (h1 : m ≤ 16140901064500000000) (h2 : 0 ≤ k) (h3 : k ≤ 1000001) : (m + 1500450271 * k).natAbs < 2 ^ 64 := by omega
theorem pow_bound2 {a k : Int} (h0 : 0 ≤ a) (h1 : a < 2305843009213693921) (h2 : 0 ≤ k) (h3 : k ≤ 1000001) : (a + 28657 * k).natAbs < 2 ^ 64 := by omega
theorem ok_pick {f : Addr} {fd : FuncData} (F : Fun K "_law_pick" "_law_pick" sPick f fd) (T : Bare mg) : FnOk P w K mg base CX0 1 f fd ["_law_pool_here", "_law_many"] spPick := by
  refine F.ok scPick (fun vs H Q E h => ?_) (fun cdv A outer s H vs Q E hr h => ?_)
  · obtain ⟨p, c, n, rfl, _⟩ := h
    rfl
  · obtain ⟨p, c, n, rfl, ⟨g, m, k, hp, hg, hm, hm', hk, hk'⟩, hc, hn, hn', q⟩ := h
    refine ⟨_, pss_cons (ps_if (pt_cmpR op_gt (pe_ix ix_list (pv 0) pe_int (fun _ _ => rfl)) pe_int (nomark _))
        (pss_cons (ps_set (i := 2) scPick.nd rfl (.inl rfl) (pe_op op_mod (pe_callTy call_int1 (by rfl) T.int (by decide +kernel) (pa_cons (pe_ix ix_list (pv 0) pe_int (fun _ _ => rfl)) pa_nil)) (pv 1)))
          (pss_cons (ps_asg (pe_op op_fdiv (pe_ix ix_list (pv 0) pe_int (fun _ _ => rfl)) (pv 1)) (pg_sub (pv 0) pe_int set_list))
            (pss_one (ps_ret (pv 2))))) pss_nil)
      (pss_cons (ps_asg (pe_op op_add (pe_ix ix_list (pv 0) pe_int (fun _ _ => rfl)) pe_int) (pg_sub (pv 0) pe_int set_list))
      (pss_cons (ps_set (i := 3) scPick.nd rfl (.inl rfl) (pe_op op_mod (pe_callTy call_int1 (by rfl) T.int (by decide +kernel) (pa_cons
          (pe_op op_pow (pe_op op_add (pe_ix ix_list (pv 0) pe_int (fun _ _ => rfl)) (pe_op op_mul pe_int (pe_ix ix_list (pv 0) pe_int (fun _ _ => rfl)))) pe_int) pa_nil)) pe_int))
      (pss_cons (ps_set (i := 3) scPick.nd rfl (.inl rfl) (pe_op op_mod (pe_callTy call_int1 (by rfl) T.int (by decide +kernel) (pa_cons
          (pe_op op_pow (pe_op op_add (pv 3) (pe_op op_mul pe_int (pe_ix ix_list (pv 0) pe_int (fun _ _ => rfl)))) pe_int) pa_nil)) pe_int))
      (pss_one (ps_ret (pe_op op_mod (pe_callTy call_int1 (by rfl) T.int (by decide +kernel) (pa_cons (pe_op op_fdiv (pv 3) pe_int) pa_nil)) (pv 1))))))), ?_⟩
    refine ⟨_, rfl, p, _, _, _, rfl, rfl, SqL.of hp, atI_nat rfl, _, _, rfl, rfl, _, rfl, ?_⟩
    refine ite2 (fun h0 => ?_) (fun h0 => ?_)
    · refine ⟨_, rfl, p, _, _, _, rfl, rfl, SqL.of hp, atI_nat rfl, .inl ⟨_, rfl, _, rfl, _, _, rfl, rfl, hn, ?_⟩⟩
      refine ⟨_, rfl, p, _, _, _, rfl, rfl, SqL.of hp, atI_nat rfl, _, rfl, _, _, rfl, rfl, ⟨hn, hn'⟩, _, rfl, p, _, _, _, rfl, rfl, hp, rfl, ?_⟩
      refine ⟨_, rfl, ?_⟩
      refine q _ _ (Int.emod_nonneg _ (by omega)) (Int.emod_lt_of_pos _ hn) (Keep.refl p H).own ⟨g / n, m, k, upd_same, Int.ediv_nonneg hg (by omega), hm, hm', hk, by omega⟩
    · have e1 : ∀ H' : Hp, H' p = some (.lst [.int g, .int m, .int (k + 1)]) → SqL K H' p [.int g, .int m, .int (k + 1)] := fun _ e => SqL.of e
      refine ⟨_, rfl, p, _, _, _, rfl, rfl, SqL.of hp, atI_nat rfl, _, _, rfl, rfl, _, rfl, p, _, _, _, rfl, rfl, hp, rfl, ?_⟩
      refine ⟨_, rfl, p, [.int g, .int m, .int (k + 1)], _, _, rfl, rfl, e1 _ upd_same, atI_nat rfl, _, rfl, p, [.int g, .int m, .int (k + 1)], _, _, rfl, rfl, e1 _ upd_same, atI_nat rfl, _, _, rfl, rfl, .inl (by decide), _, _, rfl, rfl, _, _, rfl, rfl, ⟨by decide, by decide, pow_bound hm hm' (by omega) (by omega)⟩, .inl ⟨_, rfl, _, _, rfl, rfl, (by show (0 : Int) < 2305843009213693921; decide), ?_⟩⟩
      refine ⟨_, rfl, _, rfl, p, [.int g, .int m, .int (k + 1)], _, _, rfl, rfl, e1 _ upd_same, atI_nat rfl, _, _, rfl, rfl, .inl (by decide), _, _, rfl, rfl, _, _, rfl, rfl, ⟨by decide, by decide, pow_bound2 (Int.emod_nonneg _ (by decide)) (Int.emod_lt_of_pos _ (by decide)) (by omega) (by omega)⟩, .inl ⟨_, rfl, _, _, rfl, rfl, (by show (0 : Int) < 2305843009213693951; decide), ?_⟩⟩
      refine ⟨_, rfl, _, _, rfl, rfl, ⟨by decide, by decide⟩, .inl ⟨_, rfl, _, rfl, _, _, rfl, rfl, hn, ?_⟩⟩
      exact q _ _ (Int.emod_nonneg _ (by omega)) (Int.emod_lt_of_pos _ hn) (Keep.refl p H).own ⟨g, m, k + 1, upd_same, hg, hm, hm', by omega, by omega⟩
end
end K2

namespace K2
open PySem L2
/-- a new pool for one place of the script -/
def spPool (K : PySem.W.Frag) : Sp := fun vs H Q _ => ∃ (a : Addr) (ns : List Int) (k : Int), vs = [.ref a, .int k] ∧ SqL K H a (ns.map V.int) ∧ ns.length ≤ 63 ∧ 0 ≤ k ∧ k ≤ 63 ∧
  ∀ (p : Addr) (H' : Hp), H p = none → Same H H' → Pool H' p 0 → Q (.ref p) H'
section
variable {P : Program} {w : World} {K : PySem.W.Frag} {mg : Str → Option Value} {base : Heap}
theorem Same.new {H H1 : Hp} {l : Addr} {o : HO} (a : Same H H1) (hl : H1 l = none) : Same H (upd H1 l o) := fun b u h => by
  rw [upd_ne (ne_of_none (a b u h) hl)]
  exact a b u h
theorem at_int {ns : List Int} {k : Int} (h0 : 0 ≤ k) (h1 : k < (ns.length : Int)) : ∃ z, atI (ns.map V.int) k = some (V.int z) := by
  have hk : k.toNat < ns.length := by omega
  refine ⟨ns[k.toNat], at_of (j := k.toNat) (by omega) ?_⟩
  rw [List.getElem?_map, List.getElem?_eq_getElem hk]
  rfl
theorem scPool : FnScope ["_law_script", "_law_place", "_law_cell", "_law_great"] ["_law_script", "_law_place"] (defScope sPool) := ⟨rfl, rfl, rfl, by decide +kernel, rfl, by decide +kernel, by decide +kernel⟩
theorem ok_pool {f : Addr} {fd : FuncData} (F : Fun K "_law_pool" "_law_pool" sPool f fd) (T : Bare mg) : FnOk P w K mg base CX0 1 f fd ["_law_script", "_law_place"] (spPool K) := by
  refine F.ok scPool (fun vs H Q E h => ?_) (fun cdv A outer s H vs Q E hr h => ?_)
  · obtain ⟨p, c, n, rfl, _⟩ := h
    rfl
  · obtain ⟨a, ns, k, rfl, hS, hl, hk, hk', q⟩ := h
    refine ⟨_, C8.pss_cut (ps_set (i := 2) scPool.nd rfl (.inl rfl) (pe_ifExp (pt_cmpR op_lt (pv 1) (pe_callB call_len_seq (by rfl) T.len PySem.boot_len (pa_cons (pv 0) pa_nil)) (nomark _))
          (pe_ix ix_list (pv 0) (pv 1) (fun _ _ => rfl))
          (pe_op op_mod (pe_callTy call_int1 (by rfl) T.int (by decide +kernel) (pa_cons (pe_callB (cr_sum rfl) (by rfl) T.sum (by decide +kernel) (pa_cons (pe_slice sl_list (pv 0) po_none (po_some pe_int)) pa_nil)) pa_nil)) pe_int)))
      (C8.pss_cut (ps_set (i := 3) scPool.nd rfl (.inl rfl) (pe_ifExp (pt_cmpR op_ge (pe_callB call_abs (by rfl) T.abs (by decide +kernel) (pa_cons (pv 2) pa_nil)) (pe_op op_pow pe_int pe_int) (nomark _))
          (pe_callB call_abs (by rfl) T.abs (by decide +kernel) (pa_cons (pv 2) pa_nil)) pe_int))
      (pss_one (ps_ret (pe_lst (pa_cons (pv 3) (pa_cons
          (pe_op op_add (pe_op op_add (pe_op op_add (pe_op op_mul (pe_op op_mod (pe_callTy call_int1 (by rfl) T.int (by decide +kernel) (pa_cons (pv 2) pa_nil)) pe_int) pe_int) (pe_op op_mul pe_int (pv 1))) (pe_op op_mul pe_int pe_int)) pe_int)
          (pa_cons pe_int pa_nil))))))), ?_⟩
    refine ⟨fun σ H' => ∃ z : Int, σ = [some (.ref a), some (.int k), some (.int z), none] ∧ Same H H', ?_, ?_⟩
    · refine ⟨_, rfl, _, rfl, a, _, rfl, .inl hS, _, _, rfl, rfl, _, rfl, ?_⟩
      refine ite2 (fun h0 => ?_) (fun h0 => ?_)
      · have h0 : k < ((ns.map V.int).length : Int) := of_decide_eq_true h0
        rw [List.length_map] at h0
        obtain ⟨z, hz⟩ := at_int hk h0
        exact ⟨_, rfl, _, rfl, a, _, _, _, rfl, rfl, hS, hz, z, rfl, Same.refl H⟩
      · refine ⟨_, rfl, _, rfl, a, _, rfl, hS, fun l hl => ?_⟩
        refine ⟨l, ns.take 1, rfl, SqL.of ?_, .inl ⟨_, rfl, _, _, rfl, rfl, (by show (0 : Int) < 1000003; decide), _, rfl, Same.new (Same.refl H) hl⟩⟩
        rw [upd_same]
        congr 2
        unfold cutV
        cases ns with
        | nil => rfl
        | cons z ns => simp [HT.sIx]
    · rintro σ H1 ⟨z, rfl, s1⟩
      refine ⟨fun σ H' => ∃ g : Int, 0 ≤ g ∧ σ = [some (.ref a), some (.int k), some (.int z), some (.int g)] ∧ H' = H1, ?_, ?_⟩
      · refine ⟨_, rfl, _, rfl, _, _, rfl, rfl, ⟨by decide, by decide, by decide⟩, _, _, rfl, rfl, _, rfl, ?_⟩
        refine ite2 (fun _ => ?_) (fun _ => ?_)
        · refine ⟨_, rfl, _, rfl, _, ?_, rfl, rfl⟩
          by_cases hz : z < 0
          · rw [if_pos hz]; omega
          · rw [if_neg hz]; omega
        · exact ⟨0, Int.le_refl 0, rfl, rfl⟩
      · rintro σ H2 ⟨g, hg, rfl, rfl⟩
        refine ⟨_, rfl, _, rfl, .inl ⟨_, rfl, _, _, rfl, rfl, (by show (0 : Int) < 2305843009213693951; decide), _, _, rfl, rfl, .inr (by decide), _, rfl, _, _, rfl, rfl, .inl (by decide), _, _, rfl, rfl, _, _, rfl, rfl, .inl (by decide), _, _, rfl, rfl, _, _, rfl, rfl, by show 3 ≤ sizeLine; decide, fun p hp => ?_⟩⟩
        refine q p _ (s1.free hp) (Same.new s1 hp) ⟨g, _, 0, upd_same, hg, ?_, ?_, by decide, by decide⟩
        · have h1 := Int.emod_nonneg z (show (2305843009213693951 : Int) ≠ 0 by decide)
          omega
        · have h1 := Int.emod_lt_of_pos z (show (0 : Int) < 2305843009213693951 by decide)
          omega
end
end K2

namespace K2E
open PySem PySem.W PySem.Calls PyProof.Rows PySem.HandSPX
/-! ### BadLanguage and its __init__, which says super().__init__(..) and stores one field -/
def eA (p1 p2 : Pos) : Arguments := { posonlyargs := [], args := [{ arg := "self", annotation := none, pos := p1 }, { arg := "option", annotation := none, pos := p2 }], vararg := none, kwonlyargs := [], kw_defaults := [], kwarg := none, defaults := [] }
def eB (m : Str) (j : Nat) (o1 o2 o3 o4 o5 o6 q1 q2 q3 q4 : Pos) : List Stmt := [.Expr (.Call (.Attribute (.Call (.Name "super" o1) [] [] o2) "__init__" o3) [.Constant (.str m) j o4] [] o5) o6, .Assign [.Attribute (.Name "self" q1) "option" q2] (.Name "option" q3) q4]
def eS : Scope := { kind := .function, names := [(PySem.Str.ofString "self", .local), (PySem.Str.ofString "option", .local), (PySem.Str.ofString "__class__", .free), (PySem.Str.ofString "super", .globalImplicit)], isGenerator := false, isCoroutine := false, more := [] }
/-- what the written part says of BadLanguage, at C, of its __init__, at fI, and of that one's cell and code -/
structure ErrTxt (prog : Program) (K : Frag) (mg : Str → Option Value) (C fI : Addr) : Prop where
  gC : mg "BadLanguage" = some (.ref C)
  cls : ∃ nm q N bs bm sn sub ab col dd k0 k1 k2 k3 k5, K.lookup C = some (excClassObj nm q C N bs bm true sn sub ab col dd k0 k1 k2 k3 k5 "ValueError.__new__") ∧ refsVE bm = true
  sa : findIn K (.ref C) "__setattr__" = some (some (.builtin "object.__setattr__"))
  noN : findIn K (.ref C) "option" = some none
  iC : findIn K (.ref C) "__init__" = some (some (.ref fI))
  tC : typeIn K (.ref fI) = some (.type "function")
  kC : keepIn K (.ref C) = true
  exC : subIn K (.ref C) (.type "BaseException") = some true
  vaC : subIn K (.ref C) (.type "ValueError") = some true
  tyC : typeIn K (.ref C) = some (.type "type")
  te : exmOne K (.ref C) (.ref C) = some true
  sub : mroIn K C (.ref C) = some true
  sup : ks_superIn K C C "__init__" = some (some (.builtin "ValueError.__init__"))
  tp : nsIn K cStatics "thirdparty.any" = some none
  su : mg "super" = none
  top : (prog.main.scope.names.lookup ("super" : Str)).isSome = false
  fn : ∃ (oc : Value) (od : Option Addr) (doc pm : Value) (an : Option Addr) (cda cc : Addr) (ct : Value) (osl : Array (Option Value)) (m : Str) (j : Nat) (p1 p2 o1 o2 o3 o4 o5 o6 q1 q2 q3 q4 : Pos),
    K.lookup fI = some ⟨oc, od, .func (ksFn "__init__" "BadLanguage.__init__" (eA p1 p2) (eB m j o1 o2 o3 o4 o5 o6 q1 q2 q3 q4) eS .none .none doc pm an (.ref cda) ct cc), osl⟩ ∧ codeIn K (.ref cda) "BadLanguage.__init__" = true ∧
    (∃ (ccl : Value) (cdd : Option Addr) (vs : Array Value) (ccs : Array (Option Value)) (file : Str) (tf : Tok), K.lookup cda = some ⟨ccl, cdd, .fields vs, ccs⟩ ∧ vs[2]? = some (.str file tf) ∧ ((prog.main.file : Str) == file) = true) ∧
    (∀ env : Env, ∃ pl : Sem Bool, eval (.Call (.Attribute (.Call (.Name "super" o1) [] [] o2) "__init__" o3) [.Constant (.str m) j o4] [] o5) env = (do
      let ov ← attributeBase (.Call (.Name "super" o1) [] [] o2) "__init__" env (eval (.Call (.Name "super" o1) [] [] o2) env)
      standAt o3.atName
      let (f, first) ← holding [ov] (getMethod ov "__init__" pl)
      callWith o5 f first (backTo o5 (starEach [.Constant (.str m) j o4] env)) [])) ∧
    ∃ (cl : Value) (cld : Option Addr) (csl : Array (Option Value)), K.lookup cc = some ⟨cl, cld, .cell (some (.ref C)), csl⟩
theorem one_len (v : Value) : [v].length ≤ sizeLine := by
  show 1 ≤ sizeLine
  rw [sizeLine_eq]
  decide
/-- what __init__ leaves of a fresh exception at x -/
structure Left (h h' : Heap) (x C dx t1 : Addr) (v : Value) : Prop where
  keep : ∀ b o, b ≠ x → h.get? b = some o → h'.get? b = some o
  obj : h'.get? x = some { cls := .ref C, dict := some dx, data := .fields #[.ref t1, .none, .none, .none, .bool false, .none] }
  dbig : h.objs.size ≤ dx
  dne : dx ≠ x
  ns : h'.Ns1 dx (fun y => if y = "option" then some v else none)
section
variable {prog : Program} {w : World} {A : Around} {E : Value → Shared → Prop} {R : Result → Shared → Prop} {K : Frag} {mg : Str → Option Value} {C fI : Addr}
/-- the wrapper of ValueError.__init__, bound to a fresh exception, called -/
theorem wrapped {h : Heap} {g : Array GenState} {d : Drawn} {t : Nat} {os : OsState} {nm q : Str} {N : Addr} {bs bm : List Value} {hdct : Bool} {sn : List Str} {sub : List Value} {ab : Bool} {col : Option Bool} {dd : Option Addr} {k0 k1 k2 k3 k5 : Option Value}
    {u e t0 : Addr} {rest : List Value} {Q : Value → Shared → Prop} (hC : h.get? C = some (excClassObj nm q C N bs bm hdct sn sub ab col dd k0 k1 k2 k3 k5 "ValueError.__new__")) (he : h.get? e = some (excO C t0)) (hu : h.get? u = some (kxs_mw "ValueError.__init__" e)) (hz : rest.length ≤ sizeLine)
    (hq : ∀ h' t1, (∀ b o, b ≠ e → h.get? b = some o → h'.get? b = some o) → h'.get? e = some (excO C t1) → Q .none ⟨h', g, d, t, os⟩) :
    wpAny (model prog w) A (PySem.call (.ref u) rest) Q E ⟨h, g, d, t, os⟩ := by
  refine wpAny_call (codeAny_of_tree ?_)
  show wpAny _ A.in1 (callAny (.ref u) ⟨rest, []⟩) _ _ _
  unfold callAny
  refine wpAny_bind (wpAny_load hu ?_)
  have y1 : (Value.type "method-wrapper" == Value.type "method" || Value.type "method-wrapper" == Value.type "builtin_function_or_method" || Value.type "method-wrapper" == Value.type "method-wrapper") = true := by decide
  simp only [kxs_mw, y1, if_true]
  refine KFB.if_so (by decide) ?_
  refine wpAny_bind (check_bound_init F.excBase_ValueError.toExcCallFacts hC he rfl ?_)
  refine wpAny_bind (wpAny_pure (wpAny_pure ?_))
  refine ⟨plainId_quiet F.excBase_ValueError.init.plain _, codeAny_builtin F.excBase_ValueError.initEntry ?_⟩
  exact exc_init_tree (cls := .ref C) (t0 := t0) (dv := none) (c2 := .none) (c3 := .none) (b4 := .bool false) he hz fun h' k e' _ => hq h' _ k e'
theorem bound_name {env : Env} {s : Shared} {m : Str → Option Value} {y : Str} {pos : Pos} {u : Value} {Q : Value → Shared → Prop} {M : Model} (hn : s.heap.Ns env.locals m) (hv : m y = some u) (h : Q u s)
    (hk : env.scope.kind = .function := by rfl) (hl : env.kindOf y = some .local := by rfl) (hd : (y == ("__debug__" : Str)) = false := by decide) : wpAny M A (eval (.Name y pos) env) Q E s := wpAny_Name (wpAny_loadName_local hk hl hn hv h) hd
theorem err_init (T : ErrTxt prog K mg C fI) {s : Shared} {x t0 : Addr} {v : Value} (X : K.In s.heap) (G : s.heap.Ns mainGlobals mg) (B : ∃ mb, s.heap.Ns builtinsNs mb ∧ mb "super" = bootBuiltins "super") (hlim : s.heap.NoLimit) (hx : s.heap.get? x = some (excO C t0)) (hnx : K.lookup x = none) (hroom : A.depth < recursionLimit)
    (hq : ∀ h' tk dx t1, Left s.heap h' x C dx t1 v → R (.ok (.ret .none)) { s with heap := h', toks := tk }) :
    codeAny (model prog w) A (.call (.ref fI) ⟨[.ref x, v], []⟩) R s := by
  obtain ⟨oc, od, doc, pm, an, cda, cc, ct, osl, msg, j, p1, p2, o1, o2, o3, o4, o5, o6, q1, q2, q3, q4, ho, hcd, ⟨ccl, cdd, vs, ccs, file, tf, hcode, hvs, hfile⟩, hev, cl, cld, csl, hcell⟩ := T.fn
  obtain ⟨nm, q, N, bs, bm, sn, sub, ab, col, dd, k0, k1, k2, k3, k5, hC, hbm⟩ := T.cls
  obtain ⟨mb, hB, hmb⟩ := B
  have hcl : clsIn K C = some { name := nm, bases := bs, mro := .ref C :: bm, ns := N, qualname := q, hasDict := true, slotNames := sn, subclasses := sub, abstract := ab, collection := col, hasDel := false } := by unfold clsIn; rw [hC] <;> rfl
  obtain ⟨hp, g, d, t, os⟩ := s
  refine ks_codeAny_call_defAt (binds := [((PySem.Str.ofString "self"), Value.ref x), ((PySem.Str.ofString "option"), v)]) hroom (X _ _ ho) rfl hlim (codeRec_of X hcd) rfl (BindsTo.of_eq (by first | rfl | with_unfolding_all rfl)) (show ∀ y ∈ eS.names, y.2 ≠ .cell by decide +kernel) (fun y hy => ?_) (fun h₁ hns k₁ => ?_) rfl rfl rfl
  · have hy' : y = ((PySem.Str.ofString "self"), Value.ref x) ∨ y = ((PySem.Str.ofString "option"), v) := by simpa using hy
    rcases hy' with e | e <;> rw [e] <;> rfl
  · have X₁ : K.In h₁ := X.keeps k₁
    have hx₁ : h₁.get? x = some (excO C t0) := k₁ _ _ hx
    obtain ⟨pl, hev⟩ := hev (ksEnv "BadLanguage.__init__" eS hp.objs.size fI (.ref cda) cc)
    refine ks_wpAt_execs_cons (ks_wpAt_Expr_any (ks_wpAt_MethodCall ?_ hev))
    refine ks_wpAt_super_base rfl rfl (by decide +kernel) rfl (X₁ _ _ ho) rfl rfl rfl (X₁ _ _ hcode) rfl hvs hfile T.top ?_
    refine ks_loadName_global rfl rfl (loadGlobal_builtin (G.keeps k₁) T.su (hB.keeps k₁) (hmb.trans PyProof.Rows.Boot.«super») ⟨rfl, ?_⟩)
    refine wpAny_loadName_free rfl rfl rfl ⟨_, X₁ _ _ hcell, rfl⟩ ?_
    refine wpAny_loadName_local (v := .ref x) rfl rfl hns rfl ?_
    have hC₁ := X₁ _ _ hC
    refine ks_wpAny_isType_cls hC₁ rfl ⟨rfl, ?_⟩
    refine ks_wpAny_call_super hC₁ rfl hx₁ rfl (fun c e => by cases e) (looks_mroIn X₁ T.sub) (fun h₂ e₂ k₂ => ?_)
    have X₂ : K.In h₂ := X₁.keeps k₂
    have hx₂ := k₂ _ _ hx₁
    have I₂ : InstAt h₂ x (excO C t0) C none := ⟨hx₂, rfl, rfl, trivial⟩
    have hxC : x ≠ C := fun z => by rw [z, hC] at hnx; cases hnx
    have hsup : alongIn K "__init__" (((Value.ref C :: bm).dropWhile (· != .ref C)).drop 1) = some (some (.builtin "ValueError.__init__")) := by
      have z := T.sup
      unfold ks_superIn at z
      rw [hcl] at z
      exact z
    refine kxs_getMethod kxs_ValueError e₂ (looks_opaque X₂ T.tp) (l₀ := Value.ref C :: bm) ((looks_clsIn X₂ hcl).andThen .now) rfl X₂ hsup (I₂.type.andThen (looks_subIn X₂ T.vaC)) hxC (by decide +kernel) ?_
    have k₃ : ∀ b o, h₂.get? b = some o → (h₂.push (kxs_mw "ValueError.__init__" x)).get? b = some o := fun b o e => Heap.get?_push_of_some _ e
    have hu₃ : (h₂.push (kxs_mw "ValueError.__init__" x)).get? h₂.objs.size = some (kxs_mw "ValueError.__init__" x) := Heap.get?_push_at rfl rfl
    refine kxs_callWith (i := "ValueError.__init__") (x := x) rfl (evalArgs_plain (spliced_cons (Constant_str (k := j) (pos := o4) (spliced_nil ⟨hu₃, ?_⟩))))
    refine wrapped (k₃ _ _ (X₂ _ _ hC)) (k₃ _ _ hx₂) hu₃ (one_len _) fun h₄ t1 k₄ hx₄ => ?_
    have k14 : ∀ b o, b ≠ x → h₁.get? b = some o → h₄.get? b = some o := fun b o n e => k₄ b o n (k₃ _ _ (k₂ _ _ e))
    have hL : hp.objs.size ≠ x := Nat.ne_of_gt (Heap.lt_size hx)
    have hns₄ : h₄.Ns hp.objs.size (fun y => List.lookup y [((PySem.Str.ofString "self"), Value.ref x), ((PySem.Str.ofString "option"), v)].reverse) := hns.at fun o e => k14 _ _ hL e
    have X₄ : K.In h₄ := fun b o e => k14 b o (fun z => by rw [z, hnx] at e; cases e) (X₁ b o e)
    refine wpAt_of_wpAny (wpAny_execs_cons (plainObj_wpAny_Assign_Attribute ?_))
    refine bound_name (env := ksEnv "BadLanguage.__init__" eS hp.objs.size fI (.ref cda) cc) hns₄ (u := v) rfl (bound_name (env := ksEnv "BadLanguage.__init__" eS hp.objs.size fI (.ref cda) cc) hns₄ (u := .ref x) rfl ?_)
    refine set_plain X₄ (ox := excO C t1) (od := none) ⟨hx₄, rfl, rfl, trivial⟩ T.sa ?_
    refine exc_osa X₄ hx₄ hcl (show refsVE (.ref C :: bm) = true from hbm) rfl T.noN (fun h₅ tk₅ dx k₅ dn dne hx₅ hn₅ => ?_)
    show wpAny _ _ (execs _ _) _ _ _
    have hz : hp.objs.size ≤ h₄.objs.size := Nat.le_of_lt hns₄.lt
    exact wpAny_execs_nil (hq h₅ tk₅ dx t1 ⟨fun b o hb e => k₅ b o hb (k14 b o hb (k₁ b o e)), hx₅, Nat.le_trans hz dn, dne, hn₅⟩)
/-- a made BadLanguage -/
structure Made (h h' : Heap) (e C d : Addr) (v : Value) : Prop where
  keep : ∀ b o, h.get? b = some o → h'.get? b = some o
  new : h.objs.size ≤ e
  obj : ∃ oe vs, h'.get? e = some oe ∧ oe.cls = .ref C ∧ oe.dict = some d ∧ oe.data = .fields vs ∧ vs[1]? = some .none
  dbig : h.objs.size ≤ d
  dne : d ≠ e
  ns : h'.Ns1 d (fun y => if y = "option" then some v else none)
theorem err_made (T : ErrTxt prog K mg C fI) {s : Shared} {v : Value} (X : K.In s.heap) (G : s.heap.Ns mainGlobals mg) (B : ∃ mb, s.heap.Ns builtinsNs mb ∧ mb "super" = bootBuiltins "super") (hlim : s.heap.NoLimit) (hroom : A.depth + 1 < recursionLimit)
    (hq : ∀ h' tk e d, Made s.heap h' e C d v → R (.ok (.ret (.ref e))) { s with heap := h', toks := tk }) : codeAny (model prog w) A (.call (.ref C) ⟨[v], []⟩) R s := by
  obtain ⟨nm, q, N, bs, bm, sn, sub, ab, col, dd, k0, k1, k2, k3, k5, hC, hbm⟩ := T.cls
  obtain ⟨mb, hB, hmb⟩ := B
  obtain ⟨hp, g, dr, tk, os⟩ := s
  have k : ∀ b o, hp.get? b = some o → ((hp.push (kdv_tup [v])).push (excO C hp.objs.size)).get? b = some o := fun b o e => Heap.get?_push_of_some _ (Heap.get?_push_of_some _ e)
  have hget : ((hp.push (kdv_tup [v])).push (excO C hp.objs.size)).get? (hp.objs.size + 1) = some (excO C hp.objs.size) := by heap_get
  have hnx : K.lookup (hp.objs.size + 1) = none := by
    cases e : K.lookup (hp.objs.size + 1) with
    | none => rfl
    | some o => exact absurd (Nat.lt_of_succ_lt (Heap.lt_size (X _ _ e))) (Nat.lt_irrefl _)
  refine call_own F.excBase_ValueError (fun X => refsVE_contains X bm hbm) (X _ _ hC) (looks_findIn X T.iC) (fun self => bind_fn X self T.tC) (one_len v) ?_
  refine err_init (s := ⟨(hp.push (kdv_tup [v])).push (excO C hp.objs.size), g, dr, tk, os⟩) T (X.keeps k) (G.keeps k) ⟨mb, hB.keeps k, hmb⟩ (hlim.keeps k) hget hnx (show A.depth + 1 < recursionLimit from hroom) fun h' tk' dx t1 L => ?_
  have old : ∀ b o, hp.get? b = some o → h'.get? b = some o := fun b o e => L.keep b o (Nat.ne_of_lt (Nat.lt_succ_of_lt (Heap.lt_size e))) (k b o e)
  have big : hp.objs.size ≤ dx := by
    have z := L.dbig
    rw [Heap.size_push, Heap.size_push] at z
    omega
  exact ⟨rfl, hq h' tk' (hp.objs.size + 1) dx ⟨old, Nat.le_succ _, ⟨_, _, L.obj, rfl, rfl, rfl, rfl⟩, big, L.dne, L.ns⟩⟩
end
end K2E
namespace L2
open PySem PySem.Spec PyProof.Rows K2E
theorem relO_at {v : V} {v' : Value} (r : RelV v v') (f : Str) : RelO (List.lookup f [(("option" : Str), v)]) (if f = "option" then some v' else none) := by
  by_cases hw : f = "option"
  · rw [if_pos hw, hw]
    have q : List.lookup ("option" : Str) [(("option" : Str), v)] = some v := by simp [List.lookup]
    rw [q]
    exact r
  · rw [if_neg hw]
    have qw : (f == ("option" : Str)) = false := by simpa using hw
    have q2 : List.lookup f [(("option" : Str), v)] = none := by simp [List.lookup, qw]
    rw [q2]
    trivial
section
variable {X : Cx} {C fI : Addr}
/-- BadLanguage(e) -/
def tErr (C : Addr) (ta : TA) : St → Hp → XK → Prop := fun σ H Q => ta σ H fun vs H1 => ∃ v, vs = [v] ∧ ∀ d, H1 d = none → Q (.ref C) (some d) (upd H1 d (.xd [(("option" : Str), v)]))
theorem pmk_err {a : Expr} {ta : TA} {p pos : Pos} {k : Nat} (T : ErrTxt X.prog X.K X.mg C fI) (hr : Room k X.A) (ha : PA X [a] ta) (hg : Gl X "BadLanguage" := by rfl)
    (he : starEach (a :: []) X.env = (false, eval a X.env) :: starEach [] X.env := by rfl) (hpl : (backTo pos (starEach [] X.env)).any (·.1) = false := by rfl) :
    PMk X (.Call (.Name "BadLanguage" p) [a] [] pos) (tErr C ta) := by
  intro pins s σ H Q I h
  refine wpAny_Call_Name_kw (ld_glob I hg T.gC ?_)
  refine PySem.W.callWith_K (h₀ := X.base) I.ok.mod.kin T.kC (thn (ha.run pos pins s σ H _ I h) fun us s1 hh => ?_) he hpl
  obtain ⟨vs, H1, I1, r1, v, ev, q1⟩ := hh
  subst ev
  refine ⟨I1.kIn, ?_⟩
  cases r1 with
  | cons rv rn =>
    rename_i v' us'
    cases rn
    show wpAny _ _ (PySem.call (.ref C) [v']) _ _ _
    have hlim := I1.nolimit
    obtain ⟨mb, hb1, hb2⟩ := I1.mod.blt
    have G1 : s1.heap.Ns mainGlobals X.mg := I1.mod.glob.keeps I1.bk
    have B1 : ∃ mb, s1.heap.Ns builtinsNs mb ∧ mb "super" = bootBuiltins "super" := ⟨mb, hb1.keeps I1.bk, hb2 _ (by decide +kernel)⟩
    obtain ⟨hp, g, dr, tk, os⟩ := s1
    refine wpAny_call (err_made T I1.kIn G1 B1 hlim (by have := hr.dp; omega) fun h' tk' e d M => ?_)
    show MkP X pins σ Q (.ref e) ⟨h', g, dr, tk', os⟩
    obtain ⟨oe, fv, hoe, hc, hd, hdat, h1⟩ := M.obj
    have hns := M.ns
    obtain ⟨G', g1, g2⟩ := restrict h' fun b => decide (b ≠ e)
    have gk : ∀ b, b ≠ e → G'.get? b = h'.get? b := fun b hb => g1 b (decide_eq_true hb)
    have ge : G'.get? e = none := g2 e (by simp)
    have old : ∀ b o, hp.get? b = some o → G'.get? b = some o := fun b o q => (gk b (Nat.ne_of_lt (Nat.lt_of_lt_of_le (Heap.lt_size q) M.new))).trans (M.keep b o q)
    have ob : ObjOk X.prog X.w (upd H1 d (.xd [(("option" : Str), v)])) G' d (.xd [(("option" : Str), v)]) :=
      ⟨_, hns.at (fun o q => (gk d M.dne).trans q), fun f => relO_at rv f⟩
    have J : Inv X pins σ (upd H1 d (.xd [(("option" : Str), v)])) ⟨G', g, dr, tk', os⟩ := I1.laid (t' := tk') old M.dbig ob
    refine ⟨e, oe, fv, ⟨G', g, dr, tk', os⟩, _, .ref C, some d, rfl, J, fun b o q => ?_, ge, hoe, ⟨hc, hd⟩, hdat, h1, ?_, rfl, I1.bare, raises_own T.exC T.tyC, q1 d (I1.hok.fresh M.dbig)⟩
    · by_cases hb : b = e
      · have q' : G'.get? b = some o := q
        rw [hb, ge] at q'
        cases q'
      · exact (gk b hb).symm.trans q
    · rw [upd_ne (Ne.symm M.dne)]
      exact I1.hok.fresh M.new
/-- raise BadLanguage(e) -/
theorem ps_raiseErr {a : Expr} {ta : TA} {W : WX} {p pos pos2 : Pos} {k : Nat} (hc : X.calm = true) (T : ErrTxt X.prog X.K X.mg C fI) (hr : Room k X.A) (tk : Takes X W) (ha : PA X [a] ta) (hg : Gl X "BadLanguage" := by rfl)
    (he : starEach (a :: []) X.env = (false, eval a X.env) :: starEach [] X.env := by rfl) (hpl : (backTo pos (starEach [] X.env)).any (·.1) = false := by rfl) :
    PS X (.Raise (some (.Call (.Name "BadLanguage" p) [a] [] pos)) none pos2) (fun _ σ H => tErr C ta σ H fun cls d H' => W cls d σ H') := ps_raise hc tk (pmk_err T hr ha hg he hpl)
end
end L2

namespace K2
open PySem L2
abbrev sOneOf : Stmt := top 5
theorem inV_strs (z : Str) (ws : List Str) : inV (.str z) (ws.map V.str) = decide (z ∈ ws) := by
  unfold inV
  induction ws with
  | nil => rfl
  | cons y ws ih =>
    rw [List.map_cons, List.any_cons, ih]
    show (y == z || _) = _
    by_cases h : y = z
    · subst h; simp
    · have h' : ¬ z = y := fun e => h e.symm
      have e : (y == z) = false := by simpa using h
      rw [e, Bool.false_or]
      simp [h']
theorem flat_strs (ws : List Str) : (ws.map V.str).all flatV = true := by
  rw [List.all_map]
  exact List.all_eq_true.mpr fun _ _ => rfl
theorem all_id_map {α : Type} (p : α → Bool) (l : List α) : (l.map p).all id = l.all p := by
  induction l with
  | nil => rfl
  | cons a l ih => rw [List.map_cons, List.all_cons, List.all_cons, ih]; rfl
theorem take_more {α β : Type} (f : α → β) {l : List α} {i : Nat} {c : α} (h : l[i]? = some c) : (l.take i).map f ++ [f c] = (l.take (i + 1)).map f := by
  rw [List.take_add_one, h, List.map_append]
  rfl
/-- a thing that may be a text -/
def Thing (K : PySem.W.Frag) (H : Hp) (v : V) (o : Option Str) : Prop := (∃ z, v = .str z ∧ o = some z) ∨ (o = none ∧ ∃ t, TyX K H v t ∧ PySem.W.kitOne K t (.type "str") = some false)
def spOneOf (K : PySem.W.Frag) : Sp := fun vs H Q _ => ∃ (v : V) (o : Option Str) (a : Addr) (ws : List Str), vs = [v, .ref a] ∧ Thing K H v o ∧ SqT K H a (ws.map V.str) ∧ Q (.bl (o.elim false fun z => decide (z ∈ ws))) H
theorem line_ge {n : Nat} (h : n ≤ 1000000) : n ≤ sizeLine := Nat.le_trans h (by decide)
theorem Same.put {H H1 : Hp} {l : Addr} {o : HO} (a : Same H H1) (hl : H l = none) : Same H (upd H1 l o) := fun b u h => by
  rw [upd_ne (ne_of_none h hl)]
  exact a b u h
theorem eq_strB (x y : Str) : decide (V.str x = V.str y) = decide (x = y) := by
  by_cases h : x = y
  · rw [h]; simp
  · have : ¬ V.str x = V.str y := fun z => h (V.str.inj z)
    rw [decide_eq_false h, decide_eq_false this]
theorem pool_ne {H' : Hp} {p D : Addr} {n : Nat} (a : Pool H' p n) (h : H' D = none) : D ≠ p := by
  obtain ⟨_, _, _, e, _⟩ := a
  exact Ne.symm (ne_of_none e h)
theorem Keep.free {p D : Addr} {H H1 : Hp} (k : Keep p H H1) (n : D ≠ p) (h : H1 D = none) : H D = none := by
  cases e : H D with
  | none => rfl
  | some o =>
    rw [k D o n e] at h
    cases h
theorem Same.keep {p : Addr} {H H1 : Hp} (s : Same H H1) : Keep p H H1 := fun b o _ e => s b o e
theorem Pool.same {H H1 : Hp} {p : Addr} {c : Nat} (a : Pool H p c) (s : Same H H1) : Pool H1 p c := by
  obtain ⟨g, m, k, h, r⟩ := a
  exact ⟨g, m, k, s _ _ h, r⟩
theorem Same.free {H H1 : Hp} {T' : Addr} (s : Same H H1) (h : H1 T' = none) : H T' = none := by
  cases e : H T' with
  | none => rfl
  | some o =>
    rw [s _ _ e] at h
    cases h
theorem Keep.same {p : Addr} {H H1 H2 : Hp} (k : Keep p H1 H2) (s : Same H H1) (hp : H p = none) : Same H H2 := fun b o e => k b o (ne_of_none e hp) (s b o e)
mutual
theorem dp_same {K : PySem.W.Frag} {H H' : Hp} (s : Same H H') : ∀ (d : PyData) {v : V}, Dp K H v d → Dp K H' v d
  | .none, _, h => by cases h; exact .non
  | .bool _, _, h => by cases h; exact .bl _
  | .int _, _, h => by cases h; exact .int _
  | .str _, _, h => by cases h; exact .str _
  | .list ds, _, h => by
    cases h with
    | lst h1 h2 => exact .lst (s.seq h1) (dpAll_same s ds h2)
  | .tuple ds, _, h => by
    cases h with
    | tup h1 h2 => exact .tup (SqT.ext h1 s) (dpAll_same s ds h2)
  | .dict _, _, h => by cases h
theorem dpAll_same {K : PySem.W.Frag} {H H' : Hp} (s : Same H H') : ∀ (ds : List PyData) {vs : List V}, DpAll K H vs ds → DpAll K H' vs ds
  | [], _, h => by cases h; exact .nil
  | d :: ds, _, h => by
    cases h with
    | cons h1 h2 => exact .cons (dp_same s d h1) (dpAll_same s ds h2)
end
theorem DpAll.len {K : PySem.W.Frag} {H : Hp} : ∀ {ds : List PyData} {vs : List V}, DpAll K H vs ds → vs.length = ds.length
  | [], _, h => by cases h; rfl
  | d :: ds, _, h => by
    cases h with
    | cons h1 h2 => rw [List.length_cons, List.length_cons, DpAll.len h2]
theorem DpAll.drop {K : PySem.W.Frag} {H : Hp} : ∀ {ds : List PyData} {vs : List V} (k : Nat), DpAll K H vs ds → DpAll K H (vs.drop k) (ds.drop k)
  | _, _, 0, h => h
  | [], _, k + 1, h => by cases h; exact .nil
  | d :: ds, _, k + 1, h => by
    cases h with
    | cons h1 h2 => exact DpAll.drop k h2
theorem DpAll.take {K : PySem.W.Frag} {H : Hp} : ∀ {ds : List PyData} {vs : List V} (k : Nat), DpAll K H vs ds → DpAll K H (vs.take k) (ds.take k)
  | _, _, 0, _ => .nil
  | [], _, k + 1, h => by cases h; exact .nil
  | d :: ds, _, k + 1, h => by
    cases h with
    | cons h1 h2 => exact .cons h1 (DpAll.take k h2)
theorem DpAll.app {K : PySem.W.Frag} {H : Hp} : ∀ {ds es : List PyData} {vs us : List V}, DpAll K H vs ds → DpAll K H us es → DpAll K H (vs ++ us) (ds ++ es)
  | [], _, _, _, h, h' => by cases h; exact h'
  | d :: ds, _, _, _, h, h' => by
    cases h with
    | cons h1 h2 => exact .cons h1 (DpAll.app h2 h')
theorem DpAll.rev {K : PySem.W.Frag} {H : Hp} : ∀ {ds : List PyData} {vs : List V}, DpAll K H vs ds → DpAll K H vs.reverse ds.reverse
  | [], _, h => by cases h; exact .nil
  | d :: ds, _, h => by
    cases h with
    | cons h1 h2 =>
      rw [List.reverse_cons, List.reverse_cons]
      exact DpAll.app (DpAll.rev h2) (.cons h1 .nil)
theorem DpAll.at {K : PySem.W.Frag} {H : Hp} : ∀ {ds : List PyData} {vs : List V} {k : Nat} {d : PyData}, DpAll K H vs ds → ds[k]? = some d → ∃ v, vs[k]? = some v ∧ Dp K H v d
  | [], _, _, _, _, e => by cases e
  | d :: ds, _, 0, _, h, e => by
    cases h with
    | cons h1 h2 => exact ⟨_, rfl, (Option.some.inj e) ▸ h1⟩
  | d :: ds, _, k + 1, _, h, e => by
    cases h with
    | cons h1 h2 => exact DpAll.at (ds := ds) (k := k) h2 e
/-- data that == and repr can be asked of -/
structure Fair1 (d : PyData) : Prop where
  lay : d.canLay0 = true
  dep : d.depth ≤ 10
  show_ : d.showable = true
  dict : d.hasDict = false
  len : d.shown.length ≤ 400
def Fair (ds : List PyData) : Prop := ∀ d ∈ ds, Fair1 d
theorem Fair1.shaped {d : PyData} (f : Fair1 d) : SeqAt.shaped d = true := by
  unfold SeqAt.shaped
  rw [f.lay, Bool.true_and]
  exact decide_eq_true (Nat.le_trans f.dep (by decide))
/-- all of many -/
structure FairL (ds : List PyData) : Prop where
  lay : PyData.canLayAll0 ds = true
  dep : PyData.depthAll ds ≤ 10
  show_ : PyData.showableAll ds = true
  dict : PyData.hasDictAll ds = false
  len : ((PyData.shownAll ds).map (·.length)).sum ≤ 400 * ds.length
  num : (PyData.shownAll ds).length = ds.length
theorem Fair.all : ∀ {ds : List PyData}, Fair ds → FairL ds
  | [], _ => ⟨rfl, by decide, rfl, rfl, by decide, rfl⟩
  | d :: ds, f => by
    have h := f d (List.mem_cons_self ..)
    have r := Fair.all (ds := ds) fun x hx => f x (List.mem_cons_of_mem _ hx)
    refine ⟨?_, ?_, ?_, ?_, ?_, ?_⟩
    · rw [PyData.canLayAll0, h.lay, r.lay]; rfl
    · rw [PyData.depthAll]; exact Nat.max_le.mpr ⟨h.dep, r.dep⟩
    · rw [PyData.showableAll, h.show_, r.show_]; rfl
    · rw [PyData.hasDictAll, h.dict, r.dict]; rfl
    · have a := h.len
      have b := r.len
      rw [PyData.shownAll, List.map_cons, List.sum_cons, List.length_cons]
      omega
    · rw [PyData.shownAll, List.length_cons, List.length_cons, r.num]
theorem fair_shaped {ds : List PyData} (f : Fair ds) : SeqAt.shaped (.list ds) = true := by
  have r := f.all
  unfold SeqAt.shaped
  rw [PyData.canLay0, r.lay, Bool.true_and, PyData.depth]
  exact decide_eq_true (by have := r.dep; omega)
theorem fair_shaped_t {ds : List PyData} (f : Fair ds) : SeqAt.shaped (.tuple ds) = true := by
  have r := f.all
  unfold SeqAt.shaped
  rw [PyData.canLay0, r.lay, Bool.true_and, PyData.depth]
  exact decide_eq_true (by have := r.dep; omega)
theorem Fair.sub {ds es : List PyData} (f : Fair ds) (h : ∀ d ∈ es, d ∈ ds) : Fair es := fun d hd => f d (h d hd)
/-- what repr asks of data -/
structure ShownOk (d : PyData) : Prop where
  s : d.showable = true
  n : d.hasDict = false
  dp : d.depth ≤ 60
  l : d.shown.length ≤ sizeLine
theorem Fair1.ok {d : PyData} (f : Fair1 d) : ShownOk d := ⟨f.show_, f.dict, Nat.le_trans f.dep (by decide), line_ge (Nat.le_trans f.len (by decide))⟩
theorem sum_le {xs : List PyData} {n : Nat} (h : xs.length ≤ n) (f : ((PyData.shownAll xs).map (·.length)).sum ≤ 400 * xs.length) : ((PyData.shownAll xs).map (·.length)).sum ≤ 400 * n := by
  have := Nat.mul_le_mul_left 400 h
  omega
theorem list_len {ds : List PyData} (f : Fair ds) (h : ds.length ≤ 200) : (PyData.list ds).shown.length ≤ 90000 := by
  have r := f.all
  have a := listText_len_le (PyData.shownAll ds)
  have b := sum_le h r.len
  rw [r.num] at a
  rw [PyData.shown]
  omega
theorem Fair.listOk {ds : List PyData} (f : Fair ds) (h : ds.length ≤ 200) : ShownOk (.list ds) := by
  have r := f.all
  refine ⟨by rw [PyData.showable]; exact r.show_, by rw [PyData.hasDict]; exact r.dict, by rw [PyData.depth]; have := r.dep; omega, line_ge (Nat.le_trans (list_len f h) (by decide))⟩
theorem Fair.tupOk {ds : List PyData} (f : Fair ds) (h : ds.length ≤ 200) : ShownOk (.tuple ds) := by
  have r := f.all
  refine ⟨by rw [PyData.showable]; exact r.show_, by rw [PyData.hasDict]; exact r.dict, by rw [PyData.depth]; have := r.dep; omega, ?_⟩
  have a := tupleText_len_le (PyData.shownAll ds)
  have b := sum_le h r.len
  rw [r.num] at a
  rw [PyData.shown]
  exact line_ge (by omega)
def fairB (d : PyData) : Bool := d.canLay0 && (decide (d.depth ≤ 10) && (d.showable && (!d.hasDict && decide (d.shown.length ≤ 400))))
theorem fair_of {d : PyData} (h : fairB d = true) : Fair1 d := by
  unfold fairB at h
  simp only [Bool.and_eq_true, Bool.not_eq_true', decide_eq_true_eq] at h
  exact ⟨h.1, h.2.1, h.2.2.1, h.2.2.2.1, h.2.2.2.2⟩
theorem ne_lst {H : Hp} {b kp : Addr} {o : HO} {L : List V} (h : H b = some o) (hk : H kp = some (.lst L)) (n : o ≠ .lst L) : b ≠ kp := fun e => n (by rw [e, hk] at h; exact (Option.some.inj h).symm)
theorem pool_lst {H : Hp} {p : Addr} {c : Nat} (h : Pool H p c) : ∃ L, H p = some (.lst L) := by
  obtain ⟨g, m, k, e, _⟩ := h
  exact ⟨_, e⟩
theorem bool_ok (b : Bool) : ShownOk (.bool b) := by
  cases b <;> exact (fair_of (by decide +kernel)).ok
theorem eqv_self {d : PyData} (h : SeqAt.shaped d = true) : PyData.eqv d d = true := by
  unfold SeqAt.shaped at h
  exact SeqAt.eqv_refl d (Bool.and_eq_true_iff.mp h).1
section
variable {P : Program} {w : World} {K : PySem.W.Frag} {mg : Str → Option Value} {base : Heap}
theorem scOneOf : FnScope ["thing", "words"] ["thing", "words"] (defScope sOneOf) := ⟨rfl, rfl, rfl, by decide +kernel, rfl, by decide +kernel, by decide +kernel⟩
theorem ok_oneOf {f : Addr} {fd : FuncData} (F : Fun K "is_one_of" "is_one_of" sOneOf f fd) (T : Bare mg) : FnOk P w K mg base CX0 1 f fd ["thing", "words"] (spOneOf K) := by
  refine F.ok scOneOf (fun vs H Q E h => ?_) (fun cdv A outer s H vs Q E hr h => ?_)
  · obtain ⟨v, o, a, ws, rfl, _⟩ := h
    rfl
  · obtain ⟨v, o, a, ws, rfl, hv, ht, q⟩ := h
    refine ⟨_, pss_one (ps_ret (pe_and (pe_callB call_isi (by rfl) T.isi (by decide +kernel) (pa_cons (pv 0) (pa_cons (pe_bltn (v := .ty "str") (by rfl) T.str (by decide +kernel) rfl) pa_nil)))
      (pe_one (pe_cmpR op_in_seq (pv 0) (pv 1) (by rfl))))), ?_⟩
    rcases hv with ⟨z, rfl, rfl⟩ | ⟨rfl, t, ty, kt⟩
    · refine ⟨_, rfl, .str z, .ty "str", .type "str", .type "str", true, rfl, .ty "str", .base (.str z), kit_ty (by decide +kernel), true, rfl, iteT ⟨_, rfl, _, rfl, a, _, rfl, .inr ht, rfl, flat_strs ws, ?_⟩⟩
      show Q (.bl (inV (.str z) (ws.map V.str))) H
      rw [inV_strs]
      exact q
    · exact ⟨_, rfl, v, .ty "str", t, .type "str", false, rfl, .ty "str", ty, kt, false, rfl, iteF q⟩
end
end K2

namespace L2
open PySem PySem.Spec PyProof.Rows
/-- x is True, x is False, whatever x is -/
theorem op_isAny {X : Cx} : OpR X (compareOp .Is) (fun x y H Q => ∃ b : Bool, y = .bl b ∧ Q (.bl (decide (x = .bl b))) H) := by
  intro pins s σ H x y v u Q I rx ry h
  obtain ⟨b, rfl, q⟩ := h
  cases (show u = Value.bool b from ry)
  by_cases e : x = .bl b
  · subst e
    cases (show v = Value.bool b from rx)
    exact wpAny_is_self rfl ⟨.bl true, H, I, rfl, by simpa using q⟩
  · have ne : v ≠ Value.bool b := by
      rintro rfl
      cases x with
      | bl a =>
        have z : Value.bool b = Value.bool a := rx
        exact e (by rw [Value.bool.inj z])
      | int i => obtain ⟨t, z⟩ := rx; cases z
      | str i => obtain ⟨t, z⟩ := rx; cases z
      | byt i => obtain ⟨t, z⟩ := rx; cases z
      | flt i => obtain ⟨t, z⟩ := rx; cases z
      | non => cases rx
      | ref a => cases rx
      | ty n => cases rx
    exact wpAny_is_other (by cases x <;> first | (cases rx; rfl) | (obtain ⟨t, rfl⟩ := rx; rfl)) ne ⟨.bl false, H, I, rfl, by simpa [e] using q⟩
end L2

namespace L2
open PySem PySem.Spec PyProof.Rows
/-- one way of walking or another -/
theorem pi_or {X : Cx} {tg l : Expr} {t1 t2 : TI} (h1 : PI X tg l t1) (h2 : PI X tg l t2) : PI X tg l (fun σ H R => t1 σ H R ∨ t2 σ H R) :=
  ⟨fun pins s σ H R I h => h.elim (h1.run pins s σ H R I) (h2.run pins s σ H R I)⟩
end L2
namespace K2
open PySem L2
/-- a def of the program that lets no error out, with all that its call asks -/
abbrev Fn (P : Program) (w : World) (K : PySem.W.Frag) (mg : Str → Option Value) (base : Heap) (n : Nat) (x : Str) (ps : List Str) (sp : Sp) : Prop :=
  ∃ f fd, PySem.W.keepIn K (.ref f) = true ∧ FnOk P w K mg base CX0 n f fd ps sp ∧ Binds K fd ps [] ∧ mg x = some (.ref f)
theorem pe_fn {X : Cx} {n : Nat} {x : Str} {ps : List Str} {sp : Sp} {p pos : Pos} {e : Expr} {es : List Expr} {t : TA} (F : Fn X.prog X.w X.K X.mg X.base n x ps sp) (hr : Room n X.A) (hg : Gl X x) (ha : PA X (e :: es) t)
    (hdb : (x == ("__debug__" : Str)) = false := by decide) (he : starEach (e :: es) X.env = (false, eval e X.env) :: starEach es X.env := by rfl) (hpl : (backTo pos (starEach es X.env)).any (·.1) = false := by rfl) :
    PE X (.Call (.Name x p) (e :: es) [] pos) (tCall sp [] (fun _ _ _ => False) t) := by
  obtain ⟨f, fd, k, G, b, m⟩ := F
  exact pe_call G hr hg m k b .nil pass0 ha hdb he hpl
abbrev sDoub : Stmt := top 10
abbrev sAllowed : Stmt := top 11
def sgn3 : List Str := ["=", ";", ","]
/-- the text that data are -/
def strD : PyData → Option Str
  | .str z => some z
  | _ => none
def inD (ws : List Str) (d : PyData) : Bool := (strD d).elim false fun z => decide (z ∈ ws)
def okSeq (ds : List PyData) : Bool := ds.all (inD sgn3) && decide (ds.filterMap strD).Nodup
/-- whether data are signs that may be doubled -/
def okDoub : PyData → Bool
  | .list ds => okSeq ds
  | .tuple ds => okSeq ds
  | _ => false
def Short (d : PyData) : Prop := ∀ ds, (d = .list ds ∨ d = .tuple ds) → ds.length ≤ 50
def isB : PyData → Bool
  | .bool _ => true
  | _ => false
theorem dp_thing {K : PySem.W.Frag} {H : Hp} {v : V} {d : PyData} (h : Dp K H v d) : Thing K H v (strD d) := by
  cases h with
  | str x => exact .inl ⟨x, rfl, rfl⟩
  | non => exact .inr ⟨rfl, _, .base .non, kit_ty (by decide +kernel)⟩
  | bl b => exact .inr ⟨rfl, _, .base (.bl b), kit_ty (by decide +kernel)⟩
  | int i => exact .inr ⟨rfl, _, .base (.int i), kit_ty (by decide +kernel)⟩
  | lst h1 _ =>
    rcases h1 with (h1 | ⟨o, h1⟩) | ⟨o, its, n, h1, h2, _⟩
    · exact .inr ⟨rfl, _, .base (.lst h1), kit_ty (by decide +kernel)⟩
    · exact .inr ⟨rfl, _, .base (.frz h1), kit_ty (by decide +kernel)⟩
    · exact .inr ⟨rfl, _, .kList h1 h2, kit_ty (by decide +kernel)⟩
  | tup h1 _ =>
    rcases h1 with (h1 | ⟨o, h1⟩) | ⟨o, its, n, h1, h2, _⟩
    · exact .inr ⟨rfl, _, .base (.tup h1), kit_ty (by decide +kernel)⟩
    · exact .inr ⟨rfl, _, .fTuple h1, kit_ty (by decide +kernel)⟩
    · exact .inr ⟨rfl, _, .kTuple h1 h2, kit_ty (by decide +kernel)⟩
theorem sql_ty {K : PySem.W.Frag} {H : Hp} {a : Addr} {xs : List V} (h : SqL K H a xs) : TyX K H (.ref a) (.type "list") := by
  rcases h with (h1 | ⟨o, h1⟩) | ⟨o, its, n, h1, h2, _⟩
  · exact .base (.lst h1)
  · exact .base (.frz h1)
  · exact .kList h1 h2
theorem sqt_ty {K : PySem.W.Frag} {H : Hp} {a : Addr} {xs : List V} (h : SqT K H a xs) : TyX K H (.ref a) (.type "tuple") := by
  rcases h with (h1 | ⟨o, h1⟩) | ⟨o, its, n, h1, h2, _⟩
  · exact .base (.tup h1)
  · exact .fTuple h1
  · exact .kTuple h1 h2
/-- data of signs alone are texts -/
theorem all_texts {K : PySem.W.Frag} {H : Hp} {ws : List Str} : ∀ {ds : List PyData} {vs : List V}, DpAll K H vs ds → ds.all (inD ws) = true → vs = (ds.filterMap strD).map V.str ∧ (ds.filterMap strD).length = ds.length
  | [], _, h, _ => by
    cases h
    exact ⟨rfl, rfl⟩
  | d :: ds, _, h, e => by
    cases h with
    | cons h1 h2 =>
      rw [List.all_cons, Bool.and_eq_true] at e
      obtain ⟨i1, i2⟩ := all_texts h2 e.2
      cases h1 with
      | str x =>
        rw [i1]
        exact ⟨rfl, congrArg (· + 1) i2⟩
      | non => exact absurd e.1 (by simp [inD, strD])
      | bl b => exact absurd e.1 (by cases b <;> simp [inD, strD])
      | int i => exact absurd e.1 (by simp [inD, strD])
      | lst _ _ => exact absurd e.1 (by simp [inD, strD])
      | tup _ _ => exact absurd e.1 (by simp [inD, strD])
theorem kit_seq {K : PySem.W.Frag} {t : String} {b1 b2 : Bool} (h1 : kitB t "tuple" = some b1) (h2 : kitB t "list" = some b2) : PySem.W.kitAny K (.type t) [.type "tuple", .type "list"] = some (b1 || b2) := by
  refine kitAny_cons (kit_ty h1) (fun e => ?_) (fun e => by rw [e]; rfl)
  rw [e, Bool.false_or]
  refine kitAny_cons (kit_ty h2) (fun e => ?_) (fun e => e)
  rw [e]
  rfl
/-- a list or a tuple, with its data -/
def RowD (K : PySem.W.Frag) (H : Hp) (a : Addr) (xs : List V) (d : PyData) (ds : List PyData) : Prop := (SqL K H a xs ∧ d = .list ds) ∨ (SqT K H a xs ∧ d = .tuple ds)
theorem seq_or {K : PySem.W.Frag} {H : Hp} {v : V} {d : PyData} (h : Dp K H v d) : (∃ a xs ds, v = .ref a ∧ DpAll K H xs ds ∧ RowD K H a xs d ds) ∨ (okDoub d = false ∧ ∃ t, (∀ H', TyX K H' v (.type t)) ∧ kitB t "tuple" = some false ∧ kitB t "list" = some false) := by
  cases h with
  | str x => exact .inr ⟨rfl, _, fun _ => .base (.str x), by decide +kernel, by decide +kernel⟩
  | non => exact .inr ⟨rfl, _, fun _ => .base .non, by decide +kernel, by decide +kernel⟩
  | bl b => exact .inr ⟨rfl, _, fun _ => .base (.bl b), by decide +kernel, by decide +kernel⟩
  | int i => exact .inr ⟨rfl, _, fun _ => .base (.int i), by decide +kernel, by decide +kernel⟩
  | lst h1 h2 => exact .inl ⟨_, _, _, rfl, h2, .inl ⟨h1, rfl⟩⟩
  | tup h1 h2 => exact .inl ⟨_, _, _, rfl, h2, .inr ⟨h1, rfl⟩⟩
theorem RowD.ok {K : PySem.W.Frag} {H : Hp} {a : Addr} {xs : List V} {d : PyData} {ds : List PyData} (h : RowD K H a xs d ds) : okDoub d = okSeq ds := by
  rcases h with ⟨_, rfl⟩ | ⟨_, rfl⟩ <;> rfl
theorem RowD.ty {K : PySem.W.Frag} {H : Hp} {a : Addr} {xs : List V} {d : PyData} {ds : List PyData} (h : RowD K H a xs d ds) : ∃ t, TyX K H (.ref a) t ∧ PySem.W.kitAny K t [.type "tuple", .type "list"] = some true := by
  rcases h with ⟨h, _⟩ | ⟨h, _⟩
  · exact ⟨_, sql_ty h, kit_seq (b1 := false) (b2 := true) (by decide +kernel) (by decide +kernel)⟩
  · exact ⟨_, sqt_ty h, kit_seq (b1 := true) (b2 := false) (by decide +kernel) (by decide +kernel)⟩
theorem RowD.same {K : PySem.W.Frag} {H H' : Hp} {a : Addr} {xs : List V} {d : PyData} {ds : List PyData} (h : RowD K H a xs d ds) (s : Same H H') : RowD K H' a xs d ds := by
  rcases h with ⟨h, e⟩ | ⟨h, e⟩
  · exact .inl ⟨s.seq h, e⟩
  · exact .inr ⟨SqT.ext h s, e⟩
theorem RowD.len {K : PySem.W.Frag} {H : Hp} {a : Addr} {xs : List V} {d : PyData} {ds : List PyData} (h : RowD K H a xs d ds) : LenV K (.ref a) H xs.length := by
  rcases h with ⟨h, _⟩ | ⟨h, _⟩
  · exact .inl ⟨_, h, rfl⟩
  · exact .inr ⟨_, h, rfl⟩
theorem RowD.short {K : PySem.W.Frag} {H : Hp} {a : Addr} {xs : List V} {d : PyData} {ds : List PyData} (h : RowD K H a xs d ds) (s : Short d) : ds.length ≤ 50 := by
  rcases h with ⟨_, e⟩ | ⟨_, e⟩
  · exact s ds (.inl e)
  · exact s ds (.inr e)
theorem DpAll.at2 {K : PySem.W.Frag} {H : Hp} : ∀ {ds : List PyData} {vs : List V} {k : Nat} {v : V}, DpAll K H vs ds → vs[k]? = some v → ∃ d, ds[k]? = some d ∧ Dp K H v d
  | [], _, _, _, h, e => by
    cases h
    cases e
  | d :: ds, _, 0, _, h, e => by
    cases h with
    | cons h1 h2 => exact ⟨d, rfl, (Option.some.inj e) ▸ h1⟩
  | d :: ds, _, k + 1, _, h, e => by
    cases h with
    | cons h1 h2 => exact DpAll.at2 (ds := ds) (k := k) h2 e
/-- at a stands a tuple of texts of the written part -/
def TupW (K : PySem.W.Frag) (a : Addr) (ws : List Str) : Prop := ∃ (o : Obj) (its : Array Value) (n : Nat), K.lookup a = some o ∧ o.cls = .type "tuple" ∧ o.data = .seq its n ∧ its.size ≤ sizeLine ∧ Vals (ws.map V.str) its.toList
theorem TupW.sq {K : PySem.W.Frag} {a : Addr} {ws : List Str} (h : TupW K a ws) (H : Hp) : SqT K H a (ws.map V.str) := .inr h
def names7 : List Str := ["equals", "end", "comma", "last", "doubled", "bare", "nothing"]
def chOf (o : Str) : Option (List Str) :=
  if o = "equals" then some ["must", "may"] else if o = "end" then some ["must", "between", "may"] else if o = "comma" then some ["must", "may", "joins"] else if o = "last" then some ["never", "may", "must"] else none
/-- the constants of the module -/
structure ModC (K : PySem.W.Frag) (w : World) (mg : Str → Option Value) (aD aO aC : Addr) : Prop extends Bare mg where
  dbl : mg "DOUBLED" = some (.ref aD)
  dtup : TupW K aD sgn3
  opt : mg "OPTIONS" = some (.ref aO)
  otup : TupW K aO names7
  cho : mg "CHOICES" = some (.ref aC)
  kd : ∃ es n, KDict K w aC es n
  ch : ∀ o ∈ names7, (chOf o = none → PySem.W.nsIn K aC o = some none) ∧ ∀ ws, chOf o = some ws → ∃ a, PySem.W.nsIn K aC o = some (some (.ref a)) ∧ TupW K a ws
def spDoub (K : PySem.W.Frag) : Sp := fun vs H Q _ => ∃ (v : V) (d : PyData), vs = [v] ∧ Dp K H v d ∧ Short d ∧ ∀ H', Same H H' → Q (.bl (okDoub d)) H'
/-- whether an option may be so -/
def okOpt (o : Str) (d : PyData) : Bool := (chOf o).elim (if o = "doubled" then okDoub d else isB d) fun ws => inD ws d
def spAllowed (K : PySem.W.Frag) : Sp := fun vs H Q _ => ∃ (o : Str) (v : V) (d : PyData), vs = [.str o, v] ∧ o ∈ names7 ∧ Dp K H v d ∧ Short d ∧ ∀ H', Same H H' → Q (.bl (okOpt o d)) H'
section
variable {P : Program} {w : World} {K : PySem.W.Frag} {mg : Str → Option Value} {base : Heap} {aD aO aC : Addr}
theorem scDoub : FnScope ["thing", "sign"] ["thing"] (defScope sDoub) := ⟨rfl, rfl, rfl, by decide +kernel, rfl, by decide +kernel, by decide +kernel⟩
theorem okSeq_false {ds : List PyData} (h : ds.all (inD sgn3) = false) : okSeq ds = false := by
  unfold okSeq
  rw [h, Bool.false_and]
theorem ok_doub {f : Addr} {fd : FuncData} (F : Fun K "is_doubled_option" "is_doubled_option" sDoub f fd) (T : ModC K w mg aD aO aC) (GO : Fn P w K mg base 1 "is_one_of" ["thing", "words"] (spOneOf K)) :
    FnOk P w K mg base CX0 2 f fd ["thing"] (spDoub K) := by
  refine F.ok scDoub (fun vs H Q E h => ?_) (fun cdv A outer s H vs Q E hr h => ?_)
  · obtain ⟨v, d, rfl, _⟩ := h
    rfl
  · obtain ⟨v, d, rfl, hv, hs, q⟩ := h
    refine ⟨_, C8.pss_cut (ps_if (pt_not (pt_val (pe_callB call_isiT (by rfl) T.isi (by decide +kernel) (pa_cons (pv 0) (pa_cons (pe_tup (pa_cons (pe_bltn (v := .ty "tuple") (by rfl) T.tuple (by decide +kernel) rfl) (pa_cons (pe_bltn (v := .ty "list") (by rfl) T.list (by decide +kernel) rfl) pa_nil))) pa_nil))))) (pss_one (ps_ret pe_bl)) pss_nil)
      (C8.pss_cut (ps_if (pt_not (pt_val (pe_callB (cr_all rfl) (by rfl) T.all (by decide +kernel) (pa_cons (pe_lc (own := [("sign", 1)]) (g := gName 1) (tt := tYes) (by rfl) scDoub.nd (pi_or (pi_list (pv 0)) (pi_tup (pv 0)))
        (blkOk_by (own := [("sign", 1)]) (N := ["thing", "sign"]) (sc := defScope sDoub) (by decide +kernel)) (fun _ _ _ _ _ => pg_name (i := 1) scDoub.nd rfl (Or.inl rfl)) (fun _ _ _ _ _ => pts_nil)
        (fun _ _ _ _ _ => pe_fn GO (hr.mono (by decide)) rfl (pa_cons (pv 1) (pa_cons (pe_glob (v := .ref aD) (by rfl) T.dbl rfl) pa_nil)))) pa_nil)))) (pss_one (ps_ret pe_bl)) pss_nil)
      (pss_one (ps_ret (pe_cmpR op_eq (K2S.pe_many (by rfl) (by rfl) T.len (by rfl) T.set (pv 0)) (pe_callB call_len (by rfl) T.len PySem.boot_len (pa_cons (pv 0) pa_nil)) (nomark _))))), ?_⟩
    rcases seq_or hv with ⟨a, xs, ds, rfl, hx, row⟩ | ⟨hn, t, ty, k1, k2⟩
    case inr =>
      refine ⟨fun _ _ => False, ⟨_, rfl, by show 2 ≤ sizeLine; decide, fun tp htp => ?_⟩, fun _ _ z => z.elim⟩
      refine ⟨v, tp, _, .type t, [.type "tuple", .type "list"], false, rfl, upd_same, .cons (.ty "tuple") (.cons (.ty "list") .nil), ty _, kit_seq (b1 := false) (b2 := false) k1 k2, _, rfl, iteT ?_⟩
      have e := q _ (Same.new (o := .tup [.ty "tuple", .ty "list"]) (Same.refl H) htp)
      rw [hn] at e
      exact e
    have l50 := row.short hs
    have lx := DpAll.len hx
    rw [row.ok] at q
    refine ⟨fun σ H' => σ = [some (.ref a), none] ∧ Same H H', ?_, ?_⟩
    · refine ⟨_, rfl, by show 2 ≤ sizeLine; decide, fun tp htp => ?_⟩
      have s1 := Same.new (o := .tup [.ty "tuple", .ty "list"]) (Same.refl H) htp
      obtain ⟨t, ty, kt⟩ := (row.same s1).ty
      exact ⟨.ref a, tp, _, t, [.type "tuple", .type "list"], true, rfl, upd_same, .cons (.ty "tuple") (.cons (.ty "list") .nil), ty, kt, _, rfl, iteF ⟨rfl, s1⟩⟩
    rintro σ H1 ⟨rfl, s1⟩
    refine ⟨fun σ H' => σ = [some (.ref a), none] ∧ Same H H' ∧ ds.all (inD sgn3) = true, ?_, ?_⟩
    · -- one sign after another
      have step : ∀ (D : Addr), H1 D = none → ∀ (i : Nat) (x : V) (H2 : Hp), xs[i]? = some x → (Same H1 H2 ∧ H2 D = some (.lst ((ds.take i).map fun d => V.bl (inD sgn3 d)))) →
          ∃ d, ds[i]? = some d ∧ Thing K H2 x (strD d) ∧ ((ds.take i).map fun d => V.bl (inD sgn3 d)).length < sizeLine ∧ (Same H1 (upd H2 D (.lst ((ds.take i).map (fun d => V.bl (inD sgn3 d)) ++ [V.bl (inD sgn3 d)]))) ∧ (upd H2 D (.lst ((ds.take i).map (fun d => V.bl (inD sgn3 d)) ++ [V.bl (inD sgn3 d)]))) D = some (.lst ((ds.take (i + 1)).map fun d => V.bl (inD sgn3 d)))) := by
        intro D hD i x H2 hi ⟨s2, h2⟩
        obtain ⟨d', hd', hx'⟩ := DpAll.at2 hx hi
        refine ⟨d', hd', dp_thing (dp_same (s1.trans s2) _ hx'), ?_, fun b o e => ?_, ?_⟩
        · rw [List.length_map, List.length_take]
          exact line_ge (by omega)
        · rw [upd_ne (ne_of_none e hD)]
          exact s2 b o e
        · rw [upd_same, List.take_add_one, hd', List.map_append]
          rfl
      have last : ∀ (D : Addr), H1 D = none → ∀ H2, (Same H1 H2 ∧ H2 D = some (.lst ((ds.take xs.length).map fun d => V.bl (inD sgn3 d)))) → Same H H2 ∧ SqL K H2 D ((ds.map (inD sgn3)).map V.bl) ∧ (ds.map (inD sgn3)).all id = ds.all (inD sgn3) := by
        intro D hD H2 ⟨s2, h2⟩
        refine ⟨s1.trans s2, SqL.of ?_, all_id_map _ _⟩
        rw [h2, lx, List.take_length, List.map_map]
        rfl
      have fin : ∀ (D : Addr), H1 D = none → ∀ H2, (Same H1 H2 ∧ H2 D = some (.lst ((ds.take xs.length).map fun d => V.bl (inD sgn3 d)))) → ∃ (a' : Addr) (bs : List Bool), V.ref D = .ref a' ∧ SqL K H2 a' (bs.map V.bl) ∧ ∃ c, V.bl (bs.all id) = V.bl c ∧ Same H H2 ∧ c = ds.all (inD sgn3) := fun D hD H2 h2 => by
        obtain ⟨t1, t2, t3⟩ := last D hD H2 h2
        exact ⟨D, _, rfl, t2, _, rfl, t1, t3⟩
      have done : ∀ (D : Addr), H1 D = none → ∀ H2, (Same H1 H2 ∧ H2 D = some (.lst ((ds.take xs.length).map fun d => V.bl (inD sgn3 d)))) → ∃ (a' : Addr) (bs : List Bool), [V.ref D] = [.ref a'] ∧ SqL K H2 a' (bs.map V.bl) ∧ bs.all id = ds.all (inD sgn3) ∧ Same H H2 := fun D hD H2 h2 => by
        obtain ⟨t1, t2, t3⟩ := last D hD H2 h2
        exact ⟨D, _, rfl, t2, t3, t1⟩
      have over : ∀ (D : Addr) (H2 : Hp) (bs : List Bool), bs.all id = ds.all (inD sgn3) → Same H H2 → if (!bs.all id) = true then Q (.bl false) H2 else ([some (V.ref a), none] = [some (V.ref a), none] ∧ Same H H2 ∧ ds.all (inD sgn3) = true) := fun D H2 bs e s2 => by
        rw [e]
        cases hb : ds.all (inD sgn3) with
        | false =>
          refine iteT ?_
          have z := q H2 s2
          rw [okSeq_false hb] at z
          exact z
        | true => exact iteF ⟨rfl, s2, rfl⟩
      rcases row.same s1 with ⟨hl, _⟩ | ⟨hl, _⟩
      · refine .inl ⟨_, rfl, a, rfl, ⟨xs, hl⟩, fun D hD => lc_list (K := K) (a := a) (xs := xs) (fun i H' => Same H1 H' ∧ H' D = some (.lst ((ds.take i).map fun d => V.bl (inD sgn3 d)))) ⟨Same.new (Same.refl H1) hD, upd_same⟩ (fun i H' _ h => h.1.seq hl) (fun i x H2 hi h => ?_) (fun H2 h => ?_)⟩
        · obtain ⟨d', _, th, sz, nx⟩ := step D hD i x H2 hi h
          exact ⟨rfl, _, rfl, x, strD d', aD, sgn3, rfl, th, T.dtup.sq H2, _, h.2, sz, nx⟩
        · obtain ⟨a', bs, e, hb, e2, s2⟩ := done D hD H2 h
          cases e
          exact ⟨D, bs, rfl, hb, _, rfl, over D H2 bs e2 s2⟩
      · refine .inr ⟨_, rfl, a, rfl, ⟨xs, hl⟩, fun D hD => lc_tup (K := K) (a := a) (xs := xs) (fun i H' => Same H1 H' ∧ H' D = some (.lst ((ds.take i).map fun d => V.bl (inD sgn3 d)))) ⟨Same.new (Same.refl H1) hD, upd_same⟩ (fun i H' _ h => SqT.ext hl h.1) (fun i x H2 hi h => ?_) (fun H2 h => ?_)⟩
        · obtain ⟨d', _, th, sz, nx⟩ := step D hD i x H2 hi h
          exact ⟨rfl, _, rfl, x, strD d', aD, sgn3, rfl, th, T.dtup.sq H2, _, h.2, sz, nx⟩
        · obtain ⟨a', bs, e, hb, e2, s2⟩ := done D hD H2 h
          cases e
          exact ⟨D, bs, rfl, hb, _, rfl, over D H2 bs e2 s2⟩
    rintro σ H2 ⟨rfl, s2, hall⟩
    have row2 := row.same s2
    obtain ⟨e1, e2⟩ := all_texts hx hall
    have z := q H2 s2
    refine ⟨_, rfl, a, ds.filterMap strD, rfl, ?_, by omega, _, rfl, _, _, rfl, row2.len, rfl, ?_⟩
    · rw [← e1]
      rcases row2 with ⟨h, _⟩ | ⟨h, _⟩
      · exact .inl h
      · exact .inr h
    · show Q (V.bl (decide (V.int ((K2S.once (ds.filterMap strD)).length : Nat) = V.int (xs.length : Nat)))) H2
      have e3 : decide (V.int ((K2S.once (ds.filterMap strD)).length : Nat) = V.int (xs.length : Nat)) = okSeq ds := by
        unfold okSeq
        rw [hall, Bool.true_and, decide_eq_decide, lx, ← e2, ← K2S.once_nodup]
        constructor
        · intro h
          have h := V.int.inj h
          omega
        · intro h
          rw [h]
      rw [e3]
      exact z
end
end K2

namespace K2
open PySem L2
section
variable {P : Program} {w : World} {K : PySem.W.Frag} {mg : Str → Option Value} {base : Heap} {aD aO aC : Addr}
theorem scAllowed : FnScope ["option", "thing"] ["option", "thing"] (defScope sAllowed) := ⟨rfl, rfl, rfl, by decide +kernel, rfl, by decide +kernel, by decide +kernel⟩
theorem ch_none {o : Str} (h : o ∈ names7) : chOf o = none → o = "doubled" ∨ (o ≠ "doubled") := fun _ => Classical.em _
theorem isB_or {K : PySem.W.Frag} {H : Hp} {v : V} {d : PyData} (h : Dp K H v d) : isB d = (decide (v = .bl true) || decide (v = .bl false)) := by
  cases h with
  | bl b => cases b <;> simp [isB]
  | str x => simp [isB]
  | non => simp [isB]
  | int i => simp [isB]
  | lst _ _ => simp [isB]
  | tup _ _ => simp [isB]
theorem ok_allowed {f : Addr} {fd : FuncData} (F : Fun K "is_allowed" "is_allowed" sAllowed f fd) (T : ModC K w mg aD aO aC) (GO : Fn P w K mg base 1 "is_one_of" ["thing", "words"] (spOneOf K)) (GD : Fn P w K mg base 2 "is_doubled_option" ["thing"] (spDoub K)) :
    FnOk P w K mg base CX0 3 f fd ["option", "thing"] (spAllowed K) := by
  obtain ⟨es, n, kd⟩ := T.kd
  refine F.ok scAllowed (fun vs H Q E h => ?_) (fun cdv A outer s H vs Q E hr h => ?_)
  · obtain ⟨o, v, d, rfl, _⟩ := h
    rfl
  · obtain ⟨o, v, d, rfl, ho, hv, hs, q⟩ := h
    refine ⟨_, pss_cons (ps_if (pt_cmpR (op_in_kd kd) (pv 0) (pe_glob (v := .ref aC) (by rfl) T.cho rfl) (by rfl)) (pss_one (ps_ret (pe_fn GO (hr.mono (by decide)) rfl (pa_cons (pv 1) (pa_cons (pe_ix ix_kdict (pe_glob (v := .ref aC) (by rfl) T.cho rfl) (pv 0) (fun _ _ => rfl)) pa_nil))))) pss_nil)
      (pss_cons (ps_if (pt_cmpR op_eq (pv 0) pe_str (nomark _)) (pss_one (ps_ret (pe_fn GD (hr.mono (by decide)) rfl (pa_cons (pv 1) pa_nil)))) pss_nil)
      (pss_one (ps_ret (pe_or (pe_cmpR op_isAny (pv 1) pe_bl (nomark _)) (pe_one (pe_cmpR op_isAny (pv 1) pe_bl (nomark _))))))), ?_⟩
    have z := q H (Same.refl H)
    unfold okOpt at q z
    obtain ⟨c1, c2⟩ := T.ch o ho
    cases hc : chOf o with
    | some ws =>
      rw [hc] at z
      obtain ⟨a, e1, tw⟩ := c2 ws hc
      refine ⟨_, rfl, o, some (.ref a), rfl, rfl, e1, _, rfl, iteT ⟨_, rfl, _, rfl, aC, o, .ref a, rfl, rfl, ⟨es, n, .ref a, kd.at_, kd.lit, e1, rfl⟩, v, strD d, a, ws, rfl, dp_thing hv, tw.sq H, z⟩⟩
    | none =>
      rw [hc] at z q
      refine ⟨_, rfl, o, none, rfl, rfl, c1 hc, _, rfl, iteF ⟨_, rfl, rfl, _, rfl, ?_⟩⟩
      show if decide (V.str o = V.str ("doubled" : Str)) = true then _ else _
      rw [eq_strB]
      refine ite2 (fun h => ?_) (fun h => ?_)
      · have h := of_decide_eq_true h
        refine ⟨_, rfl, v, d, rfl, hv, hs, fun H' s' => ?_⟩
        have y := q H' s'
        simp only [Option.elim, if_pos h] at y
        exact y
      · have h : ¬ o = "doubled" := fun e => h (decide_eq_true e)
        simp only [Option.elim, if_neg h, isB_or hv] at z
        refine ⟨_, rfl, true, rfl, _, rfl, ?_⟩
        cases hb : decide (v = V.bl true) with
        | true =>
          rw [hb, Bool.true_or] at z
          exact iteT z
        | false =>
          rw [hb, Bool.false_or] at z
          exact iteF ⟨_, rfl, false, rfl, z⟩
end
end K2

namespace K2
open PySem L2
def inClass (st : Stmt) (i : Nat) : Stmt := match st with
  | .ClassDef (body := b) .. => b.getD i (.Pass ⟨0, 0, 0, 0⟩)
  | _ => .Pass ⟨0, 0, 0, 0⟩
abbrev sDbl : Stmt := top 12
abbrev sName : Stmt := top 13
abbrev sEquals : Stmt := top 14
abbrev sBehind : Stmt := top 15
abbrev sItem : Stmt := top 16
abbrev sComma : Stmt := top 17
abbrev sDone : Stmt := top 18
abbrev sEnded : Stmt := top 19
abbrev sAllWays : Stmt := top 20
/-- a language's options, as they are kept -/
structure Lang where
  e : Str
  n : Str
  c : Str
  l : Str
  D : List Str
  b : Bool
  x : Bool
/-- the class of languages -/
structure LangC (K : PySem.W.Frag) (mg : Str → Option Value) (C : Addr) : Prop where
  cl : Cls K C
  nE : PySem.W.findIn K (.ref C) "equals" = some none
  nN : PySem.W.findIn K (.ref C) "end" = some none
  nC : PySem.W.findIn K (.ref C) "comma" = some none
  nL : PySem.W.findIn K (.ref C) "last" = some none
  nD : PySem.W.findIn K (.ref C) "doubled" = some none
  nB : PySem.W.findIn K (.ref C) "bare" = some none
  nX : PySem.W.findIn K (.ref C) "nothing" = some none
  nW : PySem.W.findIn K (.ref C) "ways" = some none
  gC : mg "Language" = some (.ref C)
  ha : PySem.W.findIn K (.ref C) "__class__" = some (some (.builtin "object.__class__"))
  hn : PySem.W.specialIn K (.builtin "object.__class__") "__get__" = some (some (.builtin "getset_descriptor.__get__"))
  htk : PySem.W.takesIn K (.builtin "object.__class__") = some true
  hm : PySem.W.mroIn K C (.type "object") = some true
/-- the fields of a language -/
structure Fl (fs : List (Str × V)) (L : Lang) (t : Addr) : Prop where
  e : fs.lookup ("equals" : Str) = some (.str L.e)
  n : fs.lookup ("end" : Str) = some (.str L.n)
  c : fs.lookup ("comma" : Str) = some (.str L.c)
  l : fs.lookup ("last" : Str) = some (.str L.l)
  d : fs.lookup ("doubled" : Str) = some (.ref t)
  b : fs.lookup ("bare" : Str) = some (.bl L.b)
  x : fs.lookup ("nothing" : Str) = some (.bl L.x)
  w : fs.lookup ("with_options" : Str) = none
def LangAt (C : Addr) (H : Hp) (x : Addr) (L : Lang) : Prop := ∃ dx t fs, H x = some (.ins C dx fs) ∧ Fl fs L t ∧ H t = some (.tup (L.D.map V.str))
theorem LangAt.same {C : Addr} {H H' : Hp} {x : Addr} {L : Lang} (h : LangAt C H x L) (s : Same H H') : LangAt C H' x L := by
  obtain ⟨dx, t, fs, h1, h2, h3⟩ := h
  exact ⟨dx, t, fs, s _ _ h1, h2, s _ _ h3⟩
/-- a new dict of at most n pairs -/
def NewD (H : Hp) (n : Nat) (Q : VK) : Prop := ∀ p kvs H', H p = none → Same H H' → H' p = some (.dK kvs) → kvs.length ≤ n → Q (.ref p) H'
def spDbl (C : Addr) : Sp := fun vs H Q _ => ∃ (x : Addr) (s t : Str) (L : Lang), vs = [.ref x, .str s, .str t] ∧ LangAt C H x L ∧ NewD H 1 Q
def spWays (C : Addr) (n : Nat) : Sp := fun vs H Q _ => ∃ (x : Addr) (L : Lang), vs = [.ref x] ∧ LangAt C H x L ∧ NewD H n Q
theorem put_len (kvs : List (Key × V)) (k : Key) (v : V) {n : Nat} (h : kvs.length ≤ n) : (putK kvs k v).length ≤ n + 1 := by
  have := length_putK kvs k v
  omega
theorem merge_len {more kvs : List (Key × V)} {n m : Nat} (h : kvs.length ≤ n) (h' : more.length ≤ m) : (mergeK kvs more).length ≤ n + m := by
  have := length_mergeK more kvs
  omega
theorem line50 {n : Nat} (h : n ≤ 50) : n < sizeLine := line_ge (Nat.le_trans (show n + 1 ≤ 51 by omega) (by decide))
section
variable {P : Program} {w : World} {K : PySem.W.Frag} {mg : Str → Option Value} {base : Heap} {C : Addr}
theorem scDbl : FnScope ["language", "sign", "state"] ["language", "sign", "state"] (defScope sDbl) := ⟨rfl, rfl, rfl, by decide +kernel, rfl, by decide +kernel, by decide +kernel⟩
theorem ok_dbl {f : Addr} {fd : FuncData} (F : Fun K "doubling" "doubling" sDbl f fd) (S : LangC K mg C) : FnOk P w K mg base CX0 1 f fd ["language", "sign", "state"] (spDbl C) := by
  refine F.ok scDbl (fun vs H Q E h => ?_) (fun cdv A outer s H vs Q E hr h => ?_)
  · obtain ⟨x, s, t, L, rfl, _⟩ := h
    rfl
  · obtain ⟨x, s, t, L, rfl, ⟨dx, a, fs, hx, fl, ht⟩, q⟩ := h
    refine ⟨_, pss_one (ps_ret (pe_ifExp (pt_cmpR op_in_seq (pv 1) (pe_fld (pv 0) rfl) (by rfl)) (pe_disp (pps_cons (pv 1) (pv 2) pps_nil) (by rfl) (by rfl) (fun z => by cases z) (by decide)) pe_dnewK)), ?_⟩
    refine ⟨_, rfl, _, rfl, x, C, dx, _, _, rfl, hx, S.cl, S.nD, fl.d, a, _, rfl, .inr (SqT.of ht), rfl, flat_strs _, _, rfl, ite2 (fun _ => ?_) (fun _ => ?_)⟩
    · intro p hp
      refine ⟨_, rfl, _, rfl, upd_same, [(.inr s, .str t)], rfl, by show 1 ≤ 15; decide, ?_⟩
      exact q p _ _ hp (Same.put (Same.new (Same.refl H) hp) hp) upd_same (merge_len (n := 0) (m := 1) (Nat.le_refl _) (Nat.le_refl _))
    · exact fun p hp => q p [] _ hp (Same.new (Same.refl H) hp) upd_same (by decide)
theorem scName : FnScope ["language", "ways"] ["language"] (defScope sName) := ⟨rfl, rfl, rfl, by decide +kernel, rfl, by decide +kernel, by decide +kernel⟩
theorem ok_name {f : Addr} {fd : FuncData} (F : Fun K "ways_from_name" "ways_from_name" sName f fd) (S : LangC K mg C) : FnOk P w K mg base CX0 1 f fd ["language"] (spWays C 6) := by
  refine F.ok scName (fun vs H Q E h => ?_) (fun cdv A outer s H vs Q E hr h => ?_)
  · obtain ⟨x, L, rfl, _⟩ := h
    rfl
  · obtain ⟨x, L, rfl, ⟨dx, a, fs, hx, fl, ht⟩, q⟩ := h
    have hu := hu_of hr
    refine ⟨_, C8.pss_cut (ps_set (i := 1) scName.nd rfl (.inl rfl) (pe_disp (pps_cons pe_str pe_str pps_nil) (by rfl) (by rfl) (fun z => by cases z) (by decide)))
      (C8.pss_cut (ps_if (pt_cmpR op_eq (pe_fld (pv 0) rfl) pe_str (nomark _)) (pss_one (ps_expr (K2U.pe_dupd (pv 1) (pe_disp (pps_cons pe_str pe_str (pps_cons pe_str pe_str (pps_cons pe_str pe_str pps_nil))) (by rfl) (by rfl) (fun z => by cases z) (by decide)) ⟨by rfl, by rfl, by rfl, by rfl⟩)))
        (pss_one (ps_if (PW.pt (pw_and (pt_val (pe_fld (pv 0) rfl)) (pw_and1 (pt_cmpR op_eq (pe_fld (pv 0) rfl) pe_str (nomark _))))) (pss_one (ps_dput hu (pv 1) pe_str pe_str rfl)) pss_nil)))
      (C8.pss_cut (ps_if (pt_val (pe_fld (pv 0) rfl)) (pss_one (ps_dput hu (pv 1) pe_str pe_str rfl)) pss_nil)
      (pss_one (ps_ret (pv 1))))), ?_⟩
    refine ⟨fun σ H' => ∃ p kvs, σ = [some (.ref x), some (.ref p)] ∧ H' p = some (.dK kvs) ∧ H p = none ∧ kvs.length ≤ 1 ∧ Same H H', ?_, ?_⟩
    · intro p hp
      refine ⟨upd_same, [(.inr "=", .str "equals")], rfl, by decide, p, _, rfl, upd_same, hp, by decide, Same.put (Same.new (Same.refl H) hp) hp⟩
    rintro σ H1 ⟨p, kvs, rfl, hp1, hp, l1, s1⟩
    refine ⟨fun σ H' => ∃ kvs, σ = [some (.ref x), some (.ref p)] ∧ H' p = some (.dK kvs) ∧ kvs.length ≤ 4 ∧ Same H H', ?_, ?_⟩
    · refine ⟨_, rfl, x, C, dx, _, _, rfl, s1 _ _ hx, S.cl, S.nE, fl.e, rfl, _, rfl, ite2 (fun _ => ?_) (fun _ => ?_)⟩
      · refine ⟨_, rfl, p, rfl, .inl ⟨_, .inl hp1⟩, fun r hr' => ⟨upd_same, [(.inr "word", .str "done"), (.inr "number", .str "done"), (.inr "[", .str "open")], rfl, by decide, r, kvs, _, rfl, ?_, .inl upd_same, ne_of_none hp1 hr', ?_, ?_⟩⟩
        · rw [upd_ne (ne_of_none hp1 hr'), upd_ne (ne_of_none hp1 hr')]
          exact hp1
        · exact Nat.le_of_lt (line50 (by have : (mergeK [] [((.inr "word" : Key), V.str "done"), (.inr "number", .str "done"), (.inr "[", .str "open")]).length ≤ 0 + 3 := merge_len (by decide) (by decide); omega))
        · exact ⟨_, rfl, upd_same, merge_len l1 (merge_len (n := 0) (m := 3) (by decide) (by decide)), Same.put (Same.put (Same.new s1 hr') (s1.free hr')) hp⟩
      · refine ⟨_, rfl, x, C, dx, _, _, rfl, s1 _ _ hx, S.cl, S.nB, fl.b, _, rfl, ?_⟩
        cases L.b with
        | false => exact iteF ⟨kvs, rfl, hp1, by omega, s1⟩
        | true =>
          refine iteT ⟨_, rfl, x, C, dx, _, _, rfl, s1 _ _ hx, S.cl, S.nN, fl.n, rfl, _, rfl, ite2 (fun _ => ?_) (fun _ => ?_)⟩
          · exact ⟨_, rfl, p, _, rfl, DPut.k (k := .inr "word") hp1 (line50 (by omega)), _, rfl, upd_same, Nat.le_trans (put_len _ _ _ l1) (by decide), Same.put s1 hp⟩
          · exact ⟨kvs, rfl, hp1, by omega, s1⟩
    rintro σ H2 ⟨kvs2, rfl, hp2, l2, s2⟩
    refine ⟨fun σ H' => ∃ kvs, σ = [some (.ref x), some (.ref p)] ∧ H' p = some (.dK kvs) ∧ kvs.length ≤ 6 ∧ Same H H', ?_, ?_⟩
    · refine ⟨_, rfl, x, C, dx, _, _, rfl, s2 _ _ hx, S.cl, S.nB, fl.b, _, rfl, ite2 (fun _ => ?_) (fun _ => ?_)⟩
      · exact ⟨_, rfl, p, _, rfl, DPut.k (k := .inr ";") hp2 (line50 (by omega)), _, rfl, upd_same, Nat.le_trans (put_len _ _ _ l2) (by decide), Same.put s2 hp⟩
      · exact ⟨kvs2, rfl, hp2, by omega, s2⟩
    rintro σ H3 ⟨kvs3, rfl, hp3, l3, s3⟩
    exact ⟨_, rfl, q p kvs3 H3 hp s3 hp3 l3⟩
/-- the end of such a def: what the dict became -/
abbrev Mid (H : Hp) (x p : Addr) (n : Nat) : St → Hp → Prop := fun σ H' => ∃ kvs, σ = [some (.ref x), some (.ref p)] ∧ H' p = some (.dK kvs) ∧ kvs.length ≤ n ∧ Same H H'
theorem scEquals : FnScope ["language", "ways"] ["language"] (defScope sEquals) := ⟨rfl, rfl, rfl, by decide +kernel, rfl, by decide +kernel, by decide +kernel⟩
theorem ok_equals {f : Addr} {fd : FuncData} (F : Fun K "ways_from_equals" "ways_from_equals" sEquals f fd) (S : LangC K mg C) (GD : Fn P w K mg base 1 "doubling" ["language", "sign", "state"] (spDbl C)) : FnOk P w K mg base CX0 2 f fd ["language"] (spWays C 6) := by
  refine F.ok scEquals (fun vs H Q E h => ?_) (fun cdv A outer s H vs Q E hr h => ?_)
  · obtain ⟨x, L, rfl, _⟩ := h
    rfl
  · obtain ⟨x, L, rfl, hL, q⟩ := h
    obtain ⟨dx, a, fs, hx, fl, ht⟩ := id hL
    have hu := hu_of hr
    refine ⟨_, C8.pss_cut (ps_set (i := 1) scEquals.nd rfl (.inl rfl) (pe_disp (pps_cons pe_str pe_str (pps_cons pe_str pe_str (pps_cons pe_str pe_str pps_nil))) (by rfl) (by rfl) (fun z => by cases z) (by decide)))
      (C8.pss_cut (ps_expr (K2U.pe_dupd (pv 1) (pe_fn GD (hr.mono (by decide)) rfl (pa_cons (pv 0) (pa_cons pe_str (pa_cons pe_str pa_nil)))) ⟨by rfl, by rfl, by rfl, by rfl⟩))
      (C8.pss_cut (ps_if (pt_val (pe_fld (pv 0) rfl)) (pss_one (ps_dput hu (pv 1) pe_str pe_str rfl)) pss_nil)
      (pss_one (ps_ret (pv 1))))), ?_⟩
    refine ⟨fun σ H' => ∃ p, H p = none ∧ Mid H x p 3 σ H', ?_, ?_⟩
    · intro p hp
      refine ⟨upd_same, [(.inr "word", .str "done"), (.inr "number", .str "done"), (.inr "[", .str "open")], rfl, by decide, p, hp, _, rfl, upd_same, merge_len (n := 0) (m := 3) (Nat.le_refl _) (Nat.le_refl _), Same.put (Same.new (Same.refl H) hp) hp⟩
    rintro σ H1 ⟨p, hp, kvs, rfl, hp1, l1, s1⟩
    refine ⟨Mid H x p 4, ?_, ?_⟩
    · refine ⟨_, rfl, p, rfl, .inl ⟨_, .inl hp1⟩, _, rfl, x, "=", "equals", L, rfl, hL.same s1, fun r more H2 hr' s2 hr2 lm => ?_⟩
      exact ⟨r, kvs, more, rfl, s2 _ _ hp1, .inl hr2, ne_of_none hp1 hr', Nat.le_of_lt (line50 (by omega)), _, rfl, upd_same, merge_len l1 lm, Same.put (s1.trans s2) hp⟩
    rintro σ H2 ⟨kvs2, rfl, hp2, l2, s2⟩
    refine ⟨Mid H x p 6, ?_, ?_⟩
    · refine ⟨_, rfl, x, C, dx, _, _, rfl, s2 _ _ hx, S.cl, S.nX, fl.x, _, rfl, ite2 (fun _ => ?_) (fun _ => ?_)⟩
      · exact ⟨_, rfl, p, _, rfl, DPut.k (k := .inr ";") hp2 (line50 (by omega)), _, rfl, upd_same, Nat.le_trans (put_len _ _ _ l2) (by decide), Same.put s2 hp⟩
      · exact ⟨kvs2, rfl, hp2, by omega, s2⟩
    rintro σ H3 ⟨kvs3, rfl, hp3, l3, s3⟩
    exact ⟨_, rfl, q p kvs3 H3 hp s3 hp3 l3⟩
theorem scBehind : FnScope ["language", "ways"] ["language"] (defScope sBehind) := ⟨rfl, rfl, rfl, by decide +kernel, rfl, by decide +kernel, by decide +kernel⟩
theorem ok_behind {f : Addr} {fd : FuncData} (F : Fun K "ways_behind_item" "ways_behind_item" sBehind f fd) (S : LangC K mg C) : FnOk P w K mg base CX0 1 f fd ["language"] (spWays C 3) := by
  refine F.ok scBehind (fun vs H Q E h => ?_) (fun cdv A outer s H vs Q E hr h => ?_)
  · obtain ⟨x, L, rfl, _⟩ := h
    rfl
  · obtain ⟨x, L, rfl, ⟨dx, a, fs, hx, fl, ht⟩, q⟩ := h
    have hu := hu_of hr
    refine ⟨_, C8.pss_cut (ps_set (i := 1) scBehind.nd rfl (.inl rfl) (pe_disp (pps_cons pe_str pe_str pps_nil) (by rfl) (by rfl) (fun z => by cases z) (by decide)))
      (C8.pss_cut (ps_if (pt_cmpR op_ne (pe_fld (pv 0) rfl) pe_str (nomark _)) (pss_one (ps_dput hu (pv 1) pe_str pe_str rfl)) pss_nil)
      (pss_one (ps_ret (pv 1)))), ?_⟩
    refine ⟨fun σ H' => ∃ p, H p = none ∧ Mid H x p 1 σ H', ?_, ?_⟩
    · intro p hp
      refine ⟨upd_same, [(.inr ",", .str "comma")], rfl, by decide, p, hp, _, rfl, upd_same, by decide, Same.put (Same.new (Same.refl H) hp) hp⟩
    rintro σ H1 ⟨p, hp, kvs, rfl, hp1, l1, s1⟩
    refine ⟨Mid H x p 3, ?_, ?_⟩
    · refine ⟨_, rfl, x, C, dx, _, _, rfl, s1 _ _ hx, S.cl, S.nL, fl.l, rfl, _, rfl, ite2 (fun _ => ?_) (fun _ => ?_)⟩
      · exact ⟨_, rfl, p, _, rfl, DPut.k (k := .inr "]") hp1 (line50 (by omega)), _, rfl, upd_same, Nat.le_trans (put_len _ _ _ l1) (by decide), Same.put s1 hp⟩
      · exact ⟨kvs, rfl, hp1, by omega, s1⟩
    rintro σ H2 ⟨kvs2, rfl, hp2, l2, s2⟩
    exact ⟨_, rfl, q p kvs2 H2 hp s2 hp2 l2⟩
theorem scItem : FnScope ["language", "ways"] ["language"] (defScope sItem) := ⟨rfl, rfl, rfl, by decide +kernel, rfl, by decide +kernel, by decide +kernel⟩
theorem ok_item {f : Addr} {fd : FuncData} (F : Fun K "ways_from_item" "ways_from_item" sItem f fd) (S : LangC K mg C) (GB : Fn P w K mg base 1 "ways_behind_item" ["language"] (spWays C 3)) : FnOk P w K mg base CX0 2 f fd ["language"] (spWays C 6) := by
  refine F.ok scItem (fun vs H Q E h => ?_) (fun cdv A outer s H vs Q E hr h => ?_)
  · obtain ⟨x, L, rfl, _⟩ := h
    rfl
  · obtain ⟨x, L, rfl, hL, q⟩ := h
    obtain ⟨dx, a, fs, hx, fl, ht⟩ := id hL
    have hu := hu_of hr
    refine ⟨_, C8.pss_cut (ps_set (i := 1) scItem.nd rfl (.inl rfl) (pe_fn GB (hr.mono (by decide)) rfl (pa_cons (pv 0) pa_nil)))
      (C8.pss_cut (ps_if (pt_cmpR op_eq (pe_fld (pv 0) rfl) pe_str (nomark _)) (pss_one (ps_dput hu (pv 1) pe_str pe_str rfl)) (pss_one (ps_if (pt_cmpR op_eq (pe_fld (pv 0) rfl) pe_str (nomark _)) (pss_one (ps_dput hu (pv 1) pe_str pe_str rfl)) pss_nil)))
      (pss_one (ps_ret (pv 1)))), ?_⟩
    refine ⟨fun σ H' => ∃ p, H p = none ∧ Mid H x p 3 σ H', ?_, ?_⟩
    · exact ⟨_, rfl, x, L, rfl, hL, fun p kvs H1 hp s1 h1 l1 => ⟨p, hp, kvs, rfl, h1, l1, s1⟩⟩
    rintro σ H1 ⟨p, hp, kvs, rfl, hp1, l1, s1⟩
    refine ⟨Mid H x p 6, ?_, ?_⟩
    · refine ⟨_, rfl, x, C, dx, _, _, rfl, s1 _ _ hx, S.cl, S.nC, fl.c, rfl, _, rfl, ite2 (fun _ => ?_) (fun _ => ?_)⟩
      · exact ⟨_, rfl, p, _, rfl, DPut.k (k := .inr "word") hp1 (line50 (by omega)), _, rfl, upd_same, Nat.le_trans (put_len _ _ _ l1) (by decide), Same.put s1 hp⟩
      · refine ⟨_, rfl, x, C, dx, _, _, rfl, s1 _ _ hx, S.cl, S.nC, fl.c, rfl, _, rfl, ite2 (fun _ => ?_) (fun _ => ?_)⟩
        · exact ⟨_, rfl, p, _, rfl, DPut.k (k := .inr "word") hp1 (line50 (by omega)), _, rfl, upd_same, Nat.le_trans (put_len _ _ _ l1) (by decide), Same.put s1 hp⟩
        · exact ⟨kvs, rfl, hp1, by omega, s1⟩
    rintro σ H2 ⟨kvs2, rfl, hp2, l2, s2⟩
    exact ⟨_, rfl, q p kvs2 H2 hp s2 hp2 l2⟩
theorem scComma : FnScope ["language", "ways"] ["language"] (defScope sComma) := ⟨rfl, rfl, rfl, by decide +kernel, rfl, by decide +kernel, by decide +kernel⟩
theorem ok_comma {f : Addr} {fd : FuncData} (F : Fun K "ways_from_comma" "ways_from_comma" sComma f fd) (S : LangC K mg C) (GD : Fn P w K mg base 1 "doubling" ["language", "sign", "state"] (spDbl C)) : FnOk P w K mg base CX0 2 f fd ["language"] (spWays C 6) := by
  refine F.ok scComma (fun vs H Q E h => ?_) (fun cdv A outer s H vs Q E hr h => ?_)
  · obtain ⟨x, L, rfl, _⟩ := h
    rfl
  · obtain ⟨x, L, rfl, hL, q⟩ := h
    obtain ⟨dx, a, fs, hx, fl, ht⟩ := id hL
    have hu := hu_of hr
    refine ⟨_, C8.pss_cut (ps_set (i := 1) scComma.nd rfl (.inl rfl) (pe_disp (pps_cons pe_str pe_str pps_nil) (by rfl) (by rfl) (fun z => by cases z) (by decide)))
      (C8.pss_cut (ps_expr (K2U.pe_dupd (pv 1) (pe_fn GD (hr.mono (by decide)) rfl (pa_cons (pv 0) (pa_cons pe_str (pa_cons pe_str pa_nil)))) ⟨by rfl, by rfl, by rfl, by rfl⟩))
      (C8.pss_cut (ps_if (pt_cmpR op_ne (pe_fld (pv 0) rfl) pe_str (nomark _)) (pss_one (ps_dput hu (pv 1) pe_str pe_str rfl)) pss_nil)
      (pss_one (ps_ret (pv 1))))), ?_⟩
    refine ⟨fun σ H' => ∃ p, H p = none ∧ Mid H x p 1 σ H', ?_, ?_⟩
    · intro p hp
      refine ⟨upd_same, [(.inr "word", .str "item")], rfl, by decide, p, hp, _, rfl, upd_same, by decide, Same.put (Same.new (Same.refl H) hp) hp⟩
    rintro σ H1 ⟨p, hp, kvs, rfl, hp1, l1, s1⟩
    refine ⟨Mid H x p 2, ?_, ?_⟩
    · refine ⟨_, rfl, p, rfl, .inl ⟨_, .inl hp1⟩, _, rfl, x, ",", "comma", L, rfl, hL.same s1, fun r more H2 hr' s2 hr2 lm => ?_⟩
      exact ⟨r, kvs, more, rfl, s2 _ _ hp1, .inl hr2, ne_of_none hp1 hr', Nat.le_of_lt (line50 (by omega)), _, rfl, upd_same, merge_len l1 lm, Same.put (s1.trans s2) hp⟩
    rintro σ H2 ⟨kvs2, rfl, hp2, l2, s2⟩
    refine ⟨Mid H x p 6, ?_, ?_⟩
    · refine ⟨_, rfl, x, C, dx, _, _, rfl, s2 _ _ hx, S.cl, S.nL, fl.l, rfl, _, rfl, ite2 (fun _ => ?_) (fun _ => ?_)⟩
      · exact ⟨_, rfl, p, _, rfl, DPut.k (k := .inr "]") hp2 (line50 (by omega)), _, rfl, upd_same, Nat.le_trans (put_len _ _ _ l2) (by decide), Same.put s2 hp⟩
      · exact ⟨kvs2, rfl, hp2, by omega, s2⟩
    rintro σ H3 ⟨kvs3, rfl, hp3, l3, s3⟩
    exact ⟨_, rfl, q p kvs3 H3 hp s3 hp3 l3⟩
theorem scDone : FnScope ["language", "ways"] ["language"] (defScope sDone) := ⟨rfl, rfl, rfl, by decide +kernel, rfl, by decide +kernel, by decide +kernel⟩
theorem ok_done {f : Addr} {fd : FuncData} (F : Fun K "ways_from_done" "ways_from_done" sDone f fd) (S : LangC K mg C) : FnOk P w K mg base CX0 1 f fd ["language"] (spWays C 6) := by
  refine F.ok scDone (fun vs H Q E h => ?_) (fun cdv A outer s H vs Q E hr h => ?_)
  · obtain ⟨x, L, rfl, _⟩ := h
    rfl
  · obtain ⟨x, L, rfl, ⟨dx, a, fs, hx, fl, ht⟩, q⟩ := h
    have hu := hu_of hr
    refine ⟨_, C8.pss_cut (ps_set (i := 1) scDone.nd rfl (.inl rfl) (pe_disp (pps_cons pe_str pe_str pps_nil) (by rfl) (by rfl) (fun z => by cases z) (by decide)))
      (C8.pss_cut (ps_if (pt_cmpR op_eq (pe_fld (pv 0) rfl) pe_str (nomark _)) (pss_one (ps_dput hu (pv 1) pe_str pe_str rfl)) pss_nil)
      (pss_one (ps_ret (pv 1)))), ?_⟩
    refine ⟨fun σ H' => ∃ p, H p = none ∧ Mid H x p 1 σ H', ?_, ?_⟩
    · intro p hp
      refine ⟨upd_same, [(.inr ";", .str "ended")], rfl, by decide, p, hp, _, rfl, upd_same, by decide, Same.put (Same.new (Same.refl H) hp) hp⟩
    rintro σ H1 ⟨p, hp, kvs, rfl, hp1, l1, s1⟩
    refine ⟨Mid H x p 6, ?_, ?_⟩
    · refine ⟨_, rfl, x, C, dx, _, _, rfl, s1 _ _ hx, S.cl, S.nN, fl.n, rfl, _, rfl, ite2 (fun _ => ?_) (fun _ => ?_)⟩
      · exact ⟨_, rfl, p, _, rfl, DPut.k (k := .inr "word") hp1 (line50 (by omega)), _, rfl, upd_same, Nat.le_trans (put_len _ _ _ l1) (by decide), Same.put s1 hp⟩
      · exact ⟨kvs, rfl, hp1, by omega, s1⟩
    rintro σ H2 ⟨kvs2, rfl, hp2, l2, s2⟩
    exact ⟨_, rfl, q p kvs2 H2 hp s2 hp2 l2⟩
theorem scEnded : FnScope ["language", "ways"] ["language"] (defScope sEnded) := ⟨rfl, rfl, rfl, by decide +kernel, rfl, by decide +kernel, by decide +kernel⟩
theorem ok_ended {f : Addr} {fd : FuncData} (F : Fun K "ways_from_ended" "ways_from_ended" sEnded f fd) (GD : Fn P w K mg base 1 "doubling" ["language", "sign", "state"] (spDbl C)) : FnOk P w K mg base CX0 2 f fd ["language"] (spWays C 6) := by
  refine F.ok scEnded (fun vs H Q E h => ?_) (fun cdv A outer s H vs Q E hr h => ?_)
  · obtain ⟨x, L, rfl, _⟩ := h
    rfl
  · obtain ⟨x, L, rfl, hL, q⟩ := h
    refine ⟨_, C8.pss_cut (ps_set (i := 1) scEnded.nd rfl (.inl rfl) (pe_disp (pps_cons pe_str pe_str pps_nil) (by rfl) (by rfl) (fun z => by cases z) (by decide)))
      (C8.pss_cut (ps_expr (K2U.pe_dupd (pv 1) (pe_fn GD (hr.mono (by decide)) rfl (pa_cons (pv 0) (pa_cons pe_str (pa_cons pe_str pa_nil)))) ⟨by rfl, by rfl, by rfl, by rfl⟩))
      (pss_one (ps_ret (pv 1)))), ?_⟩
    refine ⟨fun σ H' => ∃ p, H p = none ∧ Mid H x p 1 σ H', ?_, ?_⟩
    · intro p hp
      refine ⟨upd_same, [(.inr "word", .str "name")], rfl, by decide, p, hp, _, rfl, upd_same, by decide, Same.put (Same.new (Same.refl H) hp) hp⟩
    rintro σ H1 ⟨p, hp, kvs, rfl, hp1, l1, s1⟩
    refine ⟨Mid H x p 2, ?_, ?_⟩
    · refine ⟨_, rfl, p, rfl, .inl ⟨_, .inl hp1⟩, _, rfl, x, ";", "ended", L, rfl, hL.same s1, fun r more H2 hr' s2 hr2 lm => ?_⟩
      exact ⟨r, kvs, more, rfl, s2 _ _ hp1, .inl hr2, ne_of_none hp1 hr', Nat.le_of_lt (line50 (by omega)), _, rfl, upd_same, merge_len l1 lm, Same.put (s1.trans s2) hp⟩
    rintro σ H2 ⟨kvs2, rfl, hp2, l2, s2⟩
    exact ⟨_, rfl, q p kvs2 H2 hp s2 hp2 (by omega)⟩
theorem scAllWays : FnScope ["language"] ["language"] (defScope sAllWays) := ⟨rfl, rfl, rfl, by decide +kernel, rfl, by decide +kernel, by decide +kernel⟩
theorem ok_allWays {f : Addr} {fd : FuncData} (F : Fun K "all_ways" "all_ways" sAllWays f fd) (G1 : Fn P w K mg base 1 "ways_from_name" ["language"] (spWays C 6)) (G2 : Fn P w K mg base 2 "ways_from_equals" ["language"] (spWays C 6)) (G3 : Fn P w K mg base 2 "ways_from_item" ["language"] (spWays C 6))
    (G4 : Fn P w K mg base 1 "ways_behind_item" ["language"] (spWays C 3)) (G5 : Fn P w K mg base 2 "ways_from_comma" ["language"] (spWays C 6)) (G6 : Fn P w K mg base 1 "ways_from_done" ["language"] (spWays C 6)) (G7 : Fn P w K mg base 2 "ways_from_ended" ["language"] (spWays C 6)) :
    FnOk P w K mg base CX0 3 f fd ["language"] (spWays C 9) := by
  refine F.ok scAllWays (fun vs H Q E h => ?_) (fun cdv A outer s H vs Q E hr h => ?_)
  · obtain ⟨x, L, rfl, _⟩ := h
    rfl
  · obtain ⟨x, L, rfl, hL, q⟩ := h
    have r1 : Room 1 _ := hr.mono (by decide)
    refine ⟨_, pss_one (ps_ret (pe_disp (pps_cons pe_str (pe_disp (pps_cons pe_str pe_str pps_nil) (by rfl) (by rfl) (fun z => by cases z) (by decide))
      (pps_cons pe_str (pe_fn G1 r1 rfl (pa_cons (pv 0) pa_nil)) (pps_cons pe_str (pe_fn G2 hr rfl (pa_cons (pv 0) pa_nil)) (pps_cons pe_str (pe_disp (pps_cons pe_str pe_str (pps_cons pe_str pe_str pps_nil)) (by rfl) (by rfl) (fun z => by cases z) (by decide))
      (pps_cons pe_str (pe_fn G3 hr rfl (pa_cons (pv 0) pa_nil)) (pps_cons pe_str (pe_fn G4 r1 rfl (pa_cons (pv 0) pa_nil)) (pps_cons pe_str (pe_fn G5 hr rfl (pa_cons (pv 0) pa_nil)) (pps_cons pe_str (pe_fn G6 r1 rfl (pa_cons (pv 0) pa_nil)) (pps_cons pe_str (pe_fn G7 hr rfl (pa_cons (pv 0) pa_nil)) pps_nil))))))))) (by rfl) (by rfl) (fun z => by cases z) (by decide))), ?_⟩
    intro p hp
    have s0 := Same.new (o := .dK []) (Same.refl H) hp
    intro a1 ha1
    have t1 := Same.put (o := .dK (mergeK [] [(.inr "word", .str "name")])) (Same.new (o := .dK []) s0 ha1) (s0.free ha1)
    have e1 : (upd (upd (upd H p (.dK [])) a1 (.dK [])) a1 (.dK (mergeK [] [(.inr "word", .str "name")]))) p = some (.dK []) := by
      rw [upd_ne (ne_of_none upd_same ha1), upd_ne (ne_of_none upd_same ha1), upd_same]
    refine ⟨upd_same, [(.inr "word", .str "name")], rfl, by decide, _, rfl, x, L, rfl, hL.same t1, fun a2 k2 H2 h2 s2 g2 l2 => ?_⟩
    refine ⟨_, rfl, x, L, rfl, hL.same (t1.trans s2), fun a3 k3 H3 h3 s3 g3 l3 => ?_⟩
    intro a4 ha4
    have t3 := t1.trans (s2.trans s3)
    have t4 := Same.put (o := .dK (mergeK [] [(.inr "word", .str "item"), (.inr "]", .str "done")])) (Same.new (o := .dK []) t3 ha4) (t3.free ha4)
    refine ⟨upd_same, [(.inr "word", .str "item"), (.inr "]", .str "done")], rfl, by decide, _, rfl, x, L, rfl, hL.same t4, fun a5 k5 H5 h5 s5 g5 l5 => ?_⟩
    refine ⟨_, rfl, x, L, rfl, hL.same (t4.trans s5), fun a6 k6 H6 h6 s6 g6 l6 => ?_⟩
    refine ⟨_, rfl, x, L, rfl, hL.same (t4.trans (s5.trans s6)), fun a7 k7 H7 h7 s7 g7 l7 => ?_⟩
    refine ⟨_, rfl, x, L, rfl, hL.same (t4.trans (s5.trans (s6.trans s7))), fun a8 k8 H8 h8 s8 g8 l8 => ?_⟩
    refine ⟨_, rfl, x, L, rfl, hL.same (t4.trans (s5.trans (s6.trans (s7.trans s8)))), fun a9 k9 H9 h9 s9 g9 l9 => ?_⟩
    have e3 := s3 _ _ (s2 _ _ e1)
    have u4 := Same.put (o := .dK (mergeK [] [(.inr "word", .str "item"), (.inr "]", .str "done")])) (Same.new (o := .dK []) (Same.refl H3) ha4) ha4
    have e9 := s9 _ _ (s8 _ _ (s7 _ _ (s6 _ _ (s5 _ _ (u4 _ _ e3)))))
    refine ⟨e9, [(.inr "start", .ref a1), (.inr "name", .ref a2), (.inr "equals", .ref a3), (.inr "open", .ref a4), (.inr "item", .ref a5), (.inr "pair", .ref a6), (.inr "comma", .ref a7), (.inr "done", .ref a8), (.inr "ended", .ref a9)], rfl, by show 9 ≤ 15; decide, ?_⟩
    exact q p _ _ hp (Same.put (t4.trans (s5.trans (s6.trans (s7.trans (s8.trans s9))))) hp) upd_same (merge_len (n := 0) (m := 9) (Nat.le_refl _) (Nat.le_refl _))
end
end K2

namespace K2
open PySem L2
abbrev sInit : Stmt := inClass (top 21) 0
/-- texts in data -/
def textsD : PyData → List Str
  | .list ds => ds.filterMap strD
  | .tuple ds => ds.filterMap strD
  | _ => []
def boolD : PyData → Bool
  | .bool b => b
  | _ => false
/-- the first option that is not allowed -/
def badOf : List Str → List PyData → Option Str
  | o :: os, d :: ds => if okOpt o d = true then badOf os ds else some o
  | _, _ => none
/-- what a language keeps of its options -/
def langOf (ds : List PyData) : Lang :=
  { e := (strD (ds.getD 0 .none)).getD "", n := (strD (ds.getD 1 .none)).getD "", c := (strD (ds.getD 2 .none)).getD "", l := (strD (ds.getD 3 .none)).getD "",
    D := sgn3.filter fun z => decide (z ∈ textsD (ds.getD 4 .none)), b := boolD (ds.getD 5 .none), x := boolD (ds.getD 6 .none) }
def AllShort (ds : List PyData) : Prop := ∀ d ∈ ds, Short d
def spInit (K : PySem.W.Frag) (C CB : Addr) : Sp := fun vs H Q E => ∃ (x dx : Addr) (us : List V) (ds : List PyData), vs = .ref x :: us ∧ us.length = 7 ∧ H x = some (.ins C dx []) ∧ DpAll K H us ds ∧ AllShort ds ∧
  (badOf names7 ds = none → ∀ H', (∀ b o, b ≠ x → H b = some o → H' b = some o) → LangAt C H' x (langOf ds) → Q .non H') ∧
  (∀ o, badOf names7 ds = some o → ∀ d H', H d = none → Same H H' → H' d = some (.xd [(("option" : Str), .str o)]) → E (.ref CB) (some d) H')
abbrev nInit : List Str := ["self", "equals", "end", "comma", "last", "doubled", "bare", "nothing", "given", "option", "sign"]
abbrev pInit : List Str := ["self", "equals", "end", "comma", "last", "doubled", "bare", "nothing"]
/-- the dict of the options as they were passed -/
abbrev G7 (v1 v2 v3 v4 v5 v6 v7 : V) : List (Key × V) := mergeK [] [(.inr "equals", v1), (.inr "end", v2), (.inr "comma", v3), (.inr "last", v4), (.inr "doubled", v5), (.inr "bare", v6), (.inr "nothing", v7)]
theorem g7_at {v1 v2 v3 v4 v5 v6 v7 : V} {i : Nat} {o : Str} {v : V} (h1 : names7[i]? = some o) (h2 : [v1, v2, v3, v4, v5, v6, v7][i]? = some v) : valV (G7 v1 v2 v3 v4 v5 v6 v7) (.inr o) = some v := by
  match i, h1, h2 with
  | 0, h1, h2 => cases h1; cases h2; kernel_rfl
  | 1, h1, h2 => cases h1; cases h2; kernel_rfl
  | 2, h1, h2 => cases h1; cases h2; kernel_rfl
  | 3, h1, h2 => cases h1; cases h2; kernel_rfl
  | 4, h1, h2 => cases h1; cases h2; kernel_rfl
  | 5, h1, h2 => cases h1; cases h2; kernel_rfl
  | 6, h1, h2 => cases h1; cases h2; kernel_rfl
  | n + 7, h1, _ => cases h1
abbrev F1 (a : V) : List (Str × V) := [(("equals" : Str), a)]
abbrev F2 (a b : V) : List (Str × V) := [(("equals" : Str), a), (("end" : Str), b)]
abbrev F3 (a b c : V) : List (Str × V) := [(("equals" : Str), a), (("end" : Str), b), (("comma" : Str), c)]
abbrev F4 (a b c d : V) : List (Str × V) := [(("equals" : Str), a), (("end" : Str), b), (("comma" : Str), c), (("last" : Str), d)]
abbrev F5 (a b c d e : V) : List (Str × V) := [(("equals" : Str), a), (("end" : Str), b), (("comma" : Str), c), (("last" : Str), d), (("doubled" : Str), e)]
abbrev F6 (a b c d e f : V) : List (Str × V) := [(("equals" : Str), a), (("end" : Str), b), (("comma" : Str), c), (("last" : Str), d), (("doubled" : Str), e), (("bare" : Str), f)]
abbrev F7 (a b c d e f g : V) : List (Str × V) := [(("equals" : Str), a), (("end" : Str), b), (("comma" : Str), c), (("last" : Str), d), (("doubled" : Str), e), (("bare" : Str), f), (("nothing" : Str), g)]
abbrev F8 (a b c d e f g h : V) : List (Str × V) := [(("equals" : Str), a), (("end" : Str), b), (("comma" : Str), c), (("last" : Str), d), (("doubled" : Str), e), (("bare" : Str), f), (("nothing" : Str), g), (("ways" : Str), h)]
theorem fp2 (a b : V) : putF "end" b (F1 a) = F2 a b := by kernel_rfl
theorem fp3 (a b c : V) : putF "comma" c (F2 a b) = F3 a b c := by kernel_rfl
theorem fp4 (a b c d : V) : putF "last" d (F3 a b c) = F4 a b c d := by kernel_rfl
theorem fp5 (a b c d e : V) : putF "doubled" e (F4 a b c d) = F5 a b c d e := by kernel_rfl
theorem fp6 (a b c d e f : V) : putF "bare" f (F5 a b c d e) = F6 a b c d e f := by kernel_rfl
theorem fp7 (a b c d e f g : V) : putF "nothing" g (F6 a b c d e f) = F7 a b c d e f g := by kernel_rfl
theorem fp8 (a b c d e f g h : V) : putF "ways" h (F7 a b c d e f g) = F8 a b c d e f g h := by kernel_rfl
theorem fl7 (L : Lang) (t : Addr) : Fl (F7 (.str L.e) (.str L.n) (.str L.c) (.str L.l) (.ref t) (.bl L.b) (.bl L.x)) L t := ⟨by kernel_rfl, by kernel_rfl, by kernel_rfl, by kernel_rfl, by kernel_rfl, by kernel_rfl, by kernel_rfl, by kernel_rfl⟩
theorem fl8 (L : Lang) (t : Addr) (p : V) : Fl (F8 (.str L.e) (.str L.n) (.str L.c) (.str L.l) (.ref t) (.bl L.b) (.bl L.x) p) L t := ⟨by kernel_rfl, by kernel_rfl, by kernel_rfl, by kernel_rfl, by kernel_rfl, by kernel_rfl, by kernel_rfl, by kernel_rfl⟩
theorem badOf_next {os : List Str} {ds : List PyData} {i : Nat} {o : Str} {d : PyData} (h1 : os[i]? = some o) (h2 : ds[i]? = some d) : badOf (os.drop i) (ds.drop i) = if okOpt o d = true then badOf (os.drop (i + 1)) (ds.drop (i + 1)) else some o := by
  have a1 := (List.getElem?_eq_some_iff.mp h1).1
  have a2 := (List.getElem?_eq_some_iff.mp h2).1
  rw [List.getElem?_eq_getElem a1] at h1
  rw [List.getElem?_eq_getElem a2] at h2
  rw [List.drop_eq_getElem_cons a1, List.drop_eq_getElem_cons a2, Option.some.inj h1, Option.some.inj h2]
  rfl
theorem inD_str {ws : List Str} {d : PyData} (h : inD ws d = true) : ∃ z ∈ ws, d = .str z := by
  cases d with
  | str z => exact ⟨z, of_decide_eq_true h, rfl⟩
  | _ => exact absurd h (by simp [inD, strD])
theorem isB_bool {d : PyData} (h : isB d = true) : ∃ b, d = .bool b := by
  cases d with
  | bool b => exact ⟨b, rfl⟩
  | _ => exact absurd h (by simp [isB])
/-- sound options -/
structure Sound (d1 d2 d3 d4 d5 d6 d7 : PyData) : Prop where
  e : inD ["must", "may"] d1 = true
  n : inD ["must", "between", "may"] d2 = true
  c : inD ["must", "may", "joins"] d3 = true
  l : inD ["never", "may", "must"] d4 = true
  d : okDoub d5 = true
  b : isB d6 = true
  x : isB d7 = true
theorem ok1 (d : PyData) : okOpt "equals" d = inD ["must", "may"] d := by
  unfold okOpt
  rw [show chOf "equals" = some (["must", "may"] : List Str) by decide +kernel]
  rfl
theorem ok2 (d : PyData) : okOpt "end" d = inD ["must", "between", "may"] d := by
  unfold okOpt
  rw [show chOf "end" = some (["must", "between", "may"] : List Str) by decide +kernel]
  rfl
theorem ok3 (d : PyData) : okOpt "comma" d = inD ["must", "may", "joins"] d := by
  unfold okOpt
  rw [show chOf "comma" = some (["must", "may", "joins"] : List Str) by decide +kernel]
  rfl
theorem ok4 (d : PyData) : okOpt "last" d = inD ["never", "may", "must"] d := by
  unfold okOpt
  rw [show chOf "last" = some (["never", "may", "must"] : List Str) by decide +kernel]
  rfl
theorem ok5 (d : PyData) : okOpt "doubled" d = okDoub d := by
  unfold okOpt
  rw [show chOf "doubled" = none by decide +kernel]
  rfl
theorem ok6 (d : PyData) : okOpt "bare" d = isB d := by
  unfold okOpt
  rw [show chOf "bare" = none by decide +kernel]
  show (if ("bare" : Str) = "doubled" then okDoub d else isB d) = _
  rw [if_neg (by decide +kernel)]
theorem ok7 (d : PyData) : okOpt "nothing" d = isB d := by
  unfold okOpt
  rw [show chOf "nothing" = none by decide +kernel]
  show (if ("nothing" : Str) = "doubled" then okDoub d else isB d) = _
  rw [if_neg (by decide +kernel)]
theorem badOf_step {o : Str} {os : List Str} {d : PyData} {ds : List PyData} : badOf (o :: os) (d :: ds) = if okOpt o d = true then badOf os ds else some o := rfl
theorem sound_of {d1 d2 d3 d4 d5 d6 d7 : PyData} : badOf names7 [d1, d2, d3, d4, d5, d6, d7] = none ↔ Sound d1 d2 d3 d4 d5 d6 d7 := by
  unfold names7
  rw [badOf_step, badOf_step, badOf_step, badOf_step, badOf_step, badOf_step, badOf_step, ok1, ok2, ok3, ok4, ok5, ok6, ok7]
  constructor
  · intro h
    by_cases a1 : inD ["must", "may"] d1 = true
    case neg => rw [if_neg a1] at h; cases h
    rw [if_pos a1] at h
    by_cases a2 : inD ["must", "between", "may"] d2 = true
    case neg => rw [if_neg a2] at h; cases h
    rw [if_pos a2] at h
    by_cases a3 : inD ["must", "may", "joins"] d3 = true
    case neg => rw [if_neg a3] at h; cases h
    rw [if_pos a3] at h
    by_cases a4 : inD ["never", "may", "must"] d4 = true
    case neg => rw [if_neg a4] at h; cases h
    rw [if_pos a4] at h
    by_cases a5 : okDoub d5 = true
    case neg => rw [if_neg a5] at h; cases h
    rw [if_pos a5] at h
    by_cases a6 : isB d6 = true
    case neg => rw [if_neg a6] at h; cases h
    rw [if_pos a6] at h
    by_cases a7 : isB d7 = true
    case neg => rw [if_neg a7] at h; cases h
    exact ⟨a1, a2, a3, a4, a5, a6, a7⟩
  · intro h
    rw [if_pos h.e, if_pos h.n, if_pos h.c, if_pos h.l, if_pos h.d, if_pos h.b, if_pos h.x]
    rfl
theorem doub_row {K : PySem.W.Frag} {H : Hp} {v : V} {d : PyData} (h : Dp K H v d) (ok : okDoub d = true) : ∃ a, v = .ref a ∧ (SqL K H a ((textsD d).map V.str) ∨ SqT K H a ((textsD d).map V.str)) ∧ (textsD d).Nodup ∧ ∀ z ∈ textsD d, z ∈ sgn3 := by
  rcases seq_or h with ⟨a, xs, ds, rfl, hx, row⟩ | ⟨hn, _⟩
  · rw [row.ok] at ok
    unfold okSeq at ok
    rw [Bool.and_eq_true] at ok
    obtain ⟨e1, e2⟩ := all_texts hx ok.1
    have et : textsD d = ds.filterMap strD := by rcases row with ⟨_, rfl⟩ | ⟨_, rfl⟩ <;> rfl
    refine ⟨a, rfl, ?_, by rw [et]; exact of_decide_eq_true ok.2, fun z hz => ?_⟩
    · rw [et, ← e1]
      rcases row with ⟨h, _⟩ | ⟨h, _⟩
      · exact .inl h
      · exact .inr h
    · rw [et] at hz
      obtain ⟨d', hd', e⟩ := List.mem_filterMap.mp hz
      have q := List.all_eq_true.mp ok.1 d' hd'
      unfold inD at q
      rw [e] at q
      exact of_decide_eq_true q
  · rw [hn] at ok
    cases ok
theorem filter_one {α : Type} (p : α → Bool) (z : α) : [z].filter p = if p z = true then [z] else [] := by
  by_cases c : p z = true <;> simp [c]
section
variable {P : Program} {w : World} {K : PySem.W.Frag} {mg : Str → Option Value} {base : Heap} {aD aO aC : Addr}
theorem scInit : FnScope nInit pInit (defScope sInit) := ⟨rfl, rfl, rfl, by decide +kernel, rfl, by decide +kernel, by decide +kernel⟩
theorem ok_init {f C CB fE : Addr} {fd : FuncData} {kws : List (Str × V)} (F : FunD K "__init__" "Language.__init__" (defArgs sInit) (defBody sInit) (defScope sInit) [] kws f fd) (T : ModC K w mg aD aO aC) (S : LangC K mg C) (TE : K2E.ErrTxt P K mg CB fE)
    (GA : Fn P w K mg base 3 "is_allowed" ["option", "thing"] (spAllowed K)) (GW : Fn P w K mg base 3 "all_ways" ["language"] (spWays C 9)) :
    FnOk P w K mg base (L2.CX P w) 4 f fd pInit (spInit K C CB) := by
  refine F.ok scInit (fun vs H Q E h => ?_) (fun cdv A outer s H vs Q E hr h => ?_)
  · obtain ⟨x, dx, us, ds, rfl, hl, _⟩ := h
    rw [List.length_cons, hl]
    rfl
  · obtain ⟨x, dx, us, ds, rfl, hl, hx, hd, hs, q, e⟩ := h
    have hu := hu_of hr
    match us, hl with
    | [v1, v2, v3, v4, v5, v6, v7], _ =>
    refine ⟨_, C8.pss_cut (ps_set (i := 8) scInit.nd rfl (.inl rfl) (pe_disp (pps_cons pe_str (pv 1) (pps_cons pe_str (pv 2) (pps_cons pe_str (pv 3) (pps_cons pe_str (pv 4) (pps_cons pe_str (pv 5) (pps_cons pe_str (pv 6) (pps_cons pe_str (pv 7) pps_nil))))))) (by rfl) (by rfl) (fun z => by cases z) (by decide)))
      (C8.pss_cut (ps_for (passes_of rfl) rfl (pi_tup (pe_glob (v := .ref aO) (by rfl) T.opt rfl)) (pg_name (i := 9) scInit.nd rfl (.inl rfl))
        (pss_one (ps_if (pt_not (pt_val (pe_fn GA hr rfl (pa_cons (pv 9) (pa_cons (pe_dget hu (pv 8) (pv 9) (fun _ _ => rfl)) pa_nil))))) (pss_one (ps_raiseErr rfl TE hr (takes_of rfl rfl rfl rfl) (pa_cons (pv 9) pa_nil))) pss_nil)))
      (pss_cons (ps_fld (pv 0) (pv 1) rfl) (pss_cons (ps_fld (pv 0) (pv 2) rfl) (pss_cons (ps_fld (pv 0) (pv 3) rfl) (pss_cons (ps_fld (pv 0) (pv 4) rfl)
      (C8.pss_cut (ps_fld (pv 0) (pe_callTy call_tuple_of (by rfl) T.tuple (by decide +kernel) (pa_cons (pe_lc (own := [("sign", 10)]) (g := gName 10) (tt := tTest (tOp (rIn K false) (tVar 10) (tVar 5))) (by rfl) scInit.nd (pi_tup (pe_glob (v := .ref aD) (by rfl) T.dbl rfl))
        (blkOk_by (own := [("sign", 10)]) (N := nInit) (sc := defScope sInit) (by decide +kernel)) (fun _ _ _ _ _ => pg_name (i := 10) scInit.nd rfl (Or.inl rfl)) (fun _ _ _ _ _ => pts_one (pt_cmpR op_in_seq (pv 10) (pv 5) (by rfl))) (fun _ _ _ _ _ => pv 10)) pa_nil)) rfl)
      (pss_cons (ps_fld (pv 0) (pv 6) rfl) (pss_cons (ps_fld (pv 0) (pv 7) rfl) (pss_one (ps_fld (pv 0) (pe_fn GW hr rfl (pa_cons (pv 0) pa_nil)) rfl)))))))))), ?_⟩
    obtain ⟨d1, d2, d3, d4, d5, d6, d7, rfl⟩ : ∃ d1 d2 d3 d4 d5 d6 d7, ds = [d1, d2, d3, d4, d5, d6, d7] := by
      have l := DpAll.len hd
      match ds, l with
      | [d1, d2, d3, d4, d5, d6, d7], _ => exact ⟨_, _, _, _, _, _, _, rfl⟩
    refine ⟨fun σ H' => ∃ g, σ = [some (.ref x), some v1, some v2, some v3, some v4, some v5, some v6, some v7, some (.ref g), none, none] ∧ H' g = some (.dK (G7 v1 v2 v3 v4 v5 v6 v7)) ∧ Same H H', ?_, ?_⟩
    · intro g hg
      exact ⟨_, rfl, _, rfl, _, rfl, _, rfl, _, rfl, _, rfl, _, rfl, upd_same, [(.inr "equals", v1), (.inr "end", v2), (.inr "comma", v3), (.inr "last", v4), (.inr "doubled", v5), (.inr "bare", v6), (.inr "nothing", v7)], rfl, by show 7 ≤ 15; decide, g, rfl, upd_same, Same.put (Same.new (Same.refl H) hg) hg⟩
    rintro σ H1 ⟨g, rfl, hg, s1⟩
    refine ⟨fun σ H' => (∃ v9, σ = [some (.ref x), some v1, some v2, some v3, some v4, some v5, some v6, some v7, some (.ref g), v9, none]) ∧ Same H H' ∧ badOf names7 [d1, d2, d3, d4, d5, d6, d7] = none, ?_, ?_⟩
    · refine ⟨aO, rfl, ⟨_, T.otup.sq H1⟩, for_tup (K := K) (a := aO) (xs := names7.map V.str) (fun i σ H' => (∃ v9, σ = [some (.ref x), some v1, some v2, some v3, some v4, some v5, some v6, some v7, some (.ref g), v9, none]) ∧ Same H H' ∧ H' g = some (.dK (G7 v1 v2 v3 v4 v5 v6 v7)) ∧ badOf names7 [d1, d2, d3, d4, d5, d6, d7] = badOf (names7.drop i) ([d1, d2, d3, d4, d5, d6, d7].drop i)) ⟨⟨_, rfl⟩, s1, hg, rfl⟩ (fun _ _ H' _ _ => T.otup.sq H') ?_ ?_⟩
      · rintro i y σ H2 hi ⟨⟨v9, rfl⟩, s2, hg2, eb⟩
        rw [List.getElem?_map] at hi
        obtain ⟨o, ho, rfl⟩ := Option.map_eq_some_iff.mp hi
        have hi7 : i < 7 := (List.getElem?_eq_some_iff.mp ho).1
        have hdi : [d1, d2, d3, d4, d5, d6, d7][i]? = some ([d1, d2, d3, d4, d5, d6, d7][i]'hi7) := List.getElem?_eq_getElem hi7
        generalize [d1, d2, d3, d4, d5, d6, d7][i]'hi7 = d at hdi
        obtain ⟨v, hvi, hv⟩ := DpAll.at hd hdi
        have hds : Short d := hs d (List.mem_of_getElem? hdi)
        rw [badOf_next ho hdi] at eb
        refine ⟨_, rfl, _, rfl, _, rfl, g, _, rfl, by rw [← g7_at ho hvi]; exact DGet.k (k := .inr o) hg2, o, v, d, rfl, List.mem_of_getElem? ho, dp_same s2 _ hv, hds, fun H3 s3 => ⟨_, rfl, ?_⟩⟩
        cases hok : okOpt o d with
        | false =>
          rw [hok, if_neg (by decide)] at eb
          refine iteT ⟨_, rfl, .str o, rfl, fun d' hd' => ?_⟩
          exact e o eb d' _ ((s2.trans s3).free hd') (Same.new (s2.trans s3) hd') upd_same
        | true =>
          rw [hok, if_pos rfl] at eb
          exact iteF ⟨⟨_, rfl⟩, s2.trans s3, s3 _ _ hg2, eb⟩
      · rintro σ H2 ⟨hv9, s2, _, eb⟩
        exact ⟨hv9, s2, eb⟩
    rintro σ H2 ⟨⟨v9, rfl⟩, s2, hbad⟩
    have sd := sound_of.mp hbad
    obtain ⟨z1, _, rfl⟩ := inD_str sd.e
    obtain ⟨z2, _, rfl⟩ := inD_str sd.n
    obtain ⟨z3, _, rfl⟩ := inD_str sd.c
    obtain ⟨z4, _, rfl⟩ := inD_str sd.l
    obtain ⟨b6, rfl⟩ := isB_bool sd.b
    obtain ⟨b7, rfl⟩ := isB_bool sd.x
    have hd' := hd
    cases hd with
    | cons h1 hd =>
    cases hd with
    | cons h2 hd =>
    cases hd with
    | cons h3 hd =>
    cases hd with
    | cons h4 hd =>
    cases hd with
    | cons h5 hd =>
    cases hd with
    | cons h6 hd =>
    cases hd with
    | cons h7 hd =>
    cases h1; cases h2; cases h3; cases h4; cases h6; cases h7
    obtain ⟨a5, rfl, hrow, _, _⟩ := doub_row h5 sd.d
    have Lang0 : langOf [.str z1, .str z2, .str z3, .str z4, d5, .bool b6, .bool b7] = { e := z1, n := z2, c := z3, l := z4, D := sgn3.filter fun z => decide (z ∈ textsD d5), b := b6, x := b7 } := rfl
    have hx2 := s2 _ _ hx
    have kx : ∀ {H' : Hp} {o' : HO}, (∀ b o, b ≠ x → H b = some o → H' b = some o) → ∀ b o, b ≠ x → H b = some o → (upd H' x o') b = some o := fun k b o n h => by
      rw [upd_ne n]
      exact k b o n h
    have k0 : ∀ b o, b ≠ x → H b = some o → H2 b = some o := fun b o _ h => s2 _ _ h
    refine ⟨_, rfl, _, rfl, x, C, dx, _, rfl, hx2, S.cl, S.nE, (by show 0 < 1000; decide), ?_⟩
    refine ⟨_, rfl, _, rfl, x, C, dx, _, rfl, upd_same, S.cl, S.nN, (by show 1 < 1000; decide), ?_⟩
    refine ⟨_, rfl, _, rfl, x, C, dx, _, rfl, upd_same, S.cl, S.nC, by rw [show putF "end" (.str z2) (putF "equals" (.str z1) []) = F2 (.str z1) (.str z2) from fp2 _ _]; (show 2 < 1000; decide), ?_⟩
    rw [show putF "end" (.str z2) (putF "equals" (.str z1) []) = F2 (.str z1) (.str z2) from fp2 _ _, fp3]
    refine ⟨_, rfl, _, rfl, x, C, dx, _, rfl, upd_same, S.cl, S.nL, (by show 3 < 1000; decide), ?_⟩
    rw [fp4]
    have k4 := kx (o' := .ins C dx (F4 (.str z1) (.str z2) (.str z3) (.str z4))) (kx (o' := .ins C dx (F3 (.str z1) (.str z2) (.str z3))) (kx (o' := .ins C dx (F2 (.str z1) (.str z2))) (kx (o' := .ins C dx (putF "equals" (.str z1) [])) k0)))
    generalize hH4 : upd (upd (upd (upd H2 x (.ins C dx (putF "equals" (.str z1) []))) x (.ins C dx (F2 (.str z1) (.str z2)))) x (.ins C dx (F3 (.str z1) (.str z2) (.str z3)))) x (.ins C dx (F4 (.str z1) (.str z2) (.str z3) (.str z4))) = H4 at k4 ⊢
    have hx4 : H4 x = some (.ins C dx (F4 (.str z1) (.str z2) (.str z3) (.str z4))) := by rw [← hH4]; exact upd_same
    clear hH4
    have ne5 : ∀ b o, H b = some o → (∀ C' dx' fs, o ≠ .ins C' dx' fs) → b ≠ x := fun b o h n z => by
      rw [z, hx] at h
      exact n _ _ _ (Option.some.inj h).symm
    have row4 : SqL K H4 a5 ((textsD d5).map V.str) ∨ SqT K H4 a5 ((textsD d5).map V.str) := by
      rcases hrow with (h | h) | (h | h)
      · rcases h with h | ⟨o, h⟩
        · exact .inl (.inl (.inl (k4 _ _ (ne5 _ _ h (fun _ _ _ z => nomatch z)) h)))
        · exact .inl (.inl (.inr ⟨o, k4 _ _ (ne5 _ _ h (fun _ _ _ z => nomatch z)) h⟩))
      · exact .inl (.inr h)
      · rcases h with h | ⟨o, h⟩
        · exact .inr (.inl (.inl (k4 _ _ (ne5 _ _ h (fun _ _ _ z => nomatch z)) h)))
        · exact .inr (.inl (.inr ⟨o, k4 _ _ (ne5 _ _ h (fun _ _ _ z => nomatch z)) h⟩))
      · exact .inr (.inr h)
    refine ⟨fun σ H' => ∃ t, σ = [some (.ref x), some (.str z1), some (.str z2), some (.str z3), some (.str z4), some (.ref a5), some (.bl b6), some (.bl b7), some (.ref g), v9, none] ∧ H' x = some (.ins C dx (F5 (.str z1) (.str z2) (.str z3) (.str z4) (.ref t))) ∧ H' t = some (.tup ((sgn3.filter fun z => decide (z ∈ textsD d5)).map V.str)) ∧ t ≠ x ∧ ∀ b o, b ≠ x → H b = some o → H' b = some o, ?_, ?_⟩
    · refine ⟨aD, rfl, ⟨_, T.dtup.sq H4⟩, fun D hD => lc_tup (K := K) (a := aD) (xs := sgn3.map V.str) (fun i H' => Same H4 H' ∧ H' D = some (.lst (((sgn3.take i).filter fun z => decide (z ∈ textsD d5)).map V.str))) ⟨Same.new (Same.refl H4) hD, upd_same⟩ (fun _ H' _ _ => T.dtup.sq H') (fun i y H5 hi ⟨s5, h5'⟩ => ?_) (fun H5 ⟨s5, h5'⟩ => ?_)⟩
      · rw [List.getElem?_map] at hi
        obtain ⟨z, hz, rfl⟩ := Option.map_eq_some_iff.mp hi
        have row5 : SqL K H5 a5 ((textsD d5).map V.str) ∨ SqT K H5 a5 ((textsD d5).map V.str) := row4.elim (fun h => .inl (s5.seq h)) (fun h => .inr (SqT.ext h s5))
        refine ⟨rfl, _, rfl, _, rfl, a5, _, rfl, row5, rfl, flat_strs _, _, rfl, ?_⟩
        show if inV (V.str z) ((textsD d5).map V.str) = true then _ else _
        rw [inV_strs]
        have more : (sgn3.take (i + 1)).filter (fun z => decide (z ∈ textsD d5)) = (sgn3.take i).filter (fun z => decide (z ∈ textsD d5)) ++ (if decide (z ∈ textsD d5) = true then [z] else []) := by
          rw [List.take_add_one, hz, List.filter_append]
          congr 1
          exact filter_one _ z
        refine ite2 (fun hc => ?_) (fun hc => ?_)
        · refine ⟨_, rfl, _, h5', ?_, fun b o hb => ?_, ?_⟩
          · rw [List.length_map]
            have l1 := List.length_filter_le (fun z => decide (z ∈ textsD d5)) (sgn3.take i)
            have l2 : (sgn3.take i).length ≤ 3 := by
              rw [List.length_take]
              exact Nat.min_le_right _ _
            exact line50 (by omega)
          · rw [upd_ne (ne_of_none hb hD)]
            exact s5 b o hb
          · rw [upd_same, more, if_pos hc, List.map_append]
            rfl
        · refine ⟨s5, ?_⟩
          rw [h5', more, if_neg hc, List.append_nil]
      · refine ⟨D, _, rfl, .inl ⟨SqL.of h5', fun t ht => ?_⟩⟩
        have hx5 := s5 _ _ hx4
        have nt : t ≠ x := (ne_of_none hx5 ht).symm
        refine ⟨_, rfl, x, C, dx, _, rfl, by rw [upd_ne nt.symm]; exact hx5, S.cl, S.nD, (by show 4 < 1000; decide), t, rfl, by rw [upd_same, fp5], ?_, nt, fun b o n h => ?_⟩
        · rw [upd_ne nt, upd_same]
          rfl
        · rw [upd_ne n, upd_ne (ne_of_none (s5 _ _ (k4 b o n h)) ht)]
          exact s5 _ _ (k4 b o n h)
    rintro σ H6 ⟨t, rfl, hx6, ht6, nt, k6⟩
    refine ⟨_, rfl, _, rfl, x, C, dx, _, rfl, hx6, S.cl, S.nB, (by show 5 < 1000; decide), ?_⟩
    rw [fp6]
    refine ⟨_, rfl, _, rfl, x, C, dx, _, rfl, upd_same, S.cl, S.nX, (by show 6 < 1000; decide), ?_⟩
    rw [fp7]
    have k7 := kx (o' := .ins C dx (F7 (.str z1) (.str z2) (.str z3) (.str z4) (.ref t) (.bl b6) (.bl b7))) (kx (o' := .ins C dx (F6 (.str z1) (.str z2) (.str z3) (.str z4) (.ref t) (.bl b6))) k6)
    have ht7 : upd (upd H6 x (.ins C dx (F6 (.str z1) (.str z2) (.str z3) (.str z4) (.ref t) (.bl b6)))) x (.ins C dx (F7 (.str z1) (.str z2) (.str z3) (.str z4) (.ref t) (.bl b6) (.bl b7))) t = some (.tup ((sgn3.filter fun z => decide (z ∈ textsD d5)).map V.str)) := by
      rw [upd_ne nt, upd_ne nt]
      exact ht6
    refine ⟨_, rfl, x, langOf [.str z1, .str z2, .str z3, .str z4, d5, .bool b6, .bool b7], rfl, ⟨dx, t, _, upd_same, fl7 (langOf [.str z1, .str z2, .str z3, .str z4, d5, .bool b6, .bool b7]) t, ht7⟩, fun p kvs H8 hp s8 h8 _ => ?_⟩
    refine ⟨_, rfl, x, C, dx, _, rfl, s8 _ _ upd_same, S.cl, S.nW, (by show 7 < 1000; decide), ?_⟩
    rw [fp8]
    refine q hbad _ (kx (fun b o n h => s8 _ _ (k7 b o n h))) ⟨dx, t, _, upd_same, fl8 (langOf [.str z1, .str z2, .str z3, .str z4, d5, .bool b6, .bool b7]) t (.ref p), ?_⟩
    rw [upd_ne nt]
    exact s8 _ _ ht7
end
end K2

namespace K2
open PySem L2
abbrev sEq : Stmt := inClass (top 21) 1
/-- whether two languages are equal -/
def eqL (L M : Lang) : Bool := decide (L.e = M.e) && (decide (L.n = M.n) && (decide (L.c = M.c) && (decide (L.l = M.l) && (decide (L.D = M.D) && (decide (L.b = M.b) && decide (L.x = M.x))))))
theorem eqL_self (L : Lang) : eqL L L = true := by
  unfold eqL
  simp
def SmallS (D : List Str) : Prop := D.length ≤ 3 ∧ ∀ z ∈ D, z ∈ sgn3
theorem dp_strs (K : PySem.W.Frag) (H : Hp) : ∀ D : List Str, DpAll K H (D.map V.str) (D.map PyData.str)
  | [] => .nil
  | z :: D => .cons (.str z) (dp_strs K H D)
theorem fair_sgn : ∀ z ∈ sgn3, fairB (.str z) = true := by decide +kernel
theorem SmallS.fair {D : List Str} (h : SmallS D) : Fair (D.map PyData.str) := fun d hd => by
  obtain ⟨z, hz, rfl⟩ := List.mem_map.mp hd
  exact fair_of (fair_sgn z (h.2 z hz))
theorem beq_dec (a b : Str) : (a == b) = decide (a = b) := by
  by_cases h : a = b
  · rw [h]; simp
  · rw [decide_eq_false h]; exact beq_eq_false_iff_ne.mpr h
theorem strs_eqv : ∀ a b : List Str, PyData.eqvAll (a.map PyData.str) (b.map PyData.str) = decide (a = b)
  | [], [] => by rw [List.map_nil, PyData.eqvAll]; rfl
  | [], y :: b => by rw [List.map_nil, List.map_cons, PyData.eqvAll]; rfl
  | x :: a, [] => by rw [List.map_nil, List.map_cons, PyData.eqvAll]; rfl
  | x :: a, y :: b => by
    rw [List.map_cons, List.map_cons, PyData.eqvAll, strs_eqv a b, PyData.eqv, beq_dec]
    by_cases h1 : x = y
    · by_cases h2 : a = b <;> simp [h1, h2]
    · simp [h1]
def spEq (K : PySem.W.Frag) (C : Addr) : Sp := fun vs H Q _ => ∃ (x : Addr) (y : V) (L : Lang), vs = [.ref x, y] ∧ LangAt C H x L ∧ SmallS L.D ∧
  ((∃ x' M, y = .ref x' ∧ LangAt C H x' M ∧ SmallS M.D ∧ Q (.bl (eqL L M)) H) ∨ (∃ t, TyX K H y t ∧ PySem.W.kitOne K t (.ref C) = some false ∧ Q (.bl false) H))
theorem lang_ty {K : PySem.W.Frag} {mg : Str → Option Value} {C : Addr} (S : LangC K mg C) {H : Hp} {x : Addr} {L : Lang} (h : LangAt C H x L) : TyX K H (.ref x) (.ref C) := by
  obtain ⟨dx, t, fs, h, _⟩ := h
  exact .base (.ins h S.cl S.ha S.hn S.htk S.hm)
theorem kit_self (K : PySem.W.Frag) (C : Addr) : PySem.W.kitOne K (.ref C) (.ref C) = some true := by
  unfold PySem.W.kitOne
  rw [if_pos (beq_iff_eq.mpr rfl)]
theorem bl_dec (a b : Bool) : decide (V.bl a = V.bl b) = decide (a = b) := by cases a <;> cases b <;> decide
section
variable {P : Program} {w : World} {K : PySem.W.Frag} {mg : Str → Option Value} {base : Heap} {C : Addr}
theorem scEq : FnScope ["self", "other"] ["self", "other"] (defScope sEq) := ⟨rfl, rfl, rfl, by decide +kernel, rfl, by decide +kernel, by decide +kernel⟩
theorem ok_eq {f : Addr} {fd : FuncData} (F : Fun K "__eq__" "Language.__eq__" sEq f fd) (T : Bare mg) (S : LangC K mg C) : FnOk P w K mg base CX0 2 f fd ["self", "other"] (spEq K C) := by
  refine F.ok scEq (fun vs H Q E h => ?_) (fun cdv A outer s H vs Q E hr h => ?_)
  · obtain ⟨x, y, L, rfl, _⟩ := h
    rfl
  · obtain ⟨x, y, L, rfl, hx, sm, q⟩ := h
    refine ⟨_, pss_one (ps_ret (pe_and (pe_callB call_isi (by rfl) T.isi (by decide +kernel) (pa_cons (pv 1) (pa_cons (pe_glob (v := .ref C) (by rfl) S.gC rfl) pa_nil)))
      (pe_and (pe_cmpR op_eq (pe_fld (pv 0) rfl) (pe_fld (pv 1) rfl) (nomark _)) (pe_and (pe_cmpR op_eq (pe_fld (pv 0) rfl) (pe_fld (pv 1) rfl) (nomark _)) (pe_and (pe_cmpR op_eq (pe_fld (pv 0) rfl) (pe_fld (pv 1) rfl) (nomark _)) (pe_and (pe_cmpR op_eq (pe_fld (pv 0) rfl) (pe_fld (pv 1) rfl) (nomark _)) (pe_and (pe_cmpR (op_eqD hr.units) (pe_fld (pv 0) rfl) (pe_fld (pv 1) rfl) (nomark _)) (pe_and (pe_cmpR op_eq (pe_fld (pv 0) rfl) (pe_fld (pv 1) rfl) (nomark _)) (pe_one (pe_cmpR op_eq (pe_fld (pv 0) rfl) (pe_fld (pv 1) rfl) (nomark _))))))))))), ?_⟩
    rcases q with ⟨x', M, rfl, hy, sm', q⟩ | ⟨ty, hty, kt, q⟩
    case inr => exact ⟨_, rfl, y, .ref C, ty, .ref C, false, rfl, .own C, hty, kt, false, rfl, iteF q⟩
    have ty := lang_ty S hy
    obtain ⟨dx, t, fs, hx, fl, ht⟩ := hx
    obtain ⟨dy, t', gs, hy, gl, ht'⟩ := hy
    unfold eqL at q
    refine ⟨_, rfl, .ref x', .ref C, .ref C, .ref C, true, rfl, .own C, ty, kit_self K C, true, rfl, iteT ?_⟩
    refine ⟨_, rfl, x, C, dx, _, _, rfl, hx, S.cl, S.nE, fl.e, _, rfl, x', C, dy, _, _, rfl, hy, S.cl, S.nE, gl.e, rfl, _, rfl, ?_⟩
    show if decide (V.str L.e = V.str M.e) = true then _ else _
    rw [eq_strB]
    cases h_e : decide (L.e = M.e) with
    | false =>
      rw [h_e, Bool.false_and] at q
      exact iteF q
    | true =>
    rw [h_e, Bool.true_and] at q
    refine iteT ?_
    refine ⟨_, rfl, x, C, dx, _, _, rfl, hx, S.cl, S.nN, fl.n, _, rfl, x', C, dy, _, _, rfl, hy, S.cl, S.nN, gl.n, rfl, _, rfl, ?_⟩
    show if decide (V.str L.n = V.str M.n) = true then _ else _
    rw [eq_strB]
    cases h_n : decide (L.n = M.n) with
    | false =>
      rw [h_n, Bool.false_and] at q
      exact iteF q
    | true =>
    rw [h_n, Bool.true_and] at q
    refine iteT ?_
    refine ⟨_, rfl, x, C, dx, _, _, rfl, hx, S.cl, S.nC, fl.c, _, rfl, x', C, dy, _, _, rfl, hy, S.cl, S.nC, gl.c, rfl, _, rfl, ?_⟩
    show if decide (V.str L.c = V.str M.c) = true then _ else _
    rw [eq_strB]
    cases h_c : decide (L.c = M.c) with
    | false =>
      rw [h_c, Bool.false_and] at q
      exact iteF q
    | true =>
    rw [h_c, Bool.true_and] at q
    refine iteT ?_
    refine ⟨_, rfl, x, C, dx, _, _, rfl, hx, S.cl, S.nL, fl.l, _, rfl, x', C, dy, _, _, rfl, hy, S.cl, S.nL, gl.l, rfl, _, rfl, ?_⟩
    show if decide (V.str L.l = V.str M.l) = true then _ else _
    rw [eq_strB]
    cases h_l : decide (L.l = M.l) with
    | false =>
      rw [h_l, Bool.false_and] at q
      exact iteF q
    | true =>
    rw [h_l, Bool.true_and] at q
    refine iteT ?_
    refine ⟨_, rfl, x, C, dx, _, _, rfl, hx, S.cl, S.nD, fl.d, _, rfl, x', C, dy, _, _, rfl, hy, S.cl, S.nD, gl.d, .tuple (L.D.map PyData.str), .tuple (M.D.map PyData.str), .tup (SqT.of ht) (dp_strs K H _), .tup (SqT.of ht') (dp_strs K H _), fair_shaped_t sm.fair, fair_shaped_t sm'.fair, _, rfl, ?_⟩
    rw [PyData.eqv, strs_eqv]
    cases h_D : decide (L.D = M.D) with
    | false =>
      rw [h_D, Bool.false_and] at q
      exact iteF q
    | true =>
    rw [h_D, Bool.true_and] at q
    refine iteT ?_
    refine ⟨_, rfl, x, C, dx, _, _, rfl, hx, S.cl, S.nB, fl.b, _, rfl, x', C, dy, _, _, rfl, hy, S.cl, S.nB, gl.b, rfl, _, rfl, ?_⟩
    show if decide (V.bl L.b = V.bl M.b) = true then _ else _
    rw [bl_dec]
    cases h_b : decide (L.b = M.b) with
    | false =>
      rw [h_b, Bool.false_and] at q
      exact iteF q
    | true =>
    rw [h_b, Bool.true_and] at q
    refine iteT ?_
    refine ⟨_, rfl, x, C, dx, _, _, rfl, hx, S.cl, S.nX, fl.x, _, rfl, x', C, dy, _, _, rfl, hy, S.cl, S.nX, gl.x, rfl, ?_⟩
    show Q (V.bl (decide (V.bl L.x = V.bl M.x))) H
    rw [bl_dec]
    exact q
end
end K2

namespace K2
open PySem L2 K2M
abbrev sWith : Stmt := inClass (top 21) 2
/-- one option put in the place of another -/
def setO {α : Type} (o : Str) (v : α) (zs : List α) : List α := zs.set (names7.findIdx fun x => decide (x = o)) v
/-- some options put in their places -/
def setAll {α : Type} (kvs : List (Str × α)) (zs : List α) : List α := kvs.foldl (fun zs kv => setO kv.1 kv.2 zs) zs
theorem setO_len {α : Type} (o : Str) (v : α) (zs : List α) : (setO o v zs).length = zs.length := List.length_set
theorem setAll_len {α : Type} : ∀ (kvs : List (Str × α)) (zs : List α), (setAll kvs zs).length = zs.length
  | [], _ => rfl
  | kv :: kvs, zs => by
    show (setAll kvs (setO kv.1 kv.2 zs)).length = _
    rw [setAll_len, setO_len]
theorem put7 {o : Str} (h : o ∈ names7) {zs : List V} (hl : zs.length = 7) (v : V) : putK (kwK (names7.zip zs)) (.inr o) v = kwK (names7.zip (setO o v zs)) := by
  match zs, hl with
  | [a, b, c, d, e, f, g], _ =>
    simp only [names7, List.mem_cons, List.not_mem_nil, or_false] at h
    rcases h with rfl | rfl | rfl | rfl | rfl | rfl | rfl <;> kernel_rfl
theorem merge7 : ∀ {kvs : List (Str × V)} {zs : List V}, (∀ kv ∈ kvs, kv.1 ∈ names7) → zs.length = 7 → mergeK (kwK (names7.zip zs)) (kwK kvs) = kwK (names7.zip (setAll kvs zs))
  | [], _, _, _ => rfl
  | kv :: kvs, zs, h, hl => by
    show mergeK (putK (kwK (names7.zip zs)) (.inr kv.1) kv.2) (kwK kvs) = _
    rw [put7 (h kv List.mem_cons_self) hl, merge7 (fun x hx => h x (List.mem_cons_of_mem _ hx)) (by rw [setO_len]; exact hl)]
    rfl
theorem dpAll_set {K : PySem.W.Frag} {H : Hp} {v : V} {d : PyData} (h : Dp K H v d) : ∀ {vs : List V} {ds : List PyData} (i : Nat), DpAll K H vs ds → DpAll K H (vs.set i v) (ds.set i d)
  | _, [], i, h' => by
    cases h'
    exact .nil
  | _, e :: ds, 0, h' => by
    cases h' with
    | cons h1 h2 => exact .cons h h2
  | _, e :: ds, i + 1, h' => by
    cases h' with
    | cons h1 h2 => exact .cons h1 (dpAll_set h i h2)
theorem dpAll_setAll {K : PySem.W.Frag} {H : Hp} : ∀ {ks : List Str} {vs : List V} {ds : List PyData} {zs : List V} {es : List PyData}, DpAll K H vs ds → DpAll K H zs es → DpAll K H (setAll (ks.zip vs) zs) (setAll (ks.zip ds) es)
  | [], _, _, _, _, _, h => h
  | k :: ks, _, [], _, _, h, h' => by
    cases h
    exact h'
  | k :: ks, _, d :: ds, zs, es, h, h' => by
    cases h with
    | @cons v vs _ _ h1 h2 => exact dpAll_setAll (ks := ks) h2 (dpAll_set h1 _ h')
theorem short_set {d : PyData} (h : Short d) {ds : List PyData} (hs : AllShort ds) (i : Nat) : AllShort (ds.set i d) := fun x hx => by
  rcases List.mem_or_eq_of_mem_set hx with hx | rfl
  · exact hs x hx
  · exact h
theorem short_setAll : ∀ {ks : List Str} {ds es : List PyData}, AllShort ds → AllShort es → AllShort (setAll (ks.zip ds) es)
  | [], _, _, _, h => h
  | k :: ks, [], _, _, h => h
  | k :: ks, d :: ds, es, h, h' => short_setAll (ks := ks) (fun x hx => h x (List.mem_cons_of_mem _ hx)) (short_set (h d List.mem_cons_self) h' _)
/-- a language's own options as data -/
def ownD (L : Lang) : List PyData := [.str L.e, .str L.n, .str L.c, .str L.l, .tuple (L.D.map PyData.str), .bool L.b, .bool L.x]
theorem own_short {L : Lang} (h : SmallS L.D) : AllShort (ownD L) := fun d hd ds e => by
  simp only [ownD, List.mem_cons, List.not_mem_nil, or_false] at hd
  rcases hd with rfl | rfl | rfl | rfl | rfl | rfl | rfl
  all_goals first
    | (rcases e with e | e <;> cases e)
  rw [List.length_map]
  have := h.1
  omega
/-- a language with some options changed, or the first that is refused -/
def spWith (K : PySem.W.Frag) (C CB : Addr) : SpM := fun v0 kvs H Q E => ∃ (x : Addr) (L : Lang) (ks : List Str) (vs : List V) (ds : List PyData), v0 = .ref x ∧ kvs = ks.zip vs ∧ ks.length = vs.length ∧ ks.length ≤ 20 ∧ LangAt C H x L ∧ SmallS L.D ∧ DpAll K H vs ds ∧ AllShort ds ∧
  (∀ o, ks.find? (fun k => !decide (k ∈ names7)) = some o → ∀ d H', H d = none → Same H H' → H' d = some (.xd [(("option" : Str), .str o)]) → E (.ref CB) (some d) H') ∧
  (ks.find? (fun k => !decide (k ∈ names7)) = none →
    (badOf names7 (setAll (ks.zip ds) (ownD L)) = none → ∀ y H', H y = none → Same H H' → LangAt C H' y (langOf (setAll (ks.zip ds) (ownD L))) → Q (.ref y) H') ∧
    (∀ o, badOf names7 (setAll (ks.zip ds) (ownD L)) = some o → ∀ d H', H d = none → Same H H' → H' d = some (.xd [(("option" : Str), .str o)]) → E (.ref CB) (some d) H'))
/-- the same for the def's body -/
def spBody (K : PySem.W.Frag) (C CB : Addr) : Sp := fun us H Q E => ∃ (x d : Addr) (kvs : List (Str × V)) (H0 : Hp), us = [.ref x, .ref d] ∧ H0 d = none ∧ H = upd H0 d (.dK (kwK kvs)) ∧ spWith K C CB (.ref x) kvs H0 Q E
abbrev nWith : List Str := ["self", "more", "option", "options"]
section
variable {P : Program} {w : World} {K : PySem.W.Frag} {mg : Str → Option Value} {base : Heap} {aD aO aC : Addr}
theorem scWith : FnScope nWith ["self", "more"] (defScope sWith) := ⟨rfl, rfl, rfl, by decide +kernel, rfl, by decide +kernel, by decide +kernel⟩
theorem find_none {p : Str → Bool} {ks : List Str} {i : Nat} (h : (ks.take i).find? p = none) {k : Str} (hk : ks[i]? = some k) : (ks.take (i + 1)).find? p = if p k = true then some k else none := by
  rw [List.take_add_one, hk, List.find?_append, h]
  show (([k] : List Str).find? p) = _
  by_cases c : p k = true <;> simp [c]
theorem find_take {p : Str → Bool} {ks : List Str} {i : Nat} {k : Str} (h : (ks.take i).find? p = some k) : ks.find? p = some k := by
  have e : ks.find? p = (ks.take i ++ ks.drop i).find? p := by rw [List.take_append_drop]
  rw [e, List.find?_append, h]
  rfl
theorem body_with {f C CB fE fI : Addr} {fdI : FuncData} {cdv : Value} {A : Around} {outer : List Env} {s : Shared} {H : Hp} {vs : List V} {Q : VK} {E : XK} (T : ModC K w mg aD aO aC) (S : LangC K mg C) (TE : K2E.ErrTxt P K mg CB fE)
    (M : Mk K C fI) (GI : FnOk P w K mg base (L2.CX P w) 4 fI fdI pInit (spInit K C CB)) (kb : KBn K fdI pInit 1 names7 (fun us ws => us ++ ws) (fun vs zs => vs ++ zs))
    (hr : Room 5 (A.deeper (PyProof.Rows.envOfC "Language.with_options" (defScope sWith) s.heap.objs.size f cdv))) (h : spBody K C CB vs H Q E) :
    ∃ t, PSs (cxOf (L2.CX P w) P w K mg base nWith "Language.with_options" (defScope sWith) f cdv A outer s H E) (defBody sWith) t ∧ t { nx := fun _ H' => Q .non H', rt := Q } (start nWith vs) H := by
  obtain ⟨x, d, kvs, H0, rfl, hd0, rfl, x', L, ks, us, ds, e0, rfl, hl, h20, hL, sm, hds, hsh, q1, q2⟩ := h
  cases e0
  have hu := hu_of hr
  refine ⟨_, C8.pss_cut (ps_lock (ps_for (passes_of rfl) rfl (pi_keys (pv 1)) (pg_name (i := 2) scWith.nd rfl (.inl rfl))
      (pss_one (ps_if (pt_cmpR op_notIn_seq (pv 2) (pe_glob (v := .ref aO) (by rfl) T.opt rfl) (by rfl)) (pss_one (ps_raiseErr rfl TE hr (takes_of rfl rfl rfl rfl) (pa_cons (pv 2) pa_nil))) pss_nil))))
    (C8.pss_cut (ps_set (i := 3) scWith.nd rfl (.inl rfl) (pe_disp (pps_cons pe_str (pe_fld (pv 0) rfl) (pps_cons pe_str (pe_fld (pv 0) rfl) (pps_cons pe_str (pe_fld (pv 0) rfl) (pps_cons pe_str (pe_fld (pv 0) rfl) (pps_cons pe_str (pe_fld (pv 0) rfl) (pps_cons pe_str (pe_fld (pv 0) rfl) (pps_cons pe_str (pe_fld (pv 0) rfl) pps_nil))))))) (by rfl) (by rfl) (fun z => by cases z) (by decide)))
    (C8.pss_cut (ps_expr (K2U.pe_dupd (pv 3) (pv 1) ⟨by rfl, by rfl, by rfl, by rfl⟩))
    (pss_one (ps_ret (K2K.pe_makeD M GI hr rfl S.gC kb (passes_call (takes_of rfl rfl rfl rfl) (fun _ _ _ _ h => h)) (pv 3)))))), ?_⟩
  have szip : (ks.zip us).length = ks.length := by rw [List.length_zip, ← hl, Nat.min_self]
  have free0 : ∀ {H' : Hp} {b : Addr}, Same H0 H' → H' b = none → H0 b = none := fun s' h => s'.free h
  -- the names
  refine ⟨fun σ H' => ∃ v2, σ = [some (.ref x), some (.ref d), v2, none] ∧ Same H0 H' ∧ H' d = some (.dK (kwK (ks.zip us))) ∧ ks.find? (fun k => !decide (k ∈ names7)) = none, ?_, ?_⟩
  · refine ⟨d, .dK (kwK (ks.zip us)), upd_same, trivial, fun od => ?_⟩
    have sl : Same H0 (upd (upd H0 d (.dK (kwK (ks.zip us)))) d (.frz od (.dK (kwK (ks.zip us))))) := Same.put (Same.put (Same.refl H0) hd0) hd0
    refine ⟨_, rfl, d, od, rfl, .inl ⟨kwK (ks.zip us), upd_same, for_it walk_keys (fun i σ H' => (∃ v2, σ = [some (.ref x), some (.ref d), v2, none]) ∧ H' = upd (upd H0 d (.dK (kwK (ks.zip us)))) d (.frz od (.dK (kwK (ks.zip us)))) ∧ (ks.take i).find? (fun k => !decide (k ∈ names7)) = none) ⟨⟨_, rfl⟩, rfl, rfl⟩ (fun i σ H' _ h => by rw [h.2.1]; exact upd_same) ?_ ?_⟩⟩
    · rintro i y σ H1 H2 hi ⟨⟨v2, rfl⟩, rfl, ef⟩ ⟨rfl, k, v, hk, rfl⟩
      obtain ⟨o, hko, ho⟩ : ∃ o, k = .inr o ∧ ks[i]? = some o := by
        unfold kwK at hk
        rw [List.getElem?_map] at hk
        obtain ⟨z, hz, e⟩ := Option.map_eq_some_iff.mp hk
        refine ⟨z.1, (congrArg Prod.fst e).symm, ?_⟩
        have e3 : ((ks.zip us).map (·.1))[i]? = some z.1 := by rw [List.getElem?_map, hz]; rfl
        rw [zip_keys hl] at e3
        exact e3
      subst hko
      refine ⟨_, rfl, aO, _, rfl, .inr (T.otup.sq _), rfl, flat_strs _, _, rfl, ?_⟩
      show if (!inV (V.str o) (names7.map V.str)) = true then _ else _
      rw [inV_strs]
      refine ite2 (fun hc => ?_) (fun hc => ?_)
      · refine ⟨_, rfl, .str o, rfl, fun d' hd' => ?_⟩
        refine q1 o ?_ d' _ (free0 sl hd') (Same.new sl hd') upd_same
        refine find_take (i := i + 1) ?_
        rw [find_none ef ho, if_pos hc]
      · exact ⟨⟨_, rfl⟩, rfl, by rw [find_none ef ho, if_neg hc]⟩
    · rintro σ H1 ⟨⟨v2, rfl⟩, rfl, ef⟩
      rw [List.take_of_length_le (by rw [kwK_len, szip]; exact Nat.le_refl _)] at ef
      exact ⟨upd_same, v2, rfl, Same.put sl hd0, upd_same, ef⟩
  rintro σ H1 ⟨v2, rfl, s1, hd1, ef⟩
  obtain ⟨q2, q3⟩ := q2 ef
  have inN : ∀ k ∈ ks, k ∈ names7 := fun k hk => by
    have e := List.find?_eq_none.mp ef k hk
    by_cases c : k ∈ names7
    · exact c
    · exact absurd (by rw [decide_eq_false c]; rfl) e
  obtain ⟨dx, t, fs, hx, fl, ht⟩ := id hL
  -- the language's own options
  refine ⟨fun σ H' => ∃ g, σ = [some (.ref x), some (.ref d), v2, some (.ref g)] ∧ H' g = some (.dK (kwK (names7.zip [.str L.e, .str L.n, .str L.c, .str L.l, .ref t, .bl L.b, .bl L.x]))) ∧ H1 g = none ∧ Same H1 H', ?_, ?_⟩
  · intro g hg
    have s2 := Same.new (o := .dK []) s1 hg
    have hx2 := s2 _ _ hx
    refine ⟨_, rfl, x, C, dx, _, _, rfl, hx2, S.cl, S.nE, fl.e, _, rfl, x, C, dx, _, _, rfl, hx2, S.cl, S.nN, fl.n, _, rfl, x, C, dx, _, _, rfl, hx2, S.cl, S.nC, fl.c, _, rfl, x, C, dx, _, _, rfl, hx2, S.cl, S.nL, fl.l, _, rfl, x, C, dx, _, _, rfl, hx2, S.cl, S.nD, fl.d, _, rfl, x, C, dx, _, _, rfl, hx2, S.cl, S.nB, fl.b, _, rfl, x, C, dx, _, _, rfl, hx2, S.cl, S.nX, fl.x, upd_same, [(.inr "equals", .str L.e), (.inr "end", .str L.n), (.inr "comma", .str L.c), (.inr "last", .str L.l), (.inr "doubled", .ref t), (.inr "bare", .bl L.b), (.inr "nothing", .bl L.x)], rfl, by show 7 ≤ 15; decide, g, rfl, ?_, hg, Same.put (Same.new (Same.refl H1) hg) hg⟩
    rw [upd_same]
    exact congrArg (fun z => some (HO.dK z)) (show mergeK [] [((.inr "equals" : Key), V.str L.e), (.inr "end", .str L.n), (.inr "comma", .str L.c), (.inr "last", .str L.l), (.inr "doubled", .ref t), (.inr "bare", .bl L.b), (.inr "nothing", .bl L.x)] = _ by kernel_rfl)
  rintro σ H2 ⟨g, rfl, hg2, hg1, s2⟩
  have hd2 := s2 _ _ hd1
  have ngd : g ≠ d := (ne_of_none hd1 hg1).symm
  have sum20 : (kwK (names7.zip [V.str L.e, .str L.n, .str L.c, .str L.l, .ref t, .bl L.b, .bl L.x])).length + (kwK (ks.zip us)).length ≤ sizeLine := by
    rw [kwK_len, kwK_len, szip]
    exact Nat.le_trans (show 7 + ks.length ≤ 27 by omega) (by decide)
  refine ⟨fun σ H' => σ = [some (.ref x), some (.ref d), v2, some (.ref g)] ∧ H' g = some (.dK (kwK (names7.zip (setAll (ks.zip us) [.str L.e, .str L.n, .str L.c, .str L.l, .ref t, .bl L.b, .bl L.x])))) ∧ Same H0 H', ?_, ?_⟩
  · refine ⟨_, rfl, g, rfl, .inl ⟨_, .inl hg2⟩, _, rfl, d, _, _, rfl, hg2, .inl hd2, ngd, sum20, rfl, ?_, ?_⟩
    · rw [upd_same, merge7 (fun kv hkv => inN kv.1 (List.of_mem_zip hkv).1) rfl]
    · exact fun b o e => by
        rw [upd_ne (ne_of_none (s1 _ _ e) hg1)]
        exact s2 _ _ (s1 _ _ e)
  rintro σ H3 ⟨rfl, hg3, s3⟩
  intro d2 hd2'
  have s4 := Same.new (o := .dK []) s3 hd2'
  have ngd2 : g ≠ d2 := ne_of_none hg3 hd2'
  have lz : (setAll (ks.zip us) [V.str L.e, .str L.n, .str L.c, .str L.l, .ref t, .bl L.b, .bl L.x]).length = 7 := setAll_len _ _
  refine ⟨_, rfl, upd_same, g, _, rfl, ngd2, .inl (by rw [upd_ne ngd2]; exact hg3), lz, fun y dy hy hdy ndy => ?_⟩
  have s5 := Same.put (o := .dK (kwK (names7.zip (setAll (ks.zip us) [V.str L.e, .str L.n, .str L.c, .str L.l, .ref t, .bl L.b, .bl L.x])))) s4 (s3.free hd2')
  have ny : (upd (upd (upd H3 d2 (.dK [])) d2 (.dK (kwK (names7.zip (setAll (ks.zip us) [V.str L.e, .str L.n, .str L.c, .str L.l, .ref t, .bl L.b, .bl L.x]))))) dy (.own y)) y = none := by rw [upd_ne ndy.symm]; exact hy
  have s6 := Same.new (o := .ins C dy []) (Same.new (o := .own y) s5 hdy) ny
  have hy0 : H0 y = none := s5.free hy
  refine ⟨y, dy, _, setAll (ks.zip ds) (ownD L), rfl, lz, upd_same, dpAll_setAll (dpAll_same s6 _ hds) (.cons (.str _) (.cons (.str _) (.cons (.str _) (.cons (.str _) (.cons (.tup (SqT.of (s6 _ _ ht)) (dp_strs K _ _)) (.cons (.bl _) (.cons (.bl _) .nil))))))), short_setAll hsh (own_short sm), fun hb H' kp hL' => ⟨rfl, ?_⟩, fun o hb d' H' hd' s' hx' => ?_⟩
  · exact q2 hb y H' hy0 (fun b o e => kp b o (ne_of_none e hy0) (s6 _ _ e)) hL'
  · exact q3 o hb d' H' (s6.free hd') (s6.trans s') hx'
end
end K2

namespace K2
open PySem L2
abbrev sOf : Stmt := top 25
abbrev sMixed : Stmt := top 26
abbrev sSigns : Stmt := top 27
def spOf : Sp := fun vs H Q _ => ∃ (p : Addr) (c : Nat) (a : Addr) (xs : List V), vs = [.ref p, .ref a] ∧ Pool H p c ∧ c ≤ 900000 ∧ H a = some (.lst xs) ∧ a ≠ p ∧ xs ≠ [] ∧ xs.length ≤ 1000 ∧
  ∀ (v : V) (H' : Hp), v ∈ xs → Keep p H H' → Pool H' p (c + 1) → Q v H'
theorem at_mem {xs : List V} {r : Int} (h0 : 0 ≤ r) (h1 : r < (xs.length : Int)) : ∃ v, atI xs r = some v ∧ v ∈ xs := by
  have hk : r.toNat < xs.length := by omega
  refine ⟨xs[r.toNat], at_of (j := r.toNat) (by omega) (List.getElem?_eq_getElem hk), List.getElem_mem hk⟩
/-- some of the signs, in any order, each once -/
structure Mixed (zs : List Str) : Prop where
  nd : zs.Nodup
  sub : ∀ z ∈ zs, z ∈ sgn3
def spMixed : Sp := fun vs H Q _ => ∃ (p : Addr) (c : Nat) (a : Addr), vs = [.ref p, .ref a] ∧ Pool H p c ∧ c ≤ 400000 ∧ H a = some (.lst (sgn3.map V.str)) ∧ a ≠ p ∧
  ∀ (l : Addr) (zs : List Str) (H' : Hp), H' l = some (.lst (zs.map V.str)) → H l = none → Mixed zs → Keep p H H' → Pool H' p (c + 4) → Q (.ref l) H'
/-- texts in a tuple or a list -/
def SeqO (H : Hp) (l : Addr) (t : Bool) (zs : List Str) : Prop := H l = some (if t = true then HO.tup (zs.map V.str) else HO.lst (zs.map V.str))
def spSigns : Sp := fun vs H Q _ => ∃ (p : Addr) (c : Nat), vs = [.ref p] ∧ Pool H p c ∧ c ≤ 300000 ∧
  ∀ (l : Addr) (zs : List Str) (t : Bool) (H' : Hp), SeqO H' l t zs → H l = none → Mixed zs → Keep p H H' → Pool H' p (c + 5) → Q (.ref l) H'
theorem left_some {zs : List Str} (h : zs.length < 3) : (sgn3.filter fun z => !decide (z ∈ zs)) ≠ [] := by
  intro e
  have all : ∀ z ∈ sgn3, z ∈ zs := fun z hz => by
    by_cases c : z ∈ zs
    · exact c
    · have : z ∈ sgn3.filter fun z => !decide (z ∈ zs) := List.mem_filter.mpr ⟨hz, by rw [decide_eq_false c]; rfl⟩
      rw [e] at this
      cases this
  have h1 := all "=" (by decide +kernel)
  have h2 := all ";" (by decide +kernel)
  have h3 := all "," (by decide +kernel)
  have n12 : ("=" : Str) ≠ ";" := by decide +kernel
  have n13 : ("=" : Str) ≠ "," := by decide +kernel
  have n23 : (";" : Str) ≠ "," := by decide +kernel
  match zs, h with
  | [], _ => cases h1
  | [x], _ =>
    have a := List.mem_singleton.mp h1
    have b := List.mem_singleton.mp h2
    exact n12 (a.trans b.symm)
  | [x, y], _ =>
    simp only [List.mem_cons, List.not_mem_nil, or_false] at h1 h2 h3
    rcases h1 with rfl | rfl
    · rcases h2 with h2 | rfl
      · exact n12 h2.symm
      · rcases h3 with h3 | h3
        · exact n13 h3.symm
        · exact n23 h3.symm
    · rcases h2 with rfl | h2
      · rcases h3 with h3 | h3
        · exact n23 h3.symm
        · exact n13 h3.symm
      · exact n12 h2.symm
abbrev nMixed : List Str := ["_law_pool_here", "_law_some", "_law_left", "_law_found", "_law_k", "_law_one", "_law_other"]
section
variable {P : Program} {w : World} {K : PySem.W.Frag} {mg : Str → Option Value} {base : Heap}
theorem scOf : FnScope ["_law_pool_here", "_law_some"] ["_law_pool_here", "_law_some"] (defScope sOf) := ⟨rfl, rfl, rfl, by decide +kernel, rfl, by decide +kernel, by decide +kernel⟩
theorem ok_of {f : Addr} {fd : FuncData} (F : Fun K "_law_of" "_law_of" sOf f fd) (T : Bare mg) (GP : Fn P w K mg base 1 "_law_pick" ["_law_pool_here", "_law_many"] spPick) :
    FnOk P w K mg base CX0 2 f fd ["_law_pool_here", "_law_some"] spOf := by
  refine F.ok scOf (fun vs H Q E h => ?_) (fun cdv A outer s H vs Q E hr h => ?_)
  · obtain ⟨p, c, a, xs, rfl, _⟩ := h
    rfl
  · obtain ⟨p, c, a, xs, rfl, hp, hc, ha, hap, hn, hl, q⟩ := h
    refine ⟨_, pss_one (ps_ret (pe_ix ix_list (pv 1) (pe_fn GP hr rfl (pa_cons (pv 0) (pa_cons (pe_callB call_len_seq (by rfl) T.len PySem.boot_len (pa_cons (pv 1) pa_nil)) pa_nil))) (fun _ _ => rfl))), ?_⟩
    have := List.length_pos_iff.mpr hn
    refine ⟨_, rfl, _, rfl, _, rfl, a, xs, rfl, .inl (SqL.of ha), p, c, _, rfl, hp, by omega, by omega, by omega, fun r H' r0 r1 hk hp' => ?_⟩
    obtain ⟨v, hv, hm⟩ := at_mem r0 r1
    exact ⟨a, xs, r, v, rfl, rfl, SqL.of (hk _ _ hap ha), hv, q v H' hm hk hp'⟩
theorem scMixed : FnScope nMixed ["_law_pool_here", "_law_some"] (defScope sMixed) := ⟨rfl, rfl, rfl, by decide +kernel, rfl, by decide +kernel, by decide +kernel⟩
theorem ok_mixed {f : Addr} {fd : FuncData} (F : Fun K "_law_mixed" "_law_mixed" sMixed f fd) (T : Bare mg) (GP : Fn P w K mg base 1 "_law_pick" ["_law_pool_here", "_law_many"] spPick) (GO : Fn P w K mg base 2 "_law_of" ["_law_pool_here", "_law_some"] spOf) :
    FnOk P w K mg base CX0 3 f fd ["_law_pool_here", "_law_some"] spMixed := by
  refine F.ok scMixed (fun vs H Q E h => ?_) (fun cdv A outer s H vs Q E hr h => ?_)
  · obtain ⟨p, c, a, rfl, _⟩ := h
    rfl
  · obtain ⟨p, c, a, rfl, hp, hc, ha, hap, q⟩ := h
    have hr1 : Room 1 _ := hr.mono (by decide)
    refine ⟨_, C8.pss_cut (ps_par (i := 2) (j := 3) (by rfl) scMixed.nd rfl rfl (by decide) rfl rfl (pa_cons (pe_callTy call_list_of (by rfl) T.list (by decide +kernel) (pa_cons (pv 1) pa_nil)) (pa_cons (pe_lst pa_nil) pa_nil)) (by rfl))
      (C8.pss_cut (ps_for PassesOwn.never rfl (pi_range1 (by rfl) T.range (pa_cons (pe_fn GP hr1 rfl (pa_cons (pv 0) (pa_cons (pe_op op_add (pe_callB call_len_seq (by rfl) T.len PySem.boot_len (pa_cons (pv 1) pa_nil)) pe_int) pa_nil))) pa_nil)) (pg_name (i := 4) scMixed.nd rfl (.inl rfl))
        (C8.pss_cut (ps_set (i := 5) scMixed.nd rfl (.inr rfl) (pe_fn GO hr rfl (pa_cons (pv 0) (pa_cons (pv 2) pa_nil))))
        (C8.pss_cut (ps_expr (pe_bm PySem.F.plainAttrs_list PySem.F.slot_list_append PySem.F.type_list_append mt_append (pv 3) (pa_cons (pv 5) pa_nil)))
        (pss_one (ps_setLc (i := 2) (own := [("_law_other", 6)]) (g := gName 6) (tt := tTest (tOp rNe (tVar 6) (tVar 5))) (te := tVar 6) (by rfl) scMixed.nd rfl rfl (sw_true rfl rfl rfl (by decide +kernel)) (pi_list (pv 2))
          (blkOk_by (own := [("_law_other", 6)]) (N := nMixed) (sc := defScope sMixed) (by decide +kernel)) (fun _ _ _ _ _ => pg_name (i := 6) scMixed.nd rfl (Or.inl rfl)) (fun _ _ _ _ _ => pts_one (pt_cmpR op_ne (pv 6) (pv 5) (nomark _))) (fun _ _ _ _ _ => pv 6))))))
      (pss_one (ps_ret (pv 3)))), ?_⟩
    have two : 2 ≤ sizeLine := by decide
    refine ⟨fun σ H' => ∃ l1 l2, σ = [some (.ref p), some (.ref a), some (.ref l1), some (.ref l2), none, none, none] ∧ H' l1 = some (.lst (sgn3.map V.str)) ∧ H' l2 = some (.lst []) ∧ H l1 = none ∧ H l2 = none ∧ l1 ≠ l2 ∧ Same H H', ?_, ?_⟩
    · refine ⟨_, rfl, a, _, rfl, .inl (SqL.of ha), fun l1 h1 => ⟨Nat.zero_le _, fun l2 h2 => ?_⟩⟩
      have s1 := Same.new (o := .lst (sgn3.map V.str)) (Same.refl H) h1
      have s2 := Same.new (o := .lst []) (Same.refl (upd H l1 (.lst (sgn3.map V.str)))) h2
      exact ⟨_, _, rfl, l1, l2, rfl, s2 _ _ upd_same, upd_same, h1, s1.free h2, ne_of_none upd_same h2, s1.trans s2⟩
    rintro σ H1 ⟨l1, l2, rfl, e1, e2, n1, n2, n12, s1⟩
    have p1 := hp.same s1
    have nl2 : l2 ≠ p := pool_ne hp n2
    have nl1 : l1 ≠ p := pool_ne hp n1
    refine ⟨fun σ H' => ∃ v2 v4 v5 v6 zs, σ = [some (.ref p), some (.ref a), v2, some (.ref l2), v4, v5, v6] ∧ H' l2 = some (.lst (zs.map V.str)) ∧ Mixed zs ∧ Keep p H H' ∧ Pool H' p (c + 4), ?_, ?_⟩
    · refine ⟨_, rfl, _, rfl, a, _, rfl, .inl (SqL.of (s1 _ _ ha)), _, _, rfl, rfl, p, c, _, rfl, p1, by omega, by decide, by decide, fun n Hn r0 r1 kn pn => ?_⟩
      have r1 : n < 4 := r1
      refine ⟨n, rfl, by omega, by omega, for_range (lo := 0) (n := n.toNat) (fun i σ H' => ∃ L v4 v5 v6 zs, σ = [some (.ref p), some (.ref a), some (.ref L), some (.ref l2), v4, v5, v6] ∧ H' L = some (.lst ((sgn3.filter fun z => !decide (z ∈ zs)).map V.str)) ∧ L ≠ p ∧ L ≠ l2 ∧ H' l2 = some (.lst (zs.map V.str)) ∧ zs.length = i ∧ Mixed zs ∧ Keep p H H' ∧ Pool H' p (c + 1 + i)) ⟨l1, none, none, none, [], rfl, kn _ _ nl1 e1, nl1, n12, kn _ _ nl2 e2, rfl, ⟨List.nodup_nil, fun _ z => nomatch z⟩, (Same.keep s1).trans kn, pn⟩ ?_ ?_⟩
      · rintro i σ H2 hi ⟨L, v4, v5, v6, zs, rfl, hL, nL, nLl, hz, hzl, mz, k2, p2⟩
        refine ⟨fun σ H' => ∃ v4 z, σ = [some (.ref p), some (.ref a), some (.ref L), some (.ref l2), v4, some (.str z), v6] ∧ z ∈ sgn3 ∧ z ∉ zs ∧ Keep p H2 H' ∧ Pool H' p (c + 2 + i), ?_, ?_⟩
        · refine ⟨_, rfl, _, rfl, p, _, L, _, rfl, p2, by omega, hL, nL, ?_, ?_, fun v H3 hv k3 p3 => ?_⟩
          · intro e
            exact left_some (zs := zs) (by omega) (List.map_eq_nil_iff.mp e)
          · rw [List.length_map]
            exact Nat.le_trans (List.length_filter_le _ _) (by decide)
          · obtain ⟨z, hz', rfl⟩ := List.mem_map.mp hv
            obtain ⟨m1, m2⟩ := List.mem_filter.mp hz'
            refine ⟨_, z, rfl, m1, fun c => ?_, k3, p3.mono (by omega)⟩
            rw [decide_eq_true c] at m2
            cases m2
        rintro σ H3 ⟨v4, z, rfl, hz1, hz2, k3, p3⟩
        have hL3 := k3 _ _ nL hL
        have hl3 := k3 _ _ nl2 hz
        refine ⟨fun σ H' => σ = [some (.ref p), some (.ref a), some (.ref L), some (.ref l2), v4, some (.str z), v6] ∧ H' L = some (.lst ((sgn3.filter fun z => !decide (z ∈ zs)).map V.str)) ∧ H' l2 = some (.lst ((zs ++ [z]).map V.str)) ∧ Keep p H H' ∧ Pool H' p (c + 2 + i), ?_, ?_⟩
        · refine ⟨_, rfl, .inl ⟨rfl, _, SqL.of hl3⟩, _, rfl, l2, _, _, rfl, rfl, hl3, by rw [List.length_map]; exact line_ge (by omega), rfl, ?_, ?_, ?_, p3.other nl2.symm⟩
          · rw [upd_ne nLl]; exact hL3
          · rw [upd_same, List.map_append]; rfl
          · intro b o n h
            rw [upd_ne (ne_of_none h n2)]
            exact k3 _ _ n (k2 _ _ n h)
        rintro σ H4 ⟨rfl, hL4, hl4, k4, p4⟩
        refine ⟨_, rfl, L, rfl, ⟨_, SqL.of hL4⟩, fun D hD => ?_⟩
        have nDp := pool_ne p4 hD
        have nDl : l2 ≠ D := ne_of_none hl4 hD
        have step2 : (sgn3.filter fun y => !decide (y ∈ zs ++ [z])) = (sgn3.filter fun y => !decide (y ∈ zs)).filter fun y => !decide (y = z) := by
          rw [List.filter_filter]
          congr 1
          funext y
          by_cases a1 : y ∈ zs <;> by_cases a2 : y = z <;> simp [a1, a2]
        refine lc_list (K := K) (a := L) (xs := (sgn3.filter fun z => !decide (z ∈ zs)).map V.str) (fun j H' => Same H4 H' ∧ H' D = some (.lst ((((sgn3.filter fun z => !decide (z ∈ zs)).take j).filter fun y => !decide (y = z)).map V.str))) ⟨Same.new (Same.refl _) hD, upd_same⟩ (fun j H' _ ⟨s', _⟩ => SqL.of (s' _ _ hL4)) ?_ ?_
        · rintro j y H5 hj ⟨s5, h5⟩
          rw [List.getElem?_map] at hj
          obtain ⟨y, hy, rfl⟩ := Option.map_eq_some_iff.mp hj
          refine ⟨rfl, _, rfl, _, rfl, rfl, _, rfl, ?_⟩
          show if (!decide (V.str y = V.str z)) = true then _ else _
          rw [eq_strB]
          have more : (((sgn3.filter fun z => !decide (z ∈ zs)).take (j + 1)).filter fun y => !decide (y = z)) = (((sgn3.filter fun z => !decide (z ∈ zs)).take j).filter fun y => !decide (y = z)) ++ (if (!decide (y = z)) = true then [y] else []) := by
            rw [List.take_add_one, hy, List.filter_append]
            congr 1
            exact filter_one _ y
          refine ite2 (fun hc => ?_) (fun hc => ?_)
          · refine ⟨_, rfl, _, h5, ?_, Same.put s5 hD, ?_⟩
            · rw [List.length_map]
              have q1 := List.length_filter_le (fun y => !decide (y = z)) ((sgn3.filter fun z => !decide (z ∈ zs)).take j)
              have q2 := List.length_take_le' j (sgn3.filter fun z => !decide (z ∈ zs))
              have q3 := List.length_filter_le (fun z => !decide (z ∈ zs)) sgn3
              have q4 : sgn3.length = 3 := rfl
              exact line50 (by omega)
            · rw [upd_same, more, if_pos hc, List.map_append]
              rfl
          · refine ⟨s5, ?_⟩
            rw [h5, more, if_neg hc, List.append_nil]
        · rintro H5 ⟨s5, h5⟩
          rw [List.length_map, List.take_length, ← step2] at h5
          refine ⟨D, _, _, _, zs ++ [z], rfl, h5, nDp, nDl.symm, s5 _ _ hl4, by rw [List.length_append, hzl]; rfl, ⟨?_, fun x hx => ?_⟩, k4.trans (Same.keep s5), (p4.same s5).mono (by omega)⟩
          · rw [List.nodup_append]
            refine ⟨mz.nd, by simp, fun x hx y hy e => ?_⟩
            rw [List.mem_singleton] at hy
            subst hy e
            exact hz2 hx
          · rcases List.mem_append.mp hx with hx | hx
            · exact mz.sub x hx
            · rw [List.mem_singleton.mp hx]; exact hz1
      · rintro σ H2 ⟨L, v4, v5, v6, zs, rfl, hL, nL, nLl, hz, hzl, mz, k2, p2⟩
        exact ⟨_, _, _, _, zs, rfl, hz, mz, k2, p2.mono (by omega)⟩
    rintro σ H2 ⟨v2, v4, v5, v6, zs, rfl, hz, mz, k2, p2⟩
    exact ⟨_, rfl, q l2 zs H2 hz n2 mz k2 p2⟩
theorem scSigns : FnScope ["_law_pool_here", "_law_found"] ["_law_pool_here"] (defScope sSigns) := ⟨rfl, rfl, rfl, by decide +kernel, rfl, by decide +kernel, by decide +kernel⟩
theorem ok_signs {f : Addr} {fd : FuncData} (F : Fun K "_law_signs" "_law_signs" sSigns f fd) (T : Bare mg) (GP : Fn P w K mg base 1 "_law_pick" ["_law_pool_here", "_law_many"] spPick) (GM : Fn P w K mg base 3 "_law_mixed" ["_law_pool_here", "_law_some"] spMixed) :
    FnOk P w K mg base CX0 4 f fd ["_law_pool_here"] spSigns := by
  refine F.ok scSigns (fun vs H Q E h => ?_) (fun cdv A outer s H vs Q E hr h => ?_)
  · obtain ⟨p, c, rfl, _⟩ := h
    rfl
  · obtain ⟨p, c, rfl, hp, hc, q⟩ := h
    have hr1 : Room 1 _ := hr.mono (by decide)
    refine ⟨_, C8.pss_cut (ps_set (i := 1) scSigns.nd rfl (.inl rfl) (pe_fn GM hr rfl (pa_cons (pv 0) (pa_cons (pe_lst (pa_cons pe_str (pa_cons pe_str (pa_cons pe_str pa_nil)))) pa_nil))))
      (pss_one (ps_ret (pe_ifExp (pt_cmpR op_eq (pe_fn GP hr1 rfl (pa_cons (pv 0) (pa_cons pe_int pa_nil))) pe_int (nomark _)) (pe_callTy call_tuple_of (by rfl) T.tuple (by decide +kernel) (pa_cons (pv 1) pa_nil)) (pv 1)))), ?_⟩
    refine ⟨fun σ H' => ∃ l zs, σ = [some (.ref p), some (.ref l)] ∧ H' l = some (.lst (zs.map V.str)) ∧ H l = none ∧ Mixed zs ∧ Keep p H H' ∧ Pool H' p (c + 4), ?_, ?_⟩
    · refine ⟨_, rfl, by show 3 ≤ sizeLine; decide, fun a ha => ⟨p, c, a, rfl, hp.new ha, by omega, upd_same, pool_ne hp ha, fun l zs H' hl hn mz k p' => ?_⟩⟩
      exact ⟨l, zs, rfl, hl, (Same.new (Same.refl H) ha).free hn, mz, ((Keep.refl p H).new ha).trans k, p'⟩
    rintro σ H1 ⟨l, zs, rfl, hl, hn, mz, k1, p1⟩
    have nl := pool_ne hp hn
    refine ⟨_, rfl, p, _, 2, rfl, p1, by omega, by decide, by decide, fun r H2 r0 r1 k2 p2 => ⟨rfl, _, rfl, ?_⟩⟩
    have hl2 := k2 _ _ nl hl
    refine ite2 (fun _ => ?_) (fun _ => ?_)
    · refine ⟨_, rfl, l, _, rfl, .inl ⟨SqL.of hl2, fun t ht => ?_⟩⟩
      exact q t zs true _ upd_same (Keep.free (k1.trans k2) (pool_ne p2 ht) ht) mz ((k1.trans k2).new ht) ((p2.mono (by omega)).new ht)
    · exact ⟨_, rfl, q l zs false _ hl2 hn mz (k1.trans k2) (p2.mono (by omega))⟩
end
end K2

namespace K2
open PySem L2 K2M
abbrev sSound : Stmt := top 28
/-- the options of a language as the law draws them -/
structure Opt where
  e : Str
  n : Str
  c : Str
  l : Str
  zs : List Str
  t : Bool
  b : Bool
  x : Bool
def Opt.dD (o : Opt) : PyData := if o.t = true then .tuple (o.zs.map PyData.str) else .list (o.zs.map PyData.str)
def Opt.d (o : Opt) : List PyData := [.str o.e, .str o.n, .str o.c, .str o.l, o.dD, .bool o.b, .bool o.x]
def Opt.v (o : Opt) (la : Addr) : List V := [.str o.e, .str o.n, .str o.c, .str o.l, .ref la, .bl o.b, .bl o.x]
structure Opt.Ok (o : Opt) : Prop where
  e : o.e ∈ (["must", "may"] : List Str)
  n : o.n ∈ (["must", "between", "may"] : List Str)
  c : o.c ∈ (["must", "may", "joins"] : List Str)
  l : o.l ∈ (["never", "may", "must"] : List Str)
  z : Mixed o.zs
structure ToldO (H : Hp) (td la : Addr) (o : Opt) : Prop where
  d : H td = some (.dK (kwK (names7.zip (o.v la))))
  s : SeqO H la o.t o.zs
theorem ToldO.same {H H' : Hp} {td la : Addr} {o : Opt} (T : ToldO H td la o) (s : Same H H') : ToldO H' td la o := ⟨s _ _ T.d, s _ _ T.s⟩
theorem ToldO.keep {H H' : Hp} {p td la : Addr} {o : Opt} (T : ToldO H td la o) (k : Keep p H H') (n1 : td ≠ p) (n2 : la ≠ p) : ToldO H' td la o := ⟨k _ _ n1 T.d, k _ _ n2 T.s⟩
theorem dp_seqO {K : PySem.W.Frag} {H : Hp} {la : Addr} {t : Bool} {zs : List Str} (h : SeqO H la t zs) : Dp K H (.ref la) (if t = true then .tuple (zs.map PyData.str) else .list (zs.map PyData.str)) := by
  cases t with
  | true => exact .tup (SqT.of h) (dp_strs K H zs)
  | false => exact .lst (SqL.of h) (dp_strs K H zs)
theorem Opt.dp {K : PySem.W.Frag} {H : Hp} {la : Addr} {o : Opt} (h : SeqO H la o.t o.zs) : DpAll K H (o.v la) o.d :=
  .cons (.str _) (.cons (.str _) (.cons (.str _) (.cons (.str _) (.cons (dp_seqO h) (.cons (.bl _) (.cons (.bl _) .nil))))))
theorem texts_id : ∀ zs : List Str, (zs.map PyData.str).filterMap strD = zs
  | [] => rfl
  | z :: zs => by
    rw [List.map_cons, List.filterMap_cons]
    show z :: (zs.map PyData.str).filterMap strD = z :: zs
    rw [texts_id zs]
theorem texts_dD (o : Opt) : textsD o.dD = o.zs := by
  unfold Opt.dD
  cases o.t
  · exact texts_id o.zs
  · exact texts_id o.zs
theorem okSeq_of {zs : List Str} (h : Mixed zs) : okSeq (zs.map PyData.str) = true := by
  unfold okSeq
  rw [texts_id, decide_eq_true h.nd, Bool.and_true, List.all_eq_true]
  intro d hd
  obtain ⟨z, hz, rfl⟩ := List.mem_map.mp hd
  exact decide_eq_true (h.sub z hz)
theorem okDoub_of {zs : List Str} (t : Bool) (h : Mixed zs) : okDoub (if t = true then .tuple (zs.map PyData.str) else .list (zs.map PyData.str)) = true := by
  cases t
  · exact okSeq_of h
  · exact okSeq_of h
def Opt.lang (o : Opt) : Lang := { e := o.e, n := o.n, c := o.c, l := o.l, D := sgn3.filter fun z => decide (z ∈ o.zs), b := o.b, x := o.x }
theorem langOf_d (o : Opt) : langOf o.d = o.lang := by
  show ({ e := o.e, n := o.n, c := o.c, l := o.l, D := sgn3.filter fun z => decide (z ∈ textsD o.dD), b := o.b, x := o.x } : Lang) = _
  rw [texts_dD]
  rfl
theorem inD_of {ws : List Str} {z : Str} (h : z ∈ ws) : inD ws (.str z) = true := decide_eq_true h
theorem Opt.Ok.sound {o : Opt} (k : o.Ok) : Sound (.str o.e) (.str o.n) (.str o.c) (.str o.l) o.dD (.bool o.b) (.bool o.x) :=
  ⟨inD_of k.e, inD_of k.n, inD_of k.c, inD_of k.l, okDoub_of o.t k.z, rfl, rfl⟩
theorem Opt.Ok.good {o : Opt} (k : o.Ok) : badOf names7 o.d = none := sound_of.mpr k.sound
theorem Mixed.le {zs : List Str} (h : Mixed zs) : zs.length ≤ 3 := by
  apply Classical.byContradiction
  intro c
  have e : (sgn3.filter fun z => !decide (z ∈ zs.take 2)) ≠ [] := left_some (by rw [List.length_take]; omega)
  match zs, h, c with
  | x :: y :: z :: w :: r, h, _ =>
    have nd := h.nd
    have sx := h.sub x (by simp)
    have sy := h.sub y (by simp)
    have sz := h.sub z (by simp)
    have sw := h.sub w (by simp)
    simp only [List.nodup_cons, List.mem_cons, not_or] at nd
    simp only [sgn3, List.mem_cons, List.not_mem_nil, or_false] at sx sy sz sw
    obtain ⟨⟨n1, n2, n3, _⟩, ⟨n4, n5, _⟩, ⟨n6, _⟩, _⟩ := nd
    rcases sx with rfl | rfl | rfl <;> rcases sy with rfl | rfl | rfl <;> rcases sz with rfl | rfl | rfl <;> rcases sw with rfl | rfl | rfl <;> first | exact absurd rfl n1 | exact absurd rfl n2 | exact absurd rfl n3 | exact absurd rfl n4 | exact absurd rfl n5 | exact absurd rfl n6
  | [], _, c => exact c (by decide)
  | [_], _, c => exact c (by show 1 ≤ 3; decide)
  | [_, _], _, c => exact c (by show 2 ≤ 3; decide)
  | [_, _, _], _, c => exact c (by show 3 ≤ 3; decide)
theorem short_strs {t : Bool} {zs : List Str} (h : zs.length ≤ 50) : Short (if t = true then .tuple (zs.map PyData.str) else .list (zs.map PyData.str)) := fun ds e => by
  have l : ds = zs.map PyData.str := by
    cases t
    · rcases e with e | e
      · exact (PyData.list.inj e).symm
      · cases e
    · rcases e with e | e
      · cases e
      · exact (PyData.tuple.inj e).symm
  rw [l, List.length_map]
  exact h
theorem short_flat {d : PyData} (h : ∀ ds, d ≠ .list ds ∧ d ≠ .tuple ds) : Short d := fun ds e => e.elim (fun e => absurd e (h ds).1) (fun e => absurd e (h ds).2)
theorem Opt.Ok.short {o : Opt} (k : o.Ok) : AllShort o.d := fun d hd => by
  simp only [Opt.d, List.mem_cons, List.not_mem_nil, or_false] at hd
  rcases hd with rfl | rfl | rfl | rfl | rfl | rfl | rfl
  case inr.inr.inr.inr.inl => exact short_strs (Nat.le_trans k.z.le (by decide))
  all_goals exact short_flat fun ds => ⟨fun e => (nomatch e), fun e => (nomatch e)⟩
theorem Opt.small (o : Opt) : SmallS o.lang.D := ⟨Nat.le_trans (List.length_filter_le _ _) (by decide), fun z hz => (List.mem_filter.mp hz).1⟩
def spSound : Sp := fun vs H Q _ => ∃ (p : Addr) (c : Nat), vs = [.ref p] ∧ Pool H p c ∧ c ≤ 200000 ∧
  ∀ (td la : Addr) (o : Opt) (H' : Hp), ToldO H' td la o → H td = none → H la = none → o.Ok → Keep p H H' → Pool H' p (c + 20) → Q (.ref td) H'
theorem d2 (a b : V) : mergeK [] [((.inr "equals" : Key), a), (.inr "end", b)] = kwK [(("equals" : Str), a), (("end" : Str), b)] := by kernel_rfl
theorem d3 (a b c : V) : putK (kwK [(("equals" : Str), a), (("end" : Str), b)]) (.inr "comma") c = kwK [(("equals" : Str), a), (("end" : Str), b), (("comma" : Str), c)] := by kernel_rfl
theorem d4 (a b c d : V) : putK (kwK [(("equals" : Str), a), (("end" : Str), b), (("comma" : Str), c)]) (.inr "last") d = kwK [(("equals" : Str), a), (("end" : Str), b), (("comma" : Str), c), (("last" : Str), d)] := by kernel_rfl
theorem d5 (a b c d e : V) : putK (kwK [(("equals" : Str), a), (("end" : Str), b), (("comma" : Str), c), (("last" : Str), d)]) (.inr "doubled") e = kwK [(("equals" : Str), a), (("end" : Str), b), (("comma" : Str), c), (("last" : Str), d), (("doubled" : Str), e)] := by kernel_rfl
theorem d6 (a b c d e f : V) : putK (kwK [(("equals" : Str), a), (("end" : Str), b), (("comma" : Str), c), (("last" : Str), d), (("doubled" : Str), e)]) (.inr "bare") f = kwK [(("equals" : Str), a), (("end" : Str), b), (("comma" : Str), c), (("last" : Str), d), (("doubled" : Str), e), (("bare" : Str), f)] := by kernel_rfl
theorem d7 (a b c d e f g : V) : putK (kwK [(("equals" : Str), a), (("end" : Str), b), (("comma" : Str), c), (("last" : Str), d), (("doubled" : Str), e), (("bare" : Str), f)]) (.inr "nothing") g = kwK (names7.zip [a, b, c, d, e, f, g]) := by kernel_rfl
section
variable {P : Program} {w : World} {K : PySem.W.Frag} {mg : Str → Option Value} {base : Heap}
theorem scSound : FnScope ["_law_pool_here", "_law_made_here"] ["_law_pool_here"] (defScope sSound) := ⟨rfl, rfl, rfl, by decide +kernel, rfl, by decide +kernel, by decide +kernel⟩
/-- one option drawn and put -/
theorem put_next {H H1 : Hp} {p g : Addr} {kvs : List (Key × V)} {o : Str} {v : V} (kw : List (Key × V)) (hg : H1 g = some (.dK kvs)) (hl : kvs.length < 60) (hp : putK kvs (.inr o) v = kw) (k : Keep p H H1) (ng : H g = none) : ∃ H', DPut H1 g (.str o) v H' ∧ H' g = some (.dK kw) ∧ Keep p H H' ∧ (∀ b x, b ≠ g → H1 b = some x → H' b = some x) := by
  refine ⟨_, DPut.k (k := .inr o) hg (Nat.lt_of_lt_of_le hl (by decide)), by rw [upd_same, hp], fun b x n e => ?_, fun b x n e => ?_⟩
  · rw [upd_ne (ne_of_none e ng)]
    exact k b x n e
  · rw [upd_ne n]
    exact e
theorem Pool.but {H H' : Hp} {p g : Addr} {c : Nat} (h : Pool H p c) (n : g ≠ p) (k : ∀ b x, b ≠ g → H b = some x → H' b = some x) : Pool H' p c := by
  obtain ⟨a, m, j, e, r⟩ := h
  exact ⟨a, m, j, k _ _ n.symm e, r⟩
theorem ok_sound {f : Addr} {fd : FuncData} (F : Fun K "_law_sound" "_law_sound" sSound f fd) (GP : Fn P w K mg base 1 "_law_pick" ["_law_pool_here", "_law_many"] spPick) (GO : Fn P w K mg base 2 "_law_of" ["_law_pool_here", "_law_some"] spOf)
    (GS : Fn P w K mg base 4 "_law_signs" ["_law_pool_here"] spSigns) :
    FnOk P w K mg base CX0 5 f fd ["_law_pool_here"] spSound := by
  refine F.ok scSound (fun vs H Q E h => ?_) (fun cdv A outer s H vs Q E hr h => ?_)
  · obtain ⟨p, c, rfl, _⟩ := h
    rfl
  · obtain ⟨p, c, rfl, hp, hc, q⟩ := h
    have hu := hu_of hr
    have hr1 : Room 1 _ := hr.mono (by decide)
    have hr2 : Room 2 _ := hr.mono (by decide)
    refine ⟨_, C8.pss_cut (ps_set (i := 1) scSound.nd rfl (.inl rfl) (pe_disp (pps_cons pe_str (pe_fn GO hr2 rfl (pa_cons (pv 0) (pa_cons (pe_lst (pa_cons pe_str (pa_cons pe_str pa_nil))) pa_nil))) (pps_cons pe_str (pe_fn GO hr2 rfl (pa_cons (pv 0) (pa_cons (pe_lst (pa_cons pe_str (pa_cons pe_str (pa_cons pe_str pa_nil)))) pa_nil))) pps_nil)) (by rfl) (by rfl) (fun z => by cases z) (by decide)))
      (C8.pss_cut (ps_dput hu (pv 1) pe_str (pe_fn GO hr2 rfl (pa_cons (pv 0) (pa_cons (pe_lst (pa_cons pe_str (pa_cons pe_str (pa_cons pe_str pa_nil)))) pa_nil))) (by rfl))
      (C8.pss_cut (ps_dput hu (pv 1) pe_str (pe_fn GO hr2 rfl (pa_cons (pv 0) (pa_cons (pe_lst (pa_cons pe_str (pa_cons pe_str (pa_cons pe_str pa_nil)))) pa_nil))) (by rfl))
      (C8.pss_cut (ps_dput hu (pv 1) pe_str (pe_fn GS hr rfl (pa_cons (pv 0) pa_nil)) (by rfl))
      (C8.pss_cut (ps_dput hu (pv 1) pe_str (pe_cmpR op_eq (pe_fn GP hr1 rfl (pa_cons (pv 0) (pa_cons pe_int pa_nil))) pe_int (nomark _)) (by rfl))
      (C8.pss_cut (ps_dput hu (pv 1) pe_str (pe_cmpR op_eq (pe_fn GP hr1 rfl (pa_cons (pv 0) (pa_cons pe_int pa_nil))) pe_int (nomark _)) (by rfl))
      (pss_one (ps_ret (pv 1)))))))), ?_⟩
    have two : 2 ≤ sizeLine := by decide
    have three : 3 ≤ sizeLine := by decide
    refine ⟨fun σ H' => ∃ g e n, σ = [some (.ref p), some (.ref g)] ∧ H' g = some (.dK (kwK [(("equals" : Str), .str e), (("end" : Str), .str n)])) ∧ H g = none ∧ e ∈ (["must", "may"] : List Str) ∧ n ∈ (["must", "between", "may"] : List Str) ∧ Keep p H H' ∧ Pool H' p (c + 2), ?_, ?_⟩
    · intro g hg
      refine ⟨_, rfl, two, fun a1 h1 => ⟨p, c, a1, _, rfl, (hp.new hg).new h1, by omega, upd_same, pool_ne (hp.new hg) h1, by simp, by show 2 ≤ 1000; decide, fun v1 H1 m1 k1 p1 => ?_⟩⟩
      obtain ⟨e, he, rfl⟩ := List.mem_map.mp (show v1 ∈ (["must", "may"] : List Str).map V.str from m1)
      have kg := ((((Keep.refl p H).new hg).new h1).trans k1)
      have ng := pool_ne hp hg
      have eg1 : H1 g = some (.dK []) := k1 _ _ ng (by rw [upd_ne (ne_of_none upd_same h1)]; exact upd_same)
      refine ⟨_, rfl, three, fun a2 h2 => ⟨p, c + 1, a2, _, rfl, p1.new h2, by omega, upd_same, pool_ne p1 h2, by simp, by show 3 ≤ 1000; decide, fun v2 H2 m2 k2 p2 => ?_⟩⟩
      obtain ⟨n, hn, rfl⟩ := List.mem_map.mp (show v2 ∈ (["must", "between", "may"] : List Str).map V.str from m2)
      have eg2 : H2 g = some (.dK []) := k2 _ _ ng (by rw [upd_ne (ne_of_none eg1 h2)]; exact eg1)
      refine ⟨eg2, [(.inr "equals", .str e), (.inr "end", .str n)], rfl, by show 2 ≤ 15; decide, g, e, n, rfl, by rw [upd_same, d2], hg, he, hn, fun b x m h => ?_, p2.other ng.symm⟩
      rw [upd_ne (ne_of_none h hg)]
      exact ((kg.new h2).trans k2) b x m h
    rintro σ H1 ⟨g, e, n, rfl, g1, hg, he, hn, k1, p1⟩
    have ng := pool_ne hp hg
    refine ⟨fun σ H' => ∃ c', σ = [some (.ref p), some (.ref g)] ∧ H' g = some (.dK (kwK [(("equals" : Str), .str e), (("end" : Str), .str n), (("comma" : Str), .str c')])) ∧ c' ∈ (["must", "may", "joins"] : List Str) ∧ Keep p H H' ∧ Pool H' p (c + 3), ?_, ?_⟩
    · refine ⟨_, rfl, three, fun a h => ⟨p, c + 2, a, _, rfl, p1.new h, by omega, upd_same, pool_ne p1 h, by simp, by show 3 ≤ 1000; decide, fun v H2 m k2 p2 => ?_⟩⟩
      obtain ⟨c', hc', rfl⟩ := List.mem_map.mp (show v ∈ (["must", "may", "joins"] : List Str).map V.str from m)
      have g2 : H2 g = _ := k2 _ _ ng (by rw [upd_ne (ne_of_none g1 h)]; exact g1)
      obtain ⟨H3, pu, e3, k3, rest⟩ := put_next _ g2 (by rw [kwK_len]; show 2 < 60; decide) (d3 _ _ (.str c')) ((k1.new h).trans k2) hg
      exact ⟨_, rfl, g, H3, rfl, pu, c', rfl, e3, hc', k3, p2.but ng rest⟩
    rintro σ H2 ⟨c', rfl, g2, hc', k2, p2⟩
    refine ⟨fun σ H' => ∃ l, σ = [some (.ref p), some (.ref g)] ∧ H' g = some (.dK (kwK [(("equals" : Str), .str e), (("end" : Str), .str n), (("comma" : Str), .str c'), (("last" : Str), .str l)])) ∧ l ∈ (["never", "may", "must"] : List Str) ∧ Keep p H H' ∧ Pool H' p (c + 4), ?_, ?_⟩
    · refine ⟨_, rfl, three, fun a h => ⟨p, c + 3, a, _, rfl, p2.new h, by omega, upd_same, pool_ne p2 h, by simp, by show 3 ≤ 1000; decide, fun v H3 m k3 p3 => ?_⟩⟩
      obtain ⟨l, hl, rfl⟩ := List.mem_map.mp (show v ∈ (["never", "may", "must"] : List Str).map V.str from m)
      have g3 : H3 g = _ := k3 _ _ ng (by rw [upd_ne (ne_of_none g2 h)]; exact g2)
      obtain ⟨H4, pu, e4, k4, rest⟩ := put_next _ g3 (by rw [kwK_len]; show 3 < 60; decide) (d4 _ _ _ (.str l)) ((k2.new h).trans k3) hg
      exact ⟨_, rfl, g, H4, rfl, pu, l, rfl, e4, hl, k4, p3.but ng rest⟩
    rintro σ H3 ⟨l, rfl, g3, hl, k3, p3⟩
    refine ⟨fun σ H' => ∃ la t zs, σ = [some (.ref p), some (.ref g)] ∧ H' g = some (.dK (kwK [(("equals" : Str), .str e), (("end" : Str), .str n), (("comma" : Str), .str c'), (("last" : Str), .str l), (("doubled" : Str), .ref la)])) ∧ SeqO H' la t zs ∧ H la = none ∧ la ≠ g ∧ Mixed zs ∧ Keep p H H' ∧ Pool H' p (c + 9), ?_, ?_⟩
    · refine ⟨_, rfl, p, c + 4, rfl, p3, by omega, fun la zs t H4 hs hla mz k4 p4 => ?_⟩
      have g4 : H4 g = _ := k4 _ _ ng g3
      obtain ⟨H5, pu, e5, k5, rest⟩ := put_next _ g4 (by rw [kwK_len]; show 4 < 60; decide) (d5 _ _ _ _ (.ref la)) (k3.trans k4) hg
      have nla : la ≠ g := (ne_of_none g3 hla).symm
      exact ⟨_, rfl, g, H5, rfl, pu, la, t, zs, rfl, e5, rest _ _ nla hs, Keep.free k3 (pool_ne p3 hla) hla, nla, mz, k5, p4.but ng rest⟩
    rintro σ H4 ⟨la, t, zs, rfl, g4, hs, hla, nla, mz, k4, p4⟩
    have npl := pool_ne hp hla
    refine ⟨fun σ H' => ∃ b, σ = [some (.ref p), some (.ref g)] ∧ H' g = some (.dK (kwK [(("equals" : Str), .str e), (("end" : Str), .str n), (("comma" : Str), .str c'), (("last" : Str), .str l), (("doubled" : Str), .ref la), (("bare" : Str), .bl b)])) ∧ SeqO H' la t zs ∧ Keep p H H' ∧ Pool H' p (c + 10), ?_, ?_⟩
    · refine ⟨_, rfl, p, c + 9, 2, rfl, p4, by omega, by decide, by decide, fun r H5 r0 r1 k5 p5 => ⟨rfl, ?_⟩⟩
      have g5 : H5 g = _ := k5 _ _ ng g4
      obtain ⟨H6, pu, e6, k6, rest⟩ := put_next _ g5 (by rw [kwK_len]; show 5 < 60; decide) (d6 _ _ _ _ _ (.bl (decide (V.int r = V.int 0)))) (k4.trans k5) hg
      exact ⟨_, rfl, g, H6, rfl, pu, _, rfl, e6, rest _ _ nla (k5 _ _ npl hs), k6, p5.but ng rest⟩
    rintro σ H5 ⟨b, rfl, g5, hs5, k5, p5⟩
    refine ⟨fun σ H' => ∃ x, σ = [some (.ref p), some (.ref g)] ∧ H' g = some (.dK (kwK (names7.zip [.str e, .str n, .str c', .str l, .ref la, .bl b, .bl x]))) ∧ SeqO H' la t zs ∧ Keep p H H' ∧ Pool H' p (c + 11), ?_, ?_⟩
    · refine ⟨_, rfl, p, c + 10, 2, rfl, p5, by omega, by decide, by decide, fun r H6 r0 r1 k6 p6 => ⟨rfl, ?_⟩⟩
      have g6 : H6 g = _ := k6 _ _ ng g5
      obtain ⟨H7, pu, e7, k7, rest⟩ := put_next _ g6 (by rw [kwK_len]; show 6 < 60; decide) (d7 _ _ _ _ _ _ (.bl (decide (V.int r = V.int 0)))) (k5.trans k6) hg
      exact ⟨_, rfl, g, H7, rfl, pu, _, rfl, e7, rest _ _ nla (k6 _ _ npl hs5), k7, p6.but ng rest⟩
    rintro σ H6 ⟨x, rfl, g6, hs6, k6, p6⟩
    exact ⟨_, rfl, q g la { e := e, n := n, c := c', l := l, zs := zs, t := t, b := b, x := x } H6 ⟨g6, hs6⟩ hg hla ⟨he, hn, hc', hl, mz⟩ k6 (p6.mono (by omega))⟩
end
end K2

namespace K2
open PySem L2 K2M
abbrev sOdd : Stmt := top 29
/-- the heap but for one object -/
def hid (a : Addr) (H : Hp) : Hp := fun b => if b = a then none else H b
theorem hid_ne {a b : Addr} {H : Hp} (n : b ≠ a) : hid a H b = H b := if_neg n
theorem hid_at {a b : Addr} {H : Hp} {o : HO} (h : hid a H b = some o) : b ≠ a ∧ H b = some o := by
  unfold hid at h
  by_cases c : b = a
  · rw [if_pos c] at h
    cases h
  · rw [if_neg c] at h
    exact ⟨c, h⟩
theorem hid_sub (a : Addr) (H : Hp) : Same (hid a H) H := fun _ _ h => (hid_at h).2
theorem hid_keep {p : Addr} {H H' : Hp} (k : Keep p H H') : Same (hid p H) (hid p H') := fun b o h => by
  obtain ⟨n, e⟩ := hid_at h
  rw [hid_ne n]
  exact k _ _ n e
mutual
/-- data do not lie in a dict -/
theorem dp_hid {K : PySem.W.Frag} {H : Hp} {a : Addr} {kvs : List (Key × V)} (ha : H a = some (.dK kvs)) : ∀ (d : PyData) {v : V}, Dp K H v d → Dp K (hid a H) v d
  | .none, _, h => by cases h; exact .non
  | .bool _, _, h => by cases h; exact .bl _
  | .int _, _, h => by cases h; exact .int _
  | .str _, _, h => by cases h; exact .str _
  | .list ds, _, h => by
    cases h with
    | @lst c vs _ h1 h2 =>
      refine .lst ?_ (dpAll_hid ha ds h2)
      rcases h1 with (h1 | ⟨o, h1⟩) | h1
      · exact .inl (.inl (by rw [hid_ne (fun e => by rw [e, ha] at h1; cases h1)]; exact h1))
      · exact .inl (.inr ⟨o, by rw [hid_ne (fun e => by rw [e, ha] at h1; cases h1)]; exact h1⟩)
      · exact .inr h1
  | .tuple ds, _, h => by
    cases h with
    | @tup c vs _ h1 h2 =>
      refine .tup ?_ (dpAll_hid ha ds h2)
      rcases h1 with (h1 | ⟨o, h1⟩) | h1
      · exact .inl (.inl (by rw [hid_ne (fun e => by rw [e, ha] at h1; cases h1)]; exact h1))
      · exact .inl (.inr ⟨o, by rw [hid_ne (fun e => by rw [e, ha] at h1; cases h1)]; exact h1⟩)
      · exact .inr h1
  | .dict _, _, h => by cases h
theorem dpAll_hid {K : PySem.W.Frag} {H : Hp} {a : Addr} {kvs : List (Key × V)} (ha : H a = some (.dK kvs)) : ∀ (ds : List PyData) {vs : List V}, DpAll K H vs ds → DpAll K (hid a H) vs ds
  | [], _, h => by cases h; exact .nil
  | d :: ds, _, h => by
    cases h with
    | cons h1 h2 => exact .cons (dp_hid ha d h1) (dpAll_hid ha ds h2)
end
theorem short_l {ds : List PyData} (h : ds.length ≤ 50) : Short (.list ds) := fun es e => by
  rcases e with e | e
  · rw [← PyData.list.inj e]; exact h
  · cases e
theorem short_t {ds : List PyData} (h : ds.length ≤ 50) : Short (.tuple ds) := fun es e => by
  rcases e with e | e
  · cases e
  · rw [← PyData.tuple.inj e]; exact h
theorem short_s (z : Str) : Short (.str z) := short_flat fun _ => ⟨fun e => (nomatch e), fun e => (nomatch e)⟩
theorem short_i (z : Int) : Short (.int z) := short_flat fun _ => ⟨fun e => (nomatch e), fun e => (nomatch e)⟩
theorem short_b (z : Bool) : Short (.bool z) := short_flat fun _ => ⟨fun e => (nomatch e), fun e => (nomatch e)⟩
theorem short_n : Short .none := short_flat fun _ => ⟨fun e => (nomatch e), fun e => (nomatch e)⟩
/-- data that the option o may not be -/
def spOdd (K : PySem.W.Frag) : Sp := fun vs H Q _ => ∃ (p : Addr) (c : Nat) (o : Str), vs = [.ref p, .str o] ∧ Pool H p c ∧ c ≤ 300000 ∧ o ∈ names7 ∧
  ∀ (v : V) (d : PyData) (H' : Hp), Dp K (hid p H') v d → okOpt o d = false → Short d → Keep p H H' → Pool H' p (c + 1) → Q v H'
/-- the texts that an option may not be, as the law has them -/
def barO (o : Str) : List Str := if o = "equals" then ["between", "never", "joins"] else if o = "end" then ["never", "joins", ""] else if o = "comma" then ["between", "never", "mus"] else ["between", "joins", "Must"]
def heads4 : List Str := ["equals", "end", "comma", "last"]
theorem odd_strs : ∀ o ∈ heads4, ∀ z ∈ barO o, okOpt o (.str z) = false := by decide +kernel
theorem odd_flat : ∀ o ∈ heads4, okOpt o .none = false ∧ okOpt o (.bool true) = false ∧ okOpt o (.int 0) = false ∧ okOpt o (.list [.str "must"]) = false ∧ okOpt o (.tuple [.str "may"]) = false := by decide +kernel
theorem odd_doub : okOpt "doubled" (.str "=") = false ∧ okOpt "doubled" (.tuple [.str "["]) = false ∧ okOpt "doubled" (.list [.str "=", .str "="]) = false ∧ okOpt "doubled" (.tuple [.str ";", .str ",", .str ";"]) = false ∧ okOpt "doubled" .none = false ∧
    okOpt "doubled" (.tuple [.str "must"]) = false ∧ okOpt "doubled" (.tuple [.int 1]) = false ∧ okOpt "doubled" (.list [.list [.str "="]]) = false ∧ okOpt "doubled" (.tuple [.str "=;"]) = false ∧ okOpt "doubled" (.bool true) = false := by decide +kernel
theorem odd_bools : ∀ o ∈ (["bare", "nothing"] : List Str), okOpt o (.int 0) = false ∧ okOpt o (.int 1) = false ∧ okOpt o .none = false ∧ okOpt o (.str "must") = false ∧ okOpt o (.str "") = false ∧ okOpt o (.tuple []) = false ∧ okOpt o (.str "True") = false := by decide +kernel
theorem names_split {o : Str} (h : o ∈ names7) : o = "doubled" ∨ o ∈ (["bare", "nothing"] : List Str) ∨ o ∈ heads4 := by
  simp only [names7, List.mem_cons, List.not_mem_nil, or_false] at h
  rcases h with rfl | rfl | rfl | rfl | rfl | rfl | rfl
  · exact .inr (.inr (by decide +kernel))
  · exact .inr (.inr (by decide +kernel))
  · exact .inr (.inr (by decide +kernel))
  · exact .inr (.inr (by decide +kernel))
  · exact .inl rfl
  · exact .inr (.inl (by decide +kernel))
  · exact .inr (.inl (by decide +kernel))
/-- the dict of what is barred -/
abbrev BarK (a1 a2 a3 a4 : Addr) : List (Key × V) := mergeK [] [((.inr "equals" : Key), V.ref a1), (.inr "end", .ref a2), (.inr "comma", .ref a3), (.inr "last", .ref a4)]
theorem bar_at {a1 a2 a3 a4 : Addr} {H : Hp} (h1 : H a1 = some (.lst ((barO "equals").map V.str))) (h2 : H a2 = some (.lst ((barO "end").map V.str))) (h3 : H a3 = some (.lst ((barO "comma").map V.str))) (h4 : H a4 = some (.lst ((barO "last").map V.str))) :
    ∀ o ∈ heads4, ∃ a, valV (BarK a1 a2 a3 a4) (.inr o) = some (.ref a) ∧ H a = some (.lst ((barO o).map V.str)) := by
  intro o ho
  simp only [heads4, List.mem_cons, List.not_mem_nil, or_false] at ho
  rcases ho with rfl | rfl | rfl | rfl
  · exact ⟨a1, by kernel_rfl, h1⟩
  · exact ⟨a2, by kernel_rfl, h2⟩
  · exact ⟨a3, by kernel_rfl, h3⟩
  · exact ⟨a4, by kernel_rfl, h4⟩
theorem bar_len (o : Str) : (barO o).length = 3 := by
  unfold barO
  split
  · rfl
  · split
    · rfl
    · split <;> rfl
abbrev nOdd : List Str := ["_law_pool_here", "_law_option", "_law_barred_here"]
section
variable {P : Program} {w : World} {K : PySem.W.Frag} {mg : Str → Option Value} {base : Heap}
theorem scOdd : FnScope nOdd ["_law_pool_here", "_law_option"] (defScope sOdd) := ⟨rfl, rfl, rfl, by decide +kernel, rfl, by decide +kernel, by decide +kernel⟩
theorem ok_odd {f : Addr} {fd : FuncData} (F : Fun K "_law_odd" "_law_odd" sOdd f fd) (GO : Fn P w K mg base 2 "_law_of" ["_law_pool_here", "_law_some"] spOf) :
    FnOk P w K mg base CX0 3 f fd ["_law_pool_here", "_law_option"] (spOdd K) := by
  refine F.ok scOdd (fun vs H Q E h => ?_) (fun cdv A outer s H vs Q E hr h => ?_)
  · obtain ⟨p, c, o, rfl, _⟩ := h
    rfl
  · obtain ⟨p, c, o, rfl, hp, hc, ho, q⟩ := h
    have hu := hu_of hr
    refine ⟨_, C8.pss_cut (ps_if (pt_cmpR op_eq (pv 1) pe_str (nomark _)) (pss_one (ps_ret (pe_fn GO hr rfl (pa_cons (pv 0) (pa_cons (pe_lst (pa_cons pe_str (pa_cons (pe_tup (pa_cons pe_str pa_nil)) (pa_cons (pe_lst (pa_cons pe_str (pa_cons pe_str pa_nil))) (pa_cons (pe_tup (pa_cons pe_str (pa_cons pe_str (pa_cons pe_str pa_nil))))
          (pa_cons pe_non (pa_cons (pe_tup (pa_cons pe_str pa_nil)) (pa_cons (pe_tup (pa_cons pe_int pa_nil)) (pa_cons (pe_lst (pa_cons (pe_lst (pa_cons pe_str pa_nil)) pa_nil)) (pa_cons (pe_tup (pa_cons pe_str pa_nil)) (pa_cons pe_bl pa_nil))))))))))) pa_nil))))) pss_nil)
      (C8.pss_cut (ps_if (pt_cmpR op_in_seq (pv 1) (pe_lst (pa_cons pe_str (pa_cons pe_str pa_nil))) (by rfl)) (pss_one (ps_ret (pe_fn GO hr rfl (pa_cons (pv 0) (pa_cons (pe_lst (pa_cons pe_int (pa_cons pe_int (pa_cons pe_non (pa_cons pe_str (pa_cons pe_str (pa_cons (pe_tup pa_nil) (pa_cons pe_str pa_nil)))))))) pa_nil))))) pss_nil)
      (C8.pss_cut (ps_set (i := 2) scOdd.nd rfl (.inl rfl) (pe_disp (pps_cons pe_str (pe_lst (pa_cons pe_str (pa_cons pe_str (pa_cons pe_str pa_nil)))) (pps_cons pe_str (pe_lst (pa_cons pe_str (pa_cons pe_str (pa_cons pe_str pa_nil)))) (pps_cons pe_str (pe_lst (pa_cons pe_str (pa_cons pe_str (pa_cons pe_str pa_nil)))) (pps_cons pe_str (pe_lst (pa_cons pe_str (pa_cons pe_str (pa_cons pe_str pa_nil)))) pps_nil)))) (by rfl) (by rfl) (fun z => by cases z) (by decide)))
      (pss_one (ps_ret (pe_fn GO hr rfl (pa_cons (pv 0) (pa_cons (pe_op op_cat (pe_dget hu (pv 2) (pv 1) (fun _ _ => rfl)) (pe_lst (pa_cons pe_non (pa_cons pe_bl (pa_cons pe_int (pa_cons (pe_lst (pa_cons pe_str pa_nil)) (pa_cons (pe_tup (pa_cons pe_str pa_nil)) pa_nil))))))) pa_nil))))))), ?_⟩
    have one : 1 ≤ sizeLine := by decide
    have two : 2 ≤ sizeLine := by decide
    have three : 3 ≤ sizeLine := by decide
    have seven : 7 ≤ sizeLine := by decide
    have ten : 10 ≤ sizeLine := by decide
    -- what is found in a heap that only grew, but for the pool
    refine ⟨fun σ H' => σ = [some (.ref p), some (.str o), none] ∧ H' = H ∧ o ≠ "doubled", ?_, ?_⟩
    · refine ⟨_, rfl, rfl, _, rfl, ?_⟩
      show if decide (V.str o = V.str "doubled") = true then _ else _
      rw [eq_strB]
      refine ite2 (fun e => ?_) (fun e => ⟨rfl, rfl, fun z => e (decide_eq_true z)⟩)
      obtain rfl : o = "doubled" := of_decide_eq_true e
      refine ⟨_, rfl, one, fun t1 n1 => ⟨two, fun l1 n2 => ⟨three, fun t2 n3 => ⟨one, fun t3 n4 => ⟨one, fun t4 n5 => ⟨one, fun l2 n6 => ⟨one, fun l3 n7 => ⟨one, fun t5 n8 => ⟨ten, fun M n9 => ?_⟩⟩⟩⟩⟩⟩⟩⟩⟩
      have g1 := hp.new (o := .tup [.str "["]) n1
      have g2 := g1.new (o := .lst [.str "=", .str "="]) n2
      have g3 := g2.new (o := .tup [.str ";", .str ",", .str ";"]) n3
      have g4 := g3.new (o := .tup [.str "must"]) n4
      have g5 := g4.new (o := .tup [.int 1]) n5
      have g6 := g5.new (o := .lst [.str "="]) n6
      have g7 := g6.new (o := .lst [.ref l2]) n7
      have g8 := g7.new (o := .tup [.str "=;"]) n8
      have g9 := g8.new (o := .lst [.str "=", .ref t1, .ref l1, .ref t2, .non, .ref t3, .ref t4, .ref l3, .ref t5, .bl true]) n9
      have s8 := Same.new (o := .lst [.str "=", .ref t1, .ref l1, .ref t2, .non, .ref t3, .ref t4, .ref l3, .ref t5, .bl true]) (Same.refl _) n9
      have s7 := (Same.new (o := .tup [.str "=;"]) (Same.refl _) n8).trans s8
      have s6 := (Same.new (o := .lst [.ref l2]) (Same.refl _) n7).trans s7
      have s5 := (Same.new (o := .lst [.str "="]) (Same.refl _) n6).trans s6
      have s4 := (Same.new (o := .tup [.int 1]) (Same.refl _) n5).trans s5
      have s3 := (Same.new (o := .tup [.str "must"]) (Same.refl _) n4).trans s4
      have s2 := (Same.new (o := .tup [.str ";", .str ",", .str ";"]) (Same.refl _) n3).trans s3
      have s1 := (Same.new (o := .lst [.str "=", .str "="]) (Same.refl _) n2).trans s2
      have s0 := (Same.new (o := .tup [.str "["]) (Same.refl H) n1).trans s1
      refine ⟨p, c, M, _, rfl, g9, by omega, upd_same, pool_ne g8 n9, by simp, by show 10 ≤ 1000; decide, fun v H' hv k p' => ?_⟩
      obtain ⟨o1, o2, o3, o4, o5, o6, o7, o8, o9, o10⟩ := odd_doub
      have at_ : ∀ {b : Addr} {x : HO}, b ≠ p → _ = some x → hid p H' b = some x := fun {b x} n h => by rw [hid_ne n]; exact k b x n h
      have fin := fun d h1 h2 h3 => q v d H' h1 h2 h3 ((Same.keep s0).trans k) p'
      simp only [List.mem_cons, List.not_mem_nil, or_false] at hv
      rcases hv with rfl | rfl | rfl | rfl | rfl | rfl | rfl | rfl | rfl | rfl
      · exact fin _ (.str _) o1 (short_s _)
      · exact fin (.tuple [.str "["]) (.tup (SqT.of (at_ (pool_ne hp n1) (s1 _ _ upd_same))) (.cons (.str _) .nil)) o2 (short_t (by show 1 ≤ 50; decide))
      · exact fin (.list [.str "=", .str "="]) (.lst (SqL.of (at_ (pool_ne g1 n2) (s2 _ _ upd_same))) (.cons (.str _) (.cons (.str _) .nil))) o3 (short_l (by show 2 ≤ 50; decide))
      · exact fin (.tuple [.str ";", .str ",", .str ";"]) (.tup (SqT.of (at_ (pool_ne g2 n3) (s3 _ _ upd_same))) (.cons (.str _) (.cons (.str _) (.cons (.str _) .nil)))) o4 (short_t (by show 3 ≤ 50; decide))
      · exact fin _ .non o5 short_n
      · exact fin (.tuple [.str "must"]) (.tup (SqT.of (at_ (pool_ne g3 n4) (s4 _ _ upd_same))) (.cons (.str _) .nil)) o6 (short_t (by show 1 ≤ 50; decide))
      · exact fin (.tuple [.int 1]) (.tup (SqT.of (at_ (pool_ne g4 n5) (s5 _ _ upd_same))) (.cons (.int _) .nil)) o7 (short_t (by show 1 ≤ 50; decide))
      · exact fin (.list [.list [.str "="]]) (.lst (SqL.of (at_ (pool_ne g6 n7) (s7 _ _ upd_same))) (.cons (.lst (SqL.of (at_ (pool_ne g5 n6) (s6 _ _ upd_same))) (.cons (.str _) .nil)) .nil)) o8 (short_l (by show 1 ≤ 50; decide))
      · exact fin (.tuple [.str "=;"]) (.tup (SqT.of (at_ (pool_ne g7 n8) (s8 _ _ upd_same))) (.cons (.str _) .nil)) o9 (short_t (by show 1 ≤ 50; decide))
      · exact fin _ (.bl _) o10 (short_b _)
    rintro σ H1 ⟨rfl, rfl, nd⟩
    refine ⟨fun σ H' => σ = [some (.ref p), some (.str o), none] ∧ Same H1 H' ∧ o ∈ heads4, ?_, ?_⟩
    · refine ⟨_, rfl, two, fun a ha => ⟨a, _, rfl, .inl (SqL.of upd_same), rfl, rfl, _, rfl, ?_⟩⟩
      have s1 := Same.new (o := .lst [.str "bare", .str "nothing"]) (Same.refl H1) ha
      have hp1 := hp.new (o := .lst [.str "bare", .str "nothing"]) ha
      show if inV (V.str o) ((["bare", "nothing"] : List Str).map V.str) = true then _ else _
      rw [inV_strs]
      refine ite2 (fun e => ?_) (fun e => ⟨rfl, s1, ?_⟩)
      case refine_2 =>
        rcases names_split ho with h | h | h
        · exact absurd h nd
        · exact absurd (decide_eq_true h) e
        · exact h
      obtain ⟨o1, o2, o3, o4, o5, o6, o7⟩ := odd_bools o (of_decide_eq_true e)
      refine ⟨_, rfl, Nat.zero_le _, fun t n1 => ⟨seven, fun M n2 => ?_⟩⟩
      have g1 := hp1.new (o := .tup []) n1
      have g2 := g1.new (o := .lst [.int 0, .int 1, .non, .str "must", .str "", .ref t, .str "True"]) n2
      have t2 := Same.new (o := .lst [.int 0, .int 1, .non, .str "must", .str "", .ref t, .str "True"]) (Same.refl _) n2
      have t1 := s1.trans ((Same.new (o := .tup []) (Same.refl _) n1).trans t2)
      refine ⟨p, c, M, _, rfl, g2, by omega, upd_same, pool_ne g1 n2, by simp, by show 7 ≤ 1000; decide, fun v H' hv k p' => ?_⟩
      have fin := fun d h1 h2 h3 => q v d H' h1 h2 h3 ((Same.keep t1).trans k) p'
      simp only [List.mem_cons, List.not_mem_nil, or_false] at hv
      rcases hv with rfl | rfl | rfl | rfl | rfl | rfl | rfl
      · exact fin _ (.int _) o1 (short_i _)
      · exact fin _ (.int _) o2 (short_i _)
      · exact fin _ .non o3 short_n
      · exact fin _ (.str _) o4 (short_s _)
      · exact fin _ (.str _) o5 (short_s _)
      · exact fin (.tuple []) (.tup (SqT.of (by rw [hid_ne (pool_ne hp1 n1)]; exact k _ _ (pool_ne hp1 n1) (t2 _ _ upd_same))) .nil) o6 (short_t (Nat.zero_le _))
      · exact fin _ (.str _) o7 (short_s _)
    rintro σ H2 ⟨rfl, s2, ho4⟩
    have hp2 := hp.same s2
    refine ⟨fun σ H' => ∃ g a, σ = [some (.ref p), some (.str o), some (.ref g)] ∧ DGet H' g (.str o) (some (.ref a)) ∧ H' a = some (.lst ((barO o).map V.str)) ∧ Same H1 H', ?_, ?_⟩
    · intro g hg
      refine ⟨three, fun a1 n1 => ⟨three, fun a2 n2 => ⟨three, fun a3 n3 => ⟨three, fun a4 n4 => ?_⟩⟩⟩⟩
      have e0 : upd H2 g (.dK []) g = some (.dK []) := upd_same
      have fin : ∀ H4 : Hp, Same (upd H2 g (.dK [])) H4 → H4 a1 = some (.lst ((barO "equals").map V.str)) → H4 a2 = some (.lst ((barO "end").map V.str)) → H4 a3 = some (.lst ((barO "comma").map V.str)) → H4 a4 = some (.lst ((barO "last").map V.str)) →
          ∃ g' a, [some (V.ref p), some (.str o), some (.ref g)] = [some (V.ref p), some (.str o), some (.ref g')] ∧ DGet (upd H4 g (.dK (BarK a1 a2 a3 a4))) g' (.str o) (some (.ref a)) ∧ upd H4 g (.dK (BarK a1 a2 a3 a4)) a = some (.lst ((barO o).map V.str)) ∧ Same H1 (upd H4 g (.dK (BarK a1 a2 a3 a4))) := by
        intro H4 s4 e1 e2 e3 e4
        have ne : ∀ {b : Addr} {x : List V}, H4 b = some (HO.lst x) → upd H4 g (.dK (BarK a1 a2 a3 a4)) b = some (HO.lst x) := fun {b x} h => by
          rw [upd_ne fun e => by rw [e, s4 _ _ e0] at h; cases h]
          exact h
        obtain ⟨a, v1, v2⟩ := bar_at (ne e1) (ne e2) (ne e3) (ne e4) o ho4
        refine ⟨g, a, rfl, ?_, v2, Same.put (s2.trans ((Same.new (o := .dK []) (Same.refl H2) hg).trans s4)) (s2.free hg)⟩
        rw [← v1]
        exact DGet.k (k := .inr o) upd_same
      have t4 := Same.new (o := .lst ((barO "last").map V.str)) (Same.refl _) n4
      have t3 := (Same.new (o := .lst ((barO "comma").map V.str)) (Same.refl _) n3).trans t4
      have t2 := (Same.new (o := .lst ((barO "end").map V.str)) (Same.refl _) n2).trans t3
      have t1 := (Same.new (o := .lst ((barO "equals").map V.str)) (Same.refl _) n1).trans t2
      exact ⟨t1 _ _ e0, [(.inr "equals", .ref a1), (.inr "end", .ref a2), (.inr "comma", .ref a3), (.inr "last", .ref a4)], rfl, by show 4 ≤ 15; decide, fin _ t1 (t2 _ _ upd_same) (t3 _ _ upd_same) (t4 _ _ upd_same) upd_same⟩
    rintro σ H3 ⟨g, a, rfl, dg, ha, s3⟩
    have hp3 := hp.same s3
    obtain ⟨f1, f2, f3, f4, f5⟩ := odd_flat o ho4
    refine ⟨_, rfl, _, rfl, _, rfl, g, _, rfl, dg, one, fun l n1 => ⟨one, fun t n2 => ⟨by show 5 ≤ sizeLine; decide, fun M n3 => ?_⟩⟩⟩
    have g1 := hp3.new (o := .lst [.str "must"]) n1
    have g2 := g1.new (o := .tup [.str "may"]) n2
    have g3 := g2.new (o := .lst [.non, .bl true, .int 0, .ref l, .ref t]) n3
    have t3 := Same.new (o := .lst [.non, .bl true, .int 0, .ref l, .ref t]) (Same.refl _) n3
    have t2 := (Same.new (o := .tup [.str "may"]) (Same.refl _) n2).trans t3
    have t1 := (Same.new (o := .lst [.str "must"]) (Same.refl _) n1).trans t2
    refine ⟨a, M, _, _, rfl, rfl, t1 _ _ ha, upd_same, ?_, fun N n4 => ?_⟩
    · rw [List.length_map, bar_len]
      show 3 + 5 ≤ sizeLine
      decide
    have g4 := g3.new (o := .lst ((barO o).map V.str ++ [.non, .bl true, .int 0, .ref l, .ref t])) n4
    have t4 := Same.new (o := .lst ((barO o).map V.str ++ [.non, .bl true, .int 0, .ref l, .ref t])) (Same.refl _) n4
    refine ⟨p, c, N, _, rfl, g4, by omega, upd_same, pool_ne g3 n4, by simp, ?_, fun v H' hv k p' => ?_⟩
    · rw [List.length_append, List.length_map, bar_len]
      show 3 + 5 ≤ 1000
      decide
    have fin := fun d h1 h2 h3 => q v d H' h1 h2 h3 ((Same.keep (s3.trans (t1.trans t4))).trans k) p'
    rcases List.mem_append.mp hv with hv | hv
    · obtain ⟨z, hz, rfl⟩ := List.mem_map.mp hv
      exact fin _ (.str _) (odd_strs o ho4 z hz) (short_s _)
    · simp only [List.mem_cons, List.not_mem_nil, or_false] at hv
      rcases hv with rfl | rfl | rfl | rfl | rfl
      · exact fin _ .non f1 short_n
      · exact fin _ (.bl _) f2 (short_b _)
      · exact fin _ (.int _) f3 (short_i _)
      · exact fin (.list [.str "must"]) (.lst (SqL.of (by rw [hid_ne (pool_ne hp3 n1)]; exact k _ _ (pool_ne hp3 n1) (t4 _ _ (t2 _ _ upd_same)))) (.cons (.str _) .nil)) f4 (short_l (by show 1 ≤ 50; decide))
      · exact fin (.tuple [.str "may"]) (.tup (SqT.of (by rw [hid_ne (pool_ne g1 n2)]; exact k _ _ (pool_ne g1 n2) (t4 _ _ (t3 _ _ upd_same)))) (.cons (.str _) .nil)) f5 (short_t (by show 1 ≤ 50; decide))
end
end K2

/-! C(k = v, ..) in a try -/
namespace L2
open PySem PySem.Spec PyProof.Rows
def tMakeKS (C : Addr) (m : Nat) (sp : Sp) (gV : List V → List V → List V) (E : St → XK) (tk : TA) : TE := fun σ H Q => tk σ H fun zs H2 => zs.length = m ∧ ∀ x dx, H2 x = none → H2 dx = none → dx ≠ x →
  sp (gV [.ref x] zs) (upd (upd H2 dx (.own x)) x (.ins C dx [])) (fun v H3 => v = .non ∧ Q (.ref x) H3) (E σ)
section
variable {X : Cx} {CX : CXT} {k : Nat} {f C : Addr} {fd : FuncData} {ps ks : List Str} {sp : Sp} {E : St → XK} {x : Str} {p pos : Pos} {kws : List Keyword} {tk : TA} {g : List Value → List Value → List Value} {gV : List V → List V → List V}
theorem pe_makeKS (M : Mk X.K C f) (F : FnOk X.prog X.w X.K X.mg X.base CX k f fd ps sp) (hr : Room (k + 1) X.A) (hg : Gl X x) (hm : X.mg x = some (.ref C)) (hb : KBn X.K fd ps 1 ks g gV) (hx : ∀ σ, PassesAt CX X σ (E σ)) (hkw : PK X kws tk)
    (hall : (backToKw pos (keywordEach kws X.env)).all (·.1.isSome) = true := by rfl) (hks : (backToKw pos (keywordEach kws X.env)).filterMap (·.1) = ks := by rfl) (hdb : (x == ("__debug__" : Str)) = false := by decide)
    (hpl : ((backTo pos (starEach [] X.env)).any (·.1) || (backToKw pos (keywordEach kws X.env)).any (·.1.isNone)) = false := by rfl) :
    PE X (.Call (.Name x p) [] kws pos) (tMakeKS C ks.length sp gV E tk) := by
  refine ⟨fun pins s σ H Q I h => ?_⟩
  refine wpAny_Call_Name_kw (ld_glob I hg hm ?_ hdb)
  refine PySem.W.callWith_KW0 (h₀ := X.base) I.ok.mod.kin M.kp hall ?_ hpl
  refine thn (hkw.run pos pins s σ H _ I h) fun ws s2 ⟨zs, H2, I2, rz, l2, h2⟩ => ⟨I2.kIn, ?_⟩
  rw [hks]
  have hq := h2 (s2.heap.objs.size + 1) s2.heap.objs.size (I2.hok.fresh (Nat.le_succ _)) (I2.hok.fresh (Nat.le_refl _)) (Nat.ne_of_lt (Nat.lt_succ_self _))
  have I3 := Inv.made (C := C) I2
  have r1 : Vals [V.ref (s2.heap.objs.size + 1)] [Value.ref (s2.heap.objs.size + 1)] := .cons rfl .nil
  have r2 := hb.rel r1 rz
  refine wpAny_call (make_map (f := f) I2.kIn M.makes M.init (beq_iff_eq.mp M.fn) (codeAny_mono (F.run _ X.stack _ _ ⟨[Value.ref (s2.heap.objs.size + 1)], ks.zip ws⟩ (g [Value.ref (s2.heap.objs.size + 1)] ws) _ _ (E σ) (hr.make C [] (ks.zip ws))
    (I3.env0.make C [] (ks.zip ws)) (hb.to _ [Value.ref (s2.heap.objs.size + 1)] ws I3.kIn rfl (rz.length.symm.trans l2)) r2 hq) fun r s' hq' => ?_))
  cases r with
  | error e => exact hx σ pins _ _ e s' I3 hq'
  | ok fl =>
    cases fl with
    | ret u =>
      obtain ⟨v, H', I4, rv, ev, q3⟩ := I3.after hq'
      subst ev
      exact ⟨rv, ⟨V.ref (s2.heap.objs.size + 1), H', I4, rfl, q3⟩⟩
    | next => exact False.elim hq'
    | brk => exact False.elim hq'
    | cont => exact False.elim hq'
end
end L2

namespace K2
open PySem L2 K2M
abbrev sOff : Stmt := top 30
abbrev sDue : Stmt := top 31
abbrev sMade : Stmt := top 32
abbrev sRepl : Stmt := top 33
/-- a list of a language's options -/
def OwnAt (H : Hp) (l : Addr) (L : Lang) : Prop := ∃ t, H l = some (.lst [.str L.e, .str L.n, .str L.c, .str L.l, .ref t, .bl L.b, .bl L.x]) ∧ H t = some (.tup (L.D.map V.str))
theorem OwnAt.dp {K : PySem.W.Frag} {H : Hp} {l : Addr} {L : Lang} (h : OwnAt H l L) : Dp K H (.ref l) (.list (ownD L)) := by
  obtain ⟨t, h1, h2⟩ := h
  exact .lst (SqL.of h1) (.cons (.str _) (.cons (.str _) (.cons (.str _) (.cons (.str _) (.cons (.tup (SqT.of h2) (dp_strs K _ _)) (.cons (.bl _) (.cons (.bl _) .nil)))))))
theorem OwnAt.same {H H' : Hp} {l : Addr} {L : Lang} (h : OwnAt H l L) (s : Same H H') : OwnAt H' l L := by
  obtain ⟨t, h1, h2⟩ := h
  exact ⟨t, s _ _ h1, s _ _ h2⟩
/-- a new such list, all others as they were -/
def NewO (H : Hp) (L : Lang) (Q : VK) : Prop := ∀ (l : Addr) (H' : Hp), H l = none → Same H H' → OwnAt H' l L → Q (.ref l) H'
def spOff (C : Addr) : Sp := fun vs H Q _ => ∃ (x : Addr) (L : Lang), vs = [.ref x] ∧ LangAt C H x L ∧ NewO H L Q
def spDue : Sp := fun vs H Q _ => ∃ (td la : Addr) (o : Opt), vs = [.ref td] ∧ ToldO H td la o ∧ o.zs.length ≤ 3 ∧ NewO H o.lang Q
def spMade (K : PySem.W.Frag) (C : Addr) : Sp := fun vs H Q _ => ∃ (td : Addr) (us : List V) (ds : List PyData), vs = [.ref td] ∧ us.length = 7 ∧ H td = some (.dK (kwK (names7.zip us))) ∧ DpAll K H us ds ∧ AllShort ds ∧
  (badOf names7 ds = none → ∀ y H', H y = none → Same H H' → LangAt C H' y (langOf ds) → Q (.ref y) H') ∧ (∀ o, badOf names7 ds = some o → ∀ H', Same H H' → Q (.str o) H')
def replD (L : Lang) (d1 d2 : PyData) : List PyData := [.str L.e, d1, .str L.c, .str L.l, .tuple (L.D.map PyData.str), d2, .bool L.x]
def spRepl (K : PySem.W.Frag) (C : Addr) : Sp := fun vs H Q _ => ∃ (x : Addr) (L : Lang) (v1 v2 : V) (d1 d2 : PyData), vs = [.ref x, v1, v2] ∧ LangAt C H x L ∧ SmallS L.D ∧ Dp K H v1 d1 ∧ Dp K H v2 d2 ∧ Short d1 ∧ Short d2 ∧
  (badOf names7 (replD L d1 d2) = none → ∀ y H', H y = none → Same H H' → LangAt C H' y (langOf (replD L d1 d2)) → Q (.ref y) H') ∧ (∀ o, badOf names7 (replD L d1 d2) = some o → ∀ H', Same H H' → Q (.str o) H')
theorem kw7_at {v1 v2 v3 v4 v5 v6 v7 : V} {i : Nat} {o : Str} {v : V} (h1 : names7[i]? = some o) (h2 : [v1, v2, v3, v4, v5, v6, v7][i]? = some v) : valV (kwK (names7.zip [v1, v2, v3, v4, v5, v6, v7])) (.inr o) = some v := by
  match i, h1, h2 with
  | 0, h1, h2 => cases h1; cases h2; kernel_rfl
  | 1, h1, h2 => cases h1; cases h2; kernel_rfl
  | 2, h1, h2 => cases h1; cases h2; kernel_rfl
  | 3, h1, h2 => cases h1; cases h2; kernel_rfl
  | 4, h1, h2 => cases h1; cases h2; kernel_rfl
  | 5, h1, h2 => cases h1; cases h2; kernel_rfl
  | 6, h1, h2 => cases h1; cases h2; kernel_rfl
  | n + 7, h1, _ => cases h1
theorem get7 {H : Hp} {td : Addr} {us : List V} {i : Nat} {o : Str} {v : V} (h : H td = some (.dK (kwK (names7.zip us)))) (hl : us.length = 7) (h1 : names7[i]? = some o) (h2 : us[i]? = some v) : DGet H td (.str o) (some v) := by
  match us, hl with
  | [v1, v2, v3, v4, v5, v6, v7], _ =>
    rw [← kw7_at h1 h2]
    exact DGet.k (k := .inr o) h
/-- the key lists that with_options is called with -/
def allow : List (List Str) := [[], ["end", "bare"], ["equals"], ["end"], ["comma"], ["last"], ["doubled"], ["bare"], ["nothing"], ["nothing", "bare", "doubled", "last", "comma", "end", "equals"], ["bare", "ends", "signs"], ["doubled", "comma"]]
def spW (K : PySem.W.Frag) (C CB : Addr) : SpM := fun v0 kvs H Q E => (∃ ks ∈ allow, kvs.map (·.1) = ks) ∧ ∀ d, H d = none → spBody K C CB [v0, .ref d] (upd H d (.dK (kwK kvs))) Q E
theorem spW_of {K : PySem.W.Frag} {C CB : Addr} {v0 : V} {kvs : List (Str × V)} {H : Hp} {Q : VK} {E : XK} (h : spWith K C CB v0 kvs H Q E) (ha : kvs.map (·.1) ∈ allow) : spW K C CB v0 kvs H Q E := by
  refine ⟨⟨_, ha, rfl⟩, fun d hd => ?_⟩
  obtain ⟨x, L, ks, vs, ds, e0, h'⟩ := h
  subst e0
  exact ⟨x, d, kvs, H, rfl, hd, rfl, x, L, ks, vs, ds, rfl, h'⟩
section
variable {P : Program} {w : World} {K : PySem.W.Frag} {mg : Str → Option Value} {base : Heap} {C CB : Addr}
theorem scOff : FnScope ["_law_made_here"] ["_law_made_here"] (defScope sOff) := ⟨rfl, rfl, rfl, by decide +kernel, rfl, by decide +kernel, by decide +kernel⟩
theorem ok_off {f : Addr} {fd : FuncData} (F : Fun K "_law_read_off" "_law_read_off" sOff f fd) (S : LangC K mg C) : FnOk P w K mg base CX0 1 f fd ["_law_made_here"] (spOff C) := by
  refine F.ok scOff (fun vs H Q E h => ?_) (fun cdv A outer s H vs Q E hr h => ?_)
  · obtain ⟨x, L, rfl, _⟩ := h
    rfl
  · obtain ⟨x, L, rfl, hL, q⟩ := h
    refine ⟨_, pss_one (ps_ret (pe_lst (pa_cons (pe_fld (pv 0) rfl) (pa_cons (pe_fld (pv 0) rfl) (pa_cons (pe_fld (pv 0) rfl) (pa_cons (pe_fld (pv 0) rfl) (pa_cons (pe_fld (pv 0) rfl) (pa_cons (pe_fld (pv 0) rfl) (pa_cons (pe_fld (pv 0) rfl) pa_nil))))))))), ?_⟩
    obtain ⟨dx, t, fs, hx, fl, ht⟩ := hL
    refine ⟨_, rfl, x, C, dx, _, _, rfl, hx, S.cl, S.nE, fl.e, _, rfl, x, C, dx, _, _, rfl, hx, S.cl, S.nN, fl.n, _, rfl, x, C, dx, _, _, rfl, hx, S.cl, S.nC, fl.c, _, rfl, x, C, dx, _, _, rfl, hx, S.cl, S.nL, fl.l, _, rfl, x, C, dx, _, _, rfl, hx, S.cl, S.nD, fl.d, _, rfl, x, C, dx, _, _, rfl, hx, S.cl, S.nB, fl.b, _, rfl, x, C, dx, _, _, rfl, hx, S.cl, S.nX, fl.x, by show 7 ≤ sizeLine; decide, fun l hl => ?_⟩
    have s1 := Same.new (o := .lst [.str L.e, .str L.n, .str L.c, .str L.l, .ref t, .bl L.b, .bl L.x]) (Same.refl H) hl
    exact q l _ hl s1 ⟨t, upd_same, s1 _ _ ht⟩
theorem scDue : FnScope ["_law_told", "_law_order", "_law_sign"] ["_law_told"] (defScope sDue) := ⟨rfl, rfl, rfl, by decide +kernel, rfl, by decide +kernel, by decide +kernel⟩
theorem ok_due {f : Addr} {fd : FuncData} (F : Fun K "_law_due" "_law_due" sDue f fd) (T : Bare mg) : FnOk P w K mg base CX0 1 f fd ["_law_told"] spDue := by
  refine F.ok scDue (fun vs H Q E h => ?_) (fun cdv A outer s H vs Q E hr h => ?_)
  · obtain ⟨td, la, o, rfl, _⟩ := h
    rfl
  · obtain ⟨td, la, o, rfl, hT, hz3, q⟩ := h
    have hu := hu_of hr
    refine ⟨_, C8.pss_cut (ps_set (i := 1) scDue.nd rfl (.inl rfl) (pe_callTy call_tuple_of (by rfl) T.tuple (by decide +kernel) (pa_cons (pe_lc (own := [("_law_sign", 2)]) (g := gName 2) (tt := tTest (tOp (rIn K false) (tVar 2) (tDGet (tVar 0) (tC (.str "doubled"))))) (by rfl) scDue.nd (pi_list (pe_lst (pa_cons pe_str (pa_cons pe_str (pa_cons pe_str pa_nil)))))
        (blkOk_by (own := [("_law_sign", 2)]) (N := ["_law_told", "_law_order", "_law_sign"]) (sc := defScope sDue) (by decide +kernel)) (fun _ _ _ _ _ => pg_name (i := 2) scDue.nd rfl (Or.inl rfl)) (fun _ _ _ _ _ => pts_one (pt_cmpR op_in_seq (pv 2) (pe_dget hu (pv 0) pe_str (fun _ _ => rfl)) (by rfl))) (fun _ _ _ _ _ => pv 2)) pa_nil)))
      (pss_one (ps_ret (pe_lst (pa_cons (pe_dget hu (pv 0) pe_str (fun _ _ => rfl)) (pa_cons (pe_dget hu (pv 0) pe_str (fun _ _ => rfl)) (pa_cons (pe_dget hu (pv 0) pe_str (fun _ _ => rfl)) (pa_cons (pe_dget hu (pv 0) pe_str (fun _ _ => rfl)) (pa_cons (pv 1) (pa_cons (pe_dget hu (pv 0) pe_str (fun _ _ => rfl)) (pa_cons (pe_dget hu (pv 0) pe_str (fun _ _ => rfl)) pa_nil)))))))))), ?_⟩
    refine ⟨fun σ H' => ∃ t, σ = [some (.ref td), some (.ref t), none] ∧ H' t = some (.tup (o.lang.D.map V.str)) ∧ Same H H', ?_, ?_⟩
    · refine ⟨by show 3 ≤ sizeLine; decide, fun M hM => ⟨M, rfl, ⟨_, SqL.of upd_same⟩, fun D hD => ?_⟩⟩
      have sM := Same.new (o := .lst (sgn3.map V.str)) (Same.refl H) hM
      have TM := hT.same sM
      refine lc_list (K := K) (a := M) (xs := sgn3.map V.str) (fun i H' => Same (upd H M (.lst (sgn3.map V.str))) H' ∧ H' D = some (.lst (((sgn3.take i).filter fun z => decide (z ∈ o.zs)).map V.str))) ⟨Same.new (Same.refl _) hD, upd_same⟩ (fun i H' _ ⟨s', _⟩ => SqL.of (s' _ _ upd_same)) ?_ ?_
      · rintro i y H5 hi ⟨s5, h5⟩
        rw [List.getElem?_map] at hi
        obtain ⟨z, hz, rfl⟩ := Option.map_eq_some_iff.mp hi
        have T5 := TM.same s5
        have row : SqL K H5 la (o.zs.map V.str) ∨ SqT K H5 la (o.zs.map V.str) := by
          have e := T5.s
          unfold SeqO at e
          cases ho : o.t with
          | true => rw [ho] at e; exact .inr (SqT.of e)
          | false => rw [ho] at e; exact .inl (SqL.of e)
        refine ⟨rfl, _, rfl, _, rfl, td, _, rfl, get7 (i := 4) T5.d rfl rfl rfl, la, _, rfl, row, rfl, flat_strs _, _, rfl, ?_⟩
        show if inV (V.str z) (o.zs.map V.str) = true then _ else _
        rw [inV_strs]
        have more : (sgn3.take (i + 1)).filter (fun z => decide (z ∈ o.zs)) = (sgn3.take i).filter (fun z => decide (z ∈ o.zs)) ++ (if decide (z ∈ o.zs) = true then [z] else []) := by
          rw [List.take_add_one, hz, List.filter_append]
          congr 1
          exact filter_one _ z
        refine ite2 (fun hc => ?_) (fun hc => ?_)
        · refine ⟨_, rfl, _, h5, ?_, Same.put s5 hD, ?_⟩
          · rw [List.length_map]
            have l1 := List.length_filter_le (fun z => decide (z ∈ o.zs)) (sgn3.take i)
            have l2 := List.length_take_le' i sgn3
            have l3 : sgn3.length = 3 := rfl
            exact line50 (by omega)
          · rw [upd_same, more, if_pos hc, List.map_append]
            rfl
        · exact ⟨s5, by rw [h5, more, if_neg hc, List.append_nil]⟩
      · rintro H5 ⟨s5, h5⟩
        exact ⟨D, _, rfl, .inl ⟨SqL.of h5, fun t ht => ⟨t, rfl, upd_same, Same.new (sM.trans s5) ht⟩⟩⟩
    rintro σ H1 ⟨t, rfl, ht, s1⟩
    have T1 := hT.same s1
    refine ⟨_, rfl, td, _, rfl, get7 (i := 0) T1.d rfl rfl rfl, _, rfl, td, _, rfl, get7 (i := 1) T1.d rfl rfl rfl, _, rfl, td, _, rfl, get7 (i := 2) T1.d rfl rfl rfl, _, rfl, td, _, rfl, get7 (i := 3) T1.d rfl rfl rfl, _, rfl, _, rfl, td, _, rfl, get7 (i := 5) T1.d rfl rfl rfl, _, rfl, td, _, rfl, get7 (i := 6) T1.d rfl rfl rfl, by show 7 ≤ sizeLine; decide, fun l hl => ?_⟩
    have s2 := Same.new (o := .lst [.str o.e, .str o.n, .str o.c, .str o.l, .ref t, .bl o.b, .bl o.x]) (Same.refl H1) hl
    exact q l _ (s1.free hl) (s1.trans s2) ⟨t, upd_same, s2 _ _ ht⟩
theorem scMade : FnScope ["_law_told", "e"] ["_law_told"] (defScope sMade) := ⟨rfl, rfl, rfl, by decide +kernel, rfl, by decide +kernel, by decide +kernel⟩
theorem ok_made {f fI fE : Addr} {fd fdI : FuncData} (F : Fun K "_law_made" "_law_made" sMade f fd) (S : LangC K mg C) (TE : K2E.ErrTxt P K mg CB fE) (XF : XfC K CB)
    (M : Mk K C fI) (GI : FnOk P w K mg base (L2.CX P w) 4 fI fdI pInit (spInit K C CB)) (kb : KBn K fdI pInit 1 names7 (fun us ws => us ++ ws) (fun vs zs => vs ++ zs)) :
    FnOk P w K mg base CX0 6 f fd ["_law_told"] (spMade K C) := by
  refine F.ok scMade (fun vs H Q E h => ?_) (fun cdv A outer s H vs Q E hr h => ?_)
  · obtain ⟨td, us, ds, rfl, _⟩ := h
    rfl
  · obtain ⟨td, us, ds, rfl, hl, hd, hds, hsh, q, qb⟩ := h
    have hu := hu_of hr
    refine ⟨_, pss_one (ps_try_as (i := 1) rfl rfl scMade.nd rfl rfl ⟨rfl, by decide, .inl TE.gC⟩ takes0
      (fun W pn xe tk _ => pss_one (ps_ret (pe_makeKS M GI hr rfl S.gC kb (fun σ => passAt tk σ) (pk_cons (pe_dget hu (pv 0) pe_str (fun _ _ => rfl)) (pk_cons (pe_dget hu (pv 0) pe_str (fun _ _ => rfl)) (pk_cons (pe_dget hu (pv 0) pe_str (fun _ _ => rfl)) (pk_cons (pe_dget hu (pv 0) pe_str (fun _ _ => rfl)) (pk_cons (pe_dget hu (pv 0) pe_str (fun _ _ => rfl)) (pk_cons (pe_dget hu (pv 0) pe_str (fun _ _ => rfl)) (pk_cons (pe_dget hu (pv 0) pe_str (fun _ _ => rfl)) pk_nil))))))))))
      (fun a oe cls d pn hz hf => pss_one (ps_ret (pe_xf XF TE.noN hz hf (pv 1))))), ?_⟩
    match us, hl with
    | [v1, v2, v3, v4, v5, v6, v7], _ =>
    refine ⟨_, rfl, td, _, rfl, get7 (i := 0) hd rfl rfl rfl, _, rfl, td, _, rfl, get7 (i := 1) hd rfl rfl rfl, _, rfl, td, _, rfl, get7 (i := 2) hd rfl rfl rfl, _, rfl, td, _, rfl, get7 (i := 3) hd rfl rfl rfl, _, rfl, td, _, rfl, get7 (i := 4) hd rfl rfl rfl, _, rfl, td, _, rfl, get7 (i := 5) hd rfl rfl rfl, _, rfl, td, _, rfl, get7 (i := 6) hd rfl rfl rfl, rfl, fun x dx hx hdx ndx => ?_⟩
    have nx : (upd H dx (.own x)) x = none := by rw [upd_ne ndx.symm]; exact hx
    have s1 : Same H (upd (upd H dx (.own x)) x (.ins C dx [])) := Same.new (Same.new (Same.refl H) hdx) nx
    refine ⟨x, dx, [v1, v2, v3, v4, v5, v6, v7], ds, rfl, rfl, upd_same, dpAll_same s1 _ hds, hsh, fun hb H' kp hL => ⟨rfl, q hb x H' hx (fun b o e => kp b o (ne_of_none e hx) (s1 b o e)) hL⟩, fun o hb d H' hd' s' hxd => ?_⟩
    exact ⟨true, TE.te, fun _ a' ha' => ⟨_, rfl, rfl, rfl, d, _, _, rfl, hxd, rfl, qb o hb H' (s1.trans s')⟩, fun z => nomatch z⟩
theorem scRepl : FnScope ["_law_made_here", "_law_first", "_law_second", "e"] ["_law_made_here", "_law_first", "_law_second"] (defScope sRepl) := ⟨rfl, rfl, rfl, by decide +kernel, rfl, by decide +kernel, by decide +kernel⟩
theorem ok_repl {f fW fE : Addr} {fd : FuncData} (F : Fun K "_law_replaced" "_law_replaced" sRepl f fd) (S : LangC K mg C) (TE : K2E.ErrTxt P K mg CB fE) (XF : XfC K CB)
    (mW : Meth K C "with_options" fW) (GW : FnM P w K mg base (L2.CX P w) 6 fW (spW K C CB)) : FnOk P w K mg base CX0 7 f fd ["_law_made_here", "_law_first", "_law_second"] (spRepl K C) := by
  refine F.ok scRepl (fun vs H Q E h => ?_) (fun cdv A outer s H vs Q E hr h => ?_)
  · obtain ⟨x, L, v1, v2, d1, d2, rfl, _⟩ := h
    rfl
  · obtain ⟨x, L, v1, v2, d1, d2, rfl, hL, sm, h1, h2, h3, h4, q, qb⟩ := h
    refine ⟨_, pss_one (ps_try_as (i := 3) rfl rfl scRepl.nd rfl rfl ⟨rfl, by decide, .inl TE.gC⟩ takes0
      (fun W pn xe tk _ => pss_one (ps_ret (pe_methM (ks := ["end", "bare"]) (pv 0) S.cl mW GW hr (fun σ => passAt tk σ) (pk_cons (pv 1) (pk_cons (pv 2) pk_nil)))))
      (fun a oe cls d pn hz hf => pss_one (ps_ret (pe_xf XF TE.noN hz hf (pv 3))))), ?_⟩
    obtain ⟨dx, t, fs, hx, fl, ht⟩ := id hL
    refine ⟨_, rfl, x, dx, fs, rfl, hx, fl.w, _, rfl, _, rfl, rfl, spW_of ⟨x, L, ["end", "bare"], [v1, v2], [d1, d2], rfl, rfl, rfl, by decide, hL, sm, .cons h1 (.cons h2 .nil), ?_, fun o e => ?_, fun _ => ⟨fun hb y H' hy s' hL' => ?_, fun o hb d H' hd' s' hxd => ?_⟩⟩ (by show (["end", "bare"] : List Str) ∈ allow; decide +kernel)⟩
    · intro d hd
      simp only [List.mem_cons, List.not_mem_nil, or_false] at hd
      rcases hd with rfl | rfl
      · exact h3
      · exact h4
    · rw [show List.find? (fun k => !decide (k ∈ names7)) (["end", "bare"] : List Str) = none by decide +kernel] at e
      cases e
    · exact q hb y H' hy s' hL'
    · exact ⟨true, TE.te, fun _ a' ha' => ⟨_, rfl, rfl, rfl, d, _, _, rfl, hxd, rfl, qb o hb H' s'⟩, fun z => nomatch z⟩
end
end K2

/-! x != y, x an instance of a class with an own == and no own != -/
namespace L2
open PySem PySem.Spec PyProof.Rows Builtin
section
variable {prog : Program} {w : World} {A : Around} {E : Value → Shared → Prop} {s : Shared} {K : PySem.W.Frag} {x C L f : Addr} {h₀ : Heap} {m : Str → Option Value} {ox : Obj} {od : Option Obj} {b tb : Value}
theorem ne_body {Q : Fin → Shared → Prop} (X : K.In s.heap) (I : PySem.W.InstAt s.heap x ox C od) (hs : PySem.W.findIn K (.ref C) "__eq__" = some (some (.ref f))) (hf : PySem.W.isFn K (.ref f) = true) (hu : A.units < cLine)
    (h : wpAny (model prog w) A (call (.ref f) [.ref x, b]) (fun v s' => ∃ r, v = .bool r ∧ Q (.done (.ret (.bool (!r)))) s') E s) : wpAny (model prog w) A (Builtin.«object.__ne__» ⟨[.ref x, b], []⟩) Q E s := by
  unfold Builtin.«object.__ne__»
  repeat (first
    | with_reducible refine wpAny_cRoomFor hu ?_
    | (refine wpAny_bind (m := callSpecialIfBound? (.ref x) (Str.ofString "__eq__") [b])
        (PySem.W.ifBound_K X I hs hf (wpAny_mono h (fun v s' hr => by
          obtain ⟨r, rfl, hq⟩ := hr
          repeat (first | exact hq | exact wpAny_pure hq | exact wpAny_truthy_bool hq | (refine wpAny_bind (m := truthy (.bool _)) (wpAny_truthy_bool ?_)) | wp_step)) fun _ _ e => e)))
    | wp_step)
theorem ne_slot : Slot "object" "__ne__" "object.__ne__" := F.cmp_object.ne
theorem ne_try {Q : Option Value → Shared → Prop} (X : K.In s.heap) (I : PySem.W.InstAt s.heap x ox C od) (hs : PySem.W.findIn K (.ref C) "__eq__" = some (some (.ref f))) (hf : PySem.W.isFn K (.ref f) = true)
    (hn : PySem.W.findIn K (.ref C) "__ne__" = some (some (.builtin "object.__ne__"))) (hm : PySem.W.mroIn K C (.type "object") = some true) (hu : A.units + 1 < cLine)
    (h : wpAny (model prog w) A.in1 (call (.ref f) [.ref x, b]) (fun v s' => ∃ r, v = .bool r ∧ Q (some (.bool (!r))) s') E s) : wpAny (model prog w) A (tryCompare (.ref x) "__ne__" b) Q E s := by
  have sub : PySem.W.Looks (model prog w) s.heap (isInstance (.ref x) (.type "object")) true := I.type.andThen (PySem.W.looks_mroIn X hm)
  have call_ : wpAny (model prog w) A (call (.builtin "object.__ne__") ([.ref x] ++ [b])) (fun v s' => ∃ r, v = .bool r ∧ Q (some (.bool (!(!r)))) s' ∨ ∃ r, v = .bool (!r) ∧ Q (some (.bool (!r))) s') E s := by
    refine wpAny_call (codeAny_call_builtin ne_slot.plain F.cmpEntry_ne (PySem.W.check_slot F.cmpKind_ne F.cmpSplit_ne sub (F.cmpArgs_ne _ _) (ne_body (A := A.in1) X I hs hf hu (wpAny_mono h (fun v s' hv => ?_) fun _ _ e => e))))
    obtain ⟨r, rfl, hq⟩ := hv
    exact ⟨r, rfl, ⟨r, .inr ⟨r, rfl, hq⟩⟩⟩
  have special : wpAny (model prog w) A (callSpecialIfBound? (.ref x) "__ne__" [b]) (fun v s' => ∃ r, v = some (.bool (!r)) ∧ Q (some (.bool (!r))) s') E s := by
    simp only [callSpecialIfBound?, bindSpecialIfBound?]
    refine wpAny_holding (wpAny_bind (wpAny_bind (wpAny_bind (I.type.here ((PySem.W.looks_findIn X hn).here ?_)))))
    refine wpAny_bind (wpAny_askSetting (wpAny_ite ?_))
    have fin : wpAny (model prog w) A (call (.builtin "object.__ne__") ([.ref x] ++ [b]) >>= fun v => pure (some v)) (fun v s' => ∃ r, v = some (.bool (!r)) ∧ Q (some (.bool (!r))) s') E s :=
      wpAny_bind (wpAny_mono call_ (fun v s' h' => wpAny_pure (by
        obtain ⟨r, h' | ⟨r', e, q⟩⟩ := h'
        · exact ⟨!r, by rw [h'.1, Bool.not_not], h'.2⟩
        · exact ⟨r', by rw [e], q⟩)) fun _ _ h' => h')
    simp only [ne_slot.bind]
    split
    · exact wpAny_bind (wpAny_pure (wpAny_pure fin))
    · exact wpAny_tryCatch (wpAny_bind (wpAny_pure (wpAny_pure fin)))
  unfold tryCompare
  refine wpAny_bind (wpAny_mono special (fun v s' h' => ?_) fun _ _ e => e)
  obtain ⟨r, rfl, hq⟩ := h'
  exact wpAny_pure hq
theorem ne_K {Q : Value → Shared → Prop} (hu : A.units + 1 < cLine) (Fx : PyProof.Rows.Fr h₀ L s.heap m) (X₀ : K.In h₀) (I : PySem.W.InstAt s.heap x ox C od) (hb : PySem.W.Looks (model prog w) s.heap (typeOf b) tb) (hn : PySem.W.notFirst K C tb = true)
    (hs : PySem.W.findIn K (.ref C) "__eq__" = some (some (.ref f))) (hf : PySem.W.isFn K (.ref f) = true) (hne : PySem.W.findIn K (.ref C) "__ne__" = some (some (.builtin "object.__ne__"))) (hm : PySem.W.mroIn K C (.type "object") = some true)
    (h : wpAny (model prog w) A.in1 (call (.ref f) [.ref x, b]) (fun v s' => ∃ r, v = .bool r ∧ Q (.bool (!r)) s') E s) : wpAny (model prog w) A (richCompare .NotEq (.ref x) b) Q E s := by
  have X := X₀.keeps Fx.keep
  have one : wpAny (model prog w) A (tryCompare (.ref x) "__ne__" b) (fun r s' => ∃ v, r = some v ∧ Q v s') E s := ne_try X I hs hf hne hm hu (wpAny_mono h (fun v s' hv => let ⟨r, e, q⟩ := hv; ⟨r, e, _, rfl, q⟩) fun _ _ e => e)
  unfold richCompare
  simp only [oneThing_ref, cmpInfo_NotEq]
  refine wpAny_holding (wpAny_bind (wpAny_cRoomFor (Nat.lt_of_succ_lt hu) ?_))
  refine wpAny_bind (I.type.here (wpAny_bind (hb.here ?_)))
  split
  · rename_i q
    have e : PySem.W.subIn K tb (.ref C) = some false := by
      rcases Bool.or_eq_true_iff.mp hn with e | e
      · rw [beq_iff_eq.mp e] at q; simp at q
      · exact beq_iff_eq.mp e
    refine wpAny_bind ((PySem.W.looks_subIn X e).here ?_)
    simp only [Bool.false_eq_true, if_false]
    refine wpAny_bind (wpAny_mono one (fun r s' z => ?_) fun _ _ e => e)
    obtain ⟨v, rfl, hq⟩ := z
    exact wpAny_pure hq
  · refine wpAny_bind (wpAny_pure ?_)
    simp only [Bool.false_eq_true, if_false]
    refine wpAny_bind (wpAny_mono one (fun r s' z => ?_) fun _ _ e => e)
    obtain ⟨v, rfl, hq⟩ := z
    exact wpAny_pure hq
end
section
variable {X : Cx} {CX : CXT} {k : Nat} {f C : Addr} {fd : FuncData} {ps : List Str} {sp : Sp}
def rNeOwn (K : PySem.W.Frag) (C : Addr) (sp : Sp) (E : XK) : R2 := fun x y H Q => ∃ (a dx : Addr) (fs : List (Str × V)) (t : Value), x = .ref a ∧ H a = some (.ins C dx fs) ∧ TyX K H y t ∧ PySem.W.notFirst K C t = true ∧ sp [.ref a, y] H (fun v H' => ∃ b, v = .bl b ∧ Q (.bl (!b)) H') E
theorem op_neOwn {E : XK} (F : FnOk X.prog X.w X.K X.mg X.base CX k f fd ps sp) (hr : Room (k + 1) X.A) (hs : PySem.W.findIn X.K (.ref C) "__eq__" = some (some (.ref f))) (hf : PySem.W.isFn X.K (.ref f) = true)
    (hne : PySem.W.findIn X.K (.ref C) "__ne__" = some (some (.builtin "object.__ne__"))) (hm : PySem.W.mroIn X.K C (.type "object") = some true) (hb : Binds X.K fd ps []) (hx : Passes CX X E) : OpR X (compareOp .NotEq) (rNeOwn X.K C sp E) := by
  intro pins s σ H x y v u Q I rx ry hq
  obtain ⟨a, dx, fs, t, rfl, ha, ty, hn, q⟩ := hq
  cases rx
  obtain ⟨mA, J, _⟩ := ins_get I.hok ha
  obtain ⟨od, J, _⟩ := J.look
  obtain ⟨P, Z, pz, _⟩ := kit_of I ry ty
  obtain ⟨m, hF⟩ := I.fr
  show wpAny (model X.prog X.w) X.A (richCompare .NotEq (.ref a) u) (EP X pins σ Q) X.xe s
  have hu1 : X.A.units + 1 < cLine := by have := hr.un; omega
  refine ne_K hu1 hF I.ok.mod.kin J (Z.ty _ _ I.kIn pz) hn hs hf hne hm ?_
  have r2 : Vals [V.ref a, y] [Value.ref a, u] := .cons rfl (.cons ry .nil)
  have hl : [Value.ref a, u].length = ps.length := by rw [← r2.length]; exact F.len _ _ _ _ q
  have b := hb s [Value.ref a, u] I.kIn (by rw [List.append_nil]; exact hl)
  rw [List.append_nil] at b
  refine wpAny_call (codeAny_mono (F.run X.A.in1 X.stack s H ⟨[.ref a, u], []⟩ [.ref a, u] [.ref a, y] _ E hr.in1 I.env0.in1 b r2 q) fun r s' hq => ?_)
  cases r with
  | error e => exact hx pins σ H s e s' I hq
  | ok fl =>
    cases fl with
    | ret w =>
      obtain ⟨z, H', I', rz, c, ez, q'⟩ := I.after hq
      subst ez
      cases rz
      exact ⟨c, rfl, .bl (!c), H', I', rfl, q'⟩
    | next => exact False.elim hq
    | brk => exact False.elim hq
    | cont => exact False.elim hq
end
end L2

namespace K2
open PySem L2 K2M
/-- one option taken from other options -/
def rep (o o' : Opt) : Nat → Opt
  | 0 => { o with e := o'.e }
  | 1 => { o with n := o'.n }
  | 2 => { o with c := o'.c }
  | 3 => { o with l := o'.l }
  | 4 => { o with zs := o'.zs, t := o'.t }
  | 5 => { o with b := o'.b }
  | 6 => { o with x := o'.x }
  | _ => o
theorem rep_ok {o o' : Opt} (h : o.Ok) (h' : o'.Ok) (k : Nat) : (rep o o' k).Ok := by
  match k with
  | 0 => exact ⟨h'.e, h.n, h.c, h.l, h.z⟩
  | 1 => exact ⟨h.e, h'.n, h.c, h.l, h.z⟩
  | 2 => exact ⟨h.e, h.n, h'.c, h.l, h.z⟩
  | 3 => exact ⟨h.e, h.n, h.c, h'.l, h.z⟩
  | 4 => exact ⟨h.e, h.n, h.c, h.l, h'.z⟩
  | 5 => exact ⟨h.e, h.n, h.c, h.l, h.z⟩
  | 6 => exact ⟨h.e, h.n, h.c, h.l, h.z⟩
  | _ + 7 => exact h
/-- the options that a language tells of itself -/
def Opt.own (o : Opt) : Opt := { o with zs := o.lang.D, t := true }
theorem own_d (o : Opt) : ownD o.lang = o.own.d := rfl
theorem own_mixed (o : Opt) : Mixed o.lang.D := ⟨List.Nodup.sublist List.filter_sublist (by decide +kernel), fun z hz => (List.mem_filter.mp hz).1⟩
theorem own_ok {o : Opt} (h : o.Ok) : o.own.Ok := ⟨h.e, h.n, h.c, h.l, own_mixed o⟩
theorem own_D (zs : List Str) : (sgn3.filter fun z => decide (z ∈ sgn3.filter fun z => decide (z ∈ zs))) = sgn3.filter fun z => decide (z ∈ zs) := by
  refine List.filter_congr fun z hz => ?_
  by_cases c : z ∈ zs
  · rw [decide_eq_true c]
    exact decide_eq_true (List.mem_filter.mpr ⟨hz, decide_eq_true c⟩)
  · rw [decide_eq_false c]
    exact decide_eq_false fun h => c (of_decide_eq_true (List.mem_filter.mp h).2)
theorem own_lang (o : Opt) : o.own.lang = o.lang := by
  show ({ e := o.e, n := o.n, c := o.c, l := o.l, D := sgn3.filter fun z => decide (z ∈ sgn3.filter fun z => decide (z ∈ o.zs)), b := o.b, x := o.x } : Lang) = _
  rw [own_D]
  rfl
theorem lang_congr {o o' : Opt} (h1 : o.e = o'.e) (h2 : o.n = o'.n) (h3 : o.c = o'.c) (h4 : o.l = o'.l) (h5 : (sgn3.filter fun z => decide (z ∈ o.zs)) = sgn3.filter fun z => decide (z ∈ o'.zs)) (h6 : o.b = o'.b) (h7 : o.x = o'.x) : o.lang = o'.lang := by
  unfold Opt.lang
  rw [h1, h2, h3, h4, h5, h6, h7]
theorem rep_own (o o' : Opt) (k : Nat) : (rep o.own o' k).lang = (rep o o' k).lang := by
  match k with
  | 0 => exact lang_congr rfl rfl rfl rfl (own_D _) rfl rfl
  | 1 => exact lang_congr rfl rfl rfl rfl (own_D _) rfl rfl
  | 2 => exact lang_congr rfl rfl rfl rfl (own_D _) rfl rfl
  | 3 => exact lang_congr rfl rfl rfl rfl (own_D _) rfl rfl
  | 4 => exact lang_congr rfl rfl rfl rfl rfl rfl rfl
  | 5 => exact lang_congr rfl rfl rfl rfl (own_D _) rfl rfl
  | 6 => exact lang_congr rfl rfl rfl rfl (own_D _) rfl rfl
  | _ + 7 => exact own_lang o
theorem set_rep (o o' : Opt) {k : Nat} {key : Str} {d : PyData} (h1 : names7[k]? = some key) (h2 : o'.d[k]? = some d) : setAll [(key, d)] o.d = (rep o o' k).d := by
  match k, h1, h2 with
  | 0, h1, h2 => cases h1; cases h2; kernel_rfl
  | 1, h1, h2 => cases h1; cases h2; kernel_rfl
  | 2, h1, h2 => cases h1; cases h2; kernel_rfl
  | 3, h1, h2 => cases h1; cases h2; kernel_rfl
  | 4, h1, h2 => cases h1; cases h2; kernel_rfl
  | 5, h1, h2 => cases h1; cases h2; kernel_rfl
  | 6, h1, h2 => cases h1; cases h2; kernel_rfl
  | n + 7, h1, _ => cases h1
/-- the place of the signs behind the change -/
def repA (la la' : Addr) (k : Nat) : Addr := if k = 4 then la' else la
theorem put_rep (o o' : Opt) (la la' : Addr) {k : Nat} {key : Str} {v : V} (h1 : names7[k]? = some key) (h2 : (o'.v la')[k]? = some v) : putK (kwK (names7.zip (o.v la))) (.inr key) v = kwK (names7.zip ((rep o o' k).v (repA la la' k))) := by
  match k, h1, h2 with
  | 0, h1, h2 => cases h1; cases h2; kernel_rfl
  | 1, h1, h2 => cases h1; cases h2; kernel_rfl
  | 2, h1, h2 => cases h1; cases h2; kernel_rfl
  | 3, h1, h2 => cases h1; cases h2; kernel_rfl
  | 4, h1, h2 => cases h1; cases h2; kernel_rfl
  | 5, h1, h2 => cases h1; cases h2; kernel_rfl
  | 6, h1, h2 => cases h1; cases h2; kernel_rfl
  | n + 7, h1, _ => cases h1
theorem seq_rep {H : Hp} {o o' : Opt} {la la' : Addr} (h : SeqO H la o.t o.zs) (h' : SeqO H la' o'.t o'.zs) (k : Nat) : SeqO H (repA la la' k) (rep o o' k).t (rep o o' k).zs := by
  match k with
  | 0 => exact h
  | 1 => exact h
  | 2 => exact h
  | 3 => exact h
  | 4 => exact h'
  | 5 => exact h
  | 6 => exact h
  | _ + 7 => exact h
/-- the options' data are small -/
theorem fair_txt : ∀ z ∈ (["must", "may", "between", "joins", "never"] : List Str), fairB (.str z) = true := by decide +kernel
theorem fair_bl : ∀ b : Bool, fairB (.bool b) = true := by decide +kernel
def pick3 (b1 b2 b3 : Bool) : List Str := (if b1 = true then [Str.ofString "="] else []) ++ ((if b2 = true then [Str.ofString ";"] else []) ++ (if b3 = true then [Str.ofString ","] else []))
theorem fair_D : ∀ b1 b2 b3 : Bool, fairB (.tuple ((pick3 b1 b2 b3).map PyData.str)) = true := by decide +kernel
theorem filter3 (p : Str → Bool) : sgn3.filter p = pick3 (p "=") (p ";") (p ",") := by
  unfold sgn3 pick3
  rw [List.filter_cons, List.filter_cons, List.filter_cons, List.filter_nil]
  cases p "=" <;> cases p ";" <;> cases p "," <;> rfl
theorem fair_own {o : Opt} (h : o.Ok) : Fair (ownD o.lang) := by
  have tx : ∀ z, z ∈ (["must", "may", "between", "joins", "never"] : List Str) → Fair1 (.str z) := fun z hz => fair_of (fair_txt z hz)
  intro d hd
  simp only [ownD, List.mem_cons, List.not_mem_nil, or_false] at hd
  rcases hd with rfl | rfl | rfl | rfl | rfl | rfl | rfl
  · refine tx _ ?_
    have := h.e
    simp only [List.mem_cons, List.not_mem_nil, or_false] at this ⊢
    rcases this with e | e <;> simp [Opt.lang, e]
  · refine tx _ ?_
    have := h.n
    simp only [List.mem_cons, List.not_mem_nil, or_false] at this ⊢
    rcases this with e | e | e <;> simp [Opt.lang, e]
  · refine tx _ ?_
    have := h.c
    simp only [List.mem_cons, List.not_mem_nil, or_false] at this ⊢
    rcases this with e | e | e <;> simp [Opt.lang, e]
  · refine tx _ ?_
    have := h.l
    simp only [List.mem_cons, List.not_mem_nil, or_false] at this ⊢
    rcases this with e | e | e <;> simp [Opt.lang, e]
  · refine fair_of ?_
    show fairB (.tuple ((sgn3.filter fun z => decide (z ∈ o.zs)).map PyData.str)) = true
    rw [filter3]
    exact fair_D _ _ _
  · exact fair_of (fair_bl _)
  · exact fair_of (fair_bl _)
theorem own_shown {o : Opt} (h : o.Ok) : ShownOk (.list (ownD o.lang)) := (fair_own h).listOk (by show 7 ≤ 200; decide)
theorem own_shaped {o : Opt} (h : o.Ok) : SeqAt.shaped (.list (ownD o.lang)) = true := fair_shaped (fair_own h)
theorem bool_beq (a b : Bool) : (a == b) = decide (a = b) := by cases a <;> cases b <;> rfl
theorem own_eqv (L M : Lang) : PyData.eqv (.list (ownD L)) (.list (ownD M)) = eqL L M := by
  unfold ownD eqL
  rw [PyData.eqv, PyData.eqvAll, PyData.eqvAll, PyData.eqvAll, PyData.eqvAll, PyData.eqvAll, PyData.eqvAll, PyData.eqvAll, PyData.eqvAll, PyData.eqv, PyData.eqv, PyData.eqv, PyData.eqv, PyData.eqv, PyData.eqv, PyData.eqv, strs_eqv, beq_dec, beq_dec, beq_dec, beq_dec, bool_beq, bool_beq, Bool.and_true]
theorem find_own {ks : List Str} (h : ∀ k ∈ ks, k ∈ names7) : ks.find? (fun k => !decide (k ∈ names7)) = none := List.find?_eq_none.mpr fun k hk => by rw [decide_eq_true (h k hk)]; decide
theorem allow1 : ∀ k ∈ names7, [k] ∈ allow := by decide +kernel
/-- one option changed -/
theorem with1 {K : PySem.W.Frag} {C CB : Addr} {H : Hp} {x la' : Addr} {o o' : Opt} {k : Nat} {key : Str} {v : V} {Q : VK} {E : XK} (h : LangAt C H x o.lang) (ho : o.Ok) (ho' : o'.Ok) (hs : SeqO H la' o'.t o'.zs) (h1 : names7[k]? = some key) (h2 : (o'.v la')[k]? = some v)
    (q : ∀ y H', H y = none → Same H H' → LangAt C H' y (rep o o' k).lang → Q (.ref y) H') : spW K C CB (.ref x) [(key, v)] H Q E := by
  obtain ⟨d, hd, dv⟩ := DpAll.at2 (Opt.dp (K := K) hs) h2
  have hk := List.mem_of_getElem? h1
  have good : badOf names7 (setAll [(key, d)] (ownD o.lang)) = none := by
    rw [own_d, set_rep _ o' h1 hd]
    exact (rep_ok (own_ok ho) ho' k).good
  refine spW_of ⟨x, o.lang, [key], [v], [d], rfl, rfl, rfl, by show 1 ≤ 20; decide, h, o.small, .cons dv .nil, fun z hz => ?_, fun z e => ?_, fun _ => ⟨fun _ y H' hy s' hL => q y H' hy s' ?_, fun z hb => ?_⟩⟩ (allow1 key hk)
  · rw [List.mem_singleton.mp hz]
    exact ho'.short d (List.mem_of_getElem? hd)
  · rw [find_own (fun k' hk' => by rw [List.mem_singleton.mp hk']; exact hk)] at e
    cases e
  · have e : langOf (setAll [(key, d)] (ownD o.lang)) = (rep o o' k).lang := by
      rw [own_d, set_rep _ o' h1 hd, langOf_d, rep_own]
    rw [← e]
    exact hL
  · exact absurd (good.symm.trans hb) (by simp)
theorem set7 (o o' : Opt) : setAll ((["nothing", "bare", "doubled", "last", "comma", "end", "equals"] : List Str).zip [.bool o'.x, .bool o'.b, o'.dD, .str o'.l, .str o'.c, .str o'.n, .str o'.e]) o.d = o'.d := by kernel_rfl
/-- all options changed -/
theorem with7 {K : PySem.W.Frag} {C CB : Addr} {H : Hp} {x la' : Addr} {o o' : Opt} {Q : VK} {E : XK} (h : LangAt C H x o.lang) (ho' : o'.Ok) (hs : SeqO H la' o'.t o'.zs)
    (q : ∀ y H', H y = none → Same H H' → LangAt C H' y o'.lang → Q (.ref y) H') :
    spW K C CB (.ref x) ((["nothing", "bare", "doubled", "last", "comma", "end", "equals"] : List Str).zip [.bl o'.x, .bl o'.b, .ref la', .str o'.l, .str o'.c, .str o'.n, .str o'.e]) H Q E := by
  refine spW_of ⟨x, o.lang, ["nothing", "bare", "doubled", "last", "comma", "end", "equals"], _, [.bool o'.x, .bool o'.b, o'.dD, .str o'.l, .str o'.c, .str o'.n, .str o'.e], rfl, rfl, rfl, by show 7 ≤ 20; decide, h, o.small, .cons (.bl _) (.cons (.bl _) (.cons (dp_seqO hs) (.cons (.str _) (.cons (.str _) (.cons (.str _) (.cons (.str _) .nil)))))), fun z hz => ?_, fun z e => ?_, fun _ => ⟨fun _ y H' hy s' hL => q y H' hy s' ?_, fun z hb => ?_⟩⟩ (by show (["nothing", "bare", "doubled", "last", "comma", "end", "equals"] : List Str) ∈ allow; decide +kernel)
  · refine ho'.short z ?_
    simp only [Opt.d, List.mem_cons, List.not_mem_nil, or_false] at hz ⊢
    rcases hz with rfl | rfl | rfl | rfl | rfl | rfl | rfl <;> simp
  · rw [show List.find? (fun k => !decide (k ∈ names7)) (["nothing", "bare", "doubled", "last", "comma", "end", "equals"] : List Str) = none by decide +kernel] at e
    cases e
  · rw [own_d, set7, langOf_d] at hL
    exact hL
  · rw [own_d, set7, ho'.good] at hb
    cases hb
/-- nothing changed -/
theorem with0 {K : PySem.W.Frag} {C CB : Addr} {H : Hp} {x : Addr} {o : Opt} {Q : VK} {E : XK} (h : LangAt C H x o.lang) (ho : o.Ok) (q : ∀ y H', H y = none → Same H H' → LangAt C H' y o.lang → Q (.ref y) H') : spW K C CB (.ref x) [] H Q E := by
  refine spW_of ⟨x, o.lang, [], [], [], rfl, rfl, rfl, by decide, h, o.small, .nil, fun z hz => (nomatch hz), fun z e => (nomatch e), fun _ => ⟨fun _ y H' hy s' hL => q y H' hy s' ?_, fun z hb => ?_⟩⟩ (by show ([] : List Str) ∈ allow; decide +kernel)
  · have e : langOf (setAll (([] : List Str).zip []) (ownD o.lang)) = o.lang := by
      show langOf (ownD o.lang) = _
      rw [own_d, langOf_d, own_lang]
    rw [← e]
    exact hL
  · rw [show setAll (([] : List Str).zip ([] : List PyData)) (ownD o.lang) = ownD o.lang from rfl, own_d, (own_ok ho).good] at hb
    cases hb
end K2

namespace K2
open PySem L2 K2M
abbrev sEach : Stmt := top 34
abbrev sBarred : Stmt := top 35
def EqFn (P : Program) (w : World) (K : PySem.W.Frag) (mg : Str → Option Value) (base : Heap) (C : Addr) : Prop :=
  ∃ f fd, PySem.W.findIn K (.ref C) "__eq__" = some (some (.ref f)) ∧ PySem.W.isFn K (.ref f) = true ∧ FnOk P w K mg base CX0 2 f fd ["self", "other"] (spEq K C) ∧ Binds K fd ["self", "other"] []
def WithFn (P : Program) (w : World) (K : PySem.W.Frag) (mg : Str → Option Value) (base : Heap) (C CB : Addr) : Prop :=
  ∃ f, Meth K C "with_options" f ∧ FnM P w K mg base (L2.CX P w) 6 f (spW K C CB)
def spEach (C : Addr) : Sp := fun vs H Q _ => ∃ (x td la td2 la2 : Addr) (o o2 : Opt), vs = [.ref x, .ref td, .ref td2] ∧ LangAt C H x o.lang ∧ ToldO H td la o ∧ ToldO H td2 la2 o2 ∧ o.Ok ∧ o2.Ok ∧ ∀ H', Same H H' → Q (.bl true) H'
def spBarred (C : Addr) : Sp := fun vs H Q _ => ∃ (x : Addr) (o : Opt), vs = [.ref x] ∧ LangAt C H x o.lang ∧ o.Ok ∧ ∀ H', Same H H' → Q (.bl true) H'
abbrev nEach : List Str := ["_law_made_here", "_law_told", "_law_other", "_law_later", "_law_order", "_law_k", "_law_due_here", "_law_whole"]
theorem noPass {X : Cx} {P : Program} {w : World} (σ : L2.St) : PassesAt (L2.CX P w) X σ (fun _ _ _ => False) := fun pins => passNo pins σ
section
variable {P : Program} {w : World} {K : PySem.W.Frag} {mg : Str → Option Value} {base : Heap} {C CB : Addr}
theorem scEach : FnScope nEach ["_law_made_here", "_law_told", "_law_other"] (defScope sEach) := ⟨rfl, rfl, rfl, by decide +kernel, rfl, by decide +kernel, by decide +kernel⟩
theorem ok_each {f : Addr} {fd : FuncData} (F : Fun K "_law_by_each" "_law_by_each" sEach f fd) (T : Bare mg) (S : LangC K mg C) (EQ : EqFn P w K mg base C) (WI : WithFn P w K mg base C CB)
    (GR : Fn P w K mg base 1 "_law_read_off" ["_law_made_here"] (spOff C)) (GD : Fn P w K mg base 1 "_law_due" ["_law_told"] spDue) (GM : Fn P w K mg base 6 "_law_made" ["_law_told"] (spMade K C)) :
    FnG P w K mg base 7 f fd ["_law_made_here", "_law_told", "_law_other"] (spEach C) := by
  obtain ⟨fE, fdE, eE, iE, GE, bE⟩ := EQ
  obtain ⟨fW, mW, GW⟩ := WI
  refine F.okG scEach (fun vs H Q E h => ?_) (fun cdv A outer s H vs Q hgu hr h => ?_)
  · obtain ⟨x, td, la, td2, la2, o, o2, rfl, _⟩ := h
    rfl
  · obtain ⟨x, td, la, td2, la2, o, o2, rfl, hL, hT, hT2, ok, ok2, q⟩ := h
    have hu := hu_of hr
    have hr1 : Room 1 _ := hr.mono (by decide)
    have hr2 : Room 2 _ := hr.mono (by decide)
    refine ⟨_, C8.pss_cut (ps_set (i := 3) scEach.nd rfl (.inl rfl) (pe_lst
        (pa_cons (pe_methM (E := fun _ _ _ _ => False) (pv 0) S.cl mW GW hr noPass (pk_cons (pe_dget hu (pv 2) pe_str (fun _ _ => rfl)) pk_nil)) (pa_cons (pe_methM (E := fun _ _ _ _ => False) (pv 0) S.cl mW GW hr noPass (pk_cons (pe_dget hu (pv 2) pe_str (fun _ _ => rfl)) pk_nil))
        (pa_cons (pe_methM (E := fun _ _ _ _ => False) (pv 0) S.cl mW GW hr noPass (pk_cons (pe_dget hu (pv 2) pe_str (fun _ _ => rfl)) pk_nil)) (pa_cons (pe_methM (E := fun _ _ _ _ => False) (pv 0) S.cl mW GW hr noPass (pk_cons (pe_dget hu (pv 2) pe_str (fun _ _ => rfl)) pk_nil))
        (pa_cons (pe_methM (E := fun _ _ _ _ => False) (pv 0) S.cl mW GW hr noPass (pk_cons (pe_dget hu (pv 2) pe_str (fun _ _ => rfl)) pk_nil)) (pa_cons (pe_methM (E := fun _ _ _ _ => False) (pv 0) S.cl mW GW hr noPass (pk_cons (pe_dget hu (pv 2) pe_str (fun _ _ => rfl)) pk_nil))
        (pa_cons (pe_methM (E := fun _ _ _ _ => False) (pv 0) S.cl mW GW hr noPass (pk_cons (pe_dget hu (pv 2) pe_str (fun _ _ => rfl)) pk_nil)) pa_nil)))))))))
      (C8.pss_cut (ps_set (i := 4) scEach.nd rfl (.inl rfl) (pe_lst (pa_cons pe_str (pa_cons pe_str (pa_cons pe_str (pa_cons pe_str (pa_cons pe_str (pa_cons pe_str (pa_cons pe_str pa_nil)))))))))
      (C8.pss_cut (ps_for PassesOwn.never rfl (pi_range1 (by rfl) T.range (pa_cons pe_int pa_nil)) (pg_name (i := 5) scEach.nd rfl (.inl rfl))
        (C8.pss_cut (ps_set (i := 6) scEach.nd rfl (.inl rfl) (pe_callTy call_dictD (by rfl) T.dict (by decide +kernel) (pa_cons (pv 1) pa_nil)))
        (C8.pss_cut (ps_dput hu (pv 6) (pe_ix ix_list (pv 4) (pv 5) (fun _ _ => rfl)) (pe_dget hu (pv 2) (pe_ix ix_list (pv 4) (pv 5) (fun _ _ => rfl)) (fun _ _ => rfl)) (by rfl))
        (pss_one (ps_if (pt_cmpR op_ne (pe_callB (call_reprD hgu hr.units) (by rfl) T.repr (by decide +kernel) (pa_cons (pe_fn GR hr1 rfl (pa_cons (pe_ix ix_list (pv 3) (pv 5) (fun _ _ => rfl)) pa_nil)) pa_nil)) (pe_callB (call_reprD hgu hr.units) (by rfl) T.repr (by decide +kernel) (pa_cons (pe_fn GD hr1 rfl (pa_cons (pv 6) pa_nil)) pa_nil)) (nomark _))
          (pss_one (ps_ret pe_bl)) pss_nil)))))
      (C8.pss_cut (ps_set (i := 7) scEach.nd rfl (.inl rfl) (pe_methM (E := fun _ _ _ _ => False) (pv 0) S.cl mW GW hr noPass (pk_cons (pe_dget hu (pv 2) pe_str (fun _ _ => rfl)) (pk_cons (pe_dget hu (pv 2) pe_str (fun _ _ => rfl)) (pk_cons (pe_dget hu (pv 2) pe_str (fun _ _ => rfl))
        (pk_cons (pe_dget hu (pv 2) pe_str (fun _ _ => rfl)) (pk_cons (pe_dget hu (pv 2) pe_str (fun _ _ => rfl)) (pk_cons (pe_dget hu (pv 2) pe_str (fun _ _ => rfl)) (pk_cons (pe_dget hu (pv 2) pe_str (fun _ _ => rfl)) pk_nil)))))))))
      (pss_one (ps_ret (pe_and (pe_cmpR (op_eqOwn GE hr2 eE iE bE pass0) (pv 7) (pe_fn GM hr rfl (pa_cons (pv 2) pa_nil)) (nomark _))
        (pe_one (pe_cmpR op_eq (pe_callB (call_reprD hgu hr.units) (by rfl) T.repr (by decide +kernel) (pa_cons (pe_fn GR hr1 rfl (pa_cons (pv 7) pa_nil)) pa_nil)) (pe_callB (call_reprD hgu hr.units) (by rfl) T.repr (by decide +kernel) (pa_cons (pe_fn GD hr1 rfl (pa_cons (pv 2) pa_nil)) pa_nil)) (nomark _))))))))), ?_⟩
    have seven : 7 ≤ sizeLine := by decide
    refine ⟨fun σ H' => ∃ (l : Addr) (ys : List Addr), σ = [some (.ref x), some (.ref td), some (.ref td2), some (.ref l), none, none, none, none] ∧ H' l = some (.lst (ys.map V.ref)) ∧ ys.length = 7 ∧ (∀ k y, ys[k]? = some y → LangAt C H' y (rep o o2 k).lang) ∧ Same H H', ?_, ?_⟩
    · obtain ⟨dx, t, fs, hx, fl, ht⟩ := id hL
      refine ⟨_, rfl, x, dx, fs, rfl, hx, fl.w, _, rfl, td2, _, rfl, get7 (i := 0) hT2.d rfl rfl rfl, rfl, with1 (k := 0) hL ok ok2 hT2.s rfl rfl fun y1 H1 n1 s1 l1 => ?_⟩
      have T1 := hT2.same s1
      refine ⟨_, rfl, x, dx, fs, rfl, s1 _ _ hx, fl.w, _, rfl, td2, _, rfl, get7 (i := 1) T1.d rfl rfl rfl, rfl, with1 (k := 1) (hL.same s1) ok ok2 T1.s rfl rfl fun y2 H2 n2 s2 l2 => ?_⟩
      have u2 := s1.trans s2
      have T2 := hT2.same u2
      refine ⟨_, rfl, x, dx, fs, rfl, u2 _ _ hx, fl.w, _, rfl, td2, _, rfl, get7 (i := 2) T2.d rfl rfl rfl, rfl, with1 (k := 2) (hL.same u2) ok ok2 T2.s rfl rfl fun y3 H3 n3 s3 l3 => ?_⟩
      have u3 := u2.trans s3
      have T3 := hT2.same u3
      refine ⟨_, rfl, x, dx, fs, rfl, u3 _ _ hx, fl.w, _, rfl, td2, _, rfl, get7 (i := 3) T3.d rfl rfl rfl, rfl, with1 (k := 3) (hL.same u3) ok ok2 T3.s rfl rfl fun y4 H4 n4 s4 l4 => ?_⟩
      have u4 := u3.trans s4
      have T4 := hT2.same u4
      refine ⟨_, rfl, x, dx, fs, rfl, u4 _ _ hx, fl.w, _, rfl, td2, _, rfl, get7 (i := 4) T4.d rfl rfl rfl, rfl, with1 (k := 4) (hL.same u4) ok ok2 T4.s rfl rfl fun y5 H5 n5 s5 l5 => ?_⟩
      have u5 := u4.trans s5
      have T5 := hT2.same u5
      refine ⟨_, rfl, x, dx, fs, rfl, u5 _ _ hx, fl.w, _, rfl, td2, _, rfl, get7 (i := 5) T5.d rfl rfl rfl, rfl, with1 (k := 5) (hL.same u5) ok ok2 T5.s rfl rfl fun y6 H6 n6 s6 l6 => ?_⟩
      have u6 := u5.trans s6
      have T6 := hT2.same u6
      refine ⟨_, rfl, x, dx, fs, rfl, u6 _ _ hx, fl.w, _, rfl, td2, _, rfl, get7 (i := 6) T6.d rfl rfl rfl, rfl, with1 (k := 6) (hL.same u6) ok ok2 T6.s rfl rfl fun y7 H7 n7 s7 l7 => ⟨seven, fun l hl => ?_⟩⟩
      have s8 := Same.new (o := .lst [.ref y1, .ref y2, .ref y3, .ref y4, .ref y5, .ref y6, .ref y7]) (Same.refl H7) hl
      have w7 := s7.trans s8
      have w6 := s6.trans w7
      have w5 := s5.trans w6
      have w4 := s4.trans w5
      have w3 := s3.trans w4
      have w2 := s2.trans w3
      refine ⟨l, [y1, y2, y3, y4, y5, y6, y7], rfl, upd_same, rfl, fun k y hy => ?_, s1.trans w2⟩
      match k, hy with
      | 0, hy => cases hy; exact l1.same w2
      | 1, hy => cases hy; exact l2.same w3
      | 2, hy => cases hy; exact l3.same w4
      | 3, hy => cases hy; exact l4.same w5
      | 4, hy => cases hy; exact l5.same w6
      | 5, hy => cases hy; exact l6.same w7
      | 6, hy => cases hy; exact l7.same s8
      | n + 7, hy => cases hy
    rintro σ H1 ⟨l, ys, rfl, hl, hy7, hys, s1⟩
    refine ⟨fun σ H' => ∃ a, σ = [some (.ref x), some (.ref td), some (.ref td2), some (.ref l), some (.ref a), none, none, none] ∧ H' a = some (.lst (names7.map V.str)) ∧ Same H1 H', ?_, ?_⟩
    · exact ⟨seven, fun a ha => ⟨a, rfl, upd_same, Same.new (Same.refl H1) ha⟩⟩
    rintro σ H2 ⟨a, rfl, ha, s2⟩
    have s02 := s1.trans s2
    refine ⟨fun σ H' => ∃ v5 v6, σ = [some (.ref x), some (.ref td), some (.ref td2), some (.ref l), some (.ref a), v5, v6, none] ∧ Same H2 H', ?_, ?_⟩
    · refine ⟨7, rfl, by decide, by decide, for_range (lo := 0) (n := 7) (fun _ σ H' => ∃ v5 v6, σ = [some (.ref x), some (.ref td), some (.ref td2), some (.ref l), some (.ref a), v5, v6, none] ∧ Same H2 H') ⟨_, _, rfl, Same.refl H2⟩ ?_ (fun _ _ h => h)⟩
      rintro i σ H3 hi ⟨v5, v6, rfl, s3⟩
      have s03 := s02.trans s3
      refine ⟨fun σ H' => ∃ d, σ = [some (.ref x), some (.ref td), some (.ref td2), some (.ref l), some (.ref a), some (.int ((0 + i : Nat) : Int)), some (.ref d), none] ∧ H' = upd H3 d (.dK (kwK (names7.zip (o.v la)))) ∧ H3 d = none, ?_, ?_⟩
      · refine ⟨_, rfl, td, _, rfl, .inl (s03 _ _ hT.d), fun d hd => ?_⟩
        exact ⟨d, rfl, rfl, hd⟩
      rintro σ H4 ⟨d, rfl, rfl, hd⟩
      have s4 : Same H3 (upd H3 d (.dK (kwK (names7.zip (o.v la))))) := Same.new (Same.refl H3) hd
      obtain ⟨key, hkey⟩ : ∃ key, names7[i]? = some key := ⟨names7[i]'hi, List.getElem?_eq_getElem hi⟩
      obtain ⟨v, hv⟩ : ∃ v, (o2.v la2)[i]? = some v := ⟨(o2.v la2)[i]'hi, List.getElem?_eq_getElem hi⟩
      obtain ⟨y, hy⟩ : ∃ y, ys[i]? = some y := ⟨ys[i]'(by omega), List.getElem?_eq_getElem (by omega)⟩
      have hkey' : (names7.map V.str)[0 + i]? = some (.str key) := by rw [Nat.zero_add, List.getElem?_map, hkey]; rfl
      have hy' : (ys.map V.ref)[0 + i]? = some (.ref y) := by rw [Nat.zero_add, List.getElem?_map, hy]; rfl
      have okr := rep_ok ok ok2 i
      refine ⟨fun σ H' => σ = [some (.ref x), some (.ref td), some (.ref td2), some (.ref l), some (.ref a), some (.int ((0 + i : Nat) : Int)), some (.ref d), none] ∧ ToldO H' d (repA la la2 i) (rep o o2 i) ∧ Same H3 H', ?_, ?_⟩
      · refine ⟨_, rfl, _, rfl, _, rfl, a, _, _, _, rfl, rfl, SqL.of (s4 _ _ (s3 _ _ ha)), atI_nat (j := 0 + i) hkey', td2, _, rfl, get7 (s4 _ _ (s03 _ _ hT2.d)) rfl hkey hv, ?_⟩
        refine ⟨_, rfl, _, rfl, _, rfl, a, _, _, _, rfl, rfl, SqL.of (s4 _ _ (s3 _ _ ha)), atI_nat (j := 0 + i) hkey', d, _, rfl, DPut.k (k := .inr key) upd_same (by rw [kwK_len]; show 7 < sizeLine; decide), rfl, ⟨?_, ?_⟩, Same.put s4 hd⟩
        · rw [upd_same, put_rep o o2 la la2 hkey hv]
        · exact seq_rep ((Same.put s4 hd) _ _ (s03 _ _ hT.s)) ((Same.put s4 hd) _ _ (s03 _ _ hT2.s)) i
      rintro σ H5 ⟨rfl, T5, s5⟩
      have so := own_shown okr
      refine ⟨_, rfl, _, rfl, l, _, _, _, rfl, rfl, SqL.of (s5 _ _ (s3 _ _ (s2 _ _ hl))), atI_nat (j := 0 + i) hy', y, _, rfl, (hys i y hy).same (s2.trans (s3.trans s5)), fun l1 H6 n1 s6 e1 => ?_⟩
      refine ⟨.ref l1, _, rfl, e1.dp, so.s, so.n, so.dp, so.l, ?_⟩
      refine ⟨_, rfl, d, _, _, rfl, T5.same s6, okr.z.le, fun l2 H7 n2 s7 e2 => ?_⟩
      exact ⟨.ref l2, _, rfl, e2.dp, so.s, so.n, so.dp, so.l, rfl, _, rfl, iteNS rfl ⟨_, _, rfl, s3.trans (s5.trans (s6.trans s7))⟩⟩
    rintro σ H3 ⟨v5, v6, rfl, s3⟩
    have s03 := s02.trans s3
    obtain ⟨dx, t, fs, hx, fl, ht⟩ := id hL
    have T3 := hT2.same s03
    refine ⟨fun σ H' => ∃ y, σ = [some (.ref x), some (.ref td), some (.ref td2), some (.ref l), some (.ref a), v5, v6, some (.ref y)] ∧ LangAt C H' y o2.lang ∧ Same H3 H', ?_, ?_⟩
    · exact ⟨_, rfl, x, dx, fs, rfl, s03 _ _ hx, fl.w, _, rfl, td2, _, rfl, get7 (i := 6) T3.d rfl rfl rfl, _, rfl, td2, _, rfl, get7 (i := 5) T3.d rfl rfl rfl, _, rfl, td2, _, rfl, get7 (i := 4) T3.d rfl rfl rfl, _, rfl, td2, _, rfl, get7 (i := 3) T3.d rfl rfl rfl, _, rfl, td2, _, rfl, get7 (i := 2) T3.d rfl rfl rfl, _, rfl, td2, _, rfl, get7 (i := 1) T3.d rfl rfl rfl, _, rfl, td2, _, rfl, get7 (i := 0) T3.d rfl rfl rfl, rfl, with7 (hL.same s03) ok2 T3.s fun y H4 hy s4 l4 => ⟨y, rfl, l4, s4⟩⟩
    rintro σ H4 ⟨y, rfl, l4, s4⟩
    have T4 := T3.same s4
    refine ⟨_, rfl, _, rfl, td2, _, o2.d, rfl, rfl, T4.d, Opt.dp T4.s, ok2.short, fun hb y2 H5 hy2 s5 l5 => ?_, fun z hb => absurd (ok2.good.symm.trans hb) (by simp)⟩
    rw [langOf_d] at l5
    have l45 := l4.same s5
    obtain ⟨dy, t4, fs4, hy4, fl4, ht4⟩ := id l45
    refine ⟨y, dy, fs4, .ref C, rfl, hy4, lang_ty S l5, by simp [PySem.W.notFirst], y, _, o2.lang, rfl, l45, o2.small, .inl ⟨y2, o2.lang, rfl, l5, o2.small, _, rfl, ?_⟩⟩
    rw [eqL_self]
    refine ⟨true, rfl, iteT ?_⟩
    have so := own_shown ok2
    refine ⟨_, rfl, y, _, rfl, l45, fun l1 H6 n1 s6 e1 => ?_⟩
    refine ⟨.ref l1, _, rfl, e1.dp, so.s, so.n, so.dp, so.l, ?_⟩
    refine ⟨_, rfl, td2, _, _, rfl, T4.same (s5.trans s6), ok2.z.le, fun l2 H7 n2 s7 e2 => ?_⟩
    refine ⟨.ref l2, _, rfl, e2.dp, so.s, so.n, so.dp, so.l, rfl, ?_⟩
    show Q (.bl (decide (V.str _ = V.str _))) H7
    rw [decide_eq_true rfl]
    exact q H7 (s03.trans (s4.trans (s5.trans (s6.trans s7))))
end
end K2

namespace K2
open PySem L2 K2M
theorem bad_doubled {o : Opt} (h : o.Ok) : badOf names7 (setAll ((["doubled", "comma"] : List Str).zip [.list [.str "=", .str "="], .str "joins"]) (ownD o.lang)) = some ("doubled" : Str) := by
  have e : setAll ((["doubled", "comma"] : List Str).zip [.list [.str "=", .str "="], .str "joins"]) (ownD o.lang) = [.str o.e, .str o.n, .str "joins", .str o.l, .list [.str "=", .str "="], .bool o.b, .bool o.x] := by kernel_rfl
  rw [e]
  unfold names7
  rw [badOf_step, badOf_step, badOf_step, badOf_step, badOf_step, ok1, ok2, ok3, ok4, ok5, if_pos (inD_of h.e), if_pos (inD_of h.n), if_pos (inD_of (show ("joins" : Str) ∈ (["must", "may", "joins"] : List Str) by decide +kernel)), if_pos (inD_of h.l), if_neg (by decide +kernel)]
theorem shaped_bar : SeqAt.shaped (.list ((["ends", "doubled"] : List Str).map PyData.str)) = true := by decide +kernel
/-- what the i-th row's handler does -/
def handOf (b : List Stmt) (i : Nat) : Stmt := match b.getD i (.Pass ⟨0, 0, 0, 0⟩) with
  | .Try _ (.ExceptHandler _ _ (h :: _) _ :: _) _ _ _ => h
  | _ => .Pass ⟨0, 0, 0, 0⟩
section
variable {P : Program} {w : World} {K : PySem.W.Frag} {mg : Str → Option Value} {base : Heap} {C CB : Addr}
theorem scBarred : FnScope ["_law_made_here", "_law_found", "e"] ["_law_made_here"] (defScope sBarred) := ⟨rfl, rfl, rfl, by decide +kernel, rfl, by decide +kernel, by decide +kernel⟩
theorem hand_in {i : Nat} {f : Addr} {cdv : Value} {A : Around} {outer : List Env} {s : Shared} {H : Hp} {E : XK} {a : Addr} {oe : Obj} {cls : Value} {d : Option Addr} {pn : List (Addr × Obj)} {fE : Addr} (TE : K2E.ErrTxt P K mg CB fE) (XF : XfC K CB) (hz : Zc cls d oe) (hf : ∃ vs, oe.data = .fields vs) (hi : i = 1 ∨ i = 2) :
    PSs ((cxOf CX0 P w K mg base ["_law_made_here", "_law_found", "e"] "_law_barred" (defScope sBarred) f cdv A outer s H E).nox.suite a ((a, oe) :: pn)) [handOf (defBody sBarred) i] (tDrop (tBM K "list" rAppend (tVar 1) (tCons (tXf a cls d CB "option" (tVar 2)) tNil))) := by
  rcases hi with rfl | rfl
  all_goals
    apply pss_one
    apply ps_expr
    apply pe_bm PySem.F.plainAttrs_list PySem.F.slot_list_append PySem.F.type_list_append mt_append (pv 1)
    apply pa_cons
    · apply pe_xf XF TE.noN hz hf
      · exact pv 2
    · exact pa_nil
    all_goals rfl
theorem ok_barred {f fE : Addr} {fd : FuncData} (F : Fun K "_law_barred" "_law_barred" sBarred f fd) (S : LangC K mg C) (TE : K2E.ErrTxt P K mg CB fE) (XF : XfC K CB) (WI : WithFn P w K mg base C CB) :
    FnOk P w K mg base CX0 7 f fd ["_law_made_here"] (spBarred C) := by
  obtain ⟨fW, mW, GW⟩ := WI
  refine F.ok scBarred (fun vs H Q E h => ?_) (fun cdv A outer s H vs Q E hr h => ?_)
  · obtain ⟨x, o, rfl, _⟩ := h
    rfl
  · obtain ⟨x, o, rfl, hL, ok, q⟩ := h
    refine ⟨_, C8.pss_cut (ps_set (i := 1) scBarred.nd rfl (.inl rfl) (pe_lst pa_nil))
      (C8.pss_cut (ps_try_as (i := 2) rfl rfl scBarred.nd rfl rfl ⟨rfl, by decide, .inl TE.gC⟩ takes0
        (fun W pn xe tk _ => pss_one (ps_expr (pe_methM (ks := ["bare", "ends", "signs"]) (pv 0) S.cl mW GW hr (fun σ => passAt tk σ) (pk_cons pe_non (pk_cons pe_str (pk_cons (pe_tup pa_nil) pk_nil))))))
        (fun a oe cls d pn hz hf => hand_in (i := 1) TE XF hz hf (.inl rfl)))
      (C8.pss_cut (ps_try_as (i := 2) rfl rfl scBarred.nd rfl rfl ⟨rfl, by decide, .inl TE.gC⟩ takes0
        (fun W pn xe tk _ => pss_one (ps_expr (pe_methM (ks := ["doubled", "comma"]) (pv 0) S.cl mW GW hr (fun σ => passAt tk σ) (pk_cons (pe_lst (pa_cons pe_str (pa_cons pe_str pa_nil))) (pk_cons pe_str pk_nil)))))
        (fun a oe cls d pn hz hf => hand_in (i := 2) TE XF hz hf (.inr rfl)))
      (pss_one (ps_ret (pe_cmpR (op_eqD hr.units) (pv 1) (pe_lst (pa_cons pe_str (pa_cons pe_str pa_nil))) (nomark _)))))), ?_⟩
    obtain ⟨dx, t, fs, hx, fl, ht⟩ := id hL
    have two : 2 ≤ sizeLine := by decide
    refine ⟨fun σ H' => ∃ l, σ = [some (.ref x), some (.ref l), none] ∧ H' = upd H l (.lst []) ∧ H l = none, ?_, ?_⟩
    · exact ⟨Nat.zero_le _, fun l hl => ⟨l, rfl, rfl, hl⟩⟩
    rintro σ H1 ⟨l, rfl, rfl, hl⟩
    have s1 : Same H (upd H l (.lst [])) := Same.new (Same.refl H) hl
    refine ⟨fun σ H' => σ = [some (.ref x), some (.ref l), none] ∧ H' l = some (.lst [.str "ends"]) ∧ Same H H', ?_, ?_⟩
    · refine ⟨_, rfl, x, dx, fs, rfl, s1 _ _ hx, fl.w, Nat.zero_le _, fun u hu => ⟨rfl, ?_⟩⟩
      have s2 := s1.trans (Same.new (o := .tup []) (Same.refl _) hu)
      have hl2 : upd (upd H l (.lst [])) u (.tup []) l = some (.lst []) := by rw [upd_ne (ne_of_none upd_same hu)]; exact upd_same
      refine spW_of ⟨x, o.lang, ["bare", "ends", "signs"], [.non, .str "must", .ref u], [.none, .str "must", .tuple []], rfl, rfl, rfl, by show 3 ≤ 20; decide, hL.same s2, o.small, .cons .non (.cons (.str _) (.cons (.tup (SqT.of upd_same) .nil) .nil)), fun z hz => ?_, fun z e d H' hd s' hxd => ?_, fun e => ?_⟩ (by show (["bare", "ends", "signs"] : List Str) ∈ allow; decide +kernel)
      · simp only [List.mem_cons, List.not_mem_nil, or_false] at hz
        rcases hz with rfl | rfl | rfl
        · exact short_n
        · exact short_s _
        · exact short_t (Nat.zero_le _)
      · rw [show List.find? (fun k => !decide (k ∈ names7)) (["bare", "ends", "signs"] : List Str) = some ("ends" : Str) by decide +kernel] at e
        cases e
        refine ⟨true, TE.te, fun _ a ha => ?_, fun z => nomatch z⟩
        refine ⟨_, rfl, .inl ⟨rfl, _, SqL.of (s' _ _ hl2)⟩, _, rfl, rfl, rfl, d, _, _, rfl, hxd, rfl, l, _, _, rfl, rfl, s' _ _ hl2, by show 0 < sizeLine; decide, rfl, upd_same, Same.put (s2.trans s') hl⟩
      · rw [show List.find? (fun k => !decide (k ∈ names7)) (["bare", "ends", "signs"] : List Str) = some ("ends" : Str) by decide +kernel] at e
        cases e
    rintro σ H2 ⟨rfl, hl2, s2⟩
    refine ⟨fun σ H' => σ = [some (.ref x), some (.ref l), none] ∧ H' l = some (.lst [.str "ends", .str "doubled"]) ∧ Same H H', ?_, ?_⟩
    · refine ⟨_, rfl, x, dx, fs, rfl, s2 _ _ hx, fl.w, two, fun u hu => ⟨rfl, ?_⟩⟩
      have s3 := Same.new (o := .lst [.str "=", .str "="]) (Same.refl H2) hu
      refine spW_of ⟨x, o.lang, ["doubled", "comma"], [.ref u, .str "joins"], [.list [.str "=", .str "="], .str "joins"], rfl, rfl, rfl, by show 2 ≤ 20; decide, hL.same (s2.trans s3), o.small, .cons (.lst (SqL.of upd_same) (.cons (.str _) (.cons (.str _) .nil))) (.cons (.str _) .nil), fun z hz => ?_, fun z e => ?_, fun _ => ⟨fun e => ?_, fun z e d H' hd s' hxd => ?_⟩⟩ (by show (["doubled", "comma"] : List Str) ∈ allow; decide +kernel)
      · simp only [List.mem_cons, List.not_mem_nil, or_false] at hz
        rcases hz with rfl | rfl
        · exact short_l (by show 2 ≤ 50; decide)
        · exact short_s _
      · rw [show List.find? (fun k => !decide (k ∈ names7)) (["doubled", "comma"] : List Str) = none by decide +kernel] at e
        cases e
      · rw [bad_doubled ok] at e
        cases e
      · rw [bad_doubled ok] at e
        cases e
        refine ⟨true, TE.te, fun _ a ha => ?_, fun z => nomatch z⟩
        have hl3 := s' _ _ (s3 _ _ hl2)
        refine ⟨_, rfl, .inl ⟨rfl, _, SqL.of hl3⟩, _, rfl, rfl, rfl, d, _, _, rfl, hxd, rfl, l, _, _, rfl, rfl, hl3, by show 1 < sizeLine; decide, rfl, upd_same, Same.put (s2.trans (s3.trans s')) hl⟩
    rintro σ H3 ⟨rfl, hl3, s3⟩
    refine ⟨_, rfl, two, fun m hm => ?_⟩
    have s4 := Same.new (o := .lst [.str "ends", .str "doubled"]) (Same.refl H3) hm
    refine ⟨.list ((["ends", "doubled"] : List Str).map PyData.str), .list ((["ends", "doubled"] : List Str).map PyData.str), .lst (SqL.of (s4 _ _ hl3)) (dp_strs K _ ["ends", "doubled"]), .lst (SqL.of upd_same) (dp_strs K _ ["ends", "doubled"]), shaped_bar, shaped_bar, ?_⟩
    rw [eqv_self shaped_bar]
    exact q _ (s3.trans s4)
end
end K2

namespace K2
open PySem L2 K2M
theorem bad_repl {o : Opt} (h : o.Ok) (d1 d2 : PyData) : badOf names7 (replD o.lang d1 d2) = if inD ["must", "between", "may"] d1 = true then (if isB d2 = true then none else some ("bare" : Str)) else some ("end" : Str) := by
  unfold replD names7
  rw [badOf_step, badOf_step, badOf_step, badOf_step, badOf_step, badOf_step, badOf_step, ok1, ok2, ok3, ok4, ok5, ok6, ok7, if_pos (show inD ["must", "may"] (.str o.lang.e) = true from inD_of h.e), if_pos (show inD ["must", "may", "joins"] (.str o.lang.c) = true from inD_of h.c),
    if_pos (show inD ["never", "may", "must"] (.str o.lang.l) = true from inD_of h.l), if_pos (show okDoub (.tuple (o.lang.D.map PyData.str)) = true from okDoub_of true (own_mixed o)), if_pos (show isB (.bool o.lang.x) = true from rfl)]
  rfl
theorem repl_lang (o : Opt) (z : Str) (b : Bool) : langOf (replD o.lang (.str z) (.bool b)) = ({ o with n := z, b := b } : Opt).lang := by
  have e : replD o.lang (.str z) (.bool b) = ({ o.own with n := z, b := b } : Opt).d := rfl
  rw [e, langOf_d]
  exact lang_congr rfl rfl rfl rfl (own_D _) rfl rfl
theorem badOf_head : ∀ (os : List Str) (ds : List PyData) (w : Str → Bool), os.length = ds.length → (∀ (k : Nat) o d, os[k]? = some o → ds[k]? = some d → okOpt o d = !(w o)) → badOf os ds = (os.filter w).head?
  | [], [], _, _, _ => rfl
  | o :: os, d :: ds, w, hl, h => by
    have h0 := h 0 o d rfl rfl
    rw [badOf_step, List.filter_cons, h0]
    cases w o with
    | true => rfl
    | false => exact badOf_head os ds w (Nat.succ.inj hl) fun k o d h1 h2 => h (k + 1) o d h1 h2
/-- what is drawn one by one is chosen by some test -/
theorem more_q {i : Nat} {z : Str} (h : names7[i]? = some z) (q : Str → Bool) (b : Bool) : ((names7.take (i + 1)).filter fun y => if y = z then b else q y) = (names7.take i).filter q ++ (if b = true then [z] else []) := by
  have nd : (names7.take (i + 1)).Nodup := List.Nodup.sublist (List.take_sublist _ _) (by decide +kernel)
  have e : names7.take (i + 1) = names7.take i ++ [z] := by rw [List.take_add_one, h]; rfl
  rw [e, List.nodup_append] at nd
  rw [e, List.filter_append]
  congr 1
  · exact List.filter_congr fun y hy => if_neg fun c => nd.2.2 y hy z (List.mem_singleton.mpr rfl) c
  · rw [filter_one, if_pos rfl]
theorem again_q (q : Str → Bool) : (names7.filter fun o => decide (o ∈ names7.filter q)) = names7.filter q := List.filter_congr fun o ho => by
  cases c : q o with
  | true => exact decide_eq_true (List.mem_filter.mpr ⟨ho, c⟩)
  | false => exact decide_eq_false fun h => by rw [(List.mem_filter.mp h).2] at c; cases c
theorem idx7 : ∀ o ∈ names7, names7[names7.findIdx fun x => decide (x = o)]? = some o ∧ ∀ k : Fin 7, names7[k.val]? = some o → k.val = names7.findIdx fun x => decide (x = o) := by decide +kernel
/-- one option spoiled, the others as they were -/
theorem set_track {o : Str} {d : PyData} {ds : List PyData} {W : List Str} (ho : o ∈ names7) (hl : ds.length = 7) (bad : okOpt o d = false) (h : ∀ (k : Nat) o' d', names7[k]? = some o' → ds[k]? = some d' → okOpt o' d' = !decide (o' ∈ W)) :
    ∀ (k : Nat) o' d', names7[k]? = some o' → (setO o d ds)[k]? = some d' → okOpt o' d' = !decide (o' ∈ W ++ [o]) := by
  intro k o' d' h1 h2
  obtain ⟨i1, i2⟩ := idx7 o ho
  have k7 : k < 7 := (List.getElem?_eq_some_iff.mp h1).1
  unfold setO at h2
  rw [List.getElem?_set] at h2
  by_cases c : (names7.findIdx fun x => decide (x = o)) = k
  · rw [if_pos c, if_pos (by omega)] at h2
    cases h2
    rw [← c, i1] at h1
    cases h1
    rw [bad, decide_eq_true (by simp)]
    rfl
  · rw [if_neg c] at h2
    have ne : o' ≠ o := fun e => c (i2 ⟨k, k7⟩ (e ▸ h1)).symm
    rw [h k o' d' h1 h2]
    congr 1
    have : o' ∈ W ++ [o] ↔ o' ∈ W := by simp [ne]
    by_cases c2 : o' ∈ W
    · rw [decide_eq_true c2, decide_eq_true (this.mpr c2)]
    · rw [decide_eq_false c2, decide_eq_false fun z => c2 (this.mp z)]
theorem good_track {o : Opt} (h : o.Ok) : ∀ (k : Nat) o' d', names7[k]? = some o' → o.d[k]? = some d' → okOpt o' d' = !decide (o' ∈ ([] : List Str)) := by
  intro k o' d' h1 h2
  have s := h.sound
  match k, h1, h2 with
  | 0, h1, h2 => cases h1; cases h2; rw [ok1]; exact s.e
  | 1, h1, h2 => cases h1; cases h2; rw [ok2]; exact s.n
  | 2, h1, h2 => cases h1; cases h2; rw [ok3]; exact s.c
  | 3, h1, h2 => cases h1; cases h2; rw [ok4]; exact s.l
  | 4, h1, h2 => cases h1; cases h2; rw [ok5]; exact s.d
  | 5, h1, h2 => cases h1; cases h2; rw [ok6]; exact s.b
  | 6, h1, h2 => cases h1; cases h2; rw [ok7]; exact s.x
  | n + 7, h1, _ => cases h1
theorem setO_short {o : Str} {d : PyData} {ds : List PyData} (h : Short d) (hs : AllShort ds) : AllShort (setO o d ds) := short_set h hs _
/-- holes in a heap -/
theorem hid_mono {s : Addr} {H H' : Hp} (h : Same H H') : Same (hid s H) (hid s H') := fun b o e => by
  obtain ⟨n, e⟩ := hid_at e
  rw [hid_ne n]
  exact h _ _ e
theorem hid_put {s p : Addr} {H : Hp} {o : HO} : Same (hid s (hid p H)) (hid s (hid p (upd H s o))) := fun b x e => by
  obtain ⟨n, e⟩ := hid_at e
  obtain ⟨m, e⟩ := hid_at e
  rw [hid_ne n, hid_ne m, upd_ne n]
  exact e
theorem hid2_sub (s p : Addr) (H : Hp) : Same (hid s (hid p H)) H := fun _ _ e => (hid_at (hid_at e).2).2
/-- the first drawn value: an end, or none -/
structure First (v : V) (d : PyData) : Prop where
  dp : ∀ K H, Dp K H v d
  sh : Short d
  fl : flatV v = true
  ev : inV v [.str "never", .non] = !(inD ["must", "between", "may"] d)
  ok : inD ["must", "between", "may"] d = true → ∃ z, v = .str z ∧ d = .str z ∧ z ∈ (["must", "between", "may"] : List Str)
theorem first5 {v : V} (h : v ∈ [V.str "must", .str "between", .str "may", .str "never", .non]) : ∃ d, First v d := by
  simp only [List.mem_cons, List.not_mem_nil, or_false] at h
  rcases h with rfl | rfl | rfl | rfl | rfl
  · exact ⟨.str "must", fun _ _ => .str _, short_s _, rfl, by decide +kernel, fun _ => ⟨_, rfl, rfl, by decide +kernel⟩⟩
  · exact ⟨.str "between", fun _ _ => .str _, short_s _, rfl, by decide +kernel, fun _ => ⟨_, rfl, rfl, by decide +kernel⟩⟩
  · exact ⟨.str "may", fun _ _ => .str _, short_s _, rfl, by decide +kernel, fun _ => ⟨_, rfl, rfl, by decide +kernel⟩⟩
  · exact ⟨.str "never", fun _ _ => .str _, short_s _, rfl, by decide +kernel, fun e => absurd e (by decide +kernel)⟩
  · exact ⟨.none, fun _ _ => .non, short_n, rfl, by decide +kernel, fun e => absurd e (by decide +kernel)⟩
/-- the second drawn value: True or False, or what is neither -/
structure Second (v : V) (d : PyData) : Prop where
  dp : ∀ K H, Dp K H v d
  sh : Short d
  ty : ∃ t, (∀ K H, TyX K H v (.type t)) ∧ kitB t "bool" = some (isB d)
  ok : isB d = true → ∃ b, v = .bl b ∧ d = .bool b
theorem second4 {v : V} (h : v ∈ [V.bl true, .bl false, .int 1, .str "may"]) : ∃ d, Second v d := by
  simp only [List.mem_cons, List.not_mem_nil, or_false] at h
  rcases h with rfl | rfl | rfl | rfl
  · exact ⟨.bool true, fun _ _ => .bl _, short_b _, ⟨_, fun _ _ => .base (.bl _), by decide +kernel⟩, fun _ => ⟨_, rfl, rfl⟩⟩
  · exact ⟨.bool false, fun _ _ => .bl _, short_b _, ⟨_, fun _ _ => .base (.bl _), by decide +kernel⟩, fun _ => ⟨_, rfl, rfl⟩⟩
  · exact ⟨.int 1, fun _ _ => .int _, short_i _, ⟨_, fun _ _ => .base (.int _), by decide +kernel⟩, fun e => (nomatch e)⟩
  · exact ⟨.str "may", fun _ _ => .str _, short_s _, ⟨_, fun _ _ => .base (.str _), by decide +kernel⟩, fun e => (nomatch e)⟩
theorem eqL_data (o o' : Opt) : PyData.eqv (.list (ownD o.lang)) (.list (ownD o'.lang)) = eqL o.lang o'.lang := own_eqv _ _
/-- a language kept beside its options -/
structure Rec where
  t : Addr
  x : Addr
  q : Addr
  o : Opt
structure RecOk (C : Addr) (H : Hp) (r : Rec) : Prop where
  tp : H r.t = some (.tup [.ref r.x, .ref r.q])
  la : LangAt C H r.x r.o.lang
  ow : OwnAt H r.q r.o.lang
  ok : r.o.Ok
theorem RecOk.same {C : Addr} {H H' : Hp} {r : Rec} (k : RecOk C H r) (s : Same H H') : RecOk C H' r := ⟨s _ _ k.tp, k.la.same s, k.ow.same s, k.ok⟩
structure Kept (C : Addr) (H : Hp) (kp : Addr) (rs : List Rec) : Prop where
  l : H kp = some (.lst (rs.map fun r => V.ref r.t))
  ok : ∀ r ∈ rs, RecOk C (hid kp H) r
theorem Kept.same {C : Addr} {H H' : Hp} {kp : Addr} {rs : List Rec} (k : Kept C H kp rs) (s : Same H H') : Kept C H' kp rs := ⟨s _ _ k.l, fun r hr => (k.ok r hr).same (hid_mono s)⟩
/-- one more -/
theorem Kept.add {C : Addr} {H : Hp} {kp : Addr} {rs : List Rec} {r : Rec} (k : Kept C H kp rs) (h : RecOk C (hid kp H) r) : Kept C (upd H kp (.lst (rs.map (fun r => V.ref r.t) ++ [.ref r.t]))) kp (rs ++ [r]) := by
  have s : ∀ {o : HO}, Same (hid kp H) (hid kp (upd H kp o)) := fun {o} b x e => by
    obtain ⟨n, e⟩ := hid_at e
    rw [hid_ne n, upd_ne n]
    exact e
  refine ⟨by rw [upd_same, List.map_append]; rfl, fun r' hr' => ?_⟩
  rcases List.mem_append.mp hr' with hr' | hr'
  · exact (k.ok r' hr').same s
  · rw [List.mem_singleton.mp hr']
    exact h.same s
end K2

namespace K2
open PySem L2 K2M
abbrev sLaw : Stmt := top 36
def spLaw (K : PySem.W.Frag) : Sp := fun vs H Q _ => ∃ (a : Addr) (ns : List Int), vs = [.ref a] ∧ SqL K H a (ns.map V.int) ∧ ns.length ≤ 63 ∧ ∀ H', Q (.bl true) H'
abbrev FnH (P : Program) (w : World) (K : PySem.W.Frag) (mg : Str → Option Value) (base : Heap) (n : Nat) (x : Str) (ps : List Str) (sp : Sp) : Prop :=
  ∃ f fd, PySem.W.keepIn K (.ref f) = true ∧ FnG P w K mg base n f fd ps sp ∧ Binds K fd ps [] ∧ mg x = some (.ref f)
abbrev plainV (aT : Addr) : List V := [.str "must", .str "must", .str "must", .str "never", .ref aT, .bl false, .bl false]
/-- the law's callees -/
structure Callees (P : Program) (w : World) (K : PySem.W.Frag) (mg : Str → Option Value) (base : Heap) (C CB : Addr) : Prop where
  pool : Fn P w K mg base 1 "_law_pool" ["_law_script", "_law_place"] (spPool K)
  pick : Fn P w K mg base 1 "_law_pick" ["_law_pool_here", "_law_many"] spPick
  of : Fn P w K mg base 2 "_law_of" ["_law_pool_here", "_law_some"] spOf
  sound : Fn P w K mg base 5 "_law_sound" ["_law_pool_here"] spSound
  odd : Fn P w K mg base 3 "_law_odd" ["_law_pool_here", "_law_option"] (spOdd K)
  off : Fn P w K mg base 1 "_law_read_off" ["_law_made_here"] (spOff C)
  due : Fn P w K mg base 1 "_law_due" ["_law_told"] spDue
  made : Fn P w K mg base 6 "_law_made" ["_law_told"] (spMade K C)
  repl : Fn P w K mg base 7 "_law_replaced" ["_law_made_here", "_law_first", "_law_second"] (spRepl K C)
  barred : Fn P w K mg base 7 "_law_barred" ["_law_made_here"] (spBarred C)
  each : FnH P w K mg base 7 "_law_by_each" ["_law_made_here", "_law_told", "_law_other"] (spEach C)
  eq : EqFn P w K mg base C
  wi : WithFn P w K mg base C CB
  ne : PySem.W.findIn K (.ref C) "__ne__" = some (some (.builtin "object.__ne__"))
  lstNot : PySem.W.notFirst K C (.type "list") = true
  lstKit : PySem.W.kitOne K (.type "list") (.ref C) = some false
  plain : ∃ fI fdI aT g, Mk K C fI ∧ FnOk P w K mg base (L2.CX P w) 4 fI fdI pInit (spInit K C CB) ∧ KBn K fdI pInit 1 [] g (fun vs _ => vs ++ plainV aT) ∧ TupW K aT []
abbrev nLaw : List Str := ["_law_script", "_law_order", "_law_kept", "_law_place", "_law_pool_here", "_law_told", "_law_made_here", "_law_spoiled", "_law_option", "_law_wrong", "_law_again", "_law_first", "_law_second", "_law_due_here", "_law_changed", "_law_other", "_law_plain"]
abbrev s17 (a od kp : Addr) (v3 v4 v5 v6 v7 v8 v9 v10 v11 v12 v13 v14 v15 v16 : Option V) : St := [some (.ref a), some (.ref od), some (.ref kp), v3, v4, v5, v6, v7, v8, v9, v10, v11, v12, v13, v14, v15, v16]
theorem LangAt.keep {C : Addr} {H H' : Hp} {x p : Addr} {c : Nat} {L : Lang} (h : LangAt C H x L) (hp : Pool H p c) (k : Keep p H H') : LangAt C H' x L := by
  obtain ⟨PL, hPL⟩ := pool_lst hp
  obtain ⟨dx, t, fs, h1, h2, h3⟩ := h
  exact ⟨dx, t, fs, k _ _ (ne_lst h1 hPL (by simp)) h1, h2, k _ _ (ne_lst h3 hPL (by simp)) h3⟩
theorem str_eqv_nil (W : List Str) : PyData.eqv (.list (W.map PyData.str)) (.list []) = decide (W = []) := by
  rw [PyData.eqv]
  exact strs_eqv W []
theorem fair_names : ∀ z ∈ names7, fairB (.str z) = true := by decide +kernel
theorem shaped_q (q : Str → Bool) : SeqAt.shaped (.list ((names7.filter q).map PyData.str)) = true := fair_shaped fun d hd => by
  obtain ⟨z, hz, rfl⟩ := List.mem_map.mp hd
  exact fair_of (fair_names z (List.mem_filter.mp hz).1)
theorem shaped_nil : SeqAt.shaped (.list []) = true := by decide +kernel
theorem put_end (o : Opt) (la : Addr) (v : V) : putK (kwK (names7.zip (o.v la))) (.inr "end") v = kwK (names7.zip [.str o.e, v, .str o.c, .str o.l, .ref la, .bl o.b, .bl o.x]) := by kernel_rfl
theorem put_bare (v1 v2 v3 v4 v5 v6 v7 v : V) : putK (kwK (names7.zip [v1, v2, v3, v4, v5, v6, v7])) (.inr "bare") v = kwK (names7.zip [v1, v2, v3, v4, v5, v, v7]) := by kernel_rfl
/-- the language of no keyword -/
def opt0 : Opt := { e := "must", n := "must", c := "must", l := "never", zs := [], t := true, b := false, x := false }
theorem opt0_ok : opt0.Ok := ⟨by decide +kernel, by decide +kernel, by decide +kernel, by decide +kernel, ⟨List.nodup_nil, fun _ h => (nomatch h)⟩⟩
theorem opt0_own : ownD opt0.lang = [.str "must", .str "must", .str "must", .str "never", .tuple [], .bool false, .bool false] := by kernel_rfl
section
variable {P : Program} {w : World} {K : PySem.W.Frag} {mg : Str → Option Value} {base : Heap} {C CB : Addr}
theorem scLaw : FnScope nLaw ["_law_script"] (defScope sLaw) := ⟨rfl, rfl, rfl, by decide +kernel, rfl, by decide +kernel, by decide +kernel⟩
theorem ok_law {f : Addr} {fd : FuncData} (F : Fun K "law" "law" sLaw f fd) (T : Bare mg) (S : LangC K mg C) (Ca : Callees P w K mg base C CB) : FnG P w K mg base 8 f fd ["_law_script"] (spLaw K) := by
  obtain ⟨fEach, fdEach, kEach, GEach, bEach, mEach⟩ := Ca.each
  obtain ⟨fE, fdE, eE, iE, GE, bE⟩ := Ca.eq
  obtain ⟨fW, mW, GW⟩ := Ca.wi
  obtain ⟨fI, fdI, aT, gI, MI, GI, kbI, hT0⟩ := Ca.plain
  refine F.okG scLaw (fun vs H Q E h => ?_) (fun cdv A outer s H vs Q hgu hr h => ?_)
  · obtain ⟨a, ns, rfl, _⟩ := h
    rfl
  · obtain ⟨a, ns, rfl, hS, hl, q⟩ := h
    have hu := hu_of hr
    have hr1 : Room 1 _ := hr.mono (by decide)
    have hr2 : Room 2 _ := hr.mono (by decide)
    have hr3 : Room 3 _ := hr.mono (by decide)
    have hr5 : Room 5 _ := hr.mono (by decide)
    have hr6 : Room 6 _ := hr.mono (by decide)
    refine ⟨_, C8.pss_cut (ps_set (i := 1) scLaw.nd rfl (.inl rfl) (pe_lst (pa_cons pe_str (pa_cons pe_str (pa_cons pe_str (pa_cons pe_str (pa_cons pe_str (pa_cons pe_str (pa_cons pe_str pa_nil)))))))))
      (C8.pss_cut (ps_set (i := 2) scLaw.nd rfl (.inl rfl) (pe_lst pa_nil))
      (C8.pss_cut (ps_for PassesOwn.never rfl (pi_range1 (by rfl) T.range (pa_cons pe_int pa_nil)) (pg_name (i := 3) scLaw.nd rfl (.inl rfl))
        (C8.pss_cut (ps_set (i := 4) scLaw.nd rfl (.inr rfl) (pe_fn Ca.pool hr1 rfl (pa_cons (pv 0) (pa_cons (pv 3) pa_nil))))
        (C8.pss_cut (ps_set (i := 5) scLaw.nd rfl (.inl rfl) (pe_fn Ca.sound hr5 rfl (pa_cons (pv 4) pa_nil)))
        (C8.pss_cut (ps_set (i := 6) scLaw.nd rfl (.inl rfl) (pe_fn Ca.made hr6 rfl (pa_cons (pv 5) pa_nil)))
        (C8.pss_cut (ps_if (PW.pt (pw_or (pt_not (pt_val (pe_callB call_isi (by rfl) T.isi (by decide +kernel) (pa_cons (pv 6) (pa_cons (pe_glob (v := .ref C) (by rfl) S.gC rfl) pa_nil)))))
            (pw_or1 (pt_cmpR op_ne (pe_callB (call_reprD hgu hr.units) (by rfl) T.repr (by decide +kernel) (pa_cons (pe_fn Ca.off hr1 rfl (pa_cons (pv 6) pa_nil)) pa_nil)) (pe_callB (call_reprD hgu hr.units) (by rfl) T.repr (by decide +kernel) (pa_cons (pe_fn Ca.due hr1 rfl (pa_cons (pv 5) pa_nil)) pa_nil)) (nomark _))))) (pss_one (ps_ret pe_bl)) pss_nil)
        (C8.pss_cut (ps_set (i := 7) scLaw.nd rfl (.inl rfl) (pe_callTy call_dictD (by rfl) T.dict (by decide +kernel) (pa_cons (pv 5) pa_nil)))
        (C8.pss_cut (ps_setLc (i := 9) (own := [("_law_option", 8)]) (g := gName 8) (tt := tTest (tOp rEq (tCall spPick [] E0 (tCons (tVar 4) (tCons (tC (.int 3)) tNil))) (tC (.int 0)))) (te := tVar 8) (by rfl) scLaw.nd rfl rfl (sw_true rfl rfl rfl (by decide +kernel)) (pi_list (pv 1))
          (blkOk_by (own := [("_law_option", 8)]) (N := nLaw) (sc := defScope sLaw) (by decide +kernel)) (fun _ _ _ _ _ => pg_name (i := 8) scLaw.nd rfl (Or.inl rfl)) (fun _ _ _ _ _ => pts_one (pt_cmpR op_eq (pe_fn Ca.pick hr1 rfl (pa_cons (pv 4) (pa_cons pe_int pa_nil))) pe_int (nomark _))) (fun _ _ _ _ _ => pv 8))
        (C8.pss_cut (ps_for PassesOwn.never rfl (pi_list (pv 9)) (pg_name (i := 8) scLaw.nd rfl (.inl rfl)) (pss_one (ps_dput hu (pv 7) (pv 8) (pe_fn Ca.odd hr3 rfl (pa_cons (pv 4) (pa_cons (pv 8) pa_nil))) (by rfl))))
        (C8.pss_cut (ps_set (i := 10) scLaw.nd rfl (.inl rfl) (pe_fn Ca.made hr6 rfl (pa_cons (pv 7) pa_nil)))
        (C8.pss_cut (ps_if (PW.pt (pw_or (PW.pt (pw_and (pt_cmpR (op_neD hr.units) (pv 9) (pe_lst pa_nil) (nomark _)) (pw_and1 (pt_cmpR op_ne (pv 10) (pe_ix ix_list (pv 9) pe_int (fun _ _ => rfl)) (nomark _)))))
            (pw_or1 (PW.pt (pw_and (pt_cmpR (op_eqD hr.units) (pv 9) (pe_lst pa_nil) (nomark _)) (pw_and1 (pt_cmpR (op_neOwn GE hr3 eE iE Ca.ne S.hm bE pass0) (pv 10) (pv 6) (nomark _)))))))) (pss_one (ps_ret pe_bl)) pss_nil)
        (C8.pss_cut (ps_par (i := 11) (j := 12) (by rfl) scLaw.nd rfl rfl (by decide) rfl rfl (pa_cons (pe_fn Ca.of hr2 rfl (pa_cons (pv 4) (pa_cons (pe_lst (pa_cons pe_str (pa_cons pe_str (pa_cons pe_str (pa_cons pe_str (pa_cons pe_non pa_nil)))))) pa_nil)))
            (pa_cons (pe_fn Ca.of hr2 rfl (pa_cons (pv 4) (pa_cons (pe_lst (pa_cons pe_bl (pa_cons pe_bl (pa_cons pe_int (pa_cons pe_str pa_nil))))) pa_nil))) pa_nil)) (by rfl))
        (C8.pss_cut (ps_set (i := 13) scLaw.nd rfl (.inl rfl) (pe_callTy call_dictD (by rfl) T.dict (by decide +kernel) (pa_cons (pv 5) pa_nil)))
        (C8.pss_cut (ps_dput hu (pv 13) pe_str (pv 11) (by rfl))
        (C8.pss_cut (ps_dput hu (pv 13) pe_str (pv 12) (by rfl))
        (C8.pss_cut (ps_set (i := 14) scLaw.nd rfl (.inl rfl) (pe_fn Ca.repl hr rfl (pa_cons (pv 6) (pa_cons (pv 11) (pa_cons (pv 12) pa_nil)))))
        (C8.pss_cut (ps_if (pt_cmpR op_in_seq (pv 11) (pe_lst (pa_cons pe_str (pa_cons pe_non pa_nil))) (by rfl)) (pss_one (ps_if (pt_cmpR op_ne (pv 14) pe_str (nomark _)) (pss_one (ps_ret pe_bl)) pss_nil))
            (pss_one (ps_if (pt_not (pt_val (pe_callB call_isi (by rfl) T.isi (by decide +kernel) (pa_cons (pv 12) (pa_cons (pe_bltn (v := .ty "bool") (by rfl) T.bool (by decide +kernel) rfl) pa_nil))))) (pss_one (ps_if (pt_cmpR op_ne (pv 14) pe_str (nomark _)) (pss_one (ps_ret pe_bl)) pss_nil))
              (pss_one (ps_if (PW.pt (pw_or (pt_cmpR op_ne (pe_callB (call_reprD hgu hr.units) (by rfl) T.repr (by decide +kernel) (pa_cons (pe_fn Ca.off hr1 rfl (pa_cons (pv 14) pa_nil)) pa_nil)) (pe_callB (call_reprD hgu hr.units) (by rfl) T.repr (by decide +kernel) (pa_cons (pe_fn Ca.due hr1 rfl (pa_cons (pv 13) pa_nil)) pa_nil)) (nomark _))
                (pw_or1 (pt_cmpR op_ne (pe_cmpR (op_eqOwn GE hr2 eE iE bE pass0) (pv 14) (pv 6) (nomark _)) (pe_cmpR (op_eqD hr.units) (pe_fn Ca.due hr1 rfl (pa_cons (pv 13) pa_nil)) (pe_fn Ca.due hr1 rfl (pa_cons (pv 5) pa_nil)) (nomark _)) (nomark _))))) (pss_one (ps_ret pe_bl)) pss_nil)))))
        (C8.pss_cut (ps_if (PW.pt (pw_or (pt_cmpR op_ne (pe_callB (call_reprD hgu hr.units) (by rfl) T.repr (by decide +kernel) (pa_cons (pe_fn Ca.off hr1 rfl (pa_cons (pv 6) pa_nil)) pa_nil)) (pe_callB (call_reprD hgu hr.units) (by rfl) T.repr (by decide +kernel) (pa_cons (pe_fn Ca.due hr1 rfl (pa_cons (pv 5) pa_nil)) pa_nil)) (nomark _))
            (pw_or (pt_not (pt_val (pe_fn Ca.barred hr rfl (pa_cons (pv 6) pa_nil)))) (pw_or1 (pt_cmpR (op_neOwn GE hr3 eE iE Ca.ne S.hm bE pass0) (pe_methM (E := fun _ _ _ _ => False) (pv 6) S.cl mW GW hr6 noPass pk_nil) (pv 6) (nomark _)))))) (pss_one (ps_ret pe_bl)) pss_nil)
        (C8.pss_cut (ps_if (PW.pt (pw_or (pt_not (pt_val (pe_callG GEach hgu hr rfl mEach kEach bEach (pa_cons (pv 6) (pa_cons (pv 5) (pa_cons (pe_fn Ca.sound hr5 rfl (pa_cons (pv 4) pa_nil)) pa_nil))))))
            (pw_or1 (pt_cmpR (op_neOwn GE hr3 eE iE Ca.ne S.hm bE pass0) (pv 6) (pe_fn Ca.made hr6 rfl (pa_cons (pv 5) pa_nil)) (nomark _))))) (pss_one (ps_ret pe_bl)) pss_nil)
        (pss_one (ps_expr (pe_bm PySem.F.plainAttrs_list PySem.F.slot_list_append PySem.F.type_list_append mt_append (pv 2) (pa_cons (pe_tup (pa_cons (pv 6) (pa_cons (pe_fn Ca.due hr1 rfl (pa_cons (pv 5) pa_nil)) pa_nil))) pa_nil))))))))))))))))))))))
      (C8.pss_cut (ps_for PassesOwn.never rfl (pi_list (pv 2)) (pg_tup (by rfl) (pgs_cons (pg_name (i := 6) scLaw.nd rfl (.inl rfl)) (pgs_cons (pg_name (i := 11) scLaw.nd rfl (.inl rfl)) pgs_nil)))
        (pss_one (ps_for PassesOwn.never rfl (pi_list (pv 2)) (pg_tup (by rfl) (pgs_cons (pg_name (i := 15) scLaw.nd rfl (.inl rfl)) (pgs_cons (pg_name (i := 12) scLaw.nd rfl (.inl rfl)) pgs_nil)))
          (pss_one (ps_if (pt_cmpR op_ne (pe_cmpR (op_eqOwn GE hr2 eE iE bE pass0) (pv 6) (pv 15) (nomark _)) (pe_cmpR (op_eqD hr.units) (pv 11) (pv 12) (nomark _)) (nomark _)) (pss_one (ps_ret pe_bl)) pss_nil)))))
      (C8.pss_cut (ps_set (i := 16) scLaw.nd rfl (.inl rfl) (pe_lst (pa_cons pe_str (pa_cons pe_str (pa_cons pe_str (pa_cons pe_str (pa_cons (pe_tup pa_nil) (pa_cons pe_bl (pa_cons pe_bl pa_nil)))))))))
      (pss_one (ps_ret (pe_and (pe_cmpR (op_eqD hr.units) (pe_fn Ca.off hr1 rfl (pa_cons (pe_makeK0 MI GI hr5 rfl S.gC kbI passNo pk_nil) pa_nil)) (pv 16) (nomark _))
        (pe_one (pe_cmpR op_isAny (pe_cmpR (op_eqOwn GE hr2 eE iE bE pass0) (pe_ix ix_tup (pe_ix ix_list (pv 2) pe_int (fun _ _ => rfl)) pe_int (fun _ _ => rfl)) (pv 16) (nomark _)) pe_bl (nomark _)))))))))), ?_⟩
    have two : 2 ≤ sizeLine := by decide
    have seven : 7 ≤ sizeLine := by decide
    refine ⟨fun σ H' => ∃ od, σ = [some (.ref a), some (.ref od), none, none, none, none, none, none, none, none, none, none, none, none, none, none, none] ∧ H' od = some (.lst (names7.map V.str)) ∧ Same H H', ?_, ?_⟩
    · exact ⟨seven, fun od hod => ⟨od, rfl, upd_same, Same.new (Same.refl H) hod⟩⟩
    rintro σ H0 ⟨od, rfl, hod0, s0⟩
    refine ⟨fun σ H' => ∃ kp, σ = s17 a od kp none none none none none none none none none none none none none none ∧ Kept C H' kp [] ∧ H' od = some (.lst (names7.map V.str)) ∧ H kp = none ∧ od ≠ kp ∧ Same H H', ?_, ?_⟩
    · refine ⟨Nat.zero_le _, fun kp hkp => ⟨kp, rfl, ⟨upd_same, fun _ h => (nomatch h)⟩, ?_, s0.free hkp, ne_of_none hod0 hkp, Same.new s0 hkp⟩⟩
      rw [upd_ne (ne_of_none hod0 hkp)]
      exact hod0
    rintro σ H0' ⟨kp, rfl, hK0, hod, hkp, nok, s0'⟩
    have lang_fld : ∀ {H' : Hp} {y : Addr} {L : Lang}, LangAt C H' y L → ∃ dx fs, H' y = some (.ins C dx fs) ∧ fs.lookup ("with_options" : Str) = none := fun {H' y L} h => by
      obtain ⟨dx, t, fs, h1, h2, _⟩ := h
      exact ⟨dx, fs, h1, h2.w⟩
    have nfC : PySem.W.notFirst K C (.ref C) = true := by simp [PySem.W.notFirst]
    refine ⟨fun σ H' => (∃ v3 v4 v5 v6 v7 v8 v9 v10 v11 v12 v13 v14 v15 v16, σ = s17 a od kp v3 v4 v5 v6 v7 v8 v9 v10 v11 v12 v13 v14 v15 v16) ∧ ∃ rs : List Rec, rs.length = 3 ∧ Kept C H' kp rs, ?_, ?_⟩
    · refine ⟨3, rfl, by decide, by decide, for_range (lo := 0) (n := 3) (fun i σ H' => (∃ v3 v4 v5 v6 v7 v8 v9 v10 v11 v12 v13 v14 v15 v16, σ = s17 a od kp v3 v4 v5 v6 v7 v8 v9 v10 v11 v12 v13 v14 v15 v16) ∧ (∃ rs : List Rec, rs.length = i ∧ Kept C H' kp rs) ∧ H' od = some (.lst (names7.map V.str)) ∧ Same H H')
        ⟨⟨_, _, _, _, _, _, _, _, _, _, _, _, _, _, rfl⟩, ⟨[], rfl, hK0⟩, hod, s0'⟩ ?_ (fun σ H' h => ⟨h.1, h.2.1⟩)⟩
      rintro i σ H1 hi ⟨⟨v3, v4, v5, v6, v7, v8, v9, v10, v11, v12, v13, v14, v15, v16, rfl⟩, ⟨rs, hrl, hK1⟩, hod1, s1⟩
      -- the pool
      refine ⟨fun σ H' => ∃ v3 p, σ = s17 a od kp v3 (some (.ref p)) v5 v6 v7 v8 v9 v10 v11 v12 v13 v14 v15 v16 ∧ H1 p = none ∧ Pool H' p 0 ∧ Same H1 H', ?_, ?_⟩
      · exact ⟨_, rfl, _, rfl, a, ns, _, rfl, s1.seq hS, hl, by omega, by omega, fun p H' hp s' hP => ⟨_, p, rfl, hp, hP, s'⟩⟩
      rintro σ H2 ⟨v3, p, rfl, hp1, p2, s2⟩
      -- what is told
      refine ⟨fun σ H' => ∃ td la o, σ = s17 a od kp v3 (some (.ref p)) (some (.ref td)) v6 v7 v8 v9 v10 v11 v12 v13 v14 v15 v16 ∧ ToldO H' td la o ∧ H2 td = none ∧ H2 la = none ∧ o.Ok ∧ Keep p H2 H' ∧ Pool H' p 20, ?_, ?_⟩
      · exact ⟨_, rfl, p, 0, rfl, p2, by omega, fun td la o H' hT ntd nla ok k p' => ⟨td, la, o, rfl, hT, ntd, nla, ok, k, p'⟩⟩
      rintro σ H3 ⟨td, la, o, rfl, hT3, htd, hla, ok, k3, p3⟩
      have ntd := pool_ne p2 htd
      have nla := pool_ne p2 hla
      -- the language
      refine ⟨fun σ H' => ∃ x, σ = s17 a od kp v3 (some (.ref p)) (some (.ref td)) (some (.ref x)) v7 v8 v9 v10 v11 v12 v13 v14 v15 v16 ∧ LangAt C H' x o.lang ∧ ToldO H' td la o ∧ Keep p H2 H' ∧ Pool H' p 20, ?_, ?_⟩
      · refine ⟨_, rfl, td, _, o.d, rfl, rfl, hT3.d, Opt.dp hT3.s, ok.short, fun hb x H' hx s' hL => ?_, fun z hb => absurd (ok.good.symm.trans hb) (by simp)⟩
        rw [langOf_d] at hL
        exact ⟨x, rfl, hL, hT3.same s', k3.trans (Same.keep s'), p3.same s'⟩
      rintro σ HB ⟨x, rfl, bL, bT, kB, bP⟩
      have sAt : ∀ {H' : Hp}, Keep p HB H' → Same H1 H' := fun {H'} k => (kB.trans k).same s2 hp1
      have nod : od ≠ p := ne_of_none hod1 hp1
      have tAt : ∀ {H' : Hp}, Keep p HB H' → ToldO H' td la o := fun {H'} k => bT.keep k ntd nla
      have lAt : ∀ {H' : Hp}, Keep p HB H' → LangAt C H' x o.lang := fun {H'} k => bL.keep bP k
      have so := own_shown ok
      have osh := own_shaped ok
      -- it is a language, with its options
      refine ⟨fun σ H' => σ = s17 a od kp v3 (some (.ref p)) (some (.ref td)) (some (.ref x)) v7 v8 v9 v10 v11 v12 v13 v14 v15 v16 ∧ Same HB H', ?_, ?_⟩
      · refine ⟨_, rfl, .ref x, .ref C, .ref C, .ref C, true, rfl, .own C, lang_ty S bL, kit_self K C, true, rfl, iteF ?_⟩
        refine ⟨_, rfl, x, _, rfl, bL, fun l1 H5 n1 s5 e1 => ⟨.ref l1, _, rfl, e1.dp, so.s, so.n, so.dp, so.l, ?_⟩⟩
        exact ⟨_, rfl, td, la, o, rfl, bT.same s5, ok.z.le, fun l2 H6 n2 s6 e2 => ⟨.ref l2, _, rfl, e2.dp, so.s, so.n, so.dp, so.l, rfl, _, rfl, iteNS rfl ⟨rfl, s5.trans s6⟩⟩⟩
      rintro σ H4 ⟨rfl, s4⟩
      -- a copy
      refine ⟨fun σ H' => ∃ sd, σ = s17 a od kp v3 (some (.ref p)) (some (.ref td)) (some (.ref x)) (some (.ref sd)) v8 v9 v10 v11 v12 v13 v14 v15 v16 ∧ H' sd = some (.dK (kwK (names7.zip (o.v la)))) ∧ HB sd = none ∧ Same HB H', ?_, ?_⟩
      · exact ⟨_, rfl, td, _, rfl, .inl (s4 _ _ bT.d), fun sd hsd => ⟨sd, rfl, upd_same, s4.free hsd, Same.new s4 hsd⟩⟩
      rintro σ H5 ⟨sd, rfl, hsd5, hsd, s5⟩
      have nsd : sd ≠ p := pool_ne bP hsd
      have p5 := bP.same s5
      -- some options
      refine ⟨fun σ H' => ∃ (wl : Addr) (qq : Str → Bool), σ = s17 a od kp v3 (some (.ref p)) (some (.ref td)) (some (.ref x)) (some (.ref sd)) v8 (some (.ref wl)) v10 v11 v12 v13 v14 v15 v16 ∧ H' wl = some (.lst ((names7.filter qq).map V.str)) ∧ wl ≠ p ∧ H' sd = some (.dK (kwK (names7.zip (o.v la)))) ∧ Keep p HB H' ∧ Pool H' p 27, ?_, ?_⟩
      · have hod5 := sAt (Same.keep s5) _ _ hod1
        refine ⟨_, rfl, od, rfl, ⟨_, SqL.of hod5⟩, fun D hD => ?_⟩
        have nDp := pool_ne p5 hD
        refine lc_list (K := K) (a := od) (xs := names7.map V.str) (fun j H' => (∃ qq : Str → Bool, H' D = some (.lst (((names7.take j).filter qq).map V.str))) ∧ Keep p H5 H' ∧ Pool H' p (20 + j)) ⟨⟨fun _ => true, upd_same⟩, (Keep.refl p H5).new hD, p5.new hD⟩ (fun j H' _ ⟨_, k', _⟩ => SqL.of (k' _ _ nod hod5)) ?_ ?_
        · rintro j y H6 hj ⟨⟨qq, h6⟩, k6, p6⟩
          rw [List.getElem?_map] at hj
          obtain ⟨z, hz, rfl⟩ := Option.map_eq_some_iff.mp hj
          have hj7 : j < 7 := (List.getElem?_eq_some_iff.mp hz).1
          refine ⟨rfl, _, rfl, p, _, 3, rfl, p6, by omega, by decide, by decide, fun r H7 r0 r1 k7 p7 => ⟨rfl, _, rfl, ?_⟩⟩
          have h7 := k7 _ _ nDp h6
          refine ite2 (fun hc => ?_) (fun hc => ?_)
          · refine ⟨_, rfl, _, h7, ?_, ⟨fun y => if y = z then true else qq y, ?_⟩, fun b u n e => ?_, p7.other nDp.symm⟩
            · rw [List.length_map]
              have l1 := List.length_filter_le qq (names7.take j)
              have l2 := List.length_take_le' j names7
              have l3 : names7.length = 7 := rfl
              exact line50 (by omega)
            · rw [upd_same, more_q hz, if_pos rfl, List.map_append]
              rfl
            · rw [upd_ne (ne_of_none e hD)]
              exact k7 _ _ n (k6 _ _ n e)
          · refine ⟨⟨fun y => if y = z then false else qq y, ?_⟩, k6.trans k7, p7⟩
            rw [h7, more_q hz, if_neg (by decide), List.append_nil]
        · rintro H6 ⟨⟨qq, h6⟩, k6, p6⟩
          rw [List.length_map, List.take_length] at h6
          exact ⟨D, qq, rfl, h6, nDp, k6 _ _ nsd hsd5, (Same.keep s5).trans k6, p6⟩
      rintro σ H6 ⟨wl, qq, rfl, hwl6, nwp, hsd6, k6, p6⟩
      have nws : wl ≠ sd := fun e => by rw [e, hsd6] at hwl6; cases hwl6
      -- they are spoiled
      refine ⟨fun σ H' => ∃ v8 us ds, σ = s17 a od kp v3 (some (.ref p)) (some (.ref td)) (some (.ref x)) (some (.ref sd)) v8 (some (.ref wl)) v10 v11 v12 v13 v14 v15 v16 ∧ H' sd = some (.dK (kwK (names7.zip us))) ∧ us.length = 7 ∧ DpAll K H' us ds ∧ AllShort ds ∧ badOf names7 ds = (names7.filter qq).head? ∧ (names7.filter qq = [] → ds = o.d) ∧ H' wl = some (.lst ((names7.filter qq).map V.str)) ∧ Keep p HB H' ∧ Pool H' p 60, ?_, ?_⟩
      · have hn7 : (names7.filter qq).length ≤ 7 := List.length_filter_le _ _
        refine ⟨_, rfl, wl, rfl, ⟨_, SqL.of hwl6⟩, for_list (K := K) (a := wl) (xs := (names7.filter qq).map V.str) (fun j σ H' => ∃ v8 us ds, σ = s17 a od kp v3 (some (.ref p)) (some (.ref td)) (some (.ref x)) (some (.ref sd)) v8 (some (.ref wl)) v10 v11 v12 v13 v14 v15 v16 ∧ H' sd = some (.dK (kwK (names7.zip us))) ∧ us.length = 7 ∧ DpAll K (hid sd (hid p H')) us ds ∧ AllShort ds ∧ (∀ (k : Nat) o' d', names7[k]? = some o' → ds[k]? = some d' → okOpt o' d' = !decide (o' ∈ (names7.filter qq).take j)) ∧ (j = 0 → ds = o.d) ∧ H' wl = some (.lst ((names7.filter qq).map V.str)) ∧ Keep p HB H' ∧ Pool H' p (27 + j))
          ⟨_, o.v la, o.d, rfl, hsd6, rfl, Opt.dp ?_, ok.short, good_track ok, fun _ => rfl, hwl6, k6, p6⟩ (fun j σ H' _ ⟨_, _, _, _, _, _, _, _, _, _, h, _⟩ => SqL.of h) ?_ ?_⟩
        · have t6 := (tAt k6).s
          unfold SeqO at t6 ⊢
          have nls : la ≠ sd := fun e => by
            rw [e, hsd6] at t6
            cases hb : o.t <;> (rw [hb] at t6; simp at t6)
          rw [hid_ne nls, hid_ne nla]
          exact t6
        · rintro j y σ H7 hj ⟨v8', us, ds, rfl, hsd7, hus, hds, hsh, htr, h0, hwl7, k7, p7⟩
          rw [List.getElem?_map] at hj
          obtain ⟨z, hz, rfl⟩ := Option.map_eq_some_iff.mp hj
          have hz7 : z ∈ names7 := (List.mem_filter.mp (List.mem_of_getElem? hz)).1
          have hjl : j < (names7.filter qq).length := (List.getElem?_eq_some_iff.mp hz).1
          have ldn := DpAll.len hds
          refine ⟨_, rfl, _, rfl, p, _, z, rfl, p7, by omega, hz7, fun v d H8 hv bad sh k8 p8 => ?_⟩
          have hsd8 := k8 _ _ nsd hsd7
          have hwl8 := k8 _ _ nwp hwl7
          refine ⟨_, rfl, _, rfl, sd, _, rfl, DPut.k (k := .inr z) hsd8 (by rw [kwK_len, List.length_zip, hus]; show 7 < sizeLine; decide), _, setO z v us, setO z d ds, rfl, ?_, by rw [setO_len]; exact hus, ?_, setO_short sh hsh, ?_, fun e => (nomatch e), ?_, fun b u n e => ?_, p8.other nsd.symm⟩
          · rw [upd_same, put7 hz7 hus]
          · refine dpAll_set ?_ _ ?_
            · exact dp_same hid_put _ (dp_hid (a := sd) (H := hid p H8) (by rw [hid_ne nsd]; exact hsd8) _ hv)
            · exact dpAll_same hid_put _ (dpAll_same (hid_mono (hid_keep k8)) _ hds)
          · have e : (names7.filter qq).take (j + 1) = (names7.filter qq).take j ++ [z] := by rw [List.take_add_one, hz]; rfl
            rw [e]
            exact set_track hz7 (by omega) bad htr
          · rw [upd_ne nws]
            exact hwl8
          · rw [upd_ne (ne_of_none e hsd)]
            exact k8 _ _ n (k7 _ _ n e)
        · rintro σ H7 ⟨v8', us, ds, rfl, hsd7, hus, hds, hsh, htr, h0, hwl7, k7, p7⟩
          have ldn := DpAll.len hds
          rw [List.length_map, List.take_length] at htr
          refine ⟨_, us, ds, rfl, hsd7, hus, dpAll_same (hid2_sub _ _ _) _ hds, hsh, ?_, fun e => h0 (by rw [List.length_map, e]; rfl), hwl7, k7, p7.mono (by rw [List.length_map]; omega)⟩
          rw [badOf_head names7 ds (fun o' => decide (o' ∈ names7.filter qq)) (by rw [← ldn, hus]; rfl) htr, again_q]
      rintro σ H7 ⟨v8', us, ds, rfl, hsd7, hus, hds, hsh, hbad, hnil, hwl7, k7, p7⟩
      -- made of them
      refine ⟨fun σ H' => ∃ v10, σ = s17 a od kp v3 (some (.ref p)) (some (.ref td)) (some (.ref x)) (some (.ref sd)) v8' (some (.ref wl)) (some v10) v11 v12 v13 v14 v15 v16 ∧ ((names7.filter qq = [] ∧ ∃ y, v10 = .ref y ∧ LangAt C H' y o.lang) ∨ ∃ z W, names7.filter qq = z :: W ∧ v10 = .str z) ∧ H' wl = some (.lst ((names7.filter qq).map V.str)) ∧ Keep p HB H' ∧ Pool H' p 60, ?_, ?_⟩
      · refine ⟨_, rfl, sd, us, ds, rfl, hus, hsd7, hds, hsh, fun hb y H8 hy s8 hL => ?_, fun z hb H8 s8 => ?_⟩
        · rw [hbad] at hb
          have e := List.head?_eq_none_iff.mp hb
          rw [hnil e, langOf_d] at hL
          exact ⟨_, rfl, .inl ⟨e, y, rfl, hL⟩, s8 _ _ hwl7, k7.trans (Same.keep s8), p7.same s8⟩
        · rw [hbad] at hb
          obtain ⟨W, e⟩ := List.head?_eq_some_iff.mp hb
          exact ⟨_, rfl, .inr ⟨z, W, e, rfl⟩, s8 _ _ hwl7, k7.trans (Same.keep s8), p7.same s8⟩
      rintro σ H8 ⟨v10', rfl, hv10, hwl8, k8, p8⟩
      have dW : ∀ {H' : Hp}, H' wl = some (.lst ((names7.filter qq).map V.str)) → Dp K H' (.ref wl) (.list ((names7.filter qq).map PyData.str)) := fun {H'} h => .lst (SqL.of h) (dp_strs K H' _)
      -- the first of them is told, or the same language is made
      refine ⟨fun σ H' => σ = s17 a od kp v3 (some (.ref p)) (some (.ref td)) (some (.ref x)) (some (.ref sd)) v8' (some (.ref wl)) (some v10') v11 v12 v13 v14 v15 v16 ∧ Keep p HB H' ∧ Pool H' p 60, ?_, ?_⟩
      · refine ⟨_, rfl, Nat.zero_le _, fun m hm => ?_⟩
        have s9 := Same.new (o := .lst []) (Same.refl H8) hm
        refine ⟨_, .list [], dW (s9 _ _ hwl8), .lst (SqL.of upd_same) .nil, shaped_q _, shaped_nil, ?_⟩
        rw [str_eqv_nil]
        refine ⟨_, rfl, ?_⟩
        rcases hv10 with ⟨e, y, rfl, hLy⟩ | ⟨z, W, e, rfl⟩
        · rw [decide_eq_true e]
          refine iteF ?_
          refine ⟨_, rfl, Nat.zero_le _, fun m2 hm2 => ?_⟩
          have s10 := s9.trans (Same.new (o := .lst []) (Same.refl _) hm2)
          refine ⟨_, .list [], dW (s10 _ _ hwl8), .lst (SqL.of upd_same) .nil, shaped_q _, shaped_nil, ?_⟩
          rw [str_eqv_nil, decide_eq_true e]
          refine ⟨_, rfl, iteT ?_⟩
          have l1 := hLy.same s10
          have l2 := lAt (k8.trans (Same.keep s10))
          obtain ⟨dy, fy, hy, _⟩ := lang_fld l1
          refine ⟨_, rfl, _, rfl, y, dy, fy, .ref C, rfl, hy, lang_ty S l2, nfC, y, _, o.lang, rfl, l1, o.small, .inl ⟨x, o.lang, rfl, l2, o.small, _, rfl, ?_⟩⟩
          rw [eqL_self]
          exact ⟨_, rfl, iteF ⟨rfl, k8.trans (Same.keep s10), p8.same s10⟩⟩
        · have ne : ¬ names7.filter qq = [] := by rw [e]; simp
          rw [decide_eq_false ne]
          refine iteT ?_
          have hat : ((names7.filter qq).map V.str)[0]? = some (.str z) := by rw [e]; rfl
          refine ⟨_, rfl, _, rfl, wl, _, 0, _, rfl, rfl, SqL.of (s9 _ _ hwl8), atI_nat (j := 0) hat, rfl, _, rfl, iteNS rfl ?_⟩
          refine ⟨_, rfl, Nat.zero_le _, fun m2 hm2 => ?_⟩
          have s10 := s9.trans (Same.new (o := .lst []) (Same.refl _) hm2)
          refine ⟨_, .list [], dW (s10 _ _ hwl8), .lst (SqL.of upd_same) .nil, shaped_q _, shaped_nil, ?_⟩
          rw [str_eqv_nil, decide_eq_false ne]
          exact ⟨_, rfl, iteF (iteF ⟨rfl, k8.trans (Same.keep s10), p8.same s10⟩)⟩
      rintro σ H9 ⟨rfl, k9, p9⟩
      -- two values
      refine ⟨fun σ H' => ∃ w1 w2 d1 d2, σ = s17 a od kp v3 (some (.ref p)) (some (.ref td)) (some (.ref x)) (some (.ref sd)) v8' (some (.ref wl)) (some v10') (some w1) (some w2) v13 v14 v15 v16 ∧ First w1 d1 ∧ Second w2 d2 ∧ Keep p HB H' ∧ Pool H' p 62, ?_, ?_⟩
      · refine ⟨_, rfl, by show 5 ≤ sizeLine; decide, fun a1 h1 => ⟨p, 60, a1, _, rfl, p9.new h1, by omega, upd_same, pool_ne p9 h1, by simp, by show 5 ≤ 1000; decide, fun w1 H10 hw1 k10 p10 => ?_⟩⟩
        obtain ⟨d1, F1⟩ := first5 hw1
        refine ⟨_, rfl, by show 4 ≤ sizeLine; decide, fun a2 h2 => ⟨p, 61, a2, _, rfl, p10.new h2, by omega, upd_same, pool_ne p10 h2, by simp, by show 4 ≤ 1000; decide, fun w2 H11 hw2 k11 p11 => ?_⟩⟩
        obtain ⟨d2, F2⟩ := second4 hw2
        exact ⟨w1, w2, rfl, w1, w2, d1, d2, rfl, F1, F2, (((k9.new h1).trans k10).new h2).trans k11, p11⟩
      rintro σ H10 ⟨w1, w2, d1, d2, rfl, F1, F2, k10, p10⟩
      -- another copy, changed
      refine ⟨fun σ H' => ∃ dd, σ = s17 a od kp v3 (some (.ref p)) (some (.ref td)) (some (.ref x)) (some (.ref sd)) v8' (some (.ref wl)) (some v10') (some w1) (some w2) (some (.ref dd)) v14 v15 v16 ∧ H' = upd H10 dd (.dK (kwK (names7.zip (o.v la)))) ∧ H10 dd = none, ?_, ?_⟩
      · exact ⟨_, rfl, td, _, rfl, .inl (tAt k10).d, fun dd hdd => ⟨dd, rfl, rfl, hdd⟩⟩
      rintro σ H11 ⟨dd, rfl, rfl, hdd⟩
      have s11 : Same H10 (upd H10 dd (.dK (kwK (names7.zip (o.v la))))) := Same.new (Same.refl H10) hdd
      refine ⟨fun σ H' => σ = s17 a od kp v3 (some (.ref p)) (some (.ref td)) (some (.ref x)) (some (.ref sd)) v8' (some (.ref wl)) (some v10') (some w1) (some w2) (some (.ref dd)) v14 v15 v16 ∧ H' dd = some (.dK (kwK (names7.zip [.str o.e, w1, .str o.c, .str o.l, .ref la, .bl o.b, .bl o.x]))) ∧ Same H10 H', ?_, ?_⟩
      · exact ⟨_, rfl, _, rfl, dd, _, rfl, DPut.k (k := .inr "end") upd_same (by rw [kwK_len]; show 7 < sizeLine; decide), rfl, by rw [upd_same, put_end], Same.put s11 hdd⟩
      rintro σ H12 ⟨rfl, hdd12, s12⟩
      refine ⟨fun σ H' => σ = s17 a od kp v3 (some (.ref p)) (some (.ref td)) (some (.ref x)) (some (.ref sd)) v8' (some (.ref wl)) (some v10') (some w1) (some w2) (some (.ref dd)) v14 v15 v16 ∧ H' dd = some (.dK (kwK (names7.zip [.str o.e, w1, .str o.c, .str o.l, .ref la, w2, .bl o.x]))) ∧ Same H10 H', ?_, ?_⟩
      · exact ⟨_, rfl, _, rfl, dd, _, rfl, DPut.k (k := .inr "bare") hdd12 (by rw [kwK_len]; show 7 < sizeLine; decide), rfl, by rw [upd_same, put_bare], Same.put s12 hdd⟩
      rintro σ H13 ⟨rfl, hdd13, s13⟩
      have k13 := k10.trans (Same.keep s13)
      have p13 := p10.same s13
      -- the language changed, or what is refused
      refine ⟨fun σ H' => ∃ v14, σ = s17 a od kp v3 (some (.ref p)) (some (.ref td)) (some (.ref x)) (some (.ref sd)) v8' (some (.ref wl)) (some v10') (some w1) (some w2) (some (.ref dd)) (some v14) v15 v16 ∧
        ((inD ["must", "between", "may"] d1 = false ∧ v14 = .str "end") ∨ (inD ["must", "between", "may"] d1 = true ∧ isB d2 = false ∧ v14 = .str "bare") ∨ (inD ["must", "between", "may"] d1 = true ∧ isB d2 = true ∧ ∃ y, v14 = .ref y ∧ LangAt C H' y (langOf (replD o.lang d1 d2)))) ∧ Same H13 H', ?_, ?_⟩
      · refine ⟨_, rfl, _, rfl, _, rfl, x, o.lang, w1, w2, d1, d2, rfl, lAt k13, o.small, F1.dp _ _, F2.dp _ _, F1.sh, F2.sh, fun hb y H14 hy s14 hL => ?_, fun z hb H14 s14 => ?_⟩
        · rw [bad_repl ok] at hb
          cases e1 : inD ["must", "between", "may"] d1 with
          | false => rw [e1] at hb; cases hb
          | true =>
            rw [e1, if_pos rfl] at hb
            cases e2 : isB d2 with
            | false => rw [e2] at hb; cases hb
            | true => exact ⟨_, rfl, .inr (.inr ⟨rfl, rfl, y, rfl, hL⟩), s14⟩
        · rw [bad_repl ok] at hb
          cases e1 : inD ["must", "between", "may"] d1 with
          | false =>
            rw [e1] at hb
            cases hb
            exact ⟨_, rfl, .inl ⟨rfl, rfl⟩, s14⟩
          | true =>
            rw [e1, if_pos rfl] at hb
            cases e2 : isB d2 with
            | false =>
              rw [e2] at hb
              cases hb
              exact ⟨_, rfl, .inr (.inl ⟨rfl, rfl, rfl⟩), s14⟩
            | true => rw [e2] at hb; cases hb
      rintro σ H14 ⟨v14', rfl, hv14, s14⟩
      have k14 := k13.trans (Same.keep s14)
      have p14 := p13.same s14
      have hdd14 := s14 _ _ hdd13
      refine ⟨fun σ H' => σ = s17 a od kp v3 (some (.ref p)) (some (.ref td)) (some (.ref x)) (some (.ref sd)) v8' (some (.ref wl)) (some v10') (some w1) (some w2) (some (.ref dd)) (some v14') v15 v16 ∧ Same H14 H', ?_, ?_⟩
      · refine ⟨_, rfl, two, fun m hm => ⟨m, _, rfl, .inl (SqL.of upd_same), F1.fl, rfl, _, rfl, ?_⟩⟩
        have s15 := Same.new (o := .lst [.str "never", .non]) (Same.refl H14) hm
        show if inV w1 [.str "never", .non] = true then _ else _
        rw [F1.ev]
        obtain ⟨ty, t1, t2⟩ := F2.ty
        rcases hv14 with ⟨e1, rfl⟩ | ⟨e1, e2, rfl⟩ | ⟨e1, e2, y, rfl, hLy⟩
        · rw [e1]
          exact iteT ⟨_, rfl, rfl, _, rfl, iteNS rfl ⟨rfl, s15⟩⟩
        · rw [e1]
          refine iteF ?_
          rw [e2] at t2
          exact ⟨_, rfl, w2, .ty "bool", .type ty, .type "bool", false, rfl, .ty "bool", t1 _ _, kit_ty t2, false, rfl, iteT ⟨_, rfl, rfl, _, rfl, iteNS rfl ⟨rfl, s15⟩⟩⟩
        · rw [e1]
          refine iteF ?_
          rw [e2] at t2
          refine ⟨_, rfl, w2, .ty "bool", .type ty, .type "bool", true, rfl, .ty "bool", t1 _ _, kit_ty t2, true, rfl, iteF ?_⟩
          obtain ⟨z1, rfl, rfl, hz1⟩ := F1.ok e1
          obtain ⟨b2, rfl, rfl⟩ := F2.ok e2
          have ok3 : ({ o with n := z1, b := b2 } : Opt).Ok := ⟨ok.e, hz1, ok.c, ok.l, ok.z⟩
          rw [repl_lang] at hLy
          have T3 : ToldO H14 dd la { o with n := z1, b := b2 } := ⟨hdd14, (tAt k14).s⟩
          generalize ({ o with n := z1, b := b2 } : Opt) = o3 at hLy ok3 T3
          have so3 := own_shown ok3
          refine ⟨_, rfl, y, _, rfl, hLy.same s15, fun l1 H16 n1 s16 e1 => ⟨.ref l1, _, rfl, e1.dp, so3.s, so3.n, so3.dp, so3.l, ?_⟩⟩
          have u16 := s15.trans s16
          refine ⟨_, rfl, dd, la, o3, rfl, T3.same u16, ok3.z.le, fun l2 H17 n2 s17' e2 => ⟨.ref l2, _, rfl, e2.dp, so3.s, so3.n, so3.dp, so3.l, rfl, _, rfl, iteNS rfl ?_⟩⟩
          have u17 := u16.trans s17'
          have l1' := hLy.same u17
          have l2' := (lAt k14).same u17
          obtain ⟨dy, fy, hy, _⟩ := lang_fld l1'
          refine ⟨_, rfl, _, rfl, y, dy, fy, .ref C, rfl, hy, lang_ty S l2', nfC, y, _, o3.lang, rfl, l1', o3.small, .inl ⟨x, o.lang, rfl, l2', o.small, _, rfl, ?_⟩⟩
          refine ⟨_, rfl, dd, la, o3, rfl, T3.same u17, ok3.z.le, fun l3 H18 n3 s18 e3 => ?_⟩
          have u18 := u17.trans s18
          refine ⟨_, rfl, td, la, o, rfl, (tAt k14).same u18, ok.z.le, fun l4 H19 n4 s19 e4 => ?_⟩
          refine ⟨_, _, (e3.same s19).dp, e4.dp, own_shaped ok3, osh, ?_⟩
          rw [own_eqv]
          exact ⟨rfl, _, rfl, iteNS rfl ⟨rfl, u18.trans s19⟩⟩
      rintro σ H15 ⟨rfl, s15⟩
      have k15 := k14.trans (Same.keep s15)
      have p15 := p14.same s15
      -- the language is as it was; what is barred; nothing changed
      refine ⟨fun σ H' => σ = s17 a od kp v3 (some (.ref p)) (some (.ref td)) (some (.ref x)) (some (.ref sd)) v8' (some (.ref wl)) (some v10') (some w1) (some w2) (some (.ref dd)) (some v14') v15 v16 ∧ Same H15 H', ?_, ?_⟩
      · refine ⟨_, rfl, x, _, rfl, lAt k15, fun l1 H16 n1 s16 e1 => ⟨.ref l1, _, rfl, e1.dp, so.s, so.n, so.dp, so.l, ?_⟩⟩
        refine ⟨_, rfl, td, la, o, rfl, (tAt k15).same s16, ok.z.le, fun l2 H17 n2 s17' e2 => ⟨.ref l2, _, rfl, e2.dp, so.s, so.n, so.dp, so.l, rfl, _, rfl, iteNS rfl ?_⟩⟩
        have u17 := s16.trans s17'
        refine ⟨_, rfl, x, o, rfl, (lAt k15).same u17, ok, fun H18 s18 => ⟨true, rfl, iteF ?_⟩⟩
        have u18 := u17.trans s18
        have l18 := (lAt k15).same u18
        obtain ⟨dx, fx, hx, fw⟩ := lang_fld l18
        refine ⟨_, rfl, x, dx, fx, rfl, hx, fw, rfl, with0 l18 ok fun y H19 hy s19 l19 => ?_⟩
        obtain ⟨dy, fy, hy', _⟩ := lang_fld l19
        have l19' := l18.same s19
        refine ⟨_, rfl, y, dy, fy, .ref C, rfl, hy', lang_ty S l19', nfC, y, _, o.lang, rfl, l19, o.small, .inl ⟨x, o.lang, rfl, l19', o.small, _, rfl, ?_⟩⟩
        rw [eqL_self]
        exact ⟨_, rfl, iteF ⟨rfl, u18.trans s19⟩⟩
      rintro σ H16 ⟨rfl, s16⟩
      have k16 := k15.trans (Same.keep s16)
      have p16 := p15.same s16
      -- option by option
      refine ⟨fun σ H' => σ = s17 a od kp v3 (some (.ref p)) (some (.ref td)) (some (.ref x)) (some (.ref sd)) v8' (some (.ref wl)) (some v10') (some w1) (some w2) (some (.ref dd)) (some v14') v15 v16 ∧ Keep p HB H', ?_, ?_⟩
      · refine ⟨_, rfl, _, rfl, _, rfl, p, _, rfl, p16, by omega, fun td2 la2 o2 H17 hT17 ntd2 nla2 ok2 k17 p17 => ?_⟩
        have u17 := k16.trans k17
        refine ⟨x, td, la, td2, la2, o, o2, rfl, lAt u17, tAt u17, hT17, ok, ok2, fun H18 s18 => ⟨true, rfl, iteF ?_⟩⟩
        have u18 := u17.trans (Same.keep s18)
        have T18 := tAt u18
        refine ⟨_, rfl, _, rfl, td, _, o.d, rfl, rfl, T18.d, Opt.dp T18.s, ok.short, fun hb y H19 hy s19 hL => ?_, fun z hb => absurd (ok.good.symm.trans hb) (by simp)⟩
        rw [langOf_d] at hL
        have u19 := u18.trans (Same.keep s19)
        have lx := lAt u19
        obtain ⟨dx, fx, hx, _⟩ := lang_fld lx
        refine ⟨x, dx, fx, .ref C, rfl, hx, lang_ty S hL, nfC, x, _, o.lang, rfl, lx, o.small, .inl ⟨y, o.lang, rfl, hL, o.small, _, rfl, ?_⟩⟩
        rw [eqL_self]
        exact ⟨_, rfl, iteF ⟨rfl, u19⟩⟩
      rintro σ H17 ⟨rfl, k17⟩
      -- kept
      have s17' := sAt k17
      have hK17 := hK1.same s17'
      refine ⟨_, rfl, .inl ⟨rfl, _, SqL.of hK17.l⟩, _, rfl, _, rfl, td, la, o, rfl, tAt k17, ok.z.le, fun l H18 n18 s18 e18 => ⟨two, fun t ht => ?_⟩⟩
      have s19 := Same.new (o := .tup [.ref x, .ref l]) (Same.refl H18) ht
      have hK19 := hK17.same (s18.trans s19)
      have nlk : l ≠ kp := (ne_of_none hK17.l n18).symm
      have ntk : t ≠ kp := (ne_of_none (s18 _ _ hK17.l) ht).symm
      have rok : RecOk C (hid kp (upd H18 t (.tup [.ref x, .ref l]))) { t := t, x := x, q := l, o := o } := by
        refine ⟨by rw [hid_ne ntk]; exact upd_same, ?_, ?_, ok⟩
        · obtain ⟨dx, tt, fs, h1, h2, h3⟩ := (lAt k17).same (s18.trans s19)
          exact ⟨dx, tt, fs, by rw [hid_ne (ne_lst h1 hK19.l (by simp))]; exact h1, h2, by rw [hid_ne (ne_lst h3 hK19.l (by simp))]; exact h3⟩
        · obtain ⟨tt, h1, h2⟩ := e18.same s19
          exact ⟨tt, by rw [hid_ne nlk]; exact h1, by rw [hid_ne (ne_lst h2 hK19.l (by simp))]; exact h2⟩
      refine ⟨kp, _, _, rfl, rfl, hK19.l, ?_, ⟨_, _, _, _, _, _, _, _, _, _, _, _, _, _, rfl⟩, ⟨rs ++ [{ t := t, x := x, q := l, o := o }], by rw [List.length_append, hrl]; rfl, hK19.add rok⟩, ?_, Same.put (s1.trans (s17'.trans (s18.trans s19))) hkp⟩
      · rw [List.length_map]
        exact line50 (by omega)
      · rw [upd_ne nok]
        exact s19 _ _ (s18 _ _ (s17' _ _ hod1))
    clear hK0 hod hkp nok s0' hod0 s0
    rintro σ H1 ⟨⟨v3, v4, v5, v6, v7, v8, v9, v10, v11, v12, v13, v14, v15, v16, rfl⟩, rs, hrl, hK⟩
    have rec_at : ∀ {j : Nat} {y : V}, (rs.map fun r => V.ref r.t)[j]? = some y → ∃ r, r ∈ rs ∧ y = .ref r.t := fun {j y} e => by
      rw [List.getElem?_map] at e
      obtain ⟨r, hr, e⟩ := Option.map_eq_some_iff.mp e
      exact ⟨r, List.mem_of_getElem? hr, e.symm⟩
    have rok : ∀ {H' : Hp}, Kept C H' kp rs → ∀ r ∈ rs, RecOk C H' r := fun {H'} k r hr => (k.ok r hr).same (hid_sub _ _)
    refine ⟨fun σ H' => (∃ v3 v4 v5 v6 v7 v8 v9 v10 v11 v12 v13 v14 v15 v16, σ = s17 a od kp v3 v4 v5 v6 v7 v8 v9 v10 v11 v12 v13 v14 v15 v16) ∧ Kept C H' kp rs, ?_, ?_⟩
    · refine ⟨_, rfl, kp, rfl, ⟨_, SqL.of hK.l⟩, for_list (K := K) (a := kp) (xs := rs.map fun r => V.ref r.t) (fun _ σ H' => (∃ v3 v4 v5 v6 v7 v8 v9 v10 v11 v12 v13 v14 v15 v16, σ = s17 a od kp v3 v4 v5 v6 v7 v8 v9 v10 v11 v12 v13 v14 v15 v16) ∧ Kept C H' kp rs) ⟨⟨_, _, _, _, _, _, _, _, _, _, _, _, _, _, rfl⟩, hK⟩ (fun i σ H' _ ⟨_, k⟩ => SqL.of k.l) ?_ (fun _ _ h => h)⟩
      rintro j y σ H2 hj ⟨⟨v3, v4, v5, v6, v7, v8, v9, v10, v11, v12, v13, v14, v15, v16, rfl⟩, K2⟩
      obtain ⟨r, hr, rfl⟩ := rec_at hj
      have o1 := rok K2 r hr
      refine ⟨r.t, _, rfl, SqT.of o1.tp, rfl, _, _, rfl, _, _, rfl, rfl, ?_⟩
      refine ⟨_, rfl, kp, rfl, ⟨_, SqL.of K2.l⟩, for_list (K := K) (a := kp) (xs := rs.map fun r => V.ref r.t) (fun _ σ H' => (∃ v12 v15, σ = s17 a od kp v3 v4 v5 (some (.ref r.x)) v7 v8 v9 v10 (some (.ref r.q)) v12 v13 v14 v15 v16) ∧ Kept C H' kp rs) ⟨⟨_, _, rfl⟩, K2⟩ (fun i σ H' _ ⟨_, k⟩ => SqL.of k.l) ?_ ?_⟩
      · rintro j2 y2 σ H3 hj2 ⟨⟨v12, v15, rfl⟩, K3⟩
        obtain ⟨r2, hr2, rfl⟩ := rec_at hj2
        have o1 := rok K3 r hr
        have o2 := rok K3 r2 hr2
        obtain ⟨dx, fx, hx, _⟩ := lang_fld o1.la
        refine ⟨r2.t, _, rfl, SqT.of o2.tp, rfl, _, _, rfl, _, _, rfl, rfl, ?_⟩
        refine ⟨_, rfl, _, rfl, r.x, dx, fx, .ref C, rfl, hx, lang_ty S o2.la, nfC, r.x, _, r.o.lang, rfl, o1.la, r.o.small, .inl ⟨r2.x, r2.o.lang, rfl, o2.la, r2.o.small, _, rfl, ?_⟩⟩
        refine ⟨_, rfl, _, rfl, _, _, o1.ow.dp, o2.ow.dp, own_shaped o1.ok, own_shaped o2.ok, ?_⟩
        rw [own_eqv]
        exact ⟨rfl, _, rfl, iteNS rfl ⟨⟨_, _, rfl⟩, K3⟩⟩
      · rintro σ H3 ⟨⟨v12, v15, rfl⟩, K3⟩
        exact ⟨⟨_, _, _, _, _, _, _, _, _, _, _, _, _, _, rfl⟩, K3⟩
    clear hK
    rintro σ H2 ⟨⟨v3, v4, v5, v6, v7, v8, v9, v10, v11, v12, v13, v14, v15, v16, rfl⟩, hK⟩
    refine ⟨fun σ H' => ∃ m t, σ = s17 a od kp v3 v4 v5 v6 v7 v8 v9 v10 v11 v12 v13 v14 v15 (some (.ref m)) ∧ H' m = some (.lst [.str "must", .str "must", .str "must", .str "never", .ref t, .bl false, .bl false]) ∧ H' t = some (.tup []) ∧ Kept C H' kp rs, ?_, ?_⟩
    · refine ⟨Nat.zero_le _, fun t ht => ⟨seven, fun m hm => ?_⟩⟩
      have t1 := Same.new (o := .tup []) (Same.refl H2) ht
      have t2 := Same.new (o := .lst [.str "must", .str "must", .str "must", .str "never", .ref t, .bl false, .bl false]) (Same.refl _) hm
      exact ⟨m, t, rfl, upd_same, t2 _ _ upd_same, hK.same (t1.trans t2)⟩
    rintro σ H3 ⟨m, t, rfl, hm3, ht3, hK3⟩
    refine ⟨rfl, rfl, fun x dx hx hdx ndx => ?_⟩
    have nx : (upd H3 dx (.own x)) x = none := by rw [upd_ne ndx.symm]; exact hx
    have s4 : Same H3 (upd (upd H3 dx (.own x)) x (.ins C dx [])) := Same.new (Same.new (Same.refl H3) hdx) nx
    refine ⟨x, dx, plainV aT, opt0.d, rfl, rfl, upd_same, .cons (.str _) (.cons (.str _) (.cons (.str _) (.cons (.str _) (.cons (.tup (hT0.sq _) .nil) (.cons (.bl _) (.cons (.bl _) .nil)))))), opt0_ok.short, fun hb H4 kp4 hL => ⟨rfl, ?_⟩, fun z hb => absurd (opt0_ok.good.symm.trans hb) (by simp)⟩
    rw [langOf_d] at hL
    have s34 : Same H3 H4 := fun b u e => kp4 b u (ne_of_none e hx) (s4 b u e)
    refine ⟨x, _, rfl, hL, fun l H5 nl s5 ow => ?_⟩
    have s35 := s34.trans s5
    have hm5 := s35 _ _ hm3
    have hK5 := hK3.same s35
    have dm : Dp K H5 (.ref m) (.list (ownD opt0.lang)) := by
      rw [opt0_own]
      exact .lst (SqL.of hm5) (.cons (.str _) (.cons (.str _) (.cons (.str _) (.cons (.str _) (.cons (.tup (SqT.of (s35 _ _ ht3)) .nil) (.cons (.bl _) (.cons (.bl _) .nil)))))))
    refine ⟨_, rfl, _, _, ow.dp, dm, own_shaped opt0_ok, own_shaped opt0_ok, ?_⟩
    rw [eqv_self (own_shaped opt0_ok)]
    refine ⟨true, rfl, iteT ?_⟩
    match rs, hrl, hK5 with
    | r :: rs', _, hK5 =>
      have o1 := (hK5.ok r List.mem_cons_self).same (hid_sub _ _)
      obtain ⟨dr, fr, hr', _⟩ := lang_fld o1.la
      refine ⟨_, rfl, kp, _, 0, _, rfl, rfl, SqL.of hK5.l, atI_nat (j := 0) rfl, r.t, _, 0, _, rfl, rfl, SqT.of o1.tp, atI_nat (j := 0) rfl, _, rfl, r.x, dr, fr, .type "list", rfl, hr', .base (.lst hm5), Ca.lstNot, r.x, _, r.o.lang, rfl, o1.la, r.o.small, .inr ⟨.type "list", .base (.lst hm5), Ca.lstKit, _, rfl, false, rfl, ?_⟩⟩
      show Q (.bl (decide (V.bl false = V.bl false))) H5
      rw [decide_eq_true rfl]
      exact q H5
end
end K2

namespace K2
open PySem L2 K2M
/-- a def of the written part, under its own name -/
def Held (K : PySem.W.Frag) (mg : Str → Option Value) (x : Str) (st : Stmt) (f : Addr) (fd : FuncData) : Prop := Fun K x x st f fd ∧ mg x = some (.ref f)
/-- the keyword defaults of a language -/
abbrev kws7 (aT : Addr) : List (Str × V) := [(("equals" : Str), .str "must"), (("end" : Str), .str "must"), (("comma" : Str), .str "must"), (("last" : Str), .str "never"), (("doubled" : Str), .ref aT), (("bare" : Str), .bl false), (("nothing" : Str), .bl false)]
/-- what the written part says of classes and constants -/
structure Rest (P : Program) (w : World) (K : PySem.W.Frag) (mg : Str → Option Value) (C CB fE aD aO aC aT fInit fMEq fWith : Addr) : Prop where
  T : ModC K w mg aD aO aC
  S : LangC K mg C
  TE : K2E.ErrTxt P K mg CB fE
  XF : XfC K CB
  M : Mk K C fInit
  wi : Meth K C "with_options" fWith
  eq1 : PySem.W.findIn K (.ref C) "__eq__" = some (some (.ref fMEq))
  eq2 : PySem.W.isFn K (.ref fMEq) = true
  ne : PySem.W.findIn K (.ref C) "__ne__" = some (some (.builtin "object.__ne__"))
  lstNot : PySem.W.notFirst K C (.type "list") = true
  lstKit : PySem.W.kitOne K (.type "list") (.ref C) = some false
  emp : TupW K aT []
theorem all_of {P : Program} {w : World} {K : PySem.W.Frag} {mg : Str → Option Value} {base : Heap} {C CB fE aD aO aC aT : Addr} {fOneOf fDoub fAllow fDbl fWName fWEqu fWBeh fWItem fWCom fWDone fWEnd fAllW fPool fPick fOf fMixed fSigns fSound fOdd fOff fDue fMade fRepl fEach fBarred fMEq fInit fWith fLaw : Addr} {dOneOf dDoub dAllow dDbl dWName dWEqu dWBeh dWItem dWCom dWDone dWEnd dAllW dPool dPick dOf dMixed dSigns dSound dOdd dOff dDue dMade dRepl dEach dBarred dMEq dInit dLaw : FuncData} {g0 : List Value → List Value → List Value} (R : Rest P w K mg C CB fE aD aO aC aT fInit fMEq fWith)
    (hOneOf : Held K mg "is_one_of" sOneOf fOneOf dOneOf) (hDoub : Held K mg "is_doubled_option" sDoub fDoub dDoub) (hAllow : Held K mg "is_allowed" sAllowed fAllow dAllow) (hDbl : Held K mg "doubling" sDbl fDbl dDbl) (hWName : Held K mg "ways_from_name" sName fWName dWName) (hWEqu : Held K mg "ways_from_equals" sEquals fWEqu dWEqu) (hWBeh : Held K mg "ways_behind_item" sBehind fWBeh dWBeh) (hWItem : Held K mg "ways_from_item" sItem fWItem dWItem) (hWCom : Held K mg "ways_from_comma" sComma fWCom dWCom) (hWDone : Held K mg "ways_from_done" sDone fWDone dWDone) (hWEnd : Held K mg "ways_from_ended" sEnded fWEnd dWEnd) (hAllW : Held K mg "all_ways" sAllWays fAllW dAllW) (hPool : Held K mg "_law_pool" sPool fPool dPool) (hPick : Held K mg "_law_pick" sPick fPick dPick) (hOf : Held K mg "_law_of" sOf fOf dOf) (hMixed : Held K mg "_law_mixed" sMixed fMixed dMixed) (hSigns : Held K mg "_law_signs" sSigns fSigns dSigns) (hSound : Held K mg "_law_sound" sSound fSound dSound) (hOdd : Held K mg "_law_odd" sOdd fOdd dOdd) (hOff : Held K mg "_law_read_off" sOff fOff dOff) (hDue : Held K mg "_law_due" sDue fDue dDue) (hMade : Held K mg "_law_made" sMade fMade dMade) (hRepl : Held K mg "_law_replaced" sRepl fRepl dRepl) (hEach : Held K mg "_law_by_each" sEach fEach dEach) (hBarred : Held K mg "_law_barred" sBarred fBarred dBarred)
    (hMEq : Fun K "__eq__" "Language.__eq__" sEq fMEq dMEq) (hInit : FunD K "__init__" "Language.__init__" (defArgs sInit) (defBody sInit) (defScope sInit) [] (kws7 aT) fInit dInit) (hLaw : Fun K "law" "law" sLaw fLaw dLaw)
    (kb : KBn K dInit pInit 1 names7 (fun us ws => us ++ ws) (fun vs zs => vs ++ zs)) (kb0 : KBn K dInit pInit 1 [] g0 (fun vs _ => vs ++ plainV aT))
    (hW : FnOk P w K mg base (L2.CX P w) 4 fInit dInit pInit (spInit K C CB) → WithFn P w K mg base C CB)
    (bOneOf : Binds K dOneOf ["thing", "words"] []) (bDoub : Binds K dDoub ["thing"] []) (bAllow : Binds K dAllow ["option", "thing"] []) (bDbl : Binds K dDbl ["language", "sign", "state"] []) (bWName : Binds K dWName ["language"] []) (bWEqu : Binds K dWEqu ["language"] []) (bWBeh : Binds K dWBeh ["language"] []) (bWItem : Binds K dWItem ["language"] []) (bWCom : Binds K dWCom ["language"] []) (bWDone : Binds K dWDone ["language"] []) (bWEnd : Binds K dWEnd ["language"] []) (bAllW : Binds K dAllW ["language"] []) (bPool : Binds K dPool ["_law_script", "_law_place"] []) (bPick : Binds K dPick ["_law_pool_here", "_law_many"] []) (bOf : Binds K dOf ["_law_pool_here", "_law_some"] []) (bMixed : Binds K dMixed ["_law_pool_here", "_law_some"] []) (bSigns : Binds K dSigns ["_law_pool_here"] []) (bSound : Binds K dSound ["_law_pool_here"] []) (bOdd : Binds K dOdd ["_law_pool_here", "_law_option"] []) (bOff : Binds K dOff ["_law_made_here"] []) (bDue : Binds K dDue ["_law_told"] []) (bMade : Binds K dMade ["_law_told"] []) (bRepl : Binds K dRepl ["_law_made_here", "_law_first", "_law_second"] []) (bEach : Binds K dEach ["_law_made_here", "_law_told", "_law_other"] []) (bBarred : Binds K dBarred ["_law_made_here"] []) (bMEq : Binds K dMEq ["self", "other"] []) : FnG P w K mg base 8 fLaw dLaw ["_law_script"] (spLaw K) := by
  have T := R.T
  have T0 : Bare mg := R.T.toBare
  have S := R.S
  have GOneOf : FnOk P w K mg base CX0 1 fOneOf dOneOf ["thing", "words"] (spOneOf K) := ok_oneOf hOneOf.1 T0
  have GDoub : FnOk P w K mg base CX0 2 fDoub dDoub ["thing"] (spDoub K) := ok_doub hDoub.1 T ⟨fOneOf, dOneOf, hOneOf.1.kp, GOneOf, bOneOf, hOneOf.2⟩
  have GAllow : FnOk P w K mg base CX0 3 fAllow dAllow ["option", "thing"] (spAllowed K) := ok_allowed hAllow.1 T ⟨fOneOf, dOneOf, hOneOf.1.kp, GOneOf, bOneOf, hOneOf.2⟩ ⟨fDoub, dDoub, hDoub.1.kp, GDoub, bDoub, hDoub.2⟩
  have GDbl : FnOk P w K mg base CX0 1 fDbl dDbl ["language", "sign", "state"] (spDbl C) := ok_dbl hDbl.1 S
  have GWName : FnOk P w K mg base CX0 1 fWName dWName ["language"] (spWays C 6) := ok_name hWName.1 S
  have GWEqu : FnOk P w K mg base CX0 2 fWEqu dWEqu ["language"] (spWays C 6) := ok_equals hWEqu.1 S ⟨fDbl, dDbl, hDbl.1.kp, GDbl, bDbl, hDbl.2⟩
  have GWBeh : FnOk P w K mg base CX0 1 fWBeh dWBeh ["language"] (spWays C 3) := ok_behind hWBeh.1 S
  have GWItem : FnOk P w K mg base CX0 2 fWItem dWItem ["language"] (spWays C 6) := ok_item hWItem.1 S ⟨fWBeh, dWBeh, hWBeh.1.kp, GWBeh, bWBeh, hWBeh.2⟩
  have GWCom : FnOk P w K mg base CX0 2 fWCom dWCom ["language"] (spWays C 6) := ok_comma hWCom.1 S ⟨fDbl, dDbl, hDbl.1.kp, GDbl, bDbl, hDbl.2⟩
  have GWDone : FnOk P w K mg base CX0 1 fWDone dWDone ["language"] (spWays C 6) := ok_done hWDone.1 S
  have GWEnd : FnOk P w K mg base CX0 2 fWEnd dWEnd ["language"] (spWays C 6) := ok_ended hWEnd.1 ⟨fDbl, dDbl, hDbl.1.kp, GDbl, bDbl, hDbl.2⟩
  have GAllW : FnOk P w K mg base CX0 3 fAllW dAllW ["language"] (spWays C 9) := ok_allWays hAllW.1 ⟨fWName, dWName, hWName.1.kp, GWName, bWName, hWName.2⟩ ⟨fWEqu, dWEqu, hWEqu.1.kp, GWEqu, bWEqu, hWEqu.2⟩ ⟨fWItem, dWItem, hWItem.1.kp, GWItem, bWItem, hWItem.2⟩ ⟨fWBeh, dWBeh, hWBeh.1.kp, GWBeh, bWBeh, hWBeh.2⟩ ⟨fWCom, dWCom, hWCom.1.kp, GWCom, bWCom, hWCom.2⟩ ⟨fWDone, dWDone, hWDone.1.kp, GWDone, bWDone, hWDone.2⟩ ⟨fWEnd, dWEnd, hWEnd.1.kp, GWEnd, bWEnd, hWEnd.2⟩
  have GInit : FnOk P w K mg base (L2.CX P w) 4 fInit dInit pInit (spInit K C CB) := ok_init hInit T S R.TE ⟨fAllow, dAllow, hAllow.1.kp, GAllow, bAllow, hAllow.2⟩ ⟨fAllW, dAllW, hAllW.1.kp, GAllW, bAllW, hAllW.2⟩
  have GMEq : FnOk P w K mg base CX0 2 fMEq dMEq ["self", "other"] (spEq K C) := ok_eq hMEq T0 S
  have EQ : EqFn P w K mg base C := ⟨fMEq, dMEq, R.eq1, R.eq2, GMEq, bMEq⟩
  have WI : WithFn P w K mg base C CB := hW GInit
  have GPool : FnOk P w K mg base CX0 1 fPool dPool ["_law_script", "_law_place"] (spPool K) := ok_pool hPool.1 T0
  have GPick : FnOk P w K mg base CX0 1 fPick dPick ["_law_pool_here", "_law_many"] spPick := ok_pick hPick.1 T0
  have GOf : FnOk P w K mg base CX0 2 fOf dOf ["_law_pool_here", "_law_some"] spOf := ok_of hOf.1 T0 ⟨fPick, dPick, hPick.1.kp, GPick, bPick, hPick.2⟩
  have GMixed : FnOk P w K mg base CX0 3 fMixed dMixed ["_law_pool_here", "_law_some"] spMixed := ok_mixed hMixed.1 T0 ⟨fPick, dPick, hPick.1.kp, GPick, bPick, hPick.2⟩ ⟨fOf, dOf, hOf.1.kp, GOf, bOf, hOf.2⟩
  have GSigns : FnOk P w K mg base CX0 4 fSigns dSigns ["_law_pool_here"] spSigns := ok_signs hSigns.1 T0 ⟨fPick, dPick, hPick.1.kp, GPick, bPick, hPick.2⟩ ⟨fMixed, dMixed, hMixed.1.kp, GMixed, bMixed, hMixed.2⟩
  have GSound : FnOk P w K mg base CX0 5 fSound dSound ["_law_pool_here"] spSound := ok_sound hSound.1 ⟨fPick, dPick, hPick.1.kp, GPick, bPick, hPick.2⟩ ⟨fOf, dOf, hOf.1.kp, GOf, bOf, hOf.2⟩ ⟨fSigns, dSigns, hSigns.1.kp, GSigns, bSigns, hSigns.2⟩
  have GOdd : FnOk P w K mg base CX0 3 fOdd dOdd ["_law_pool_here", "_law_option"] (spOdd K) := ok_odd hOdd.1 ⟨fOf, dOf, hOf.1.kp, GOf, bOf, hOf.2⟩
  have GOff : FnOk P w K mg base CX0 1 fOff dOff ["_law_made_here"] (spOff C) := ok_off hOff.1 S
  have GDue : FnOk P w K mg base CX0 1 fDue dDue ["_law_told"] spDue := ok_due hDue.1 T0
  have GMade : FnOk P w K mg base CX0 6 fMade dMade ["_law_told"] (spMade K C) := ok_made hMade.1 S R.TE R.XF R.M GInit kb
  obtain ⟨fW, mW, GW⟩ := id WI
  have GRepl : FnOk P w K mg base CX0 7 fRepl dRepl ["_law_made_here", "_law_first", "_law_second"] (spRepl K C) := ok_repl hRepl.1 S R.TE R.XF mW GW
  have GEach : FnG P w K mg base 7 fEach dEach ["_law_made_here", "_law_told", "_law_other"] (spEach C) := ok_each hEach.1 T0 S EQ WI ⟨fOff, dOff, hOff.1.kp, GOff, bOff, hOff.2⟩ ⟨fDue, dDue, hDue.1.kp, GDue, bDue, hDue.2⟩ ⟨fMade, dMade, hMade.1.kp, GMade, bMade, hMade.2⟩
  have GBarred : FnOk P w K mg base CX0 7 fBarred dBarred ["_law_made_here"] (spBarred C) := ok_barred hBarred.1 S R.TE R.XF WI
  exact ok_law hLaw T0 S ⟨⟨fPool, dPool, hPool.1.kp, GPool, bPool, hPool.2⟩, ⟨fPick, dPick, hPick.1.kp, GPick, bPick, hPick.2⟩, ⟨fOf, dOf, hOf.1.kp, GOf, bOf, hOf.2⟩, ⟨fSound, dSound, hSound.1.kp, GSound, bSound, hSound.2⟩, ⟨fOdd, dOdd, hOdd.1.kp, GOdd, bOdd, hOdd.2⟩, ⟨fOff, dOff, hOff.1.kp, GOff, bOff, hOff.2⟩, ⟨fDue, dDue, hDue.1.kp, GDue, bDue, hDue.2⟩, ⟨fMade, dMade, hMade.1.kp, GMade, bMade, hMade.2⟩, ⟨fRepl, dRepl, hRepl.1.kp, GRepl, bRepl, hRepl.2⟩, ⟨fBarred, dBarred, hBarred.1.kp, GBarred, bBarred, hBarred.2⟩, ⟨fEach, dEach, hEach.1.kp, GEach, bEach, hEach.2⟩, EQ, WI, R.ne, R.lstNot, R.lstKit, ⟨fInit, dInit, aT, g0, R.M, GInit, kb0, R.emp⟩⟩
end K2

namespace K2
open PySem L2 K2M
section
variable {K : PySem.W.Frag} {h : Heap} {mg : Str → Option Value}
/-- a def that stands at the top, as the written part shows it -/
theorem held {x : Str} {st : Stmt} {f : Addr} {oc : Value} {od an : Option Addr} {osl : Array (Option Value)} {kV doc pm cdv ct : Value} (X : K.In h) (G : h.Ns mainGlobals mg) (a : PySem.W.nsIn K mainGlobals x = some (some (.ref f)))
    (l : K.lookup f = some ⟨oc, od, .func (PySem.W.fnOf x x (defArgs st) (defBody st) (defScope st) .none kV doc pm an cdv ct), osl⟩) (c : PySem.W.codeIn K cdv x = true) (k : PySem.W.keepIn K (.ref f) = true) : Held K mg x st f (PySem.W.fnOf x x (defArgs st) (defBody st) (defScope st) .none kV doc pm an cdv ct) :=
  ⟨fun_mk l c k, PySem.W.mg_of X G a⟩
theorem tup0 {a : Addr} {dd : Option Addr} {its : Array Value} {n : Nat} {sl : Array (Option Value)} (l : K.lookup a = some ⟨.type "tuple", dd, .seq its n, sl⟩) (e : its = #[]) : TupW K a [] := by
  subst e
  exact ⟨_, _, n, l, rfl, rfl, Nat.zero_le _, .nil⟩
theorem tup2 {a : Addr} {dd : Option Addr} {its : Array Value} {n : Nat} {sl : Array (Option Value)} {z1 z2 : Str} {t1 t2 : Tok} (l : K.lookup a = some ⟨.type "tuple", dd, .seq its n, sl⟩) (e : its = #[.str z1 t1, .str z2 t2]) : TupW K a [z1, z2] := by
  subst e
  exact ⟨_, _, n, l, rfl, rfl, by show 2 ≤ sizeLine; decide, .cons ⟨_, rfl⟩ (.cons ⟨_, rfl⟩ .nil)⟩
theorem tup3 {a : Addr} {dd : Option Addr} {its : Array Value} {n : Nat} {sl : Array (Option Value)} {z1 z2 z3 : Str} {t1 t2 t3 : Tok} (l : K.lookup a = some ⟨.type "tuple", dd, .seq its n, sl⟩) (e : its = #[.str z1 t1, .str z2 t2, .str z3 t3]) : TupW K a [z1, z2, z3] := by
  subst e
  exact ⟨_, _, n, l, rfl, rfl, by show 3 ≤ sizeLine; decide, .cons ⟨_, rfl⟩ (.cons ⟨_, rfl⟩ (.cons ⟨_, rfl⟩ .nil))⟩
theorem tup7 {a : Addr} {dd : Option Addr} {its : Array Value} {n : Nat} {sl : Array (Option Value)} {z1 z2 z3 z4 z5 z6 z7 : Str} {t1 t2 t3 t4 t5 t6 t7 : Tok} (l : K.lookup a = some ⟨.type "tuple", dd, .seq its n, sl⟩) (e : its = #[.str z1 t1, .str z2 t2, .str z3 t3, .str z4 t4, .str z5 t5, .str z6 t6, .str z7 t7]) : TupW K a [z1, z2, z3, z4, z5, z6, z7] := by
  subst e
  exact ⟨_, _, n, l, rfl, rfl, by show 7 ≤ sizeLine; decide, .cons ⟨_, rfl⟩ (.cons ⟨_, rfl⟩ (.cons ⟨_, rfl⟩ (.cons ⟨_, rfl⟩ (.cons ⟨_, rfl⟩ (.cons ⟨_, rfl⟩ (.cons ⟨_, rfl⟩ .nil))))))⟩
/-- a list is no instance of an own class -/
theorem kit_no {C : Addr} {t : String} (hd : PySem.W.hasDictIn K C = true) (ht : PySem.W.typeIn K (.ref C) = some (.type "type")) (hs : PySem.W.subIn K (.type t) (.ref C) = some false) : PySem.W.kitOne K (.type t) (.ref C) = some false := by
  obtain ⟨cd, hc, _⟩ := PySem.W.any_some hd
  have e : ((PySem.W.clsIn K C).isSome && PySem.W.typeIn K (.ref C) == some (.type "type")) = true := by rw [hc, ht]; rfl
  unfold PySem.W.kitOne
  rw [if_neg (fun q => by cases eq_of_beq q)]
  show (if ((PySem.W.clsIn K C).isSome && PySem.W.typeIn K (.ref C) == some (.type "type")) = true then PySem.W.subIn K (.type t) (.ref C) else none) = some false
  rw [if_pos e]
  exact hs
theorem ch_of {w : World} {aC a1 a2 a3 a4 : Addr} (n1 : PySem.W.nsIn K aC "equals" = some (some (.ref a1))) (n2 : PySem.W.nsIn K aC "end" = some (some (.ref a2))) (n3 : PySem.W.nsIn K aC "comma" = some (some (.ref a3))) (n4 : PySem.W.nsIn K aC "last" = some (some (.ref a4)))
    (n5 : PySem.W.nsIn K aC "doubled" = some none) (n6 : PySem.W.nsIn K aC "bare" = some none) (n7 : PySem.W.nsIn K aC "nothing" = some none)
    (t1 : TupW K a1 ["must", "may"]) (t2 : TupW K a2 ["must", "between", "may"]) (t3 : TupW K a3 ["must", "may", "joins"]) (t4 : TupW K a4 ["never", "may", "must"]) :
    ∀ o ∈ names7, (chOf o = none → PySem.W.nsIn K aC o = some none) ∧ ∀ ws, chOf o = some ws → ∃ a, PySem.W.nsIn K aC o = some (some (.ref a)) ∧ TupW K a ws := by
  intro o ho
  simp only [names7, List.mem_cons, List.not_mem_nil, or_false] at ho
  rcases ho with rfl | rfl | rfl | rfl | rfl | rfl | rfl
  · rw [show chOf "equals" = some (["must", "may"] : List Str) by decide +kernel]
    exact ⟨fun e => (nomatch e), fun ws e => Option.some.inj e ▸ ⟨a1, n1, t1⟩⟩
  · rw [show chOf "end" = some (["must", "between", "may"] : List Str) by decide +kernel]
    exact ⟨fun e => (nomatch e), fun ws e => Option.some.inj e ▸ ⟨a2, n2, t2⟩⟩
  · rw [show chOf "comma" = some (["must", "may", "joins"] : List Str) by decide +kernel]
    exact ⟨fun e => (nomatch e), fun ws e => Option.some.inj e ▸ ⟨a3, n3, t3⟩⟩
  · rw [show chOf "last" = some (["never", "may", "must"] : List Str) by decide +kernel]
    exact ⟨fun e => (nomatch e), fun ws e => Option.some.inj e ▸ ⟨a4, n4, t4⟩⟩
  · rw [show chOf "doubled" = none by decide +kernel]
    exact ⟨fun _ => n5, fun ws e => (nomatch e)⟩
  · rw [show chOf "bare" = none by decide +kernel]
    exact ⟨fun _ => n6, fun ws e => (nomatch e)⟩
  · rw [show chOf "nothing" = none by decide +kernel]
    exact ⟨fun _ => n7, fun ws e => (nomatch e)⟩
/-- with_options, from its own promise -/
theorem with_mk {P : Program} {w : World} {base : Heap} {C CB fE fI fW aD aO aC : Addr} {fdI : FuncData} {oc dc pm cd ct kV : Value} {od an : Option Addr} {sl : Array (Option Value)} (T : ModC K w mg aD aO aC) (S : LangC K mg C) (TE : K2E.ErrTxt P K mg CB fE) (M : Mk K C fI) (mW : Meth K C "with_options" fW)
    (lk : K.lookup fW = some ⟨oc, od, .func (PySem.W.fnOf "with_options" "Language.with_options" (defArgs sWith) (defBody sWith) (defScope sWith) .none kV dc pm an cd ct), sl⟩) (hcd : PySem.W.codeIn K cd "Language.with_options" = true)
    (kb : KBn K fdI pInit 1 names7 (fun us ws => us ++ ws) (fun vs zs => vs ++ zs)) (GI : FnOk P w K mg base (L2.CX P w) 4 fI fdI pInit (spInit K C CB)) : WithFn P w K mg base C CB := by
  refine ⟨fW, mW, fn_more (allowed := allow) (sp := spBody K C CB) lk hcd scWith StX.cxUp (by decide +kernel) (fun ks hk u0 us hl => ?_) fun A outer s H vs Q E hr h => body_with T S TE M GI kb hr h⟩
  simp only [allow, List.mem_cons, List.not_mem_nil, or_false] at hk
  rcases hk with rfl | rfl | rfl | rfl | rfl | rfl | rfl | rfl | rfl | rfl | rfl | rfl
  · match us, hl with
    | [], _ => rfl
  · match us, hl with
    | [_, _], _ => rfl
  · match us, hl with
    | [_], _ => rfl
  · match us, hl with
    | [_], _ => rfl
  · match us, hl with
    | [_], _ => rfl
  · match us, hl with
    | [_], _ => rfl
  · match us, hl with
    | [_], _ => rfl
  · match us, hl with
    | [_], _ => rfl
  · match us, hl with
    | [_], _ => rfl
  · match us, hl with
    | [_, _, _, _, _, _, _], _ => rfl
  · match us, hl with
    | [_, _, _], _ => rfl
  · match us, hl with
    | [_, _], _ => rfl
/-- what __init__ binds: all keywords, or none -/
theorem kb_all {f aT : Addr} {fd : FuncData} (F : FunD K "__init__" "Language.__init__" (defArgs sInit) (defBody sInit) (defScope sInit) [] (kws7 aT) f fd) : KBn K fd pInit 1 names7 (fun us ws => us ++ ws) (fun vs zs => vs ++ zs) := by
  obtain ⟨mv, kb⟩ := F.kbinds0 (ps := pInit) 1 names7 [] (fun us _ ws => us ++ ws) (by simp) (fun _ hq => (nomatch hq)) (fun r1 _ r3 => r1.append r3)
    (fun D doc pm an cdv ct us mv ws l1 l2 l3 => match us, mv, ws, l1, l2, l3 with | [_], [], [_, _, _, _, _, _, _], _, _, _ => rfl)
  exact kb
theorem kb_none {f aT : Addr} {fd : FuncData} (F : FunD K "__init__" "Language.__init__" (defArgs sInit) (defBody sInit) (defScope sInit) [] (kws7 aT) f fd) : ∃ g, KBn K fd pInit 1 [] g (fun vs _ => vs ++ plainV aT) := by
  obtain ⟨mv, kb⟩ := F.kbinds0 (ps := pInit) 1 [] (kws7 aT) (fun us mz _ => us ++ mz) (by simp) (fun _ hq => hq) (fun r1 r2 _ => r1.append r2)
    (fun D doc pm an cdv ct us mv ws l1 l2 l3 => match us, mv, ws, l1, l2, l3 with
      | [_], [_, _, _, _, _, _, _], [], _, _, _ => ⟨_, _, _, _, _, _, rfl, rfl, ⟨_, _, _, _, _, _, rfl, rfl, ⟨_, _, _, _, _, _, rfl, rfl, ⟨_, _, _, _, _, _, rfl, rfl, ⟨_, _, _, _, _, _, rfl, rfl, ⟨_, _, _, _, _, _, rfl, rfl, ⟨_, _, _, _, _, _, rfl, rfl, rfl⟩⟩⟩⟩⟩⟩⟩)
  exact ⟨_, kb⟩
end
theorem all_mk {P : Program} {w : World} {K : PySem.W.Frag} {h : Heap} {mg : Str → Option Value} {fa C CB fE aD aO aC aT a1 a2 a3 a4 aKW : Addr} (X : K.In h) (G : h.Ns mainGlobals mg) (hfa : mg "law" = some (.ref fa))
    {nm q : Str} {N CS : Addr} {bs : List Value} {sn : List Str} {sub : List Value} {ab : Bool} {col : Option Bool} {dd : Option Addr} {m0 m1 m2 m3 m5 : Option Value} {oI pmI ctI : Value} {odI anI : Option Addr} {slI : Array (Option Value)} {docI : Value} {cda cc : Addr}
    {ccl : Value} {cdd : Option Addr} {vs : Array Value} {ccs : Array (Option Value)} {file : Str} {tf : Tok} {cl : Value} {cld : Option Addr} {csl : Array (Option Value)} {t1 t2 t3 t4 t5 t6 t7 u1 u2 u3 p1 p2 q1 q2 q3 r1 r2 r3 s1 s2 s3 k1 k2 k3 k4 : Tok} {dD dO d0 d1 d2 d3 d4 : Option Addr} {iD iO i0 i1 i2 i3 i4 : Array Value} {nD nO n0 n1 n2 n3 n4 : Nat} {slD slO sl0 sl1 sl2 sl3 sl4 : Array (Option Value)} {esC : Array DictEntry} {nC : Nat}
    {fOneOf fDoub fAllow fDbl fWName fWEqu fWBeh fWItem fWCom fWDone fWEnd fAllW fPool fPick fOf fMixed fSigns fSound fOdd fOff fDue fMade fRepl fEach fBarred fMEq fInit fWith fLaw : Addr} {odOneOf anOneOf odDoub anDoub odAllow anAllow odDbl anDbl odWName anWName odWEqu anWEqu odWBeh anWBeh odWItem anWItem odWCom anWCom odWDone anWDone odWEnd anWEnd odAllW anAllW odPool anPool odPick anPick odOf anOf odMixed anMixed odSigns anSigns odSound anSound odOdd anOdd odOff anOff odDue anDue odMade anMade odRepl anRepl odEach anEach odBarred anBarred odMEq anMEq odInit anInit odWith anWith odLaw anLaw : Option Addr} {slOneOf slDoub slAllow slDbl slWName slWEqu slWBeh slWItem slWCom slWDone slWEnd slAllW slPool slPick slOf slMixed slSigns slSound slOdd slOff slDue slMade slRepl slEach slBarred slMEq slInit slWith slLaw : Array (Option Value)}
    {ocOneOf kVOneOf dcOneOf pmOneOf cdOneOf ctOneOf ocDoub kVDoub dcDoub pmDoub cdDoub ctDoub ocAllow kVAllow dcAllow pmAllow cdAllow ctAllow ocDbl kVDbl dcDbl pmDbl cdDbl ctDbl ocWName kVWName dcWName pmWName cdWName ctWName ocWEqu kVWEqu dcWEqu pmWEqu cdWEqu ctWEqu ocWBeh kVWBeh dcWBeh pmWBeh cdWBeh ctWBeh ocWItem kVWItem dcWItem pmWItem cdWItem ctWItem ocWCom kVWCom dcWCom pmWCom cdWCom ctWCom ocWDone kVWDone dcWDone pmWDone cdWDone ctWDone ocWEnd kVWEnd dcWEnd pmWEnd cdWEnd ctWEnd ocAllW kVAllW dcAllW pmAllW cdAllW ctAllW ocPool kVPool dcPool pmPool cdPool ctPool ocPick kVPick dcPick pmPick cdPick ctPick ocOf kVOf dcOf pmOf cdOf ctOf ocMixed kVMixed dcMixed pmMixed cdMixed ctMixed ocSigns kVSigns dcSigns pmSigns cdSigns ctSigns ocSound kVSound dcSound pmSound cdSound ctSound ocOdd kVOdd dcOdd pmOdd cdOdd ctOdd ocOff kVOff dcOff pmOff cdOff ctOff ocDue kVDue dcDue pmDue cdDue ctDue ocMade kVMade dcMade pmMade cdMade ctMade ocRepl kVRepl dcRepl pmRepl cdRepl ctRepl ocEach kVEach dcEach pmEach cdEach ctEach ocBarred kVBarred dcBarred pmBarred cdBarred ctBarred ocMEq kVMEq dcMEq pmMEq cdMEq ctMEq ocInit dcInit pmInit cdInit ctInit ocWith kVWith dcWith pmWith cdWith ctWith ocLaw kVLaw dcLaw pmLaw cdLaw ctLaw : Value}
    (aB : PySem.W.nsIn K mainGlobals "BadLanguage" = some (some (.ref CB)))
    (aSE : PySem.W.nsIn K mainGlobals "SettingsError" = some (some (.ref CS)))
    (xL : K.lookup CB = some (excClassObj nm q CB N bs [.ref CS, .type "ValueError", .type "Exception", .type "BaseException", .type "object"] true sn sub ab col dd m0 m1 m2 m3 m5 "ValueError.__new__"))
    (bsa : PySem.W.findIn K (.ref CB) "__setattr__" = some (some (.builtin "object.__setattr__")))
    (bga : PySem.W.findIn K (.ref CB) "__getattribute__" = some (some (.builtin "BaseException.__getattribute__")))
    (bgg : PySem.W.findIn K (.ref CB) "__getattr__" = some none)
    (bnb : PySem.W.findIn K (.ref CB) "option" = some none)
    (biC : PySem.W.findIn K (.ref CB) "__init__" = some (some (.ref fE)))
    (btI : PySem.W.typeIn K (.ref fE) = some (.type "function"))
    (bkC : PySem.W.keepIn K (.ref CB) = true)
    (beC : PySem.W.subIn K (.ref CB) (.type "BaseException") = some true)
    (bvC : PySem.W.subIn K (.ref CB) (.type "ValueError") = some true)
    (btC : PySem.W.typeIn K (.ref CB) = some (.type "type"))
    (bhC : PySem.W.hasDictIn K CB = true)
    (bsC : PySem.W.subIn K (.ref CB) (.ref CB) = some true)
    (bmC : PySem.W.mroIn K CB (.ref CB) = some true)
    (sup : PySem.W.ks_superIn K CB CB "__init__" = some (some (.builtin "ValueError.__init__")))
    (tp : PySem.W.nsIn K PySem.cStatics "thirdparty.any" = some none)
    (su : PySem.W.nsIn K mainGlobals "super" = some none)
    (topp : (P.main.scope.names.lookup ("super" : Str)).isSome = false)
    (lI : K.lookup fE = some ⟨oI, odI, .func (PySem.W.ksFn "__init__" "BadLanguage.__init__" (K2E.eA ⟨9, 17, 9, 21⟩ ⟨9, 23, 9, 29⟩) (K2E.eB "an option of a language that is not allowed" 0 ⟨10, 8, 10, 13⟩ ⟨10, 8, 10, 15⟩ ⟨10, 8, 10, 24⟩ ⟨10, 25, 10, 70⟩ ⟨10, 8, 10, 71⟩ ⟨10, 8, 10, 71⟩ ⟨11, 8, 11, 12⟩ ⟨11, 8, 11, 19⟩ ⟨11, 22, 11, 28⟩ ⟨11, 8, 11, 28⟩) K2E.eS .none .none docI pmI anI (.ref cda) ctI cc), slI⟩)
    (cI : PySem.W.codeIn K (.ref cda) "BadLanguage.__init__" = true)
    (lD : K.lookup cda = some ⟨ccl, cdd, .fields vs, ccs⟩)
    (vf : vs[2]? = some (.str file tf))
    (pf : ((P.main.file : Str) == file) = true)
    (lc : K.lookup cc = some ⟨cl, cld, .cell (some (.ref CB)), csl⟩)
    (aCl : PySem.W.nsIn K mainGlobals "Language" = some (some (.ref C)))
    (pg : PySem.W.plainGet K C Str.empty = true)
    (hdC : PySem.W.hasDictIn K C = true)
    (po : PySem.W.plainOver K C = true)
    (saC : PySem.W.findIn K (.ref C) "__setattr__" = some (some (.builtin "object.__setattr__")))
    (mkC : PySem.W.makesIn K C = true)
    (kpC : PySem.W.keepIn K (.ref C) = true)
    (nf0 : PySem.W.findIn K (.ref C) "equals" = some none)
    (nf1 : PySem.W.findIn K (.ref C) "end" = some none)
    (nf2 : PySem.W.findIn K (.ref C) "comma" = some none)
    (nf3 : PySem.W.findIn K (.ref C) "last" = some none)
    (nf4 : PySem.W.findIn K (.ref C) "doubled" = some none)
    (nf5 : PySem.W.findIn K (.ref C) "bare" = some none)
    (nf6 : PySem.W.findIn K (.ref C) "nothing" = some none)
    (nf7 : PySem.W.findIn K (.ref C) "ways" = some none)
    (haC : PySem.W.findIn K (.ref C) "__class__" = some (some (.builtin "object.__class__")))
    (hnC : PySem.W.specialIn K (.builtin "object.__class__") "__get__" = some (some (.builtin "getset_descriptor.__get__")))
    (htkC : PySem.W.takesIn K (.builtin "object.__class__") = some true)
    (hmC : PySem.W.mroIn K C (.type "object") = some true)
    (tyC : PySem.W.typeIn K (.ref C) = some (.type "type"))
    (neC : PySem.W.findIn K (.ref C) "__ne__" = some (some (.builtin "object.__ne__")))
    (lnC : PySem.W.notFirst K C (.type "list") = true)
    (lsC : PySem.W.subIn K (.type "list") (.ref C) = some false)
    (iInit : PySem.W.findIn K (.ref C) "__init__" = some (some (.ref fInit)))
    (jInit : PySem.W.isFn K (.ref fInit) = true)
    (lInit : K.lookup fInit = some ⟨ocInit, odInit, .func (PySem.W.fnOf "__init__" "Language.__init__" (defArgs sInit) (defBody sInit) (defScope sInit) .none (.ref aKW) dcInit pmInit anInit cdInit ctInit), slInit⟩)
    (cInit : PySem.W.codeIn K cdInit "Language.__init__" = true)
    (kInit : PySem.W.keepIn K (.ref fInit) = true)
    (w1 : PySem.W.nsIn K aKW "equals" = some (some (.str "must" k1)))
    (w2 : PySem.W.nsIn K aKW "end" = some (some (.str "must" k2)))
    (w3 : PySem.W.nsIn K aKW "comma" = some (some (.str "must" k3)))
    (w4 : PySem.W.nsIn K aKW "last" = some (some (.str "never" k4)))
    (w5 : PySem.W.nsIn K aKW "doubled" = some (some (.ref aT)))
    (w6 : PySem.W.nsIn K aKW "bare" = some (some (.bool false)))
    (w7 : PySem.W.nsIn K aKW "nothing" = some (some (.bool false)))
    (l0 : K.lookup aT = some ⟨.type "tuple", d0, .seq i0 n0, sl0⟩)
    (v0 : i0 = #[])
    (iWith : PySem.W.findIn K (.ref C) "with_options" = some (some (.ref fWith)))
    (jWith : PySem.W.isFn K (.ref fWith) = true)
    (lWith : K.lookup fWith = some ⟨ocWith, odWith, .func (PySem.W.fnOf "with_options" "Language.with_options" (defArgs sWith) (defBody sWith) (defScope sWith) .none kVWith dcWith pmWith anWith cdWith ctWith), slWith⟩)
    (cWith : PySem.W.codeIn K cdWith "Language.with_options" = true)
    (kWith : PySem.W.keepIn K (.ref fWith) = true)
    (iMEq : PySem.W.findIn K (.ref C) "__eq__" = some (some (.ref fMEq)))
    (jMEq : PySem.W.isFn K (.ref fMEq) = true)
    (lMEq : K.lookup fMEq = some ⟨ocMEq, odMEq, .func (PySem.W.fnOf "__eq__" "Language.__eq__" (defArgs sEq) (defBody sEq) (defScope sEq) .none kVMEq dcMEq pmMEq anMEq cdMEq ctMEq), slMEq⟩)
    (cMEq : PySem.W.codeIn K cdMEq "Language.__eq__" = true)
    (kMEq : PySem.W.keepIn K (.ref fMEq) = true)
    (gD : PySem.W.nsIn K mainGlobals "DOUBLED" = some (some (.ref aD)))
    (lDb : K.lookup aD = some ⟨.type "tuple", dD, .seq iD nD, slD⟩)
    (vDb : iD = #[.str "=" u1, .str ";" u2, .str "," u3])
    (gO : PySem.W.nsIn K mainGlobals "OPTIONS" = some (some (.ref aO)))
    (lO : K.lookup aO = some ⟨.type "tuple", dO, .seq iO nO, slO⟩)
    (vO : iO = #[.str "equals" t1, .str "end" t2, .str "comma" t3, .str "last" t4, .str "doubled" t5, .str "bare" t6, .str "nothing" t7])
    (gC : PySem.W.nsIn K mainGlobals "CHOICES" = some (some (.ref aC)))
    (lC : K.lookup aC = some ⟨.type "dict", none, .dict esC nC, #[]⟩)
    (litC : PySem.W.KeysLit w.params esC.toList)
    (lowC : (aC == sysModules) = false)
    (nequals : PySem.W.nsIn K aC "equals" = some (some (.ref a1)))
    (l1 : K.lookup a1 = some ⟨.type "tuple", d1, .seq i1 n1, sl1⟩)
    (v1 : i1 = #[.str "must" p1, .str "may" p2])
    (nend : PySem.W.nsIn K aC "end" = some (some (.ref a2)))
    (l2 : K.lookup a2 = some ⟨.type "tuple", d2, .seq i2 n2, sl2⟩)
    (v2 : i2 = #[.str "must" q1, .str "between" q2, .str "may" q3])
    (ncomma : PySem.W.nsIn K aC "comma" = some (some (.ref a3)))
    (l3 : K.lookup a3 = some ⟨.type "tuple", d3, .seq i3 n3, sl3⟩)
    (v3 : i3 = #[.str "must" r1, .str "may" r2, .str "joins" r3])
    (nlast : PySem.W.nsIn K aC "last" = some (some (.ref a4)))
    (l4 : K.lookup a4 = some ⟨.type "tuple", d4, .seq i4 n4, sl4⟩)
    (v4 : i4 = #[.str "never" s1, .str "may" s2, .str "must" s3])
    (odoubled : PySem.W.nsIn K aC "doubled" = some none)
    (obare : PySem.W.nsIn K aC "bare" = some none)
    (onothing : PySem.W.nsIn K aC "nothing" = some none)
    (zint : PySem.W.nsIn K mainGlobals "int" = some none)
    (zlen : PySem.W.nsIn K mainGlobals "len" = some none)
    (zsum : PySem.W.nsIn K mainGlobals "sum" = some none)
    (zabs : PySem.W.nsIn K mainGlobals "abs" = some none)
    (zrange : PySem.W.nsIn K mainGlobals "range" = some none)
    (zstr : PySem.W.nsIn K mainGlobals "str" = some none)
    (zall : PySem.W.nsIn K mainGlobals "all" = some none)
    (zisi : PySem.W.nsIn K mainGlobals "isinstance" = some none)
    (zrepr : PySem.W.nsIn K mainGlobals "repr" = some none)
    (zlist : PySem.W.nsIn K mainGlobals "list" = some none)
    (ztuple : PySem.W.nsIn K mainGlobals "tuple" = some none)
    (zset : PySem.W.nsIn K mainGlobals "set" = some none)
    (zdict : PySem.W.nsIn K mainGlobals "dict" = some none)
    (zbool : PySem.W.nsIn K mainGlobals "bool" = some none)
    (aOneOf : PySem.W.nsIn K mainGlobals "is_one_of" = some (some (.ref fOneOf)))
    (lOneOf : K.lookup fOneOf = some ⟨ocOneOf, odOneOf, .func (PySem.W.fnOf "is_one_of" "is_one_of" (defArgs sOneOf) (defBody sOneOf) (defScope sOneOf) .none kVOneOf dcOneOf pmOneOf anOneOf cdOneOf ctOneOf), slOneOf⟩)
    (cOneOf : PySem.W.codeIn K cdOneOf "is_one_of" = true)
    (kOneOf : PySem.W.keepIn K (.ref fOneOf) = true)
    (aDoub : PySem.W.nsIn K mainGlobals "is_doubled_option" = some (some (.ref fDoub)))
    (lDoub : K.lookup fDoub = some ⟨ocDoub, odDoub, .func (PySem.W.fnOf "is_doubled_option" "is_doubled_option" (defArgs sDoub) (defBody sDoub) (defScope sDoub) .none kVDoub dcDoub pmDoub anDoub cdDoub ctDoub), slDoub⟩)
    (cDoub : PySem.W.codeIn K cdDoub "is_doubled_option" = true)
    (kDoub : PySem.W.keepIn K (.ref fDoub) = true)
    (aAllow : PySem.W.nsIn K mainGlobals "is_allowed" = some (some (.ref fAllow)))
    (lAllow : K.lookup fAllow = some ⟨ocAllow, odAllow, .func (PySem.W.fnOf "is_allowed" "is_allowed" (defArgs sAllowed) (defBody sAllowed) (defScope sAllowed) .none kVAllow dcAllow pmAllow anAllow cdAllow ctAllow), slAllow⟩)
    (cAllow : PySem.W.codeIn K cdAllow "is_allowed" = true)
    (kAllow : PySem.W.keepIn K (.ref fAllow) = true)
    (aDbl : PySem.W.nsIn K mainGlobals "doubling" = some (some (.ref fDbl)))
    (lDbl : K.lookup fDbl = some ⟨ocDbl, odDbl, .func (PySem.W.fnOf "doubling" "doubling" (defArgs sDbl) (defBody sDbl) (defScope sDbl) .none kVDbl dcDbl pmDbl anDbl cdDbl ctDbl), slDbl⟩)
    (cDbl : PySem.W.codeIn K cdDbl "doubling" = true)
    (kDbl : PySem.W.keepIn K (.ref fDbl) = true)
    (aWName : PySem.W.nsIn K mainGlobals "ways_from_name" = some (some (.ref fWName)))
    (lWName : K.lookup fWName = some ⟨ocWName, odWName, .func (PySem.W.fnOf "ways_from_name" "ways_from_name" (defArgs sName) (defBody sName) (defScope sName) .none kVWName dcWName pmWName anWName cdWName ctWName), slWName⟩)
    (cWName : PySem.W.codeIn K cdWName "ways_from_name" = true)
    (kWName : PySem.W.keepIn K (.ref fWName) = true)
    (aWEqu : PySem.W.nsIn K mainGlobals "ways_from_equals" = some (some (.ref fWEqu)))
    (lWEqu : K.lookup fWEqu = some ⟨ocWEqu, odWEqu, .func (PySem.W.fnOf "ways_from_equals" "ways_from_equals" (defArgs sEquals) (defBody sEquals) (defScope sEquals) .none kVWEqu dcWEqu pmWEqu anWEqu cdWEqu ctWEqu), slWEqu⟩)
    (cWEqu : PySem.W.codeIn K cdWEqu "ways_from_equals" = true)
    (kWEqu : PySem.W.keepIn K (.ref fWEqu) = true)
    (aWBeh : PySem.W.nsIn K mainGlobals "ways_behind_item" = some (some (.ref fWBeh)))
    (lWBeh : K.lookup fWBeh = some ⟨ocWBeh, odWBeh, .func (PySem.W.fnOf "ways_behind_item" "ways_behind_item" (defArgs sBehind) (defBody sBehind) (defScope sBehind) .none kVWBeh dcWBeh pmWBeh anWBeh cdWBeh ctWBeh), slWBeh⟩)
    (cWBeh : PySem.W.codeIn K cdWBeh "ways_behind_item" = true)
    (kWBeh : PySem.W.keepIn K (.ref fWBeh) = true)
    (aWItem : PySem.W.nsIn K mainGlobals "ways_from_item" = some (some (.ref fWItem)))
    (lWItem : K.lookup fWItem = some ⟨ocWItem, odWItem, .func (PySem.W.fnOf "ways_from_item" "ways_from_item" (defArgs sItem) (defBody sItem) (defScope sItem) .none kVWItem dcWItem pmWItem anWItem cdWItem ctWItem), slWItem⟩)
    (cWItem : PySem.W.codeIn K cdWItem "ways_from_item" = true)
    (kWItem : PySem.W.keepIn K (.ref fWItem) = true)
    (aWCom : PySem.W.nsIn K mainGlobals "ways_from_comma" = some (some (.ref fWCom)))
    (lWCom : K.lookup fWCom = some ⟨ocWCom, odWCom, .func (PySem.W.fnOf "ways_from_comma" "ways_from_comma" (defArgs sComma) (defBody sComma) (defScope sComma) .none kVWCom dcWCom pmWCom anWCom cdWCom ctWCom), slWCom⟩)
    (cWCom : PySem.W.codeIn K cdWCom "ways_from_comma" = true)
    (kWCom : PySem.W.keepIn K (.ref fWCom) = true)
    (aWDone : PySem.W.nsIn K mainGlobals "ways_from_done" = some (some (.ref fWDone)))
    (lWDone : K.lookup fWDone = some ⟨ocWDone, odWDone, .func (PySem.W.fnOf "ways_from_done" "ways_from_done" (defArgs sDone) (defBody sDone) (defScope sDone) .none kVWDone dcWDone pmWDone anWDone cdWDone ctWDone), slWDone⟩)
    (cWDone : PySem.W.codeIn K cdWDone "ways_from_done" = true)
    (kWDone : PySem.W.keepIn K (.ref fWDone) = true)
    (aWEnd : PySem.W.nsIn K mainGlobals "ways_from_ended" = some (some (.ref fWEnd)))
    (lWEnd : K.lookup fWEnd = some ⟨ocWEnd, odWEnd, .func (PySem.W.fnOf "ways_from_ended" "ways_from_ended" (defArgs sEnded) (defBody sEnded) (defScope sEnded) .none kVWEnd dcWEnd pmWEnd anWEnd cdWEnd ctWEnd), slWEnd⟩)
    (cWEnd : PySem.W.codeIn K cdWEnd "ways_from_ended" = true)
    (kWEnd : PySem.W.keepIn K (.ref fWEnd) = true)
    (aAllW : PySem.W.nsIn K mainGlobals "all_ways" = some (some (.ref fAllW)))
    (lAllW : K.lookup fAllW = some ⟨ocAllW, odAllW, .func (PySem.W.fnOf "all_ways" "all_ways" (defArgs sAllWays) (defBody sAllWays) (defScope sAllWays) .none kVAllW dcAllW pmAllW anAllW cdAllW ctAllW), slAllW⟩)
    (cAllW : PySem.W.codeIn K cdAllW "all_ways" = true)
    (kAllW : PySem.W.keepIn K (.ref fAllW) = true)
    (aPool : PySem.W.nsIn K mainGlobals "_law_pool" = some (some (.ref fPool)))
    (lPool : K.lookup fPool = some ⟨ocPool, odPool, .func (PySem.W.fnOf "_law_pool" "_law_pool" (defArgs sPool) (defBody sPool) (defScope sPool) .none kVPool dcPool pmPool anPool cdPool ctPool), slPool⟩)
    (cPool : PySem.W.codeIn K cdPool "_law_pool" = true)
    (kPool : PySem.W.keepIn K (.ref fPool) = true)
    (aPick : PySem.W.nsIn K mainGlobals "_law_pick" = some (some (.ref fPick)))
    (lPick : K.lookup fPick = some ⟨ocPick, odPick, .func (PySem.W.fnOf "_law_pick" "_law_pick" (defArgs sPick) (defBody sPick) (defScope sPick) .none kVPick dcPick pmPick anPick cdPick ctPick), slPick⟩)
    (cPick : PySem.W.codeIn K cdPick "_law_pick" = true)
    (kPick : PySem.W.keepIn K (.ref fPick) = true)
    (aOf : PySem.W.nsIn K mainGlobals "_law_of" = some (some (.ref fOf)))
    (lOf : K.lookup fOf = some ⟨ocOf, odOf, .func (PySem.W.fnOf "_law_of" "_law_of" (defArgs sOf) (defBody sOf) (defScope sOf) .none kVOf dcOf pmOf anOf cdOf ctOf), slOf⟩)
    (cOf : PySem.W.codeIn K cdOf "_law_of" = true)
    (kOf : PySem.W.keepIn K (.ref fOf) = true)
    (aMixed : PySem.W.nsIn K mainGlobals "_law_mixed" = some (some (.ref fMixed)))
    (lMixed : K.lookup fMixed = some ⟨ocMixed, odMixed, .func (PySem.W.fnOf "_law_mixed" "_law_mixed" (defArgs sMixed) (defBody sMixed) (defScope sMixed) .none kVMixed dcMixed pmMixed anMixed cdMixed ctMixed), slMixed⟩)
    (cMixed : PySem.W.codeIn K cdMixed "_law_mixed" = true)
    (kMixed : PySem.W.keepIn K (.ref fMixed) = true)
    (aSigns : PySem.W.nsIn K mainGlobals "_law_signs" = some (some (.ref fSigns)))
    (lSigns : K.lookup fSigns = some ⟨ocSigns, odSigns, .func (PySem.W.fnOf "_law_signs" "_law_signs" (defArgs sSigns) (defBody sSigns) (defScope sSigns) .none kVSigns dcSigns pmSigns anSigns cdSigns ctSigns), slSigns⟩)
    (cSigns : PySem.W.codeIn K cdSigns "_law_signs" = true)
    (kSigns : PySem.W.keepIn K (.ref fSigns) = true)
    (aSound : PySem.W.nsIn K mainGlobals "_law_sound" = some (some (.ref fSound)))
    (lSound : K.lookup fSound = some ⟨ocSound, odSound, .func (PySem.W.fnOf "_law_sound" "_law_sound" (defArgs sSound) (defBody sSound) (defScope sSound) .none kVSound dcSound pmSound anSound cdSound ctSound), slSound⟩)
    (cSound : PySem.W.codeIn K cdSound "_law_sound" = true)
    (kSound : PySem.W.keepIn K (.ref fSound) = true)
    (aOdd : PySem.W.nsIn K mainGlobals "_law_odd" = some (some (.ref fOdd)))
    (lOdd : K.lookup fOdd = some ⟨ocOdd, odOdd, .func (PySem.W.fnOf "_law_odd" "_law_odd" (defArgs sOdd) (defBody sOdd) (defScope sOdd) .none kVOdd dcOdd pmOdd anOdd cdOdd ctOdd), slOdd⟩)
    (cOdd : PySem.W.codeIn K cdOdd "_law_odd" = true)
    (kOdd : PySem.W.keepIn K (.ref fOdd) = true)
    (aOff : PySem.W.nsIn K mainGlobals "_law_read_off" = some (some (.ref fOff)))
    (lOff : K.lookup fOff = some ⟨ocOff, odOff, .func (PySem.W.fnOf "_law_read_off" "_law_read_off" (defArgs sOff) (defBody sOff) (defScope sOff) .none kVOff dcOff pmOff anOff cdOff ctOff), slOff⟩)
    (cOff : PySem.W.codeIn K cdOff "_law_read_off" = true)
    (kOff : PySem.W.keepIn K (.ref fOff) = true)
    (aDue : PySem.W.nsIn K mainGlobals "_law_due" = some (some (.ref fDue)))
    (lDue : K.lookup fDue = some ⟨ocDue, odDue, .func (PySem.W.fnOf "_law_due" "_law_due" (defArgs sDue) (defBody sDue) (defScope sDue) .none kVDue dcDue pmDue anDue cdDue ctDue), slDue⟩)
    (cDue : PySem.W.codeIn K cdDue "_law_due" = true)
    (kDue : PySem.W.keepIn K (.ref fDue) = true)
    (aMade : PySem.W.nsIn K mainGlobals "_law_made" = some (some (.ref fMade)))
    (lMade : K.lookup fMade = some ⟨ocMade, odMade, .func (PySem.W.fnOf "_law_made" "_law_made" (defArgs sMade) (defBody sMade) (defScope sMade) .none kVMade dcMade pmMade anMade cdMade ctMade), slMade⟩)
    (cMade : PySem.W.codeIn K cdMade "_law_made" = true)
    (kMade : PySem.W.keepIn K (.ref fMade) = true)
    (aRepl : PySem.W.nsIn K mainGlobals "_law_replaced" = some (some (.ref fRepl)))
    (lRepl : K.lookup fRepl = some ⟨ocRepl, odRepl, .func (PySem.W.fnOf "_law_replaced" "_law_replaced" (defArgs sRepl) (defBody sRepl) (defScope sRepl) .none kVRepl dcRepl pmRepl anRepl cdRepl ctRepl), slRepl⟩)
    (cRepl : PySem.W.codeIn K cdRepl "_law_replaced" = true)
    (kRepl : PySem.W.keepIn K (.ref fRepl) = true)
    (aEach : PySem.W.nsIn K mainGlobals "_law_by_each" = some (some (.ref fEach)))
    (lEach : K.lookup fEach = some ⟨ocEach, odEach, .func (PySem.W.fnOf "_law_by_each" "_law_by_each" (defArgs sEach) (defBody sEach) (defScope sEach) .none kVEach dcEach pmEach anEach cdEach ctEach), slEach⟩)
    (cEach : PySem.W.codeIn K cdEach "_law_by_each" = true)
    (kEach : PySem.W.keepIn K (.ref fEach) = true)
    (aBarred : PySem.W.nsIn K mainGlobals "_law_barred" = some (some (.ref fBarred)))
    (lBarred : K.lookup fBarred = some ⟨ocBarred, odBarred, .func (PySem.W.fnOf "_law_barred" "_law_barred" (defArgs sBarred) (defBody sBarred) (defScope sBarred) .none kVBarred dcBarred pmBarred anBarred cdBarred ctBarred), slBarred⟩)
    (cBarred : PySem.W.codeIn K cdBarred "_law_barred" = true)
    (kBarred : PySem.W.keepIn K (.ref fBarred) = true)
    (aLaw : PySem.W.nsIn K mainGlobals "law" = some (some (.ref fLaw)))
    (lLaw : K.lookup fLaw = some ⟨ocLaw, odLaw, .func (PySem.W.fnOf "law" "law" (defArgs sLaw) (defBody sLaw) (defScope sLaw) .none kVLaw dcLaw pmLaw anLaw cdLaw ctLaw), slLaw⟩)
    (cLaw : PySem.W.codeIn K cdLaw "law" = true)
    (kLaw : PySem.W.keepIn K (.ref fLaw) = true) :
    ∃ fd : FuncData, (∀ (s : Shared) (v : Value), BindsTo s fd ⟨[v], []⟩ [("_law_script", v)]) ∧ ∀ base : Heap, K.In base → base.Ns mainGlobals mg → FnG P w K mg base 8 fa fd ["_law_script"] (spLaw K) := by
  have e := hfa.symm.trans (PySem.W.mg_of X G aLaw)
  cases e
  have M0 : Bare mg := { int := PySem.W.mg_none_of X G zint, len := PySem.W.mg_none_of X G zlen, sum := PySem.W.mg_none_of X G zsum, abs := PySem.W.mg_none_of X G zabs, range := PySem.W.mg_none_of X G zrange, str := PySem.W.mg_none_of X G zstr, all := PySem.W.mg_none_of X G zall, isi := PySem.W.mg_none_of X G zisi, repr := PySem.W.mg_none_of X G zrepr, list := PySem.W.mg_none_of X G zlist, tuple := PySem.W.mg_none_of X G ztuple, set := PySem.W.mg_none_of X G zset, dict := PySem.W.mg_none_of X G zdict, bool := PySem.W.mg_none_of X G zbool }
  have T : ModC K w mg aD aO aC := { M0 with dbl := PySem.W.mg_of X G gD, dtup := tup3 lDb vDb, opt := PySem.W.mg_of X G gO, otup := tup7 lO vO, cho := PySem.W.mg_of X G gC, kd := ⟨esC, nC, lC, litC, lowC⟩, ch := ch_of (w := w) nequals nend ncomma nlast odoubled obare onothing (tup2 l1 v1) (tup3 l2 v2) (tup3 l3 v3) (tup3 l4 v4) }
  have TE : K2E.ErrTxt P K mg CB fE :=
    { gC := PySem.W.mg_of X G aB, cls := ⟨nm, q, N, bs, _, sn, sub, ab, col, dd, m0, m1, m2, m3, m5, xL, by rfl⟩, sa := bsa, noN := bnb, iC := biC, tC := btI, kC := bkC, exC := beC, vaC := bvC, tyC := btC, te := PySem.W.exm_ref beC bhC btC bsC, sub := bmC, sup := sup, tp := tp, su := PySem.W.mg_none_of X G su, top := topp,
      fn := ⟨_, _, _, _, _, cda, cc, _, _, _, _, _, _, _, _, _, _, _, _, _, _, _, _, lI, cI, ⟨_, _, vs, _, file, tf, lD, vf, pf⟩, fun env => ⟨_, rfl⟩, _, _, _, lc⟩ }
  have S : LangC K mg C := ⟨⟨pg, hdC, po, saC⟩, nf0, nf1, nf2, nf3, nf4, nf5, nf6, nf7, PySem.W.mg_of X G aCl, haC, hnC, htkC, hmC⟩
  have M : Mk K C fInit := ⟨mkC, iInit, jInit, kpC⟩
  have mW : Meth K C "with_options" fWith := ⟨iWith, jWith, kWith⟩
  have R : Rest P w K mg C CB fE aD aO aC aT fInit fMEq fWith := ⟨T, S, TE, ⟨bga, bgg, beC, bhC⟩, M, mW, iMEq, jMEq, neC, lnC, kit_no hdC tyC lsC, tup0 l0 v0⟩
  have hInit : FunD K "__init__" "Language.__init__" (defArgs sInit) (defBody sInit) (defScope sInit) [] (kws7 aT) fInit (PySem.W.fnOf "__init__" "Language.__init__" (defArgs sInit) (defBody sInit) (defScope sInit) .none (.ref aKW) dcInit pmInit anInit cdInit ctInit) :=
    ⟨⟨_, _, _, _, _, _, _, _, _, _, rfl, lInit, cInit, .inl ⟨rfl, rfl⟩, .inr ⟨aKW, rfl, fun x hx => by
      simp only [List.mem_cons, List.not_mem_nil, or_false] at hx
      rcases hx with rfl | rfl | rfl | rfl | rfl | rfl | rfl
      · exact ⟨_, w1, _, rfl⟩
      · exact ⟨_, w2, _, rfl⟩
      · exact ⟨_, w3, _, rfl⟩
      · exact ⟨_, w4, _, rfl⟩
      · exact ⟨_, w5, rfl⟩
      · exact ⟨_, w6, rfl⟩
      · exact ⟨_, w7, rfl⟩⟩⟩, kInit⟩
  have kb := kb_all hInit
  obtain ⟨g0, kb0⟩ := kb_none hInit
  have hOneOf := held (st := sOneOf) X G aOneOf lOneOf cOneOf kOneOf
  have bOneOf := hOneOf.1.binds (ps := ["thing", "words"]) fun _ _ _ _ _ _ us hl => match us, hl with | [_, _], _ => rfl
  have hDoub := held (st := sDoub) X G aDoub lDoub cDoub kDoub
  have bDoub := hDoub.1.binds (ps := ["thing"]) fun _ _ _ _ _ _ us hl => match us, hl with | [_], _ => rfl
  have hAllow := held (st := sAllowed) X G aAllow lAllow cAllow kAllow
  have bAllow := hAllow.1.binds (ps := ["option", "thing"]) fun _ _ _ _ _ _ us hl => match us, hl with | [_, _], _ => rfl
  have hDbl := held (st := sDbl) X G aDbl lDbl cDbl kDbl
  have bDbl := hDbl.1.binds (ps := ["language", "sign", "state"]) fun _ _ _ _ _ _ us hl => match us, hl with | [_, _, _], _ => rfl
  have hWName := held (st := sName) X G aWName lWName cWName kWName
  have bWName := hWName.1.binds (ps := ["language"]) fun _ _ _ _ _ _ us hl => match us, hl with | [_], _ => rfl
  have hWEqu := held (st := sEquals) X G aWEqu lWEqu cWEqu kWEqu
  have bWEqu := hWEqu.1.binds (ps := ["language"]) fun _ _ _ _ _ _ us hl => match us, hl with | [_], _ => rfl
  have hWBeh := held (st := sBehind) X G aWBeh lWBeh cWBeh kWBeh
  have bWBeh := hWBeh.1.binds (ps := ["language"]) fun _ _ _ _ _ _ us hl => match us, hl with | [_], _ => rfl
  have hWItem := held (st := sItem) X G aWItem lWItem cWItem kWItem
  have bWItem := hWItem.1.binds (ps := ["language"]) fun _ _ _ _ _ _ us hl => match us, hl with | [_], _ => rfl
  have hWCom := held (st := sComma) X G aWCom lWCom cWCom kWCom
  have bWCom := hWCom.1.binds (ps := ["language"]) fun _ _ _ _ _ _ us hl => match us, hl with | [_], _ => rfl
  have hWDone := held (st := sDone) X G aWDone lWDone cWDone kWDone
  have bWDone := hWDone.1.binds (ps := ["language"]) fun _ _ _ _ _ _ us hl => match us, hl with | [_], _ => rfl
  have hWEnd := held (st := sEnded) X G aWEnd lWEnd cWEnd kWEnd
  have bWEnd := hWEnd.1.binds (ps := ["language"]) fun _ _ _ _ _ _ us hl => match us, hl with | [_], _ => rfl
  have hAllW := held (st := sAllWays) X G aAllW lAllW cAllW kAllW
  have bAllW := hAllW.1.binds (ps := ["language"]) fun _ _ _ _ _ _ us hl => match us, hl with | [_], _ => rfl
  have hPool := held (st := sPool) X G aPool lPool cPool kPool
  have bPool := hPool.1.binds (ps := ["_law_script", "_law_place"]) fun _ _ _ _ _ _ us hl => match us, hl with | [_, _], _ => rfl
  have hPick := held (st := sPick) X G aPick lPick cPick kPick
  have bPick := hPick.1.binds (ps := ["_law_pool_here", "_law_many"]) fun _ _ _ _ _ _ us hl => match us, hl with | [_, _], _ => rfl
  have hOf := held (st := sOf) X G aOf lOf cOf kOf
  have bOf := hOf.1.binds (ps := ["_law_pool_here", "_law_some"]) fun _ _ _ _ _ _ us hl => match us, hl with | [_, _], _ => rfl
  have hMixed := held (st := sMixed) X G aMixed lMixed cMixed kMixed
  have bMixed := hMixed.1.binds (ps := ["_law_pool_here", "_law_some"]) fun _ _ _ _ _ _ us hl => match us, hl with | [_, _], _ => rfl
  have hSigns := held (st := sSigns) X G aSigns lSigns cSigns kSigns
  have bSigns := hSigns.1.binds (ps := ["_law_pool_here"]) fun _ _ _ _ _ _ us hl => match us, hl with | [_], _ => rfl
  have hSound := held (st := sSound) X G aSound lSound cSound kSound
  have bSound := hSound.1.binds (ps := ["_law_pool_here"]) fun _ _ _ _ _ _ us hl => match us, hl with | [_], _ => rfl
  have hOdd := held (st := sOdd) X G aOdd lOdd cOdd kOdd
  have bOdd := hOdd.1.binds (ps := ["_law_pool_here", "_law_option"]) fun _ _ _ _ _ _ us hl => match us, hl with | [_, _], _ => rfl
  have hOff := held (st := sOff) X G aOff lOff cOff kOff
  have bOff := hOff.1.binds (ps := ["_law_made_here"]) fun _ _ _ _ _ _ us hl => match us, hl with | [_], _ => rfl
  have hDue := held (st := sDue) X G aDue lDue cDue kDue
  have bDue := hDue.1.binds (ps := ["_law_told"]) fun _ _ _ _ _ _ us hl => match us, hl with | [_], _ => rfl
  have hMade := held (st := sMade) X G aMade lMade cMade kMade
  have bMade := hMade.1.binds (ps := ["_law_told"]) fun _ _ _ _ _ _ us hl => match us, hl with | [_], _ => rfl
  have hRepl := held (st := sRepl) X G aRepl lRepl cRepl kRepl
  have bRepl := hRepl.1.binds (ps := ["_law_made_here", "_law_first", "_law_second"]) fun _ _ _ _ _ _ us hl => match us, hl with | [_, _, _], _ => rfl
  have hEach := held (st := sEach) X G aEach lEach cEach kEach
  have bEach := hEach.1.binds (ps := ["_law_made_here", "_law_told", "_law_other"]) fun _ _ _ _ _ _ us hl => match us, hl with | [_, _, _], _ => rfl
  have hBarred := held (st := sBarred) X G aBarred lBarred cBarred kBarred
  have bBarred := hBarred.1.binds (ps := ["_law_made_here"]) fun _ _ _ _ _ _ us hl => match us, hl with | [_], _ => rfl
  have hMEq := fun_mk (st := sEq) lMEq cMEq kMEq
  have bMEq := hMEq.binds (ps := ["self", "other"]) fun _ _ _ _ _ _ us hl => match us, hl with | [_, _], _ => rfl
  exact ⟨PySem.W.fnOf "law" "law" (defArgs sLaw) (defBody sLaw) (defScope sLaw) .none kVLaw dcLaw pmLaw anLaw cdLaw ctLaw, fun s v => .of_eq rfl, fun base _ _ => all_of R hOneOf hDoub hAllow hDbl hWName hWEqu hWBeh hWItem hWCom hWDone hWEnd hAllW hPool hPick hOf hMixed hSigns hSound hOdd hOff hDue hMade hRepl hEach hBarred hMEq hInit (fun_mk (st := sLaw) lLaw cLaw kLaw) kb kb0 (fun GI => with_mk T S TE M mW lWith cWith kb GI) bOneOf bDoub bAllow bDbl bWName bWEqu bWBeh bWItem bWCom bWDone bWEnd bAllW bPool bPick bOf bMixed bSigns bSound bOdd bOff bDue bMade bRepl bEach bBarred bMEq⟩
theorem walk {l : PySem.W.OpenLaw} {q : Program} {loose : List Str} {XP : (Str → Option Value) → Heap → Prop} {YP : World → Heap → Prop} {d : DefRec} {K : Params → PySem.W.Frag} (hn : l.most = some 63) (hdf : d.params.defaults = [])
    (hY : ∀ (w : World) (h : Heap), YP w h → (K w.params).In h)
    (F : ∀ (w : World) (mg : Str → Option Value) (fa : Addr) (h : Heap), (K w.params).In h → h.Ns mainGlobals mg → mg d.name = some (.ref fa) →
      ∃ fd : FuncData, (∀ (s : Shared) (u : Value), BindsTo s fd ⟨[u], []⟩ [("_law_script", u)]) ∧ ∀ base : Heap, (K w.params).In base → base.Ns mainGlobals mg → FnG l.prog w (K w.params) mg base 8 fa fd ["_law_script"] (spLaw (K w.params))) :
    PySem.W.WalkO q loose XP YP l.row.toRowW d [] (fun f vs => PySem.call f vs) :=
  L2.walk_ofG (n := 63) (k := 8) (x := "_law_script") (sp := fun w => spLaw (K w.params)) hn (by decide) hdf ⟨rfl, by decide, by decide⟩ hY F fun _ _ a ns hl _ hS => ⟨a, ns, rfl, hS, hl, fun _ => rfl⟩
end K2

open PySem PySem.W PyProof.Rows in
set_option maxRecDepth 100000 in
set_option maxHeartbeats 0 in
theorem PySem.Challenge.cw_slipreach_k02_options_of_languages_holds : PySem.Challenge.rw_slipreach_k02_options_of_languages.Holds := by
  w_on
  o_law
  k_head
  (case hw => w_witness2)
  k_fill
  refine K2.walk (l := PySem.Challenge.rw_slipreach_k02_options_of_languages) rfl rfl (fun w h Y => kIn_of Y) ?F
  case F =>
    intro w mg fa h KX G hmg
    refine' K2.all_mk KX G hmg ?aB ?aSE ?xL ?bsa ?bga ?bgg ?bnb ?biC ?btI ?bkC ?beC ?bvC ?btC ?bhC ?bsC ?bmC ?sup ?tp ?su ?topp ?lI ?cI ?lD ?vf ?pf ?lc ?aCl ?pg ?hdC ?po ?saC ?mkC ?kpC ?nf0 ?nf1 ?nf2 ?nf3 ?nf4 ?nf5 ?nf6 ?nf7 ?haC ?hnC ?htkC ?hmC ?tyC ?neC ?lnC ?lsC ?iInit ?jInit ?lInit ?cInit ?kInit ?w1 ?w2 ?w3 ?w4 ?w5 ?w6 ?w7 ?l0 ?v0 ?iWith ?jWith ?lWith ?cWith ?kWith ?iMEq ?jMEq ?lMEq ?cMEq ?kMEq ?gD ?lDb ?vDb ?gO ?lO ?vO ?gC ?lC ?litC ?lowC ?nequals ?l1 ?v1 ?nend ?l2 ?v2 ?ncomma ?l3 ?v3 ?nlast ?l4 ?v4 ?odoubled ?obare ?onothing ?zint ?zlen ?zsum ?zabs ?zrange ?zstr ?zall ?zisi ?zrepr ?zlist ?ztuple ?zset ?zdict ?zbool ?aOneOf ?lOneOf ?cOneOf ?kOneOf ?aDoub ?lDoub ?cDoub ?kDoub ?aAllow ?lAllow ?cAllow ?kAllow ?aDbl ?lDbl ?cDbl ?kDbl ?aWName ?lWName ?cWName ?kWName ?aWEqu ?lWEqu ?cWEqu ?kWEqu ?aWBeh ?lWBeh ?cWBeh ?kWBeh ?aWItem ?lWItem ?cWItem ?kWItem ?aWCom ?lWCom ?cWCom ?kWCom ?aWDone ?lWDone ?cWDone ?kWDone ?aWEnd ?lWEnd ?cWEnd ?kWEnd ?aAllW ?lAllW ?cAllW ?kAllW ?aPool ?lPool ?cPool ?kPool ?aPick ?lPick ?cPick ?kPick ?aOf ?lOf ?cOf ?kOf ?aMixed ?lMixed ?cMixed ?kMixed ?aSigns ?lSigns ?cSigns ?kSigns ?aSound ?lSound ?cSound ?kSound ?aOdd ?lOdd ?cOdd ?kOdd ?aOff ?lOff ?cOff ?kOff ?aDue ?lDue ?cDue ?kDue ?aMade ?lMade ?cMade ?kMade ?aRepl ?lRepl ?cRepl ?kRepl ?aEach ?lEach ?cEach ?kEach ?aBarred ?lBarred ?cBarred ?kBarred ?aLaw ?lLaw ?cLaw ?kLaw
    (case aB => k_is)
    (case aSE => k_is)
    (case xL => k_is)
    (case bsa => k_is)
    (case bga => k_is)
    (case bgg => k_is)
    (case bnb => k_is)
    (case biC => k_is)
    (case btI => k_is)
    (case bkC => k_is)
    (case beC => k_is)
    (case bvC => k_is)
    (case btC => k_is)
    (case bhC => k_is)
    (case bsC => first | rfl | k_is)
    (case bmC => k_is)
    (case sup => ks_is)
    (case tp => k_is)
    (case su => k_is)
    (case topp => first | rfl | decide +kernel)
    (case lI => k_is)
    (case cI => k_is)
    (case lD => k_is)
    (case vf => first | rfl | decide +kernel)
    (case pf => first | rfl | decide +kernel)
    (case lc => k_is)
    (case aCl => k_is)
    (case pg => k_is)
    (case hdC => k_is)
    (case po => k_is)
    (case saC => k_is)
    (case mkC => k_is)
    (case kpC => k_is)
    (case nf0 => k_is)
    (case nf1 => k_is)
    (case nf2 => k_is)
    (case nf3 => k_is)
    (case nf4 => k_is)
    (case nf5 => k_is)
    (case nf6 => k_is)
    (case nf7 => k_is)
    (case haC => k_is)
    (case hnC => k_is)
    (case htkC => k_is)
    (case hmC => k_is)
    (case tyC => k_is)
    (case neC => k_is)
    (case lnC => k_is)
    (case lsC => k_is)
    (case iInit => k_is)
    (case jInit => k_is)
    (case lInit => k_is)
    (case cInit => k_is)
    (case kInit => k_is)
    (case w1 => k_is)
    (case w2 => k_is)
    (case w3 => k_is)
    (case w4 => k_is)
    (case w5 => k_is)
    (case w6 => k_is)
    (case w7 => k_is)
    (case l0 => k_is)
    (case v0 => rfl)
    (case iWith => k_is)
    (case jWith => k_is)
    (case lWith => k_is)
    (case cWith => k_is)
    (case kWith => k_is)
    (case iMEq => k_is)
    (case jMEq => k_is)
    (case lMEq => k_is)
    (case cMEq => k_is)
    (case kMEq => k_is)
    (case gD => k_is)
    (case lDb => k_is)
    (case vDb => rfl)
    (case gO => k_is)
    (case lO => k_is)
    (case vO => rfl)
    (case gC => k_is)
    (case lC => k_is)
    (case litC => exact ⟨⟨_, _, rfl, rfl⟩, ⟨_, _, rfl, rfl⟩, ⟨_, _, rfl, rfl⟩, ⟨_, _, rfl, rfl⟩, trivial⟩)
    (case lowC => first | rfl | decide +kernel)
    (case nequals => k_is)
    (case l1 => k_is)
    (case v1 => rfl)
    (case nend => k_is)
    (case l2 => k_is)
    (case v2 => rfl)
    (case ncomma => k_is)
    (case l3 => k_is)
    (case v3 => rfl)
    (case nlast => k_is)
    (case l4 => k_is)
    (case v4 => rfl)
    (case odoubled => k_is)
    (case obare => k_is)
    (case onothing => k_is)
    (case zint => k_is)
    (case zlen => k_is)
    (case zsum => k_is)
    (case zabs => k_is)
    (case zrange => k_is)
    (case zstr => k_is)
    (case zall => k_is)
    (case zisi => k_is)
    (case zrepr => k_is)
    (case zlist => k_is)
    (case ztuple => k_is)
    (case zset => k_is)
    (case zdict => k_is)
    (case zbool => k_is)
    (case aOneOf => k_is)
    (case lOneOf => k_is)
    (case cOneOf => k_is)
    (case kOneOf => k_is)
    (case aDoub => k_is)
    (case lDoub => k_is)
    (case cDoub => k_is)
    (case kDoub => k_is)
    (case aAllow => k_is)
    (case lAllow => k_is)
    (case cAllow => k_is)
    (case kAllow => k_is)
    (case aDbl => k_is)
    (case lDbl => k_is)
    (case cDbl => k_is)
    (case kDbl => k_is)
    (case aWName => k_is)
    (case lWName => k_is)
    (case cWName => k_is)
    (case kWName => k_is)
    (case aWEqu => k_is)
    (case lWEqu => k_is)
    (case cWEqu => k_is)
    (case kWEqu => k_is)
    (case aWBeh => k_is)
    (case lWBeh => k_is)
    (case cWBeh => k_is)
    (case kWBeh => k_is)
    (case aWItem => k_is)
    (case lWItem => k_is)
    (case cWItem => k_is)
    (case kWItem => k_is)
    (case aWCom => k_is)
    (case lWCom => k_is)
    (case cWCom => k_is)
    (case kWCom => k_is)
    (case aWDone => k_is)
    (case lWDone => k_is)
    (case cWDone => k_is)
    (case kWDone => k_is)
    (case aWEnd => k_is)
    (case lWEnd => k_is)
    (case cWEnd => k_is)
    (case kWEnd => k_is)
    (case aAllW => k_is)
    (case lAllW => k_is)
    (case cAllW => k_is)
    (case kAllW => k_is)
    (case aPool => k_is)
    (case lPool => k_is)
    (case cPool => k_is)
    (case kPool => k_is)
    (case aPick => k_is)
    (case lPick => k_is)
    (case cPick => k_is)
    (case kPick => k_is)
    (case aOf => k_is)
    (case lOf => k_is)
    (case cOf => k_is)
    (case kOf => k_is)
    (case aMixed => k_is)
    (case lMixed => k_is)
    (case cMixed => k_is)
    (case kMixed => k_is)
    (case aSigns => k_is)
    (case lSigns => k_is)
    (case cSigns => k_is)
    (case kSigns => k_is)
    (case aSound => k_is)
    (case lSound => k_is)
    (case cSound => k_is)
    (case kSound => k_is)
    (case aOdd => k_is)
    (case lOdd => k_is)
    (case cOdd => k_is)
    (case kOdd => k_is)
    (case aOff => k_is)
    (case lOff => k_is)
    (case cOff => k_is)
    (case kOff => k_is)
    (case aDue => k_is)
    (case lDue => k_is)
    (case cDue => k_is)
    (case kDue => k_is)
    (case aMade => k_is)
    (case lMade => k_is)
    (case cMade => k_is)
    (case kMade => k_is)
    (case aRepl => k_is)
    (case lRepl => k_is)
    (case cRepl => k_is)
    (case kRepl => k_is)
    (case aEach => k_is)
    (case lEach => k_is)
    (case cEach => k_is)
    (case kEach => k_is)
    (case aBarred => k_is)
    (case lBarred => k_is)
    (case cBarred => k_is)
    (case kBarred => k_is)
    (case aLaw => k_is)
    (case lLaw => k_is)
    (case cLaw => k_is)
    (case kLaw => k_is)

