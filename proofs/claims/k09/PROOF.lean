import PyProof.Rows.All
import Wide.All
import OpenK.AllK
import Wide.FinOn
import HandS.ForMost
import HandS.IsInst
import HandS.Wide
import PySem.Challenge.RW_slipreach_k09_rules_as_sets
import HandS.Codes
import HandS.Star
import HandS.OwnEq
import HandS.ForExc
import PyProof.ReprRoads
import PyProof.ReprText
import HandS.Walk
import HandS.Style
import HandS.Conv
import PyProof.ReprLen
import PyProof.EqAt
import PyProof.EqKinds
import PyProof.TupleCall
import HandS.Base
import HandS.Call
import HandS.List
import HandS.Set
import HandS.Strs
import KE.KDictLaws
import HandS.StrMore
import HandS.Text
import HandS.Steps
import HandS.CallLocal
import HandS.ClsMeth
import OpenK.KMeth
import OpenK.KOps
import KE.KExcSuper
import HandS.ExcField
import HandS.ExcIs
import PyProof.P3In
import HandS.MakeKwOnly
import HandS.Defaults
import HandS.TupSets
import HandS.Keys
import KE.KDictKeyed
import PyProof.Rows.FactsT3
import HandS.TupAny
import PyProof.StrOps2
import HandS.OwnIter
import PyProof.InstSpecial
import PyProof.Conv_bool
import PyProof.Rows.Range3
import HandS.SlotsOwn
import PyProof.InstNe
import HandS.ExcOwn
set_option Elab.async false
set_option linter.all false
set_option maxRecDepth 110000
set_option maxHeartbeats 8100000
namespace K5
open PySem L2
def top (i : Nat) : Stmt := PySem.Challenge.pw_slipreach_k09_rules_as_sets.main.body.getD i (.Pass ⟨0, 0, 0, 0⟩)
abbrev sPool : Stmt := top 21
abbrev sPick : Stmt := top 22
/-- built-in names that the top has left alone -/
structure Bare (mg : Str → Option Value) : Prop where
  int : mg "int" = none
  len : mg "len" = none
  sum : mg "sum" = none
  abs : mg "abs" = none
  range : mg "range" = none
  str : mg "str" = none
  all : mg "all" = none
  isi : mg "isinstance" = none
  repr : mg "repr" = none
  list : mg "list" = none
  tuple : mg "tuple" = none
  set : mg "set" = none
  dict : mg "dict" = none
  bool : mg "bool" = none
/-- all but the object at p is as it was -/
def Keep (p : Addr) (H H' : Hp) : Prop := ∀ b o, b ≠ p → H b = some o → H' b = some o
theorem Keep.refl (p : Addr) (H : Hp) : Keep p H H := fun _ _ _ h => h
theorem Keep.trans {p : Addr} {H H1 H2 : Hp} (a : Keep p H H1) (b : Keep p H1 H2) : Keep p H H2 := fun c o n h => b c o n (a c o n h)
theorem Keep.new {p l : Addr} {H H1 : Hp} {o : HO} (a : Keep p H H1) (hl : H1 l = none) : Keep p H (upd H1 l o) := fun b u n h => by
  rw [upd_ne (ne_of_none (a b u n h) hl)]
  exact a b u n h
theorem Keep.own {p : Addr} {H H1 : Hp} {o : HO} (a : Keep p H H1) : Keep p H (upd H1 p o) := fun b u n h => by
  rw [upd_ne n]
  exact a b u n h
/-- at p a pool: what is left of a great cell, a start, how many were drawn (at most c) -/
def Pool (H : Hp) (p : Addr) (c : Nat) : Prop := ∃ g m k : Int, H p = some (.lst [.int g, .int m, .int k]) ∧ 0 ≤ g ∧ 0 ≤ m ∧ m ≤ 16140901064500000000 ∧ 0 ≤ k ∧ k ≤ (c : Int)
theorem Pool.new {H : Hp} {p l : Addr} {c : Nat} {o : HO} (a : Pool H p c) (hl : H l = none) : Pool (upd H l o) p c := by
  obtain ⟨g, m, k, h, r⟩ := a
  exact ⟨g, m, k, by rw [upd_ne (ne_of_none h hl)]; exact h, r⟩
theorem Pool.mono {H : Hp} {p : Addr} {c d : Nat} (a : Pool H p c) (h : c ≤ d) : Pool H p d := by
  obtain ⟨g, m, k, h1, h2, h3, h4, h5, h6⟩ := a
  exact ⟨g, m, k, h1, h2, h3, h4, h5, by omega⟩
theorem Pool.other {H : Hp} {p l : Addr} {c : Nat} {o : HO} (a : Pool H p c) (hl : p ≠ l) : Pool (upd H l o) p c := by
  obtain ⟨g, m, k, h, r⟩ := a
  exact ⟨g, m, k, by rw [upd_ne hl]; exact h, r⟩
/-- a number below many is drawn -/
def spPick : Sp := fun vs H Q _ => ∃ (p : Addr) (c : Nat) (n : Int), vs = [.ref p, .int n] ∧ Pool H p c ∧ c ≤ 1000000 ∧ 0 < n ∧ n < 1000000000001 ∧
  ∀ (r : Int) (H' : Hp), 0 ≤ r → r < n → Keep p H H' → Pool H' p (c + 1) → Q (.int r) H'
section
variable {P : Program} {w : World} {K : PySem.W.Frag} {mg : Str → Option Value} {base : Heap}
theorem scPick : FnScope ["_law_pool_here", "_law_many", "_law_found", "_law_mixed"] ["_law_pool_here", "_law_many"] (defScope sPick) := ⟨rfl, rfl, rfl, by decide +kernel, rfl, by decide +kernel, by decide +kernel⟩
theorem pow_bound {m k : Int} (h0 : 0 ≤ m) (h1 : m ≤ 16140901064500000000) (h2 : 0 ≤ k) (h3 : k ≤ 1000001) : (m + 1500450271 * k).natAbs < 2 ^ 64 := by omega
theorem pow_bound2 {a k : Int} (h0 : 0 ≤ a) (h1 : a < 2305843009213693921) (h2 : 0 ≤ k) (h3 : k ≤ 1000001) : (a + 28657 * k).natAbs < 2 ^ 64 := by omega
theorem ok_pick {f : Addr} {fd : FuncData} (F : Fun K "_law_pick" "_law_pick" sPick f fd) (T : Bare mg) : FnOk P w K mg base CX0 1 f fd ["_law_pool_here", "_law_many"] spPick := by
  refine F.ok scPick (fun vs H Q E h => ?_) (fun cdv A outer s H vs Q E hr h => ?_)
  · obtain ⟨p, c, n, rfl, _⟩ := h
    rfl
  · obtain ⟨p, c, n, rfl, ⟨g, m, k, hp, hg, hm, hm', hk, hk'⟩, hc, hn, hn', q⟩ := h
    refine ⟨_, pss_cons (ps_if (pt_cmpR op_gt (pe_ix ix_list (pv 0) pe_int (fun _ _ => rfl)) pe_int (nomark _))
        (pss_cons (ps_set (i := 2) scPick.nd rfl (.inl rfl) (pe_op op_mod (pe_callTy call_int1 (by rfl) T.int (by decide +kernel) (pa_cons (pe_ix ix_list (pv 0) pe_int (fun _ _ => rfl)) pa_nil)) (pv 1)))
          (pss_cons (ps_asg (pe_op op_fdivW (pe_ix ix_list (pv 0) pe_int (fun _ _ => rfl)) (pv 1)) (pg_sub (pv 0) pe_int set_list))
            (pss_one (ps_ret (pv 2))))) pss_nil)
      (pss_cons (ps_asg (pe_op op_add (pe_ix ix_list (pv 0) pe_int (fun _ _ => rfl)) pe_int) (pg_sub (pv 0) pe_int set_list))
      (pss_cons (ps_set (i := 3) scPick.nd rfl (.inl rfl) (pe_op op_mod (pe_callTy call_int1 (by rfl) T.int (by decide +kernel) (pa_cons
          (pe_op op_pow (pe_op op_add (pe_ix ix_list (pv 0) pe_int (fun _ _ => rfl)) (pe_op op_mul pe_int (pe_ix ix_list (pv 0) pe_int (fun _ _ => rfl)))) pe_int) pa_nil)) pe_int))
      (pss_cons (ps_set (i := 3) scPick.nd rfl (.inl rfl) (pe_op op_mod (pe_callTy call_int1 (by rfl) T.int (by decide +kernel) (pa_cons
          (pe_op op_pow (pe_op op_add (pv 3) (pe_op op_mul pe_int (pe_ix ix_list (pv 0) pe_int (fun _ _ => rfl)))) pe_int) pa_nil)) pe_int))
      (pss_one (ps_ret (pe_op op_mod (pe_callTy call_int1 (by rfl) T.int (by decide +kernel) (pa_cons (pe_op op_fdiv (pv 3) pe_int) pa_nil)) (pv 1))))))), ?_⟩
    refine ⟨_, rfl, p, _, _, _, rfl, rfl, SqL.of hp, atI_nat rfl, _, _, rfl, rfl, _, rfl, ?_⟩
    refine ite2 (fun h0 => ?_) (fun h0 => ?_)
    · refine ⟨_, rfl, p, _, _, _, rfl, rfl, SqL.of hp, atI_nat rfl, .inl ⟨_, rfl, _, rfl, _, _, rfl, rfl, hn, ?_⟩⟩
      refine ⟨_, rfl, p, _, _, _, rfl, rfl, SqL.of hp, atI_nat rfl, _, rfl, _, _, rfl, rfl, wide_div (b := 40) hn (by omega) (by decide) (by decide), _, rfl, p, _, _, _, rfl, rfl, hp, rfl, ?_⟩
      refine ⟨_, rfl, ?_⟩
      refine q _ _ (Int.emod_nonneg _ (by omega)) (Int.emod_lt_of_pos _ hn) (Keep.refl p H).own ⟨g / n, m, k, upd_same, Int.ediv_nonneg hg (by omega), hm, hm', hk, by omega⟩
    · have e1 : ∀ H' : Hp, H' p = some (.lst [.int g, .int m, .int (k + 1)]) → SqL K H' p [.int g, .int m, .int (k + 1)] := fun _ e => SqL.of e
      refine ⟨_, rfl, p, _, _, _, rfl, rfl, SqL.of hp, atI_nat rfl, _, _, rfl, rfl, _, rfl, p, _, _, _, rfl, rfl, hp, rfl, ?_⟩
      refine ⟨_, rfl, p, [.int g, .int m, .int (k + 1)], _, _, rfl, rfl, e1 _ upd_same, atI_nat rfl, _, rfl, p, [.int g, .int m, .int (k + 1)], _, _, rfl, rfl, e1 _ upd_same, atI_nat rfl, _, _, rfl, rfl, .inl (by decide), _, _, rfl, rfl, _, _, rfl, rfl, ⟨by decide, by decide, pow_bound hm hm' (by omega) (by omega)⟩, .inl ⟨_, rfl, _, _, rfl, rfl, (by show (0 : Int) < 2305843009213693921; decide), ?_⟩⟩
      refine ⟨_, rfl, _, rfl, p, [.int g, .int m, .int (k + 1)], _, _, rfl, rfl, e1 _ upd_same, atI_nat rfl, _, _, rfl, rfl, .inl (by decide), _, _, rfl, rfl, _, _, rfl, rfl, ⟨by decide, by decide, pow_bound2 (Int.emod_nonneg _ (by decide)) (Int.emod_lt_of_pos _ (by decide)) (by omega) (by omega)⟩, .inl ⟨_, rfl, _, _, rfl, rfl, (by show (0 : Int) < 2305843009213693951; decide), ?_⟩⟩
      refine ⟨_, rfl, _, _, rfl, rfl, ⟨by decide, by decide⟩, .inl ⟨_, rfl, _, rfl, _, _, rfl, rfl, hn, ?_⟩⟩
      exact q _ _ (Int.emod_nonneg _ (by omega)) (Int.emod_lt_of_pos _ hn) (Keep.refl p H).own ⟨g, m, k + 1, upd_same, hg, hm, hm', by omega, by omega⟩
end
end K5

namespace K5
open PySem L2
/-- a new pool for one place of the script -/
def spPool (K : PySem.W.Frag) : Sp := fun vs H Q _ => ∃ (a : Addr) (ns : List Int) (k : Int), vs = [.ref a, .int k] ∧ SqL K H a (ns.map V.int) ∧ ns.length ≤ 63 ∧ 0 ≤ k ∧ k ≤ 63 ∧
  ∀ (p : Addr) (H' : Hp), H p = none → Same H H' → Pool H' p 0 → Q (.ref p) H'
section
variable {P : Program} {w : World} {K : PySem.W.Frag} {mg : Str → Option Value} {base : Heap}
theorem Same.new {H H1 : Hp} {l : Addr} {o : HO} (a : Same H H1) (hl : H1 l = none) : Same H (upd H1 l o) := fun b u h => by
  rw [upd_ne (ne_of_none (a b u h) hl)]
  exact a b u h
theorem at_int {ns : List Int} {k : Int} (h0 : 0 ≤ k) (h1 : k < (ns.length : Int)) : ∃ z, atI (ns.map V.int) k = some (V.int z) := by
  have hk : k.toNat < ns.length := by omega
  refine ⟨ns[k.toNat], at_of (j := k.toNat) (by omega) ?_⟩
  rw [List.getElem?_map, List.getElem?_eq_getElem hk]
  rfl
theorem scPool : FnScope ["_law_script", "_law_place", "_law_cell", "_law_great"] ["_law_script", "_law_place"] (defScope sPool) := ⟨rfl, rfl, rfl, by decide +kernel, rfl, by decide +kernel, by decide +kernel⟩
theorem ok_pool {f : Addr} {fd : FuncData} (F : Fun K "_law_pool" "_law_pool" sPool f fd) (T : Bare mg) : FnOk P w K mg base CX0 1 f fd ["_law_script", "_law_place"] (spPool K) := by
  refine F.ok scPool (fun vs H Q E h => ?_) (fun cdv A outer s H vs Q E hr h => ?_)
  · obtain ⟨p, c, n, rfl, _⟩ := h
    rfl
  · obtain ⟨a, ns, k, rfl, hS, hl, hk, hk', q⟩ := h
    refine ⟨_, C8.pss_cut (ps_set (i := 2) scPool.nd rfl (.inl rfl) (pe_ifExp (pt_cmpR op_lt (pv 1) (pe_callB call_len_seq (by rfl) T.len PySem.boot_len (pa_cons (pv 0) pa_nil)) (nomark _))
          (pe_ix ix_list (pv 0) (pv 1) (fun _ _ => rfl))
          (pe_op op_mod (pe_callTy call_int1 (by rfl) T.int (by decide +kernel) (pa_cons (pe_callB (cr_sum rfl) (by rfl) T.sum (by decide +kernel) (pa_cons (pe_slice sl_list (pv 0) po_none (po_some pe_int)) pa_nil)) pa_nil)) pe_int)))
      (C8.pss_cut (ps_set (i := 3) scPool.nd rfl (.inl rfl) (pe_ifExp (pt_cmpR op_ge (pe_callB call_abs (by rfl) T.abs (by decide +kernel) (pa_cons (pv 2) pa_nil)) (pe_op op_pow pe_int pe_int) (nomark _))
          (pe_callB call_abs (by rfl) T.abs (by decide +kernel) (pa_cons (pv 2) pa_nil)) pe_int))
      (pss_one (ps_ret (pe_lst (pa_cons (pv 3) (pa_cons
          (pe_op op_add (pe_op op_add (pe_op op_add (pe_op op_mul (pe_op op_mod (pe_callTy call_int1 (by rfl) T.int (by decide +kernel) (pa_cons (pv 2) pa_nil)) pe_int) pe_int) (pe_op op_mul pe_int (pv 1))) (pe_op op_mul pe_int pe_int)) pe_int)
          (pa_cons pe_int pa_nil))))))), ?_⟩
    refine ⟨fun σ H' => ∃ z : Int, σ = [some (.ref a), some (.int k), some (.int z), none] ∧ Same H H', ?_, ?_⟩
    · refine ⟨_, rfl, _, rfl, a, _, rfl, .inl hS, _, _, rfl, rfl, _, rfl, ?_⟩
      refine ite2 (fun h0 => ?_) (fun h0 => ?_)
      · have h0 : k < ((ns.map V.int).length : Int) := of_decide_eq_true h0
        rw [List.length_map] at h0
        obtain ⟨z, hz⟩ := at_int hk h0
        exact ⟨_, rfl, _, rfl, a, _, _, _, rfl, rfl, hS, hz, z, rfl, Same.refl H⟩
      · refine ⟨_, rfl, _, rfl, a, _, rfl, hS, fun l hl => ?_⟩
        refine ⟨l, ns.take 1, rfl, SqL.of ?_, .inl ⟨_, rfl, _, _, rfl, rfl, (by show (0 : Int) < 1000003; decide), _, rfl, Same.new (Same.refl H) hl⟩⟩
        rw [upd_same]
        congr 2
        unfold cutV
        cases ns with
        | nil => rfl
        | cons z ns => simp [HT.sIx]
    · rintro σ H1 ⟨z, rfl, s1⟩
      refine ⟨fun σ H' => ∃ g : Int, 0 ≤ g ∧ σ = [some (.ref a), some (.int k), some (.int z), some (.int g)] ∧ H' = H1, ?_, ?_⟩
      · refine ⟨_, rfl, _, rfl, _, _, rfl, rfl, ⟨by decide, by decide, by decide⟩, _, _, rfl, rfl, _, rfl, ?_⟩
        refine ite2 (fun _ => ?_) (fun _ => ?_)
        · refine ⟨_, rfl, _, rfl, _, ?_, rfl, rfl⟩
          by_cases hz : z < 0
          · rw [if_pos hz]; omega
          · rw [if_neg hz]; omega
        · exact ⟨0, Int.le_refl 0, rfl, rfl⟩
      · rintro σ H2 ⟨g, hg, rfl, rfl⟩
        refine ⟨_, rfl, _, rfl, .inl ⟨_, rfl, _, _, rfl, rfl, (by show (0 : Int) < 2305843009213693951; decide), _, _, rfl, rfl, .inr (by decide), _, rfl, _, _, rfl, rfl, .inl (by decide), _, _, rfl, rfl, _, _, rfl, rfl, .inl (by decide), _, _, rfl, rfl, _, _, rfl, rfl, by show 3 ≤ sizeLine; decide, fun p hp => ?_⟩⟩
        refine q p _ (s1.free hp) (Same.new s1 hp) ⟨g, _, 0, upd_same, hg, ?_, ?_, by decide, by decide⟩
        · have h1 := Int.emod_nonneg z (show (2305843009213693951 : Int) ≠ 0 by decide)
          omega
        · have h1 := Int.emod_lt_of_pos z (show (0 : Int) < 2305843009213693951 by decide)
          omega
end
end K5

/-! rules that hold for every program: an own == with any answer; making and calling of instances in a try -/
namespace L2
open PySem PySem.Spec PyProof.Rows
/-- a def that may let errors out, called where none leaves -/
theorem passNo {X : Cx} {P : Program} {w : World} : Passes (L2.CX P w) X (fun _ _ _ => False) := fun _ _ _ _ _ _ _ h => by
  obtain ⟨a, B, H', cls, d, ea, fl, hok, ub, na, os, ag, he⟩ := h
  exact he.elim
section
variable {X : Cx} {CX : CXT} {k : Nat} {f C : Addr} {fd : FuncData} {ps : List Str} {sp : Sp} {x : Str} {p pos : Pos} {e : Expr} {es : List Expr} {t : TA}
theorem run_makeS {pins : List (Addr × Obj)} {σ : St} {H : Hp} {s : Shared} {Q : VK} {us : List Value} {vs : List V} {E : XK} (M : Mk X.K C f) (F : FnOk X.prog X.w X.K X.mg X.base CX k f fd ps sp) (hr : Room (k + 1) X.A) (hb : Binds X.K fd ps [])
    (hx : PassesAt CX X σ E) (I : Inv X pins σ H s) (r : Vals vs us)
    (h : ∀ x dx, H x = none → H dx = none → dx ≠ x → sp (.ref x :: vs) (upd (upd H dx (.own x)) x (.ins C dx [])) (fun v H2 => v = .non ∧ Q (.ref x) H2) E) :
    wpAny (model X.prog X.w) X.A (call (.ref C) us) (EP X pins σ Q) X.xe s := by
  have hq := h (s.heap.objs.size + 1) s.heap.objs.size (I.hok.fresh (Nat.le_succ _)) (I.hok.fresh (Nat.le_refl _)) (Nat.ne_of_lt (Nat.lt_succ_self _))
  have I2 := Inv.made (C := C) I
  have r2 : Vals (V.ref (s.heap.objs.size + 1) :: vs) (Value.ref (s.heap.objs.size + 1) :: us) := .cons rfl r
  have hl : (Value.ref (s.heap.objs.size + 1) :: us).length = ps.length := by
    have e := r2.length
    rw [F.len _ _ _ _ hq] at e
    exact e.symm
  have b := hb _ (Value.ref (s.heap.objs.size + 1) :: us) I2.kIn (by rw [List.append_nil]; exact hl)
  rw [List.append_nil] at b
  refine wpAny_call (make_map (f := f) I.kIn M.makes M.init (beq_iff_eq.mp M.fn) (codeAny_mono (F.run _ X.stack _ _ ⟨Value.ref (s.heap.objs.size + 1) :: us, []⟩ (Value.ref (s.heap.objs.size + 1) :: us) _ _ E (hr.make C us [])
    (I2.env0.make C us []) b r2 hq) fun r s' hq' => ?_))
  cases r with
  | error e => exact hx pins _ _ e s' I2 hq'
  | ok fl =>
    cases fl with
    | ret u =>
      obtain ⟨v, H', I3, rv, ev, q3⟩ := I2.after hq'
      subst ev
      exact ⟨rv, ⟨V.ref (s.heap.objs.size + 1), H', I3, rfl, q3⟩⟩
    | next => exact False.elim hq'
    | brk => exact False.elim hq'
    | cont => exact False.elim hq'
def tMakeS (C : Addr) (sp : Sp) (E : St → XK) (t : TA) : TE := fun σ H Q => t σ H fun vs H1 => ∀ x dx, H1 x = none → H1 dx = none → dx ≠ x →
  sp (.ref x :: vs) (upd (upd H1 dx (.own x)) x (.ins C dx [])) (fun v H2 => v = .non ∧ Q (.ref x) H2) (E σ)
/-- C(e, ..), made in a try; every parameter is given -/
theorem pe_makeS {E : St → XK} (M : Mk X.K C f) (F : FnOk X.prog X.w X.K X.mg X.base CX k f fd ps sp) (hr : Room (k + 1) X.A) (hg : Gl X x) (hm : X.mg x = some (.ref C)) (hb : Binds X.K fd ps []) (hx : ∀ σ, PassesAt CX X σ (E σ))
    (ha : PA X (e :: es) t) (hdb : (x == ("__debug__" : Str)) = false := by decide) (he : starEach (e :: es) X.env = (false, eval e X.env) :: starEach es X.env := by rfl) (hpl : (backTo pos (starEach es X.env)).any (·.1) = false := by rfl) :
    PE X (.Call (.Name x p) (e :: es) [] pos) (tMakeS C sp E t) := by
  refine ⟨fun pins s σ H Q I h => ?_⟩
  refine wpAny_Call_Name_kw (ld_glob I hg hm ?_ hdb)
  refine PySem.W.callWith_K (h₀ := X.base) I.ok.mod.kin M.kp (thn (ha.run pos pins s σ H _ I h) fun us s1 ⟨vs, H1, I1, r, q⟩ => ⟨I1.kIn, ?_⟩) he hpl
  exact run_makeS M F hr hb (hx σ) I1 r q
/-- o(e, ..), o an instance, called in a try -/
def tCallOS (C : Addr) (sp : Sp) (E : St → XK) (tf : TE) (t : TA) : TE := fun σ H Q => tf σ H fun y H1 => ∃ a, y = V.ref a ∧ t σ H1 fun vs H2 => (∃ dx fs, H2 a = some (.ins C dx fs)) ∧ sp (V.ref a :: vs) H2 Q (E σ)
theorem pe_callOS {E : St → XK} {fe : Expr} {tf : TE} {g : Addr} (hf : PE X fe tf) (c : StX.CallO X.K C g) (F : FnOk X.prog X.w X.K X.mg X.base CX k g fd ps sp) (hr : Room k X.A) (hb : Binds X.K fd ps []) (hx : ∀ σ, PassesAt CX X σ (E σ)) (ha : PA X (e :: es) t)
    (ht : eval (.Call fe (e :: es) [] pos) X.env = (do callWith pos (← eval fe X.env) [] (backTo pos (starEach (e :: es) X.env)) (backToKw pos (keywordEach [] X.env))) := by rfl)
    (he : starEach (e :: es) X.env = (false, eval e X.env) :: starEach es X.env := by rfl) (hpl : (backTo pos (starEach es X.env)).any (·.1) = false := by rfl) : PE X (.Call fe (e :: es) [] pos) (tCallOS C sp E tf t) := by
  refine ⟨fun pins s σ H Q I h => ?_⟩
  refine Call_ (thn (hf.run pins s σ H _ I h) fun u s1 ⟨y, H1, I1, ry, a, ey, q⟩ => ?_) ht
  subst ey
  obtain rfl : u = Value.ref a := ry
  refine StX.callO_with (thn (ha.run pos pins s1 σ H1 _ I1 q) fun us s2 ⟨vs, H2, I2, r, hi, q2⟩ => ?_) he hpl
  obtain ⟨ox, od, J, hd⟩ := StX.insC_at I2 (.inr hi)
  refine ⟨⟨C, ox, od, J, hd⟩, wpAny_call (PySem.W.kco_code I2.kIn J hd c.at_ c.fn c.fi ?_)⟩
  have r2 : Vals (V.ref a :: vs) (Value.ref a :: us) := .cons rfl r
  have hl : (Value.ref a :: us).length = ps.length := by rw [← r2.length]; exact F.len _ _ _ _ q2
  have b := hb s2 (Value.ref a :: us) I2.kIn (by rw [List.append_nil]; exact hl)
  rw [List.append_nil] at b
  refine codeAny_mono (F.run X.A X.stack s2 H2 ⟨Value.ref a :: us, []⟩ (Value.ref a :: us) (V.ref a :: vs) Q (E σ) hr I2.env0 b r2 q2) fun r s' hq => ?_
  cases r with
  | error e => exact hx σ pins H2 s2 e s' I2 hq
  | ok fl =>
    cases fl with
    | ret u => exact I2.after hq
    | next => exact False.elim hq
    | brk => exact False.elim hq
    | cont => exact False.elim hq
/-- x == y, x an instance with an own __eq__ that answers True or False -/
def rEqOwn (K : PySem.W.Frag) (C : Addr) (sp : Sp) (E : XK) : R2 := fun x y H Q => ∃ (a dx : Addr) (fs : List (Str × V)) (t : Value), x = .ref a ∧ H a = some (.ins C dx fs) ∧ TyX K H y t ∧ PySem.W.notFirst K C t = true ∧ sp [.ref a, y] H (fun v H' => ∃ b, v = .bl b ∧ Q (.bl b) H') E
theorem op_eqOwn {E : XK} (F : FnOk X.prog X.w X.K X.mg X.base CX k f fd ps sp) (hr : Room k X.A) (hs : PySem.W.findIn X.K (.ref C) "__eq__" = some (some (.ref f))) (hf : PySem.W.isFn X.K (.ref f) = true) (hb : Binds X.K fd ps []) (hx : Passes CX X E) : OpR X (compareOp .Eq) (rEqOwn X.K C sp E) := by
  intro pins s σ H x y v u Q I rx ry hq
  obtain ⟨a, dx, fs, t, rfl, ha, ty, hn, q⟩ := hq
  cases rx
  obtain ⟨mA, J, _⟩ := ins_get I.hok ha
  obtain ⟨od, J, _⟩ := J.look
  obtain ⟨P, Z, pz, _⟩ := kit_of I ry ty
  obtain ⟨m, hF⟩ := I.fr
  show wpAny (model X.prog X.w) X.A (richCompare .Eq (.ref a) u) (EP X pins σ Q) X.xe s
  refine PySem.W.cmp_K (op := .Eq) (tb := t) hr.units0 hF I.ok.mod.kin J (Z.ty _ _ I.kIn pz) hn hs hf ?_
  have r2 : Vals [V.ref a, y] [Value.ref a, u] := .cons rfl (.cons ry .nil)
  have hl : [Value.ref a, u].length = ps.length := by rw [← r2.length]; exact F.len _ _ _ _ q
  have b := hb s [Value.ref a, u] I.kIn (by rw [List.append_nil]; exact hl)
  rw [List.append_nil] at b
  refine wpAny_call (codeAny_mono (F.run X.A X.stack s H ⟨[.ref a, u], []⟩ [.ref a, u] [.ref a, y] _ E hr I.env0 b r2 q) fun r s' hq => ?_)
  cases r with
  | error e => exact hx pins σ H s e s' I hq
  | ok fl =>
    cases fl with
    | ret w =>
      obtain ⟨z, H', I', rz, c, ez, q'⟩ := I.after hq
      subst ez
      cases rz
      exact ⟨.bl c, H', I', rfl, q'⟩
    | next => exact False.elim hq
    | brk => exact False.elim hq
    | cont => exact False.elim hq
end
end L2

/-! promises of defs that ask that no repr is under way (at the law's call none is) -/
namespace L2
open PySem PySem.Spec PyProof.Rows
theorem deeper_guards (A : Around) (e : Env) : (A.deeper e).guards = A.guards := rfl
/-- as FnOk (no error leaves), where no repr is under way -/
structure FnG (P : Program) (w : World) (K : PySem.W.Frag) (mg : Str → Option Value) (base : Heap) (k : Nat) (f : Addr) (fd : FuncData) (ps : List Str) (sp : Sp) : Prop where
  gl : ∀ vs H Q E, sp vs H Q E → vs.length = ps.length
  go : ∀ (A : Around) (outer : List Env) (s : Shared) (H : Hp) (args : Args) (us : List Value) (vs : List V) (Q : VK), A.guards = some [] → Room k A → Env0 P w K mg base A outer s H →
    BindsTo s fd args (ps.zip us) → Vals vs us → sp vs H Q E0 → codeAny (model P w) A (.call (.ref f) args) (CR CX0 outer P w H s Q E0) s
section
variable {P : Program} {w : World} {K : PySem.W.Frag} {mg : Str → Option Value} {base : Heap}
theorem Fun.okG {x qual : Str} {st : Stmt} {f : Addr} {fd : FuncData} {N ps : List Str} {k : Nat} {sp : Sp} (F : Fun K x qual st f fd) (S : FnScope N ps (defScope st)) (hlen : ∀ vs H Q E, sp vs H Q E → vs.length = ps.length)
    (hb : ∀ (cdv : Value) (A : Around) (outer : List Env) (s : Shared) (H : Hp) (vs : List V) (Q : VK), (A.deeper (envOfC qual (defScope st) s.heap.objs.size f cdv)).guards = some [] →
      Room k (A.deeper (envOfC qual (defScope st) s.heap.objs.size f cdv)) → sp vs H Q E0 →
      ∃ t, PSs (cxOf CX0 P w K mg base N qual (defScope st) f cdv A outer s H E0).nox (defBody st) t ∧ t { nx := fun _ H' => Q .non H', rt := Q } (start N vs) H) : FnG P w K mg base (k + 1) f fd ps sp := by
  obtain ⟨oc, od, kV, doc, pm, an, cdv, ct, osl, rfl, lk, hcd⟩ := F.ex
  refine ⟨hlen, ?_⟩
  intro A outer s H args us vs Q hgu hroom env0 hbind hvals hsp
  have grown : ∀ b o, base.get? b = some o → s.heap.get? b = some o := fun b o e => (env0.bs b o e).1
  have inK : K.In s.heap := env0.mod.kin.keeps grown
  have noLim := env0.mod.nolimit.keeps grown
  refine codeAny_call_function hroom.depth (inK _ _ lk) rfl S.co S.gen rfl (PySem.W.codeRec_of inK hcd) (hbind _ _ _ _ ?_)
  refine wpAny_newFunctionEnv_cells S.kind ?_ ?_
  · rintro ⟨n, u⟩ hy
    have hp := S.par n (List.of_mem_zip hy).1
    cases hp with
    | inl q => exact Or.inl q
    | inr q => exact Or.inr ⟨q, PySem.W.cellsFrom_some _ _ _ (Or.inl q)⟩
  · intro env he s1 call
    subst he
    refine ⟨noLim.keeps call.toInCall.keep, codeAny_func ?_⟩
    obtain ⟨t, der, reading⟩ := hb cdv A outer s H vs Q hgu (hroom.deeper _) hsp
    have inv := inv_start (CX := CX0) (P := P) (w := w) (K := K) (mg := mg) (base := base) (E := E0) S hroom.hd env0 (hlen _ _ _ _ hsp) hvals call
    refine wpAny_mono (der.nox.run [] s1 (start N vs) H _ inv reading) ?_ ?_
    · rintro (_ | _ | _ | u) s' hs
      · obtain ⟨σ', H', J, q⟩ := hs
        exact ⟨V.non, H', J.os, J.bare, J.base, J.hok, rfl, q⟩
      · exact hs.elim fun _ z => z.elim fun _ z => z.2.elim
      · exact hs.elim fun _ z => z.elim fun _ z => z.2.elim
      · obtain ⟨v, σ', H', J, rv, q⟩ := hs
        exact ⟨v, H', J.os, J.bare, J.base, J.hok, rv, q⟩
    · exact fun e s' hs => hs
end
section
variable {X : Cx} {k : Nat} {f : Addr} {fd : FuncData} {ps : List Str} {sp : Sp} {x : Str} {p pos : Pos} {e : Expr} {es : List Expr} {t : TA}
theorem pe_callG (F : FnG X.prog X.w X.K X.mg X.base k f fd ps sp) (hgu : X.A.guards = some []) (hr : Room k X.A) (hg : Gl X x) (hm : X.mg x = some (.ref f)) (hk : PySem.W.keepIn X.K (.ref f) = true) (hb : Binds X.K fd ps []) (ha : PA X (e :: es) t)
    (hdb : (x == ("__debug__" : Str)) = false := by decide) (he : starEach (e :: es) X.env = (false, eval e X.env) :: starEach es X.env := by rfl) (hpl : (backTo pos (starEach es X.env)).any (·.1) = false := by rfl) :
    PE X (.Call (.Name x p) (e :: es) [] pos) (tCall sp [] E0 t) := by
  constructor
  intro pins s σ H Q I h
  refine wpAny_Call_Name_kw (ld_glob I hg hm ?_ hdb)
  refine PySem.W.callWith_K (h₀ := X.base) I.ok.mod.kin hk (thn (ha.run pos pins s σ H _ I h) ?_) he hpl
  rintro us s1 ⟨vs, H1, I1, r, q⟩
  refine ⟨I1.kIn, ?_⟩
  rw [List.append_nil] at q
  have hl : (us ++ []).length = ps.length := by rw [List.append_nil, ← r.length]; exact F.gl _ _ _ _ q
  have hbd := hb s1 us I1.kIn hl
  rw [List.append_nil] at hbd
  refine wpAny_call (codeAny_mono (F.go X.A X.stack s1 H1 ⟨us, []⟩ us vs Q hgu hr I1.env0 hbd r q) ?_)
  rintro (er | (_ | _ | _ | u)) s' hq
  · exact hq.elim
  · exact hq.elim
  · exact hq.elim
  · exact hq.elim
  · exact I1.after hq
end
end L2

/-! repr(data): what is shown of lists, tuples, texts, ints, bools and None at any depth -/
namespace L2
open PySem PySem.Spec PyProof.Rows
/-- the reading: d the data, shown as Python shows it -/
def rRepr (K : PySem.W.Frag) : List V → Hp → VK → Prop := fun xs H Q => ∃ (v : V) (d : PyData), xs = [v] ∧ Dp K H v d ∧ d.showable = true ∧ d.hasDict = false ∧ d.depth ≤ 60 ∧ d.shown.length ≤ sizeLine ∧ Q (.str d.shown) H
theorem call_reprD {X : Cx} (hgu : X.A.guards = some []) (hu : X.A.units + 64 < cLine) : CallR X (.builtin "repr") (rRepr X.K) := by
  intro pins s σ H xs us Q I r h
  obtain ⟨v, d, rfl, hd, hs, hnd, hdep, hsz, q⟩ := h
  obtain ⟨u, rfl, ru⟩ := vals1 r
  obtain ⟨as, hr⟩ := Dp.reads I d v u hd ru
  have fin : ∀ (s' : Shared) (t : Tok), Inv X pins σ H s' → EP X pins σ Q (.str d.shown t) s' := fun s' t J => ⟨.str d.shown, H, J, ⟨t, rfl⟩, q⟩
  have viaRef : ∀ a : Addr, u = .ref a → wpAny (model X.prog X.w) X.A (PySem.call (.builtin "repr") [u]) (EP X pins σ Q) X.xe s := fun a e => by
    subst e
    exact repr_of_reads' hr hs (fun z => by rw [hnd] at z; cases z) hgu (by omega) (fun _ _ e => e) (fun h' u tk k => fin _ _ (I.kept (t' := tk) k)) hsz
  cases hd with
  | non =>
    obtain rfl : u = .none := ru
    exact PySem.P.repr_of_none (fin _ _ (I.tok _))
  | bl b =>
    obtain rfl : u = .bool b := ru
    have e : (PyData.bool b).shown = (if b then "True" else "False" : Str) := PyData.shown_bool b
    rw [e] at fin
    cases b
    · exact PySem.P.repr_of_bool (fin _ _ (I.tok _))
    · exact PySem.P.repr_of_bool (fin _ _ (I.tok _))
  | int i =>
    obtain ⟨t, rfl⟩ := ru
    have hs' : i.natAbs.log2 < 1920 := by simpa [PyData.showable] using hs
    have e := PyData.shown_int i
    rw [e] at fin
    exact PySem.P.repr_of_int hs' (fin _ _ (I.tok _))
  | str x =>
    obtain ⟨t, rfl⟩ := ru
    have e := PyData.shown_str x
    rw [e] at fin hsz
    exact PySem.P.repr_of_str (fin _ _ (I.tok _)) hsz
  | lst _ _ => exact viaRef _ ru
  | tup _ _ => exact viaRef _ ru
end L2

namespace K5
open PySem L2
abbrev sOneOf : Stmt := top 9
theorem inV_strs (z : Str) (ws : List Str) : inV (.str z) (ws.map V.str) = decide (z ∈ ws) := by
  unfold inV
  induction ws with
  | nil => rfl
  | cons y ws ih =>
    rw [List.map_cons, List.any_cons, ih]
    show (y == z || _) = _
    by_cases h : y = z
    · subst h; simp
    · have h' : ¬ z = y := fun e => h e.symm
      have e : (y == z) = false := by simpa using h
      rw [e, Bool.false_or]
      simp [h']
theorem flat_strs (ws : List Str) : (ws.map V.str).all flatV = true := by
  rw [List.all_map]
  exact List.all_eq_true.mpr fun _ _ => rfl
theorem all_id_map {α : Type} (p : α → Bool) (l : List α) : (l.map p).all id = l.all p := by
  induction l with
  | nil => rfl
  | cons a l ih => rw [List.map_cons, List.all_cons, List.all_cons, ih]; rfl
theorem take_more {α β : Type} (f : α → β) {l : List α} {i : Nat} {c : α} (h : l[i]? = some c) : (l.take i).map f ++ [f c] = (l.take (i + 1)).map f := by
  rw [List.take_add_one, h, List.map_append]
  rfl
/-- a thing that may be a text -/
def Thing (K : PySem.W.Frag) (H : Hp) (v : V) (o : Option Str) : Prop := (∃ z, v = .str z ∧ o = some z) ∨ (o = none ∧ ∃ t, TyX K H v t ∧ PySem.W.kitOne K t (.type "str") = some false)
def spOneOf (K : PySem.W.Frag) : Sp := fun vs H Q _ => ∃ (v : V) (o : Option Str) (a : Addr) (ws : List Str), vs = [v, .ref a] ∧ Thing K H v o ∧ SqT K H a (ws.map V.str) ∧ Q (.bl (o.elim false fun z => decide (z ∈ ws))) H
theorem line_ge {n : Nat} (h : n ≤ 1000000) : n ≤ sizeLine := Nat.le_trans h (by decide)
theorem Same.put {H H1 : Hp} {l : Addr} {o : HO} (a : Same H H1) (hl : H l = none) : Same H (upd H1 l o) := fun b u h => by
  rw [upd_ne (ne_of_none h hl)]
  exact a b u h
theorem eq_strB (x y : Str) : decide (V.str x = V.str y) = decide (x = y) := by
  by_cases h : x = y
  · rw [h]; simp
  · have : ¬ V.str x = V.str y := fun z => h (V.str.inj z)
    rw [decide_eq_false h, decide_eq_false this]
theorem pool_ne {H' : Hp} {p D : Addr} {n : Nat} (a : Pool H' p n) (h : H' D = none) : D ≠ p := by
  obtain ⟨_, _, _, e, _⟩ := a
  exact Ne.symm (ne_of_none e h)
theorem Keep.free {p D : Addr} {H H1 : Hp} (k : Keep p H H1) (n : D ≠ p) (h : H1 D = none) : H D = none := by
  cases e : H D with
  | none => rfl
  | some o =>
    rw [k D o n e] at h
    cases h
theorem Same.keep {p : Addr} {H H1 : Hp} (s : Same H H1) : Keep p H H1 := fun b o _ e => s b o e
theorem Pool.same {H H1 : Hp} {p : Addr} {c : Nat} (a : Pool H p c) (s : Same H H1) : Pool H1 p c := by
  obtain ⟨g, m, k, h, r⟩ := a
  exact ⟨g, m, k, s _ _ h, r⟩
theorem Same.free {H H1 : Hp} {T' : Addr} (s : Same H H1) (h : H1 T' = none) : H T' = none := by
  cases e : H T' with
  | none => rfl
  | some o =>
    rw [s _ _ e] at h
    cases h
theorem Keep.same {p : Addr} {H H1 H2 : Hp} (k : Keep p H1 H2) (s : Same H H1) (hp : H p = none) : Same H H2 := fun b o e => k b o (ne_of_none e hp) (s b o e)
mutual
theorem dp_same {K : PySem.W.Frag} {H H' : Hp} (s : Same H H') : ∀ (d : PyData) {v : V}, Dp K H v d → Dp K H' v d
  | .none, _, h => by cases h; exact .non
  | .bool _, _, h => by cases h; exact .bl _
  | .int _, _, h => by cases h; exact .int _
  | .str _, _, h => by cases h; exact .str _
  | .list ds, _, h => by
    cases h with
    | lst h1 h2 => exact .lst (s.seq h1) (dpAll_same s ds h2)
  | .tuple ds, _, h => by
    cases h with
    | tup h1 h2 => exact .tup (SqT.ext h1 s) (dpAll_same s ds h2)
  | .dict _, _, h => by cases h
theorem dpAll_same {K : PySem.W.Frag} {H H' : Hp} (s : Same H H') : ∀ (ds : List PyData) {vs : List V}, DpAll K H vs ds → DpAll K H' vs ds
  | [], _, h => by cases h; exact .nil
  | d :: ds, _, h => by
    cases h with
    | cons h1 h2 => exact .cons (dp_same s d h1) (dpAll_same s ds h2)
end
theorem DpAll.len {K : PySem.W.Frag} {H : Hp} : ∀ {ds : List PyData} {vs : List V}, DpAll K H vs ds → vs.length = ds.length
  | [], _, h => by cases h; rfl
  | d :: ds, _, h => by
    cases h with
    | cons h1 h2 => rw [List.length_cons, List.length_cons, DpAll.len h2]
theorem DpAll.drop {K : PySem.W.Frag} {H : Hp} : ∀ {ds : List PyData} {vs : List V} (k : Nat), DpAll K H vs ds → DpAll K H (vs.drop k) (ds.drop k)
  | _, _, 0, h => h
  | [], _, k + 1, h => by cases h; exact .nil
  | d :: ds, _, k + 1, h => by
    cases h with
    | cons h1 h2 => exact DpAll.drop k h2
theorem DpAll.take {K : PySem.W.Frag} {H : Hp} : ∀ {ds : List PyData} {vs : List V} (k : Nat), DpAll K H vs ds → DpAll K H (vs.take k) (ds.take k)
  | _, _, 0, _ => .nil
  | [], _, k + 1, h => by cases h; exact .nil
  | d :: ds, _, k + 1, h => by
    cases h with
    | cons h1 h2 => exact .cons h1 (DpAll.take k h2)
theorem DpAll.app {K : PySem.W.Frag} {H : Hp} : ∀ {ds es : List PyData} {vs us : List V}, DpAll K H vs ds → DpAll K H us es → DpAll K H (vs ++ us) (ds ++ es)
  | [], _, _, _, h, h' => by cases h; exact h'
  | d :: ds, _, _, _, h, h' => by
    cases h with
    | cons h1 h2 => exact .cons h1 (DpAll.app h2 h')
theorem DpAll.rev {K : PySem.W.Frag} {H : Hp} : ∀ {ds : List PyData} {vs : List V}, DpAll K H vs ds → DpAll K H vs.reverse ds.reverse
  | [], _, h => by cases h; exact .nil
  | d :: ds, _, h => by
    cases h with
    | cons h1 h2 =>
      rw [List.reverse_cons, List.reverse_cons]
      exact DpAll.app (DpAll.rev h2) (.cons h1 .nil)
theorem DpAll.at {K : PySem.W.Frag} {H : Hp} : ∀ {ds : List PyData} {vs : List V} {k : Nat} {d : PyData}, DpAll K H vs ds → ds[k]? = some d → ∃ v, vs[k]? = some v ∧ Dp K H v d
  | [], _, _, _, _, e => by cases e
  | d :: ds, _, 0, _, h, e => by
    cases h with
    | cons h1 h2 => exact ⟨_, rfl, (Option.some.inj e) ▸ h1⟩
  | d :: ds, _, k + 1, _, h, e => by
    cases h with
    | cons h1 h2 => exact DpAll.at (ds := ds) (k := k) h2 e
/-- data that == and repr can be asked of -/
structure Fair1 (d : PyData) : Prop where
  lay : d.canLay0 = true
  dep : d.depth ≤ 10
  show_ : d.showable = true
  dict : d.hasDict = false
  len : d.shown.length ≤ 400
def Fair (ds : List PyData) : Prop := ∀ d ∈ ds, Fair1 d
theorem Fair1.shaped {d : PyData} (f : Fair1 d) : SeqAt.shaped d = true := by
  unfold SeqAt.shaped
  rw [f.lay, Bool.true_and]
  exact decide_eq_true (Nat.le_trans f.dep (by decide))
/-- all of many -/
structure FairL (ds : List PyData) : Prop where
  lay : PyData.canLayAll0 ds = true
  dep : PyData.depthAll ds ≤ 10
  show_ : PyData.showableAll ds = true
  dict : PyData.hasDictAll ds = false
  len : ((PyData.shownAll ds).map (·.length)).sum ≤ 400 * ds.length
  num : (PyData.shownAll ds).length = ds.length
theorem Fair.all : ∀ {ds : List PyData}, Fair ds → FairL ds
  | [], _ => ⟨rfl, by decide, rfl, rfl, by decide, rfl⟩
  | d :: ds, f => by
    have h := f d (List.mem_cons_self ..)
    have r := Fair.all (ds := ds) fun x hx => f x (List.mem_cons_of_mem _ hx)
    refine ⟨?_, ?_, ?_, ?_, ?_, ?_⟩
    · rw [PyData.canLayAll0, h.lay, r.lay]; rfl
    · rw [PyData.depthAll]; exact Nat.max_le.mpr ⟨h.dep, r.dep⟩
    · rw [PyData.showableAll, h.show_, r.show_]; rfl
    · rw [PyData.hasDictAll, h.dict, r.dict]; rfl
    · have a := h.len
      have b := r.len
      rw [PyData.shownAll, List.map_cons, List.sum_cons, List.length_cons]
      omega
    · rw [PyData.shownAll, List.length_cons, List.length_cons, r.num]
theorem fair_shaped {ds : List PyData} (f : Fair ds) : SeqAt.shaped (.list ds) = true := by
  have r := f.all
  unfold SeqAt.shaped
  rw [PyData.canLay0, r.lay, Bool.true_and, PyData.depth]
  exact decide_eq_true (by have := r.dep; omega)
theorem fair_shaped_t {ds : List PyData} (f : Fair ds) : SeqAt.shaped (.tuple ds) = true := by
  have r := f.all
  unfold SeqAt.shaped
  rw [PyData.canLay0, r.lay, Bool.true_and, PyData.depth]
  exact decide_eq_true (by have := r.dep; omega)
theorem Fair.sub {ds es : List PyData} (f : Fair ds) (h : ∀ d ∈ es, d ∈ ds) : Fair es := fun d hd => f d (h d hd)
/-- what repr asks of data -/
structure ShownOk (d : PyData) : Prop where
  s : d.showable = true
  n : d.hasDict = false
  dp : d.depth ≤ 60
  l : d.shown.length ≤ sizeLine
theorem Fair1.ok {d : PyData} (f : Fair1 d) : ShownOk d := ⟨f.show_, f.dict, Nat.le_trans f.dep (by decide), line_ge (Nat.le_trans f.len (by decide))⟩
theorem sum_le {xs : List PyData} {n : Nat} (h : xs.length ≤ n) (f : ((PyData.shownAll xs).map (·.length)).sum ≤ 400 * xs.length) : ((PyData.shownAll xs).map (·.length)).sum ≤ 400 * n := by
  have := Nat.mul_le_mul_left 400 h
  omega
theorem list_len {ds : List PyData} (f : Fair ds) (h : ds.length ≤ 200) : (PyData.list ds).shown.length ≤ 90000 := by
  have r := f.all
  have a := listText_len_le (PyData.shownAll ds)
  have b := sum_le h r.len
  rw [r.num] at a
  rw [PyData.shown]
  omega
theorem Fair.listOk {ds : List PyData} (f : Fair ds) (h : ds.length ≤ 200) : ShownOk (.list ds) := by
  have r := f.all
  refine ⟨by rw [PyData.showable]; exact r.show_, by rw [PyData.hasDict]; exact r.dict, by rw [PyData.depth]; have := r.dep; omega, line_ge (Nat.le_trans (list_len f h) (by decide))⟩
theorem Fair.tupOk {ds : List PyData} (f : Fair ds) (h : ds.length ≤ 200) : ShownOk (.tuple ds) := by
  have r := f.all
  refine ⟨by rw [PyData.showable]; exact r.show_, by rw [PyData.hasDict]; exact r.dict, by rw [PyData.depth]; have := r.dep; omega, ?_⟩
  have a := tupleText_len_le (PyData.shownAll ds)
  have b := sum_le h r.len
  rw [r.num] at a
  rw [PyData.shown]
  exact line_ge (by omega)
def fairB (d : PyData) : Bool := d.canLay0 && (decide (d.depth ≤ 10) && (d.showable && (!d.hasDict && decide (d.shown.length ≤ 400))))
theorem fair_of {d : PyData} (h : fairB d = true) : Fair1 d := by
  unfold fairB at h
  simp only [Bool.and_eq_true, Bool.not_eq_true', decide_eq_true_eq] at h
  exact ⟨h.1, h.2.1, h.2.2.1, h.2.2.2.1, h.2.2.2.2⟩
theorem ne_lst {H : Hp} {b kp : Addr} {o : HO} {L : List V} (h : H b = some o) (hk : H kp = some (.lst L)) (n : o ≠ .lst L) : b ≠ kp := fun e => n (by rw [e, hk] at h; exact (Option.some.inj h).symm)
theorem pool_lst {H : Hp} {p : Addr} {c : Nat} (h : Pool H p c) : ∃ L, H p = some (.lst L) := by
  obtain ⟨g, m, k, e, _⟩ := h
  exact ⟨_, e⟩
theorem bool_ok (b : Bool) : ShownOk (.bool b) := by
  cases b <;> exact (fair_of (by decide +kernel)).ok
theorem eqv_self {d : PyData} (h : SeqAt.shaped d = true) : PyData.eqv d d = true := by
  unfold SeqAt.shaped at h
  exact SeqAt.eqv_refl d (Bool.and_eq_true_iff.mp h).1
section
variable {P : Program} {w : World} {K : PySem.W.Frag} {mg : Str → Option Value} {base : Heap}
theorem scOneOf : FnScope ["thing", "words"] ["thing", "words"] (defScope sOneOf) := ⟨rfl, rfl, rfl, by decide +kernel, rfl, by decide +kernel, by decide +kernel⟩
theorem ok_oneOf {f : Addr} {fd : FuncData} (F : Fun K "is_one_of" "is_one_of" sOneOf f fd) (T : Bare mg) : FnOk P w K mg base CX0 1 f fd ["thing", "words"] (spOneOf K) := by
  refine F.ok scOneOf (fun vs H Q E h => ?_) (fun cdv A outer s H vs Q E hr h => ?_)
  · obtain ⟨v, o, a, ws, rfl, _⟩ := h
    rfl
  · obtain ⟨v, o, a, ws, rfl, hv, ht, q⟩ := h
    refine ⟨_, pss_one (ps_ret (pe_and (pe_callB call_isi (by rfl) T.isi (by decide +kernel) (pa_cons (pv 0) (pa_cons (pe_bltn (v := .ty "str") (by rfl) T.str (by decide +kernel) rfl) pa_nil)))
      (pe_one (pe_cmpR op_in_seq (pv 0) (pv 1) (by rfl))))), ?_⟩
    rcases hv with ⟨z, rfl, rfl⟩ | ⟨rfl, t, ty, kt⟩
    · refine ⟨_, rfl, .str z, .ty "str", .type "str", .type "str", true, rfl, .ty "str", .base (.str z), kit_ty (by decide +kernel), true, rfl, iteT ⟨_, rfl, _, rfl, a, _, rfl, .inr ht, rfl, flat_strs ws, ?_⟩⟩
      show Q (.bl (inV (.str z) (ws.map V.str))) H
      rw [inV_strs]
      exact q
    · exact ⟨_, rfl, v, .ty "str", t, .type "str", false, rfl, .ty "str", ty, kt, false, rfl, iteF q⟩
end
end K5

/-! len(set(xs)), xs a list or a tuple of texts -/
namespace K2S
open PySem PySem.Spec PyProof.Rows
/-- one more, if it is not there -/
def put1 (l : List Str) (x : Str) : List Str := if x ∈ l then l else l ++ [x]
/-- each once -/
def once (xs : List Str) : List Str := xs.foldl put1 []
theorem once_snoc (xs : List Str) (x : Str) : once (xs ++ [x]) = put1 (once xs) x := by
  unfold once
  rw [List.foldl_append]
  rfl
theorem mem_put1 {l : List Str} {x y : Str} : y ∈ put1 l x ↔ y ∈ l ∨ y = x := by
  unfold put1
  split
  · rename_i h
    exact ⟨.inl, fun z => z.elim id fun e => e ▸ h⟩
  · simp
theorem mem_fold {y : Str} : ∀ (xs l : List Str), y ∈ xs.foldl put1 l ↔ y ∈ l ∨ y ∈ xs
  | [], l => by simp
  | x :: xs, l => by
    rw [List.foldl_cons, mem_fold xs (put1 l x), mem_put1, List.mem_cons]
    exact or_assoc
theorem mem_once {y : Str} (xs : List Str) : y ∈ once xs ↔ y ∈ xs := by
  unfold once
  rw [mem_fold]
  simp
theorem take_succ_at {xs : List Str} {i : Nat} (h : i < xs.length) : xs.take (i + 1) = xs.take i ++ [xs.getD i Str.empty] := by
  rw [List.take_succ, List.getElem?_eq_getElem h]
  simp [List.getD_eq_getElem?_getD, List.getElem?_eq_getElem h]
theorem len_put1 (l : List Str) (x : Str) : (put1 l x).length = if x ∈ l then l.length else l.length + 1 := by
  unfold put1
  split
  · rfl
  · simp
theorem once_le (xs : List Str) : (once xs).length ≤ xs.length := by
  have key : ∀ (xs l : List Str), (xs.foldl put1 l).length ≤ l.length + xs.length := by
    intro xs
    induction xs with
    | nil => intro l; simp
    | cons x xs ih =>
      intro l
      have h1 := ih (put1 l x)
      have h2 : (put1 l x).length ≤ l.length + 1 := by
        rw [len_put1]
        split <;> omega
      rw [List.foldl_cons, List.length_cons]
      omega
  have h := key xs []
  simpa [once] using h
theorem fold_nodup : ∀ (xs l : List Str), l.Nodup → ((xs.foldl put1 l).length = l.length + xs.length ↔ (l ++ xs).Nodup)
  | [], l, hl => by simp [hl]
  | x :: xs, l, hl => by
    rw [List.foldl_cons]
    by_cases hx : x ∈ l
    · have e : put1 l x = l := if_pos hx
      rw [e]
      have hle : (xs.foldl put1 l).length ≤ l.length + xs.length := by
        have key : ∀ (xs l : List Str), (xs.foldl put1 l).length ≤ l.length + xs.length := by
          intro xs
          induction xs with
          | nil => intro l; simp
          | cons x xs ih =>
            intro l
            have h1 := ih (put1 l x)
            have h2 : (put1 l x).length ≤ l.length + 1 := by
              rw [len_put1]
              split <;> omega
            rw [List.foldl_cons, List.length_cons]
            omega
        exact key xs l
      constructor
      · intro h
        rw [List.length_cons] at h
        omega
      · intro h
        exact absurd rfl ((List.nodup_append.mp h).2.2 x hx x List.mem_cons_self)
    · have e : put1 l x = l ++ [x] := if_neg hx
      rw [e]
      have hn : (l ++ [x]).Nodup := by
        rw [List.nodup_append]
        refine ⟨hl, by simp, fun a ha b hb => ?_⟩
        rw [List.mem_singleton] at hb
        rintro rfl
        exact hx (hb ▸ ha)
      have ih := fold_nodup xs (l ++ [x]) hn
      rw [List.append_assoc, List.singleton_append, List.length_append, List.length_singleton] at ih
      rw [List.length_cons, show l.length + (xs.length + 1) = l.length + 1 + xs.length by omega]
      exact ih
theorem once_nodup (xs : List Str) : (once xs).length = xs.length ↔ xs.Nodup := by
  have h := fold_nodup xs [] List.nodup_nil
  simpa [once] using h
section
variable {prog : Program} {w : World} {A : Around} {R : Result → Shared → Prop} {I : Addr} {fp wr : List Addr} {G : Array GenState → Array GenState → Prop} {n : Nat} {P : Nat → Value → Prop} {St : Nat → Shared → Prop}
theorem loop_in (W : WalksS prog w A.in1 I fp wr G n P St) (S : Addr) (far : S ∉ fp) (xs : List Str) (hn : xs.length = n) (few : n + 1 < scanBound) (hval : ∀ i v, P i v → ∃ t, v = .str (xs.getD i Str.empty) t) :
    ∀ (k i : Nat) (s : Shared), n - i = k → i ≤ n → St i s → s.heap.SetOf (strKind prog w) S (fun y => decide (y ∈ xs.take i)) (once (xs.take i)).length →
      (∀ s', Moved (S :: wr) G s s' → s'.heap.SetOf (strKind prog w) S (fun y => decide (y ∈ xs)) (once xs).length → R (.ok (.ret .none)) s') → codeAny (model prog w) A (.builtin "set.update.loop" ⟨[.ref S, .ref I], []⟩) R s := by
  have off : S ∉ wr := fun z => far (W.sub _ z)
  have up : ∀ b ∈ wr, b ∈ S :: wr := fun b z => List.mem_cons_of_mem _ z
  intro k
  induction k with
  | zero =>
    intro i s hk hi hst hS done
    obtain rfl : i = n := by omega
    refine codeAny_builtin F.entry_set_update_loop ?_
    rw [Around.under_plainId F.plain_set_update_loop _]
    refine (wpAny_bind (W.done s _ _ hst fun s' hm => ?_) : wpAny _ A.in1 (pyNext (.ref I) >>= _) _ _ s)
    have e : xs.take i = xs := by rw [← hn, List.take_length]
    rw [e] at hS
    obtain ⟨o, es, ep, t, ho, more⟩ := hS
    show wpAny (model prog w) A.in1 (ret .none) _ _ s'
    exact wpAny_pure (done s' (hm.mono up) ⟨o, es, ep, t, hm.heap S _ off ho, more⟩)
  | succ k ih =>
    intro i s hk hi hst hS done
    have lt : i < n := by omega
    refine codeAny_builtin F.entry_set_update_loop ?_
    rw [Around.under_plainId F.plain_set_update_loop _]
    refine (wpAny_bind (W.item i s _ _ lt hst fun v s' hP hst' hm => ?_) : wpAny _ A.in1 (pyNext (.ref I) >>= _) _ _ s)
    obtain ⟨t, rfl⟩ := hval i v hP
    have here : s'.heap.SetOf (strKind prog w) S (fun y => decide (y ∈ xs.take i)) (once (xs.take i)).length := by
      obtain ⟨o, es, ep, tb, ho, more⟩ := hS
      exact ⟨o, es, ep, tb, hm.heap S _ off ho, more⟩
    refine (wpAny_bind (wpAny_holding ?_) : wpAny _ A.in1 (holding [Value.str (xs.getD i Str.empty) t] (setAdd S (.str (xs.getD i Str.empty) t)) >>= _) _ _ s')
    unfold setAdd
    have small : (once (xs.take i)).length + 1 < scanBound := by
      have h1 := once_le (xs.take i)
      have h2 : (xs.take i).length ≤ i := by rw [List.length_take]; omega
      omega
    refine wpAny_holding (wpAny_bind ((strKind prog w).pyHash (k := xs.getD i Str.empty) (strKind_is _ _ _ _) ?_))
    refine wpAny_setAddHashed_of (knd := strKind prog w) (s := { s' with toks := s'.toks + 1 }) (strKind_is _ _ _ _) rfl here small fun h' sb hS2 => ?_
    have hi' : i < xs.length := by omega
    have next : h'.SetOf (strKind prog w) S (fun y => decide (y ∈ xs.take (i + 1))) (once (xs.take (i + 1))).length := by
      refine SetOf_congr hS2 (fun y => ?_) ?_
      · rw [take_succ_at hi']
        by_cases c1 : y ∈ xs.take i
        · simp [c1]
        · by_cases c2 : y = xs.getD i Str.empty
          · simp [c1, c2]
          · have c3 : y ∉ xs.take i ++ [xs.getD i Str.empty] := by
              rw [List.mem_append, List.mem_singleton]
              rintro (z | z)
              · exact c1 z
              · exact c2 z
            rw [decide_eq_false c1, decide_eq_false c2, decide_eq_false c3]
            rfl
      · rw [take_succ_at hi', once_snoc, len_put1]
        by_cases c1 : xs.getD i Str.empty ∈ xs.take i
        · rw [if_pos ((mem_once _).mpr c1), if_pos (decide_eq_true c1)]
        · rw [if_neg (fun z => c1 ((mem_once _).mp z)), if_neg (fun z => c1 (of_decide_eq_true z))]
    refine wpAny_pure ⟨plainId_quiet F.plain_set_update_loop _, ih (i + 1) _ (by omega) lt (W.frame _ s' _ _ hst' (Nat.le_succ _) fun b hb o e => ?_) next fun s'' hm'' hS'' => ?_⟩
    · exact (sb.2 b fun z : b = S => far (z ▸ hb)).trans e
    · exact done s'' (Moved.trans W.gtrans ((hm.mono up).then_heap (Nat.le_succ _) fun b o hb e => (sb.2 b fun z : b = S => hb (z ▸ List.mem_cons_self)).trans e) hm'') hS''
end
/-- the object of a set without members -/
def emp (led : Bool) : Obj := { cls := .type "set", dict := none, data := .set #[] 0 (.fresh 0 0 led) }
section
variable {prog : Program} {w : World} {A : Around} {E : Value → Shared → Prop} {s : Shared}
/-- set(x), x an object of the built-in type T that is walked as W says -/
theorem set_by {T : String} {cx : Addr} {o it : Obj} {items : Array Value} {m : Nat} {xs : List Str} {St : Addr → Nat → Heap → Prop} {Q : Value → Shared → Prop}
    (hh : A.handled = none) (ho : s.heap.get? cx = some o) (hcls : o.cls = .type T) (hdat : o.data = .seq items m)
    (tA : isSubtype (.type T) (.type "set") = pure false) (tB : isSubtype (.type T) (.type "frozenset") = pure false) (tC : (Value.type T == Value.type "dict") = false)
    (hi : StrsAre items.toList xs) (few : xs.length + 1 < scanBound) (hfr : it.isFreed = false)
    (hit : ∀ (s1 : Shared) (Q' : Value → Shared → Prop) (E' : Value → Shared → Prop) (A' : Around), s1.heap.get? cx = some o → Q' (.ref s1.heap.objs.size) { s1 with heap := s1.heap.push it } → wpAny (model prog w) A' (pyIter (.ref cx)) Q' E' s1)
    (W : ∀ A' : Around, A'.handled = none → ∀ I, cx ≠ I → Walks prog w A' I [I, cx] [I] items.size (fun i v => items[i]? = some v) (St I))
    (hSt : ∀ (h : Heap) I, h.get? I = some it → h.get? cx = some o → St I 0 h)
    (h : ∀ (h' : Heap) (tk : Nat), h'.SetOf (strKind prog w) s.heap.objs.size (fun y => decide (y ∈ xs)) (once xs).length → (∀ b o, b < s.heap.objs.size → s.heap.get? b = some o → h'.get? b = some o) → Q (.ref s.heap.objs.size) { s with heap := h', toks := tk }) :
    wpAny (model prog w) A (call (.type "set") [.ref cx]) Q E s := by
  obtain ⟨cc, tl, mro⟩ := F.called_set.mro
  have made := F.called_set.made
  have sub := F.called_set.sub
  have z1 := F.called_set.notType
  have z2 := F.called_set.canCreate
  have z3 := F.typeCall_set_1 (.ref cx)
  refine wpAny_call (codeAny_of_tree ?_)
  show wpAny (model prog w) _ (callAny (.type "set") _) _ _ _
  refine wpAny_pure ⟨Code.quiet_builtin _ (by decide +kernel), codeAny_builtin (b := Builtin.«type.__call__») F.entry_type_call ?_⟩
  rw [Around.under_plain (weight_type_call_type "set" [.ref cx] []) rfl]
  repeat (any_goals (first | assumption | wp_step))
  have nS : ∀ led, (s.heap.push (emp led)).get? s.heap.objs.size = some (emp led) := fun led => Heap.get?_push_size _ rfl
  have old : ∀ led b q, s.heap.get? b = some q → (s.heap.push (emp led)).get? b = some q := fun led b q z => Heap.get?_push_of_some _ z
  refine codeAny_mono (code_set_new_1 (.ref cx) (E := E) (Q₁ := fun obj s₁ => ∃ led : Bool, obj = .ref s.heap.objs.size ∧ s₁ = { s with heap := s.heap.push (emp led) }) (fun led => ⟨led, rfl, rfl⟩)) fun r s₁ hr => ?_
  cases r
  case error e => exact hr
  case ok fl =>
    cases fl
    case ret obj =>
      obtain ⟨led, rfl, rfl⟩ := hr
      have tS : Shared.TypeIs { s with heap := s.heap.push (emp led) } (.ref s.heap.objs.size) "set" := ⟨_, nS led, rfl⟩
      have y1 := F.called_set.init.lookup
      have y2 := F.called_set.init.bind (.ref s.heap.objs.size)
      repeat (any_goals (first | assumption | wp_step))
      refine codeAny_mono (codeAny_call_builtin (R := wants (fun r s₂ => r = .none ∧ ∃ h' tk, s₂ = { s with heap := h', toks := tk } ∧ h'.SetOf (strKind prog w) s.heap.objs.size (fun y => decide (y ∈ xs)) (once xs).length ∧
        (∀ b o, b < s.heap.objs.size → s.heap.get? b = some o → h'.get? b = some o)) E) F.called_set.init.plain F.entry_set_init (check_set_init_1 tS ?_)) fun r₂ s₂ hr₂ => ?_
      · obtain ⟨ocls, odict, odata, oslots⟩ := o
        simp only at hcls hdat
        subst hcls hdat
        have hoc := old led cx _ ho
        unfold Builtin.«set.__init__» noKeywords Builtin.Frozenset.updateFrom
        generalize hPI : pyIter = PI
        wp_walk
        subst hPI
        refine hit _ _ _ _ hoc ?_
        refine wpAny_bind (wpAny_runValue ?_)
        have lt : cx < s.heap.objs.size := Heap.lt_size ho
        have sz : (s.heap.push (emp led)).objs.size = s.heap.objs.size + 1 := Heap.size_push _ _
        have neI : cx ≠ (s.heap.push (emp led)).objs.size := Nat.ne_of_lt (sz ▸ Nat.lt_succ_of_lt lt)
        have neS : s.heap.objs.size ≠ (s.heap.push (emp led)).objs.size := Nat.ne_of_lt (sz ▸ Nat.lt_succ_self _)
        have far : s.heap.objs.size ∉ [(s.heap.push (emp led)).objs.size, cx] := fun z => (List.mem_cons.mp z).elim neS fun z => Nat.ne_of_gt lt (List.mem_singleton.mp z)
        have hn : xs.length = items.size := (StrsAre.len_eq hi).symm.trans Array.length_toList
        have hh3 : A.in1.in1.in1.handled = none := by simp [hh]
        refine loop_in (W _ hh3 _ neI).toS s.heap.objs.size far xs hn (by omega) (fun i v hv => SS.strs_at hi i v (by rw [Array.getElem?_toList]; exact hv)) (items.size - 0) 0 _ (by omega) (Nat.zero_le _) (hSt _ _ (Heap.get?_push_size _ hfr) (Heap.get?_push_of_some _ hoc)) ?_ fun s' hm hS' => ?_
        · exact SetOf_congr ((setObjOf_fresh (knd := strKind prog w) led).setOf (Heap.get?_push_of_some it (nS led)) (by unfold scanBound; omega)) (fun y => by simp) rfl
        · obtain ⟨h', g', d', tk', os'⟩ := s'
          obtain rfl : g' = s.gens := hm.gens
          obtain rfl : d' = s.drawn := hm.drawn
          obtain rfl : os' = s.os := hm.os
          show wpAny (model prog w) _ _ _ _ _
          refine wpAny_pure ?_
          show wpAny (model prog w) _ (ret .none) _ _ _
          refine wpAny_pure ⟨rfl, h', tk', rfl, hS', fun b o hb e => ?_⟩
          exact hm.heap b o (fun z => (List.mem_cons.mp z).elim (fun z => Nat.ne_of_lt hb z) fun z => Nat.ne_of_lt (sz ▸ Nat.lt_succ_of_lt hb) (List.mem_singleton.mp z)) (Heap.get?_push_of_some _ (old led b o e))
      · cases r₂
        case error e => exact hr₂
        case ok fl₂ =>
          cases fl₂
          case ret r =>
            obtain ⟨rfl, h', tk, rfl, u1, u2⟩ := hr₂
            repeat (any_goals (first | assumption | wp_step))
            exact h _ _ u1 u2
          all_goals exact False.elim hr₂
    all_goals exact False.elim hr
end
end K2S

namespace K2S
open PySem PySem.Spec PyProof.Rows L2
section
variable {X : Cx}
/-- len(set(xs)), xs a list or a tuple of texts: how many there are of them -/
def tMany (K : PySem.W.Frag) (ta : TE) : TE := fun σ H Q => ta σ H fun x H1 => ∃ l, ∃ xs : List Str, x = .ref l ∧ (SqL K H1 l (xs.map V.str) ∨ SqT K H1 l (xs.map V.str)) ∧ xs.length < 64 ∧ Q (.int (once xs).length) H1
theorem pe_many {a : Expr} {ta : TE} {p p2 q pos : Pos} (hc : X.calm = true) (hg : Gl X "len") (hm : X.mg "len" = none) (hg2 : Gl X "set") (hm2 : X.mg "set" = none) (ha : PE X a ta)
    (na : starEach [a] X.env = (false, eval a X.env) :: starEach [] X.env := by rfl) : PE X (.Call (.Name "len" p) [.Call (.Name "set" p2) [a] [] q] [] pos) (tMany X.K ta) := by
  refine ⟨fun pins s σ H Q I h => Call_ (ld_blt I hg hm boot_len (callWith_builtin1 (args_cons (Call_ (ld_blt I hg2 hm2 boot_set (callWith_type1 (args_cons (thn (ha.run pins s σ H _ I h) fun v s1 ⟨x, H1, I1, r1, q1⟩ => args_nil ?_) na) na rfl))) rfl) rfl rfl))⟩
  obtain ⟨l, xs, rfl, hq, few, q1⟩ := q1
  cases r1
  have bound : xs.length + 1 < scanBound := by unfold scanBound; omega
  have fin : ∀ (h' : Heap) (tk : Nat), h'.SetOf (strKind X.prog X.w) s1.heap.objs.size (fun y => decide (y ∈ xs)) (once xs).length → (∀ b o, b < s1.heap.objs.size → s1.heap.get? b = some o → h'.get? b = some o) →
      wpAny (model X.prog X.w) X.A (spliced (backTo pos (starEach [] X.env))) (fun vs s₂ => wpAny (model X.prog X.w) X.A (call (.builtin "len") (Value.ref s1.heap.objs.size :: vs)) (EP X pins σ Q) X.xe s₂) X.xe { s1 with heap := h', toks := tk } := fun h' tk hS hk => by
    obtain ⟨o, es, ep, t, ho, hex, hd, _, _, _, hf, hn⟩ := hS
    have I2 : Inv X pins σ H1 { s1 with heap := h', toks := tk } := I1.kept fun b o e => hk b o (Heap.lt_size e) e
    have le := once_le xs
    exact args_nil (call_len_set ho hex hd hf (by rw [hn]; omega) ⟨.int (once xs).length, H1, I2.tok _, ⟨_, by rw [hn]⟩, q1⟩)
  rcases hq with hq | hq
  · obtain ⟨its, r, pl, hz⟩ := I1.list hq
    obtain ⟨o, ho, hcls, m, hd⟩ := pl.isList
    exact set_by (T := "list") (it := { cls := .type "list_iterator", data := .fields #[.ref l, .int 0 0] }) (St := fun I i h => h.IsListIter I l i ∧ h.IsList l its.toArray) (I1.ok.hd hc) ho hcls hd F.sub_list_set F.sub_list_frozenset (by decide) (by simpa using strsAre_of r) bound rfl
      (fun s1 Q' E' A' e k => wpAny_pyIter_list ⟨o, e, hcls, m, hd⟩ k) (fun A' hh I ne => Walks.list hh I l ne its.toArray) (fun h I e1 e2 => ⟨⟨_, e1, rfl, rfl⟩, ⟨o, e2, hcls, m, hd⟩⟩) fin
  · obtain ⟨its, r, pl, hz⟩ := I1.tuple hq
    obtain ⟨o, ho, hcls, m, hd⟩ := pl
    exact set_by (T := "tuple") (it := { cls := .type "tuple_iterator", data := .fields #[.ref l, .int 0 0] }) (St := fun I i h => h.IsTupleIter I l i ∧ h.IsTuple l its.toArray) (I1.ok.hd hc) ho hcls hd F.sub_tuple_set F.sub_tuple_frozenset (by decide) (by simpa using strsAre_of r) bound rfl
      (fun s1 Q' E' A' e k => wpAny_pyIter_tuple ⟨o, e, hcls, m, hd⟩ k) (fun A' hh I ne => Walks.tuple hh I l ne its.toArray) (fun h I e1 e2 => ⟨⟨_, e1, rfl, rfl⟩, ⟨o, e2, hcls, m, hd⟩⟩) fin
end
end K2S

/-! d.update(e), both dicts with texts or ints as keys -/
namespace K2U
open PySem PySem.Spec PyProof.Rows L2
section
variable {X : Cx} {pins : List (Addr × Obj)} {σ : L2.St} {H : Hp} {s : Shared} {a b : Addr} {A : Around} {E : Value → Shared → Prop}
theorem d_upd {kvs more : List (Key × V)} {Q : Value → Shared → Prop} (I : Inv X pins σ H s) (e : H a = some (.dK kvs)) (e2 : Rd H b (.dK more)) (ne : a ≠ b) (hl : kvs.length + more.length ≤ sizeLine)
    (h : ∀ (w' : Value) (s' : Shared), Inv X pins σ (upd H a (.dK (mergeK kvs more))) s' → w' = .none → Q w' s') : wpAny (model X.prog X.w) A (call (.builtin "dict.update") [.ref a, .ref b]) Q E s := by
  obtain ⟨_, hd, vs, rel, dd⟩ := dk_of I.hok e
  obtain ⟨_, hd2, ws, rel2, dd2⟩ := dk_rd I.hok e2
  refine call_meetsIn F.slot_dict_update dd.typeIs F.entry_dict_update (F.args_dict_update_2 _ _) (meets_dict_update (mixKind X.prog X.w) a b ne hd2) ⟨vs, ws, dd, dd2, by rw [← rel.length, ← rel2.length]; exact hl, fun h' dd' _ hs => ?_⟩
  have he : ∃ q, h'.get? a = some q := let ⟨q, _, _, hq, _⟩ := dd'; ⟨q, hq⟩
  exact h _ _ (d_write (t' := s.toks) I (by rw [e]; exact True.intro) hs he (dk_new (Nat.le_trans (length_mergeK more kvs) hl) hd (rel2.merge rel) dd')) rfl
end
def tDUpd (td ty : TE) : TE := fun σ H Q => td σ H fun x H1 => ∃ a, x = .ref a ∧ IsD H1 a ∧ ty σ H1 fun y H2 => ∃ (b : Addr) (kvs more : List (Key × V)), y = .ref b ∧ H2 a = some (.dK kvs) ∧ Rd H2 b (.dK more) ∧ a ≠ b ∧ kvs.length + more.length ≤ sizeLine ∧
  Q .non (upd H2 a (.dK (mergeK kvs more)))
section
variable {X : Cx} {o e : Expr} {td ty : TE} {apos cpos : Pos}
theorem pe_dupd (ho : PE X o td) (he : PE X e ty) (m : M1 X o "update" apos e cpos) : PE X (.Call (.Attribute o "update" apos) [e] [] cpos) (tDUpd td ty) := by
  refine ⟨fun pins s σ H Q I h => wpAny_Call_method m.base m.few m.line F.plainAttrs_dict F.slot_dict_update F.type_dict_update (thn (ho.run pins s σ H _ I h) fun u s1 ⟨x, H1, I1, rx, a, ex, d, q1⟩ => ?_)⟩
  subst ex
  obtain rfl : u = Value.ref a := rx
  obtain ⟨t1, t2, _⟩ := isD_at I1 d
  refine ⟨t1, t2, ?_⟩
  rw [m.trees]
  refine Calls.callWith_builtin rfl (Calls.evalArgs_plain (Calls.spliced_cons (thn (he.run pins s1 σ H1 _ I1 q1) fun iv s2 ⟨y, H2, I2, ry, b, kvs, more, ey, e1, e2, ne, hl, q2⟩ => Calls.spliced_nil ?_)))
  subst ey
  obtain rfl : iv = Value.ref b := ry
  exact d_upd I2 e1 e2 ne hl fun w' s3 I3 ew => by
    subst ew
    exact ⟨.non, _, I3, rfl, q2⟩
end
end K2U

namespace L2
open PySem PySem.Spec PyProof.Rows
/-- x is True, x is False, whatever x is -/
theorem op_isAny {X : Cx} : OpR X (compareOp .Is) (fun x y H Q => ∃ b : Bool, y = .bl b ∧ Q (.bl (decide (x = .bl b))) H) := by
  intro pins s σ H x y v u Q I rx ry h
  obtain ⟨b, rfl, q⟩ := h
  cases (show u = Value.bool b from ry)
  by_cases e : x = .bl b
  · subst e
    cases (show v = Value.bool b from rx)
    exact wpAny_is_self rfl ⟨.bl true, H, I, rfl, by simpa using q⟩
  · have ne : v ≠ Value.bool b := by
      rintro rfl
      cases x with
      | bl a =>
        have z : Value.bool b = Value.bool a := rx
        exact e (by rw [Value.bool.inj z])
      | int i => obtain ⟨t, z⟩ := rx; cases z
      | str i => obtain ⟨t, z⟩ := rx; cases z
      | byt i => obtain ⟨t, z⟩ := rx; cases z
      | flt i => obtain ⟨t, z⟩ := rx; cases z
      | non => cases rx
      | ref a => cases rx
      | ty n => cases rx
    exact wpAny_is_other (by cases x <;> first | (cases rx; rfl) | (obtain ⟨t, rfl⟩ := rx; rfl)) ne ⟨.bl false, H, I, rfl, by simpa [e] using q⟩
end L2

namespace K5S
open PySem L2 K5
abbrev sOneOf : Stmt := top 9
abbrev sConsists : Stmt := top 10
abbrev sIsWord : Stmt := top 11
abbrev sIsNumeral : Stmt := top 12
abbrev sIsSign : Stmt := top 13
abbrev sSortOf : Stmt := top 14
def cLetters : Str := "abcdefghijklmnopqrstuvwxyz"
def cDigits : Str := "0123456789"
def signs : List Str := ["=", ";", ",", "[", "]"]
/-- the constants of the module -/
structure Mod (K : PySem.W.Frag) (mg : Str → Option Value) (aS : Addr) : Prop extends K5.Bare mg where
  letters : ∃ t, mg "LETTERS" = some (.str cLetters t)
  digits : ∃ t, mg "DIGITS" = some (.str cDigits t)
  longest : ∃ t, mg "LONGEST" = some (.int 12 t)
  sgn : mg "SIGNS" = some (.ref aS)
  tup : ∃ (o : Obj) (its : Array Value) (n : Nat), K.lookup aS = some o ∧ o.cls = .type "tuple" ∧ o.data = .seq its n ∧ its.size ≤ sizeLine ∧ Vals (K5S.signs.map V.str) its.toList
theorem Mod.sq {K : PySem.W.Frag} {mg : Str → Option Value} {aS : Addr} (T : Mod K mg aS) (H : Hp) : SqT K H aS (K5S.signs.map V.str) := .inr T.tup
theorem inV_strs (z : Str) (ws : List Str) : inV (.str z) (ws.map V.str) = decide (z ∈ ws) := by
  unfold inV
  induction ws with
  | nil => rfl
  | cons y ws ih =>
    rw [List.map_cons, List.any_cons, ih]
    show (y == z || _) = _
    by_cases h : y = z
    · subst h; simp
    · have h' : ¬ z = y := fun e => h e.symm
      have e : (y == z) = false := by simpa using h
      rw [e, Bool.false_or]
      simp [h']
theorem flat_strs (ws : List Str) : (ws.map V.str).all flatV = true := by
  rw [List.all_map]
  exact List.all_eq_true.mpr fun _ _ => rfl
theorem all_id_map {α : Type} (p : α → Bool) (l : List α) : (l.map p).all id = l.all p := by
  induction l with
  | nil => rfl
  | cons a l ih => rw [List.map_cons, List.all_cons, List.all_cons, ih]; rfl
theorem take_more {α β : Type} (f : α → β) {l : List α} {i : Nat} {c : α} (h : l[i]? = some c) : (l.take i).map f ++ [f c] = (l.take (i + 1)).map f := by
  rw [List.take_add_one, h, List.map_append]
  rfl
theorem cps_at {z : Str} {i : Nat} {c : Nat} (h : z.cps[i]? = some c) : z.cps.toList[i]? = some c := by simpa using h
theorem str_len (z : Str) : z.cps.toList.length = z.length := by simp [Str.length]
/-- 1 to 12 of these signs -/
def inAll (z cs : Str) : Bool := decide (1 ≤ z.length) && decide (z.length ≤ 12) && z.cps.toList.all fun c => decide (c ∈ cs.cps.toList)
/-- a thing that may be a text -/
def Thing (K : PySem.W.Frag) (H : Hp) (v : V) (o : Option Str) : Prop := (∃ z, v = .str z ∧ o = some z ∧ z.length ≤ sizeLine) ∨ (o = none ∧ ∃ t, TyOf K H v t ∧ PySem.W.kitOne K t (.type "str") = some false)
theorem tyOf_same {K : PySem.W.Frag} {H H' : Hp} {v : V} {t : Value} (h : TyOf K H v t) (s : Same H H') : TyOf K H' v t := by
  cases h with
  | non => exact .non
  | bl b => exact .bl b
  | int i => exact .int i
  | str x => exact .str x
  | flt x => exact .flt x
  | lst e => exact .lst (s _ _ e)
  | frz e => exact .frz (s _ _ e)
  | tup e => exact .tup (s _ _ e)
  | dK e => exact .dK (s _ _ e)
  | dT e => exact .dT (s _ _ e)
  | ins e a b c d m => exact .ins (s _ _ e) a b c d m
theorem Thing.same {K : PySem.W.Frag} {H H' : Hp} {v : V} {o : Option Str} (h : Thing K H v o) (s : Same H H') : Thing K H' v o := by
  rcases h with h | ⟨e, t, h, k⟩
  · exact .inl h
  · exact .inr ⟨e, t, tyOf_same h s, k⟩
def spOneOf (K : PySem.W.Frag) : Sp := fun vs H Q _ => ∃ (v : V) (o : Option Str) (a : Addr) (ws : List Str), vs = [v, .ref a] ∧ Thing K H v o ∧ SqT K H a (ws.map V.str) ∧ Q (.bl (o.elim false fun z => decide (z ∈ ws))) H
def spConsists (K : PySem.W.Frag) : Sp := fun vs H Q _ => ∃ (v : V) (o : Option Str) (cs : Str), vs = [v, .str cs] ∧ Thing K H v o ∧ ∀ H', Same H H' → Q (.bl (o.elim false fun z => inAll z cs)) H'
def spWord (K : PySem.W.Frag) : Sp := fun vs H Q _ => ∃ (v : V) (o : Option Str), vs = [v] ∧ Thing K H v o ∧ ∀ H', Same H H' → Q (.bl (o.elim false fun z => inAll z cLetters)) H'
/-- a numeral -/
def numOk (z : Str) : Bool := inAll z cDigits && (decide (z = "0") || !decide ((⟨#[z.cps.toList.headD 0]⟩ : Str) = "0"))
def spNum (K : PySem.W.Frag) : Sp := fun vs H Q _ => ∃ (v : V) (o : Option Str), vs = [v] ∧ Thing K H v o ∧ ∀ H', Same H H' → Q (.bl (o.elim false numOk)) H'
def spSign (K : PySem.W.Frag) : Sp := fun vs H Q _ => ∃ (v : V) (o : Option Str), vs = [v] ∧ Thing K H v o ∧ Q (.bl (o.elim false fun z => decide (z ∈ signs))) H
def sortV (z : Str) : V := if z ∈ signs then .str z else if inAll z cLetters = true then .str "word" else if numOk z = true then .str "number" else .non
def spSort (K : PySem.W.Frag) : Sp := fun vs H Q _ => ∃ (v : V) (o : Option Str), vs = [v] ∧ Thing K H v o ∧ ∀ H', Same H H' → Q (o.elim .non sortV) H'
section
variable {P : Program} {w : World} {K : PySem.W.Frag} {mg : Str → Option Value} {base : Heap} {aS : Addr}
theorem scOneOf : FnScope ["thing", "words"] ["thing", "words"] (defScope sOneOf) := ⟨rfl, rfl, rfl, by decide +kernel, rfl, by decide +kernel, by decide +kernel⟩
theorem ok_oneOf {f : Addr} {fd : FuncData} (F : Fun K "is_one_of" "is_one_of" sOneOf f fd) (T : Mod K mg aS) : FnOk P w K mg base CX0 1 f fd ["thing", "words"] (spOneOf K) := by
  refine F.ok scOneOf (fun vs H Q E h => ?_) (fun cdv A outer s H vs Q E hr h => ?_)
  · obtain ⟨v, o, a, ws, rfl, _⟩ := h
    rfl
  · obtain ⟨v, o, a, ws, rfl, hv, ht, q⟩ := h
    refine ⟨_, pss_one (ps_ret (pe_and (pe_callB call_isi (by rfl) T.isi (by decide +kernel) (pa_cons (pv 0) (pa_cons (pe_bltn (v := .ty "str") (by rfl) T.str (by decide +kernel) rfl) pa_nil)))
      (pe_one (pe_cmpR op_in_seq (pv 0) (pv 1) (by rfl))))), ?_⟩
    rcases hv with ⟨z, rfl, rfl, _⟩ | ⟨rfl, t, ty, kt⟩
    · refine ⟨_, rfl, .str z, .ty "str", .type "str", .type "str", true, rfl, .ty "str", .base (.str z), kit_ty (by decide +kernel), true, rfl, iteT ⟨_, rfl, _, rfl, a, _, rfl, .inr ht, rfl, flat_strs ws, ?_⟩⟩
      show Q (.bl (inV (.str z) (ws.map V.str))) H
      rw [inV_strs]
      exact q
    · exact ⟨_, rfl, v, .ty "str", t, .type "str", false, rfl, .ty "str", .base ty, kt, false, rfl, iteF q⟩
theorem scConsists : FnScope ["thing", "characters", "character"] ["thing", "characters"] (defScope sConsists) := ⟨rfl, rfl, rfl, by decide +kernel, rfl, by decide +kernel, by decide +kernel⟩
theorem ok_consists {f : Addr} {fd : FuncData} (F : Fun K "consists_of" "consists_of" sConsists f fd) (T : Mod K mg aS) : FnOk P w K mg base CX0 1 f fd ["thing", "characters"] (spConsists K) := by
  obtain ⟨t, hL⟩ := T.longest
  refine F.ok scConsists (fun vs H Q E h => ?_) (fun cdv A outer s H vs Q E hr h => ?_)
  · obtain ⟨v, o, cs, rfl, _⟩ := h
    rfl
  · obtain ⟨v, o, cs, rfl, hv, q⟩ := h
    refine ⟨_, C8.pss_cut (ps_if (PW.pt (pw_or (pt_not (pt_val (pe_callB call_isi (by rfl) T.isi (by decide +kernel) (pa_cons (pv 0) (pa_cons (pe_bltn (v := .ty "str") (by rfl) T.str (by decide +kernel) rfl) pa_nil)))))
        (pw_or1 (pt_not (pt_chain op_le op_le pe_int (pe_callB call_len_str (by rfl) T.len PySem.boot_len (pa_cons (pv 0) pa_nil)) (pe_glob (v := .int 12) rfl hL ⟨_, rfl⟩))))))
        (pss_one (ps_ret pe_bl)) pss_nil)
      (pss_one (ps_ret (pe_callB (cr_all rfl) (by rfl) T.all (by decide +kernel) (pa_cons (pe_lc (own := [("character", 2)]) (g := gName 2) (tt := tYes) (by rfl) scConsists.nd (pi_str (pv 0))
        (blkOk_by (own := [("character", 2)]) (N := ["thing", "characters", "character"]) (sc := defScope sConsists) (by decide +kernel)) (fun _ _ _ _ _ => pg_name (i := 2) scConsists.nd rfl (Or.inl rfl))
        (fun _ _ _ _ _ => pts_nil) (fun _ _ _ _ _ => pe_cmpR op_in_sign (pv 2) (pv 1) rfl)) pa_nil)))), ?_⟩
    rcases hv with ⟨z, rfl, rfl, hz⟩ | ⟨rfl, t', ty, kt⟩
    case inr => exact ⟨fun _ _ => False, ⟨_, rfl, v, .ty "str", t', .type "str", false, rfl, .ty "str", .base ty, kt, false, rfl, iteT (iteT (q H (Same.refl H)))⟩, fun _ _ z => z.elim⟩
    replace q : ∀ H', Same H H' → Q (.bl (inAll z cs)) H' := q
    have hi : inAll z cs = (decide (1 ≤ z.length) && (decide (z.length ≤ 12) && z.cps.toList.all fun c => decide (c ∈ cs.cps.toList))) := Bool.and_assoc ..
    refine ⟨fun σ H' => σ = [some (.str z), some (.str cs), none] ∧ H' = H ∧ inAll z cs = z.cps.toList.all fun c => decide (c ∈ cs.cps.toList), ?_, ?_⟩
    · refine ⟨_, rfl, .str z, .ty "str", .type "str", .type "str", true, rfl, .ty "str", .base (.str z), kit_ty (by decide +kernel), true, rfl, ?_⟩
      refine iteF ?_
      refine ⟨_, rfl, z, rfl, hz, _, _, rfl, rfl, _, rfl, ?_⟩
      refine ite2 (fun h1 => ?_) (fun h1 => ?_)
      · have h1' : 1 ≤ z.length := by have := of_decide_eq_true h1; omega
        refine ⟨_, _, rfl, rfl, _, rfl, ?_⟩
        by_cases h2 : (z.length : Int) ≤ 12
        · show if (!decide ((z.length : Int) ≤ 12)) = true then _ else _
          refine iteNS h2 ?_
          have h2' : z.length ≤ 12 := by omega
          exact ⟨rfl, rfl, by rw [hi, decide_eq_true h1', decide_eq_true h2', Bool.true_and, Bool.true_and]⟩
        · show if (!decide ((z.length : Int) ≤ 12)) = true then _ else _
          rw [decide_eq_false h2]
          refine iteT ?_
          have h2' : ¬ z.length ≤ 12 := by omega
          have e := q H (Same.refl H)
          rw [hi, decide_eq_false h2', Bool.false_and, Bool.and_false] at e
          exact e
      · refine ⟨_, rfl, iteT ?_⟩
        have h1' : ¬ 1 ≤ z.length := fun h => h1 (decide_eq_true (by omega))
        have e := q H (Same.refl H)
        rw [hi, decide_eq_false h1', Bool.false_and] at e
        exact e
    · rintro σ H1 ⟨rfl, rfl, e⟩
      refine ⟨_, rfl, z, rfl, fun D hD => ?_⟩
      refine lc_it walk_str (fun i H' => Same H1 H' ∧ H' D = some (.lst ((z.cps.toList.take i).map fun c => V.bl (decide (c ∈ cs.cps.toList))))) ⟨Same.new (Same.refl H1) hD, upd_same⟩ (fun _ _ _ _ => trivial) ?_ ?_
      · rintro i x H2 H3 hi2 ⟨s2, h2⟩ ⟨rfl, c, hc, rfl⟩
        refine ⟨rfl, ?_⟩
        refine ⟨_, rfl, _, rfl, c, cs, rfl, rfl, _, h2, ?_, fun b o hb => ?_, ?_⟩
        · rw [List.length_map, List.length_take, str_len]
          have : i < z.length := hi2
          omega
        · rw [upd_ne (ne_of_none hb hD)]
          exact s2 b o hb
        · rw [upd_same, take_more _ (cps_at hc)]
      · rintro H2 ⟨s2, h2⟩
        refine ⟨D, z.cps.toList.map fun c => decide (c ∈ cs.cps.toList), rfl, SqL.of ?_, ?_⟩
        · rw [h2, List.map_map, List.take_of_length_le (by simp)]
          rfl
        · rw [all_id_map, ← e]
          exact q H2 s2
theorem scWord : FnScope ["thing"] ["thing"] (defScope sIsWord) := ⟨rfl, rfl, rfl, by decide +kernel, rfl, by decide +kernel, by decide +kernel⟩
theorem ok_word {f fC : Addr} {fd fdC : FuncData} (F : Fun K "is_word" "is_word" sIsWord f fd) (T : Mod K mg aS) (FC : Fun K "consists_of" "consists_of" sConsists fC fdC) (bC : Binds K fdC ["thing", "characters"] []) (mC : mg "consists_of" = some (.ref fC)) : FnOk P w K mg base CX0 2 f fd ["thing"] (spWord K) := by
  have GC : FnOk P w K mg base CX0 1 fC fdC ["thing", "characters"] (spConsists K) := ok_consists FC T
  obtain ⟨t, hL⟩ := T.letters
  refine F.ok scWord (fun vs H Q E h => ?_) (fun cdv A outer s H vs Q E hr h => ?_)
  · obtain ⟨v, o, rfl, _⟩ := h
    rfl
  · obtain ⟨v, o, rfl, hv, q⟩ := h
    refine ⟨_, pss_one (ps_ret (pe_call GC hr rfl mC FC.kp bC .nil pass0 (pa_cons (pv 0) (pa_cons (pe_glob (v := .str cLetters) rfl hL ⟨_, rfl⟩) pa_nil)))), ?_⟩
    exact ⟨_, rfl, v, o, cLetters, rfl, hv, q⟩
theorem scNum : FnScope ["thing"] ["thing"] (defScope sIsNumeral) := ⟨rfl, rfl, rfl, by decide +kernel, rfl, by decide +kernel, by decide +kernel⟩
theorem at_zero {z : Str} (h : 1 ≤ z.length) : atI z.cps.toList 0 = some (z.cps.toList.headD 0) := by
  refine atI_nat (j := 0) ?_
  rw [← str_len] at h
  cases e : z.cps.toList with
  | nil => rw [e] at h; exact absurd h (by decide)
  | cons c l => rfl
theorem ok_num {f fC : Addr} {fd fdC : FuncData} (F : Fun K "is_numeral" "is_numeral" sIsNumeral f fd) (T : Mod K mg aS) (FC : Fun K "consists_of" "consists_of" sConsists fC fdC) (bC : Binds K fdC ["thing", "characters"] []) (mC : mg "consists_of" = some (.ref fC)) : FnOk P w K mg base CX0 2 f fd ["thing"] (spNum K) := by
  have GC : FnOk P w K mg base CX0 1 fC fdC ["thing", "characters"] (spConsists K) := ok_consists FC T
  obtain ⟨t, hL⟩ := T.digits
  refine F.ok scNum (fun vs H Q E h => ?_) (fun cdv A outer s H vs Q E hr h => ?_)
  · obtain ⟨v, o, rfl, _⟩ := h
    rfl
  · obtain ⟨v, o, rfl, hv, q⟩ := h
    refine ⟨_, pss_one (ps_ret (pe_and (pe_call GC hr rfl mC FC.kp bC .nil pass0 (pa_cons (pv 0) (pa_cons (pe_glob (v := .str cDigits) rfl hL ⟨_, rfl⟩) pa_nil)))
      (pe_one (pe_or (pe_cmpR op_eq (pv 0) pe_str (nomark _)) (pe_one (pe_cmpR op_ne (pe_ix ix_str (pv 0) pe_int (fun _ _ => rfl)) pe_str (nomark _))))))), ?_⟩
    refine ⟨_, rfl, v, o, cDigits, rfl, hv, fun H1 s1 => ⟨_, rfl, ?_⟩⟩
    rcases hv with ⟨z, rfl, rfl, hz⟩ | ⟨rfl, t', ty, kt⟩
    case inr => exact iteF (q H1 s1)
    have e := q H1 s1
    show if inAll z cDigits = true then _ else _
    replace e : Q (.bl (numOk z)) H1 := e
    unfold numOk at e
    cases ha : inAll z cDigits with
    | false =>
      rw [ha, Bool.false_and] at e
      exact iteF e
    | true =>
      rw [ha, Bool.true_and] at e
      have h1 : 1 ≤ z.length := by
        unfold inAll at ha
        rw [Bool.and_eq_true, Bool.and_eq_true] at ha
        exact of_decide_eq_true ha.1.1
      refine iteT ⟨_, rfl, rfl, _, rfl, ?_⟩
      have ez : decide (V.str z = V.str (("0" : Str))) = decide (z = "0") := by
        by_cases h : z = "0"
        · rw [h]; simp
        · have h' : ¬ V.str z = V.str (("0" : Str)) := fun x => h (V.str.inj x)
          rw [decide_eq_false h, decide_eq_false h']
      show if decide (V.str z = V.str (("0" : Str))) = true then _ else _
      rw [ez]
      cases hz0 : decide (z = "0") with
      | true =>
        rw [hz0, Bool.true_or] at e
        exact iteT e
      | false =>
        rw [hz0, Bool.false_or] at e
        refine iteF ⟨_, rfl, z, _, _, rfl, rfl, hz, at_zero h1, rfl, ?_⟩
        have ey : decide (V.str ⟨#[z.cps.toList.headD 0]⟩ = V.str (("0" : Str))) = decide ((⟨#[z.cps.toList.headD 0]⟩ : Str) = "0") := by
          by_cases h : (⟨#[z.cps.toList.headD 0]⟩ : Str) = "0"
          · rw [h]; simp
          · have h' : ¬ V.str ⟨#[z.cps.toList.headD 0]⟩ = V.str (("0" : Str)) := fun x => h (V.str.inj x)
            rw [decide_eq_false h, decide_eq_false h']
        show Q (V.bl (!decide (V.str ⟨#[z.cps.toList.headD 0]⟩ = V.str (("0" : Str))))) H1
        rw [ey]
        exact e
theorem scSign : FnScope ["thing"] ["thing"] (defScope sIsSign) := ⟨rfl, rfl, rfl, by decide +kernel, rfl, by decide +kernel, by decide +kernel⟩
theorem ok_sign {f fC : Addr} {fd fdC : FuncData} (F : Fun K "is_sign" "is_sign" sIsSign f fd) (T : Mod K mg aS) (FC : Fun K "is_one_of" "is_one_of" sOneOf fC fdC) (bC : Binds K fdC ["thing", "words"] []) (mC : mg "is_one_of" = some (.ref fC)) : FnOk P w K mg base CX0 2 f fd ["thing"] (spSign K) := by
  have GC : FnOk P w K mg base CX0 1 fC fdC ["thing", "words"] (spOneOf K) := ok_oneOf FC T
  refine F.ok scSign (fun vs H Q E h => ?_) (fun cdv A outer s H vs Q E hr h => ?_)
  · obtain ⟨v, o, rfl, _⟩ := h
    rfl
  · obtain ⟨v, o, rfl, hv, q⟩ := h
    refine ⟨_, pss_one (ps_ret (pe_call GC hr rfl mC FC.kp bC .nil pass0 (pa_cons (pv 0) (pa_cons (pe_glob (v := .ref aS) rfl T.sgn rfl) pa_nil)))), ?_⟩
    exact ⟨_, rfl, v, o, aS, signs, rfl, hv, T.sq H, q⟩
theorem scSort : FnScope ["thing"] ["thing"] (defScope sSortOf) := ⟨rfl, rfl, rfl, by decide +kernel, rfl, by decide +kernel, by decide +kernel⟩
theorem ok_sort {f fS fW fN : Addr} {fd fdS fdW fdN : FuncData} (F : Fun K "sort_of" "sort_of" sSortOf f fd)
    (kS : PySem.W.keepIn K (.ref fS) = true) (GS : FnOk P w K mg base CX0 2 fS fdS ["thing"] (spSign K)) (bS : Binds K fdS ["thing"] []) (mS : mg "is_sign" = some (.ref fS))
    (kW : PySem.W.keepIn K (.ref fW) = true) (GW : FnOk P w K mg base CX0 2 fW fdW ["thing"] (spWord K)) (bW : Binds K fdW ["thing"] []) (mW : mg "is_word" = some (.ref fW))
    (kN : PySem.W.keepIn K (.ref fN) = true) (GN : FnOk P w K mg base CX0 2 fN fdN ["thing"] (spNum K)) (bN : Binds K fdN ["thing"] []) (mN : mg "is_numeral" = some (.ref fN)) : FnOk P w K mg base CX0 3 f fd ["thing"] (spSort K) := by
  refine F.ok scSort (fun vs H Q E h => ?_) (fun cdv A outer s H vs Q E hr h => ?_)
  · obtain ⟨v, o, rfl, _⟩ := h
    rfl
  · obtain ⟨v, o, rfl, hv, q⟩ := h
    refine ⟨_, pss_cons (ps_if (pt_val (pe_call GS hr rfl mS kS bS .nil pass0 (pa_cons (pv 0) pa_nil))) (pss_one (ps_ret (pv 0))) pss_nil)
      (pss_cons (ps_if (pt_val (pe_call GW hr rfl mW kW bW .nil pass0 (pa_cons (pv 0) pa_nil))) (pss_one (ps_ret pe_str)) pss_nil)
      (pss_cons (ps_if (pt_val (pe_call GN hr rfl mN kN bN .nil pass0 (pa_cons (pv 0) pa_nil))) (pss_one (ps_ret pe_str)) pss_nil)
      (pss_one (ps_ret pe_non)))), ?_⟩
    rcases id hv with ⟨z, rfl, rfl, hz⟩ | ⟨rfl, t', ty, kt⟩
    case inr => exact ⟨_, rfl, v, none, rfl, hv, _, rfl, iteF ⟨_, rfl, v, none, rfl, hv, fun H1 s1 => ⟨_, rfl, iteF ⟨_, rfl, v, none, rfl, hv.same s1, fun H2 s2 => ⟨_, rfl, iteF (q H2 (s1.trans s2))⟩⟩⟩⟩⟩
    replace q : ∀ H', Same H H' → Q (sortV z) H' := q
    refine ⟨_, rfl, .str z, some z, rfl, hv, _, rfl, ite2 (fun h1 => ⟨_, rfl, ?_⟩) (fun h1 => ?_)⟩
    · have e := q H (Same.refl H)
      unfold sortV at e
      rw [if_pos (of_decide_eq_true h1)] at e
      exact e
    · have h1 : ¬ z ∈ signs := fun x => h1 (decide_eq_true x)
      refine ⟨_, rfl, .str z, some z, rfl, hv, fun H1 s1 => ⟨_, rfl, ite2 (fun h2 => ?_) (fun h2 => ?_)⟩⟩
      · have e := q H1 s1
        unfold sortV at e
        rw [if_neg h1, if_pos (show inAll z cLetters = true from h2)] at e
        exact e
      · refine ⟨_, rfl, .str z, some z, rfl, hv.same s1, fun H2 s2 => ⟨_, rfl, ite2 (fun h3 => ?_) (fun h3 => ?_)⟩⟩
        all_goals
          have e := q H2 (s1.trans s2)
          unfold sortV at e
          rw [if_neg h1, if_neg (show ¬ inAll z cLetters = true from h2)] at e
        · rw [if_pos (show numOk z = true from h3)] at e
          exact e
        · rw [if_neg (show ¬ numOk z = true from h3)] at e
          exact e
end
end K5S

namespace K5S
open PySem L2 K5
theorem line_ge {n : Nat} (h : n ≤ 1000000) : n ≤ sizeLine := Nat.le_trans h (by decide)
def lt (c : Nat) : Bool := decide (97 ≤ c) && decide (c ≤ 122)
def dg (c : Nat) : Bool := decide (48 ≤ c) && decide (c ≤ 57)
def an (c : Nat) : Bool := lt c || dg c
def sg (c : Nat) : Bool := c == 61 || (c == 59 || (c == 44 || (c == 91 || c == 93)))
def bk (c : Nat) : Bool := c == 32 || c == 10
def S (r : List Nat) : Str := ⟨r.toArray⟩
theorem S_cps (r : List Nat) : (S r).cps.toList = r := by simp [S]
theorem S_len (r : List Nat) : (S r).length = r.length := by simp [S, Str.length]
theorem S_of (z : Str) : S z.cps.toList = z := by simp [S]
theorem S_inj {r t : List Nat} (h : S r = S t) : r = t := by rw [← S_cps r, h, S_cps]
theorem str_zero : ("0" : Str) = S [48] := by decide +kernel
theorem str_blank : (" " : Str) = S [32] := by decide +kernel
def lstS (ts : List (List Nat)) : List V := ts.map fun r => V.str (S r)
theorem lstS_add (ts : List (List Nat)) (r : List Nat) : lstS ts ++ [V.str (S r)] = lstS (ts ++ [r]) := by unfold lstS; rw [List.map_append]; rfl
theorem Same.put {H H1 : Hp} {l : Addr} {o : HO} (a : Same H H1) (hl : H l = none) : Same H (upd H1 l o) := fun b u h => by
  rw [upd_ne (ne_of_none h hl)]
  exact a b u h
theorem eq_strB (x y : Str) : decide (V.str x = V.str y) = decide (x = y) := by
  by_cases h : x = y
  · rw [h]; simp
  · have : ¬ V.str x = V.str y := fun z => h (V.str.inj z)
    rw [decide_eq_false h, decide_eq_false this]
theorem join_none : ∀ ys : List (List Nat), TL.joinL [] ys = ys.flatten
  | [] => rfl
  | [y] => by simp [TL.joinL]
  | y :: z :: r => by
    show y ++ ([] ++ TL.joinL [] (z :: r)) = _
    rw [join_none (z :: r)]
    simp
theorem glue (ys : List (List Nat)) : Txt.join (S []) (ys.map S) = S ys.flatten := by
  rw [← join_none]
  exact SX.join_S [] ys
theorem flat_ones (rs : List Nat) : (rs.map fun c => [c]).flatten = rs := by
  induction rs with
  | nil => rfl
  | cons c rs ih => simp [ih]
def onesV (rs : List Nat) : List V := rs.map fun c => V.str (S [c])
theorem onesV_add (rs : List Nat) (c : Nat) : onesV rs ++ [V.str (S [c])] = onesV (rs ++ [c]) := by unfold onesV; rw [List.map_append]; rfl
theorem onesV_eq (rs : List Nat) : onesV rs = ((rs.map fun c => [c]).map S).map V.str := by unfold onesV; rw [List.map_map, List.map_map]; rfl
theorem ones_sum (rs : List Nat) : (((rs.map fun c => [c]).map S).map (·.length)).sum = rs.length := by
  induction rs with
  | nil => rfl
  | cons c rs ih =>
    rw [List.map_cons, List.map_cons, List.map_cons, List.sum_cons, ih, S_len, List.length_cons]
    simp; omega
theorem at_sign {z : Str} {l : List Nat} (hz : z.cps.toList = l) {p : Nat → Bool} (hp : l.all p = true) {r : Int} (h0 : 0 ≤ r) (h1 : r < (l.length : Int)) : ∃ c, atI z.cps.toList r = some c ∧ p c = true := by
  have hr : r.toNat < l.length := by omega
  refine ⟨l[r.toNat], ?_, List.all_eq_true.mp hp _ (List.getElem_mem hr)⟩
  have e : atI l ((r.toNat : Nat) : Int) = some l[r.toNat] := atI_nat (List.getElem?_eq_getElem hr)
  rw [show ((r.toNat : Nat) : Int) = r by omega] at e
  rw [hz]
  exact e
theorem S_app (a b : List Nat) : S a ++ S b = S (a ++ b) := TL.ext_tl (by rw [TL.tl_append]; simp [S, TL.tl])
theorem str_none : ("" : Str) = S [] := by decide +kernel
theorem all_lt : ([97, 98, 99, 100, 101, 102, 103, 104, 105, 106, 107, 108, 109, 110, 111, 112, 113, 114, 115, 116, 117, 118, 119, 120, 121, 122] : List Nat).all lt = true := by decide
theorem all_dg : ([48, 49, 50, 51, 52, 53, 54, 55, 56, 57] : List Nat).all dg = true := by decide
def Ones (p D : Addr) (H2 : Hp) (c : Nat) (t : Nat → Bool) (i : Nat) (H' : Hp) : Prop := ∃ rs : List Nat, rs.length = i ∧ rs.all t = true ∧ H' D = some (.lst (onesV rs)) ∧ Keep p H2 H' ∧ Pool H' p (c + i)
theorem Ones.next {p D : Addr} {H2 H' H'' : Hp} {c i n : Nat} {t : Nat → Bool} (O : Ones p D H2 c t i H') (hD : H2 D = none) (hDp : D ≠ p) (hk : Keep p H' H'') (hp : Pool H'' p (c + i + 1)) {d : Nat} (hd : t d = true) (hi : i < n) (hn : n ≤ 1000) :
    ∃ acc, H'' D = some (.lst acc) ∧ acc.length < sizeLine ∧ Ones p D H2 c t (i + 1) (upd H'' D (.lst (acc ++ [V.str ⟨#[d]⟩]))) := by
  obtain ⟨rs, h1, h2, h3, h4, h5⟩ := O
  refine ⟨onesV rs, hk _ _ hDp h3, ?_, rs ++ [d], by simp [h1], by simp [h2, hd], ?_, ?_, ?_⟩
  · unfold onesV
    rw [List.length_map, h1]
    exact Nat.lt_of_lt_of_le hi (Nat.le_trans hn (by decide))
  · rw [upd_same]
    exact congrArg (fun x => some (HO.lst x)) (onesV_add rs d)
  · intro b o n e
    rw [upd_ne (ne_of_none e hD)]
    exact hk b o n (h4 b o n e)
  · exact hp.other (Ne.symm hDp)
theorem cps_lits : ("abcdefghijklmnopqrstuvwxyz" : Str).cps.toList = [97, 98, 99, 100, 101, 102, 103, 104, 105, 106, 107, 108, 109, 110, 111, 112, 113, 114, 115, 116, 117, 118, 119, 120, 121, 122] := by decide +kernel
theorem eq_noneB (r : List Nat) : decide (V.str (S r) = V.str ("" : Str)) = decide (r = []) := by
  rw [eq_strB, str_none]
  by_cases h : r = []
  · rw [h]; simp
  · rw [decide_eq_false h]
    exact decide_eq_false fun z => h (S_inj z)
theorem lst_short {ts : List (List Nat)} {n : Nat} (h : ts.length ≤ n) (hn : n ≤ 1000000) : (lstS ts).length < sizeLine := by
  unfold lstS
  rw [List.length_map]
  exact Nat.lt_of_le_of_lt (Nat.le_trans h hn) (by decide)
theorem pool_ne {H' : Hp} {p D : Addr} {n : Nat} (a : Pool H' p n) (h : H' D = none) : D ≠ p := by
  obtain ⟨_, _, _, e, _⟩ := a
  exact Ne.symm (ne_of_none e h)
theorem Keep.free {p D : Addr} {H H1 : Hp} (k : Keep p H H1) (n : D ≠ p) (h : H1 D = none) : H D = none := by
  cases e : H D with
  | none => rfl
  | some o =>
    rw [k D o n e] at h
    cases h
theorem Same.keep {p : Addr} {H H1 : Hp} (s : Same H H1) : Keep p H H1 := fun b o _ e => s b o e
theorem Pool.same {H H1 : Hp} {p : Addr} {c : Nat} (a : Pool H p c) (s : Same H H1) : Pool H1 p c := by
  obtain ⟨g, m, k, h, r⟩ := a
  exact ⟨g, m, k, s _ _ h, r⟩
theorem lst_at {rs : List (List Nat)} {i : Nat} {y : V} (h : (lstS rs)[i]? = some y) : ∃ r, rs[i]? = some r ∧ y = V.str (S r) := by
  unfold lstS at h
  rw [List.getElem?_map] at h
  cases e : rs[i]? with
  | none => rw [e] at h; cases h
  | some r => rw [e] at h; exact ⟨r, rfl, (Option.some.inj h).symm⟩
theorem Same.free {H H1 : Hp} {T' : Addr} (s : Same H H1) (h : H1 T' = none) : H T' = none := by
  cases e : H T' with
  | none => rfl
  | some o =>
    rw [s _ _ e] at h
    cases h
theorem Keep.same {p : Addr} {H H1 H2 : Hp} (k : Keep p H1 H2) (s : Same H H1) (hp : H p = none) : Same H H2 := fun b o e => k b o (ne_of_none e hp) (s b o e)
end K5S

namespace L2
open PySem PySem.Spec PyProof.Rows
/-- one way of walking or another -/
theorem pi_or {X : Cx} {tg l : Expr} {t1 t2 : TI} (h1 : PI X tg l t1) (h2 : PI X tg l t2) : PI X tg l (fun σ H R => t1 σ H R ∨ t2 σ H R) :=
  ⟨fun pins s σ H R I h => h.elim (h1.run pins s σ H R I) (h2.run pins s σ H R I)⟩
end L2
namespace K5
open PySem L2
/-- a def of the program that lets no error out, with all that its call asks -/
abbrev Fn (P : Program) (w : World) (K : PySem.W.Frag) (mg : Str → Option Value) (base : Heap) (n : Nat) (x : Str) (ps : List Str) (sp : Sp) : Prop :=
  ∃ f fd, PySem.W.keepIn K (.ref f) = true ∧ FnOk P w K mg base CX0 n f fd ps sp ∧ Binds K fd ps [] ∧ mg x = some (.ref f)
theorem pe_fn {X : Cx} {n : Nat} {x : Str} {ps : List Str} {sp : Sp} {p pos : Pos} {e : Expr} {es : List Expr} {t : TA} (F : Fn X.prog X.w X.K X.mg X.base n x ps sp) (hr : Room n X.A) (hg : Gl X x) (ha : PA X (e :: es) t)
    (hdb : (x == ("__debug__" : Str)) = false := by decide) (he : starEach (e :: es) X.env = (false, eval e X.env) :: starEach es X.env := by rfl) (hpl : (backTo pos (starEach es X.env)).any (·.1) = false := by rfl) :
    PE X (.Call (.Name x p) (e :: es) [] pos) (tCall sp [] (fun _ _ _ => False) t) := by
  obtain ⟨f, fd, k, G, b, m⟩ := F
  exact pe_call G hr hg m k b .nil pass0 ha hdb he hpl
/-- the text that data are -/
def strD : PyData → Option Str
  | .str z => some z
  | _ => none
def inD (ws : List Str) (d : PyData) : Bool := (strD d).elim false fun z => decide (z ∈ ws)
def isNone : PyData → Bool
  | .none => true
  | _ => false
/-- the members of a list or a tuple -/
def seqD : PyData → Option (List PyData)
  | .list ds => some ds
  | .tuple ds => some ds
  | _ => none
theorem dp_thing {K : PySem.W.Frag} {H : Hp} {v : V} {d : PyData} (h : Dp K H v d) : Thing K H v (strD d) := by
  cases h with
  | str x => exact .inl ⟨x, rfl, rfl⟩
  | non => exact .inr ⟨rfl, _, .base .non, kit_ty (by decide +kernel)⟩
  | bl b => exact .inr ⟨rfl, _, .base (.bl b), kit_ty (by decide +kernel)⟩
  | int i => exact .inr ⟨rfl, _, .base (.int i), kit_ty (by decide +kernel)⟩
  | lst h1 _ =>
    rcases h1 with (h1 | ⟨o, h1⟩) | ⟨o, its, n, h1, h2, _⟩
    · exact .inr ⟨rfl, _, .base (.lst h1), kit_ty (by decide +kernel)⟩
    · exact .inr ⟨rfl, _, .base (.frz h1), kit_ty (by decide +kernel)⟩
    · exact .inr ⟨rfl, _, .kList h1 h2, kit_ty (by decide +kernel)⟩
  | tup h1 _ =>
    rcases h1 with (h1 | ⟨o, h1⟩) | ⟨o, its, n, h1, h2, _⟩
    · exact .inr ⟨rfl, _, .base (.tup h1), kit_ty (by decide +kernel)⟩
    · exact .inr ⟨rfl, _, .fTuple h1, kit_ty (by decide +kernel)⟩
    · exact .inr ⟨rfl, _, .kTuple h1 h2, kit_ty (by decide +kernel)⟩
theorem sql_ty {K : PySem.W.Frag} {H : Hp} {a : Addr} {xs : List V} (h : SqL K H a xs) : TyX K H (.ref a) (.type "list") := by
  rcases h with (h1 | ⟨o, h1⟩) | ⟨o, its, n, h1, h2, _⟩
  · exact .base (.lst h1)
  · exact .base (.frz h1)
  · exact .kList h1 h2
theorem sqt_ty {K : PySem.W.Frag} {H : Hp} {a : Addr} {xs : List V} (h : SqT K H a xs) : TyX K H (.ref a) (.type "tuple") := by
  rcases h with (h1 | ⟨o, h1⟩) | ⟨o, its, n, h1, h2, _⟩
  · exact .base (.tup h1)
  · exact .fTuple h1
  · exact .kTuple h1 h2
/-- the class of data -/
def tyD : PyData → String
  | .none => "NoneType"
  | .bool _ => "bool"
  | .int _ => "int"
  | .str _ => "str"
  | .list _ => "list"
  | .tuple _ => "tuple"
  | .dict _ => "dict"
theorem dp_ty {K : PySem.W.Frag} {H : Hp} {v : V} {d : PyData} (h : Dp K H v d) : TyX K H v (.type (tyD d)) := by
  cases h with
  | str x => exact .base (.str x)
  | non => exact .base .non
  | bl b => exact .base (.bl b)
  | int i => exact .base (.int i)
  | lst h1 _ => exact sql_ty h1
  | tup h1 _ => exact sqt_ty h1
def isStr : PyData → Bool
  | .str _ => true
  | _ => false
def isTup : PyData → Bool
  | .tuple _ => true
  | _ => false
def isI : PyData → Bool
  | .int _ => true
  | .bool _ => true
  | _ => false
def isB : PyData → Bool
  | .bool _ => true
  | _ => false
theorem kit_str {K : PySem.W.Frag} {H : Hp} {v : V} {d : PyData} (h : Dp K H v d) : PySem.W.kitOne K (.type (tyD d)) (.type "str") = some (isStr d) := by
  cases h with
  | str x => exact kit_ty (show kitB "str" "str" = some true by decide +kernel)
  | non => exact kit_ty (show kitB "NoneType" "str" = some false by decide +kernel)
  | bl b => exact kit_ty (show kitB "bool" "str" = some false by decide +kernel)
  | int i => exact kit_ty (show kitB "int" "str" = some false by decide +kernel)
  | lst h1 _ => exact kit_ty (show kitB "list" "str" = some false by decide +kernel)
  | tup h1 _ => exact kit_ty (show kitB "tuple" "str" = some false by decide +kernel)
theorem kit_tup {K : PySem.W.Frag} {H : Hp} {v : V} {d : PyData} (h : Dp K H v d) : PySem.W.kitOne K (.type (tyD d)) (.type "tuple") = some (isTup d) := by
  cases h with
  | str x => exact kit_ty (show kitB "str" "tuple" = some false by decide +kernel)
  | non => exact kit_ty (show kitB "NoneType" "tuple" = some false by decide +kernel)
  | bl b => exact kit_ty (show kitB "bool" "tuple" = some false by decide +kernel)
  | int i => exact kit_ty (show kitB "int" "tuple" = some false by decide +kernel)
  | lst h1 _ => exact kit_ty (show kitB "list" "tuple" = some false by decide +kernel)
  | tup h1 _ => exact kit_ty (show kitB "tuple" "tuple" = some true by decide +kernel)
theorem kit_int {K : PySem.W.Frag} {H : Hp} {v : V} {d : PyData} (h : Dp K H v d) : PySem.W.kitOne K (.type (tyD d)) (.type "int") = some (isI d) := by
  cases h with
  | str x => exact kit_ty (show kitB "str" "int" = some false by decide +kernel)
  | non => exact kit_ty (show kitB "NoneType" "int" = some false by decide +kernel)
  | bl b => exact kit_ty (show kitB "bool" "int" = some true by decide +kernel)
  | int i => exact kit_ty (show kitB "int" "int" = some true by decide +kernel)
  | lst h1 _ => exact kit_ty (show kitB "list" "int" = some false by decide +kernel)
  | tup h1 _ => exact kit_ty (show kitB "tuple" "int" = some false by decide +kernel)
theorem kit_bool {K : PySem.W.Frag} {H : Hp} {v : V} {d : PyData} (h : Dp K H v d) : PySem.W.kitOne K (.type (tyD d)) (.type "bool") = some (isB d) := by
  cases h with
  | str x => exact kit_ty (show kitB "str" "bool" = some false by decide +kernel)
  | non => exact kit_ty (show kitB "NoneType" "bool" = some false by decide +kernel)
  | bl b => exact kit_ty (show kitB "bool" "bool" = some true by decide +kernel)
  | int i => exact kit_ty (show kitB "int" "bool" = some false by decide +kernel)
  | lst h1 _ => exact kit_ty (show kitB "list" "bool" = some false by decide +kernel)
  | tup h1 _ => exact kit_ty (show kitB "tuple" "bool" = some false by decide +kernel)
/-- data of texts alone are texts -/
theorem all_texts {K : PySem.W.Frag} {H : Hp} : ∀ {ds : List PyData} {vs : List V}, DpAll K H vs ds → (∀ d ∈ ds, isStr d = true) → vs = (ds.filterMap strD).map V.str ∧ (ds.filterMap strD).length = ds.length
  | [], _, h, _ => by
    cases h
    exact ⟨rfl, rfl⟩
  | d :: ds, _, h, e => by
    cases h with
    | cons h1 h2 =>
      obtain ⟨i1, i2⟩ := all_texts h2 fun x hx => e x (List.mem_cons_of_mem _ hx)
      have e := e d List.mem_cons_self
      cases h1 with
      | str x =>
        rw [i1]
        exact ⟨rfl, congrArg (· + 1) i2⟩
      | non => cases e
      | bl b => cases e
      | int i => cases e
      | lst _ _ => cases e
      | tup _ _ => cases e
theorem kit_seq {K : PySem.W.Frag} {t : String} {b1 b2 : Bool} (h1 : kitB t "tuple" = some b1) (h2 : kitB t "list" = some b2) : PySem.W.kitAny K (.type t) [.type "tuple", .type "list"] = some (b1 || b2) := by
  refine kitAny_cons (kit_ty h1) (fun e => ?_) (fun e => by rw [e]; rfl)
  rw [e, Bool.false_or]
  refine kitAny_cons (kit_ty h2) (fun e => ?_) (fun e => e)
  rw [e]
  rfl
/-- a list or a tuple, with its data -/
def RowD (K : PySem.W.Frag) (H : Hp) (a : Addr) (xs : List V) (d : PyData) (ds : List PyData) : Prop := (SqL K H a xs ∧ d = .list ds) ∨ (SqT K H a xs ∧ d = .tuple ds)
theorem seq_or {K : PySem.W.Frag} {H : Hp} {v : V} {d : PyData} (h : Dp K H v d) : (∃ a xs ds, v = .ref a ∧ DpAll K H xs ds ∧ RowD K H a xs d ds) ∨ (seqD d = none ∧ ∃ t, (∀ H', TyX K H' v (.type t)) ∧ kitB t "tuple" = some false ∧ kitB t "list" = some false) := by
  cases h with
  | str x => exact .inr ⟨rfl, _, fun _ => .base (.str x), by decide +kernel, by decide +kernel⟩
  | non => exact .inr ⟨rfl, _, fun _ => .base .non, by decide +kernel, by decide +kernel⟩
  | bl b => exact .inr ⟨rfl, _, fun _ => .base (.bl b), by decide +kernel, by decide +kernel⟩
  | int i => exact .inr ⟨rfl, _, fun _ => .base (.int i), by decide +kernel, by decide +kernel⟩
  | lst h1 h2 => exact .inl ⟨_, _, _, rfl, h2, .inl ⟨h1, rfl⟩⟩
  | tup h1 h2 => exact .inl ⟨_, _, _, rfl, h2, .inr ⟨h1, rfl⟩⟩
theorem RowD.seq {K : PySem.W.Frag} {H : Hp} {a : Addr} {xs : List V} {d : PyData} {ds : List PyData} (h : RowD K H a xs d ds) : seqD d = some ds := by
  rcases h with ⟨_, rfl⟩ | ⟨_, rfl⟩ <;> rfl
theorem RowD.ty {K : PySem.W.Frag} {H : Hp} {a : Addr} {xs : List V} {d : PyData} {ds : List PyData} (h : RowD K H a xs d ds) : ∃ t, TyX K H (.ref a) t ∧ PySem.W.kitAny K t [.type "tuple", .type "list"] = some true := by
  rcases h with ⟨h, _⟩ | ⟨h, _⟩
  · exact ⟨_, sql_ty h, kit_seq (b1 := false) (b2 := true) (by decide +kernel) (by decide +kernel)⟩
  · exact ⟨_, sqt_ty h, kit_seq (b1 := true) (b2 := false) (by decide +kernel) (by decide +kernel)⟩
theorem RowD.same {K : PySem.W.Frag} {H H' : Hp} {a : Addr} {xs : List V} {d : PyData} {ds : List PyData} (h : RowD K H a xs d ds) (s : Same H H') : RowD K H' a xs d ds := by
  rcases h with ⟨h, e⟩ | ⟨h, e⟩
  · exact .inl ⟨s.seq h, e⟩
  · exact .inr ⟨SqT.ext h s, e⟩
theorem RowD.len {K : PySem.W.Frag} {H : Hp} {a : Addr} {xs : List V} {d : PyData} {ds : List PyData} (h : RowD K H a xs d ds) : LenV K (.ref a) H xs.length := by
  rcases h with ⟨h, _⟩ | ⟨h, _⟩
  · exact .inl ⟨_, h, rfl⟩
  · exact .inr ⟨_, h, rfl⟩
theorem RowD.or {K : PySem.W.Frag} {H : Hp} {a : Addr} {xs : List V} {d : PyData} {ds : List PyData} (h : RowD K H a xs d ds) : SqL K H a xs ∨ SqT K H a xs := by
  rcases h with ⟨h, _⟩ | ⟨h, _⟩
  · exact .inl h
  · exact .inr h
theorem DpAll.at2 {K : PySem.W.Frag} {H : Hp} : ∀ {ds : List PyData} {vs : List V} {k : Nat} {v : V}, DpAll K H vs ds → vs[k]? = some v → ∃ d, ds[k]? = some d ∧ Dp K H v d
  | [], _, _, _, h, e => by
    cases h
    cases e
  | d :: ds, _, 0, _, h, e => by
    cases h with
    | cons h1 h2 => exact ⟨d, rfl, (Option.some.inj e) ▸ h1⟩
  | d :: ds, _, k + 1, _, h, e => by
    cases h with
    | cons h1 h2 => exact DpAll.at2 (ds := ds) (k := k) h2 e
/-- at a stands a tuple of texts of the written part -/
def TupW (K : PySem.W.Frag) (a : Addr) (ws : List Str) : Prop := ∃ (o : Obj) (its : Array Value) (n : Nat), K.lookup a = some o ∧ o.cls = .type "tuple" ∧ o.data = .seq its n ∧ its.size ≤ sizeLine ∧ Vals (ws.map V.str) its.toList
theorem TupW.sq {K : PySem.W.Frag} {a : Addr} {ws : List Str} (h : TupW K a ws) (H : Hp) : SqT K H a (ws.map V.str) := .inr h
/-! what the program says of data -/
def lenD : PyData → Bool
  | .str z => decide (z.length ≤ 400) && PyData.strOk z
  | _ => true
def fine (d : PyData) : Bool := lenD d && (seqD d).elim true fun ds => decide (ds.length ≤ 400) && ds.all lenD
theorem lenD_len {z : Str} (h : lenD (.str z) = true) : z.length ≤ 400 := of_decide_eq_true (Bool.and_eq_true_iff.mp h).1
theorem lenD_ok {z : Str} (h : lenD (.str z) = true) : PyData.strOk z = true := (Bool.and_eq_true_iff.mp h).2
theorem lenD_of {z : Str} (h : z.length ≤ 400) (k : PyData.strOk z = true) : lenD (.str z) = true := Bool.and_eq_true_iff.mpr ⟨decide_eq_true h, k⟩
theorem strOk_app (a b : Str) : PyData.strOk (a ++ b) = (PyData.strOk a && PyData.strOk b) := by
  unfold PyData.strOk
  rw [← Array.all_toList, ← Array.all_toList, ← Array.all_toList]
  have e : (a ++ b).cps.toList = a.cps.toList ++ b.cps.toList := TL.tl_append a b
  rw [e, List.all_append]
theorem fine_len {d : PyData} (h : fine d = true) : lenD d = true := (Bool.and_eq_true_iff.mp h).1
theorem fine_seq {d : PyData} {ds : List PyData} (h : fine d = true) (e : seqD d = some ds) : ds.length ≤ 400 ∧ ∀ x ∈ ds, lenD x = true := by
  have h := (Bool.and_eq_true_iff.mp h).2
  rw [e] at h
  have h := Bool.and_eq_true_iff.mp h
  exact ⟨of_decide_eq_true h.1, fun x hx => List.all_eq_true.mp h.2 x hx⟩
def cLetters : Str := "abcdefghijklmnopqrstuvwxyz"
def inAll (z cs : Str) : Bool := decide (1 ≤ z.length) && decide (z.length ≤ 12) && z.cps.toList.all fun c => decide (c ∈ cs.cps.toList)
def wordD (d : PyData) : Bool := (strD d).elim false fun z => inAll z cLetters
def pairB (z : Str) : Bool := decide ((Txt.partition z " ").2.1 = " ") && (inAll (Txt.partition z " ").1 cLetters && inAll (Txt.partition z " ").2.2 cLetters)
def pairD (d : PyData) : Bool := (strD d).elim false pairB
def itemD (d : PyData) : Bool := wordD d || pairD d
def intD : PyData → Bool
  | .int _ => true
  | _ => false
def numD : PyData → Bool
  | .int i => decide (0 ≤ i) && decide (i < 1000000000000)
  | _ => false
def listD : PyData → Bool
  | .tuple ds => ds.all itemD
  | _ => false
def valueD (d : PyData) : Bool := isNone d || (wordD d || (numD d || listD d))
def textsD (d : PyData) : List Str := ((seqD d).getD []).filterMap strD
def areW (m : Nat) (d : PyData) : Bool := (seqD d).elim false fun ds => decide (ds.length ≤ m) && (ds.all wordD && decide (ds.filterMap strD).Nodup)
def fitsK (k : Str) (ws : List Str) (d : PyData) : Bool := if k = "choice" then inD ws d else if k = "word" then wordD d else if k = "number" then numD d else listD d
def smallD : PyData → Bool
  | .int i => decide (i < 1000000000)
  | .tuple ds => decide (ds.length ≤ 8) && ds.all wordD
  | _ => true
theorem wordD_str {d : PyData} (h : wordD d = true) : isStr d = true := by
  cases d <;> first | rfl | cases h
def spL (K : PySem.W.Frag) (g : PyData → Bool) : Sp := fun vs H Q _ => ∃ (v : V) (d : PyData), vs = [v] ∧ Dp K H v d ∧ lenD d = true ∧ ∀ H', Same H H' → Q (.bl (g d)) H'
def spF (K : PySem.W.Frag) (g : PyData → Bool) : Sp := fun vs H Q _ => ∃ (v : V) (d : PyData), vs = [v] ∧ Dp K H v d ∧ fine d = true ∧ ∀ H', Same H H' → Q (.bl (g d)) H'
/-- the constants -/
structure Mod (mg : Str → Option Value) : Prop extends K5.Bare mg where
  letters : ∃ t, mg "LETTERS" = some (.str cLetters t)
  longest : ∃ t, mg "LONGEST" = some (.int 12 t)
  numbers : ∃ t, mg "NUMBERS" = some (.int 1000000000000 t)
theorem cps_at {z : Str} {i : Nat} {c : Nat} (h : z.cps[i]? = some c) : z.cps.toList[i]? = some c := by simpa using h
theorem str_len (z : Str) : z.cps.toList.length = z.length := by simp [Str.length]
end K5

namespace K5
open PySem L2 K5S
abbrev sLook : Stmt := top 17
def txtD : PyData → Option Str
  | .str z => some z
  | _ => none
/-- a part of a look, or of what is none: no tuple, no list -/
def partE : PyData → Prop
  | .str z => z.length ≤ sizeLine
  | .list _ => False
  | .tuple _ => False
  | .dict _ => False
  | _ => True
theorem thing_of {K : PySem.W.Frag} {H : Hp} {v : V} {d : PyData} (h : Dp K H v d) (e : partE d) : K5S.Thing K H v (txtD d) := by
  have kt := kit_str h
  cases h with
  | str x => exact .inl ⟨x, rfl, rfl, e⟩
  | non => exact .inr ⟨rfl, _, .non, kt⟩
  | bl b => exact .inr ⟨rfl, _, .bl b, kt⟩
  | int i => exact .inr ⟨rfl, _, .int i, kt⟩
  | lst h1 h2 => exact e.elim
  | tup h1 h2 => exact e.elim
def tokB (z : Str) : Bool := decide (sortV z ≠ .non)
def tokD (d : PyData) : Bool := (txtD d).elim false tokB
/-- a pair of unlike tokens -/
def lookD : PyData → Bool
  | .tuple [a, b] => tokD a && (tokD b && decide (txtD a ≠ txtD b))
  | _ => false
theorem sort_none {d : PyData} : decide ((txtD d).elim .non sortV = V.non) = !tokD d := by
  unfold tokD
  cases txtD d with
  | none => rfl
  | some z =>
    show decide (sortV z = V.non) = !decide (sortV z ≠ V.non)
    by_cases h : sortV z = V.non
    · rw [decide_eq_true h, decide_eq_false (fun n => n h)]; rfl
    · rw [decide_eq_false h, decide_eq_true h]; rfl
theorem tok_str {K : PySem.W.Frag} {H : Hp} {v : V} {d : PyData} (h : Dp K H v d) (t : tokD d = true) : ∃ z, d = .str z ∧ v = .str z := by
  cases h with
  | str x => exact ⟨x, rfl, rfl⟩
  | non => cases t
  | bl b => cases t
  | int i => cases t
  | lst h1 h2 => cases t
  | tup h1 h2 => cases t
theorem look_len {ds : List PyData} (h : ds.length ≠ 2) : lookD (.tuple ds) = false := by
  match ds, h with
  | [], _ => rfl
  | [_], _ => rfl
  | [_, _], h => exact absurd rfl h
  | _ :: _ :: _ :: _, _ => rfl
def spLook (K : PySem.W.Frag) : Sp := fun vs H Q _ => ∃ (v : V) (d : PyData), vs = [v] ∧ Dp K H v d ∧ (∀ ds, d = .tuple ds → ∀ e ∈ ds, partE e) ∧ ∀ H', Same H H' → Q (.bl (lookD d)) H'
section
variable {P : Program} {w : World} {K : PySem.W.Frag} {mg : Str → Option Value} {base : Heap} {aS : Addr}
theorem scLook : FnScope ["thing"] ["thing"] (defScope sLook) := ⟨rfl, rfl, rfl, by decide +kernel, rfl, by decide +kernel, by decide +kernel⟩
theorem ok_look {f : Addr} {fd : FuncData} (F : Fun K "is_look" "is_look" sLook f fd) (T : Bare mg) (GS : Fn P w K mg base 3 "sort_of" ["thing"] (spSort K)) : FnOk P w K mg base CX0 4 f fd ["thing"] (spLook K) := by
  refine F.ok scLook (fun vs H Q E h => ?_) (fun cdv A outer s0 H vs Q E hr h => ?_)
  · obtain ⟨v, d, rfl, _⟩ := h
    rfl
  · obtain ⟨v, d, rfl, hd, pe, q⟩ := h
    have hr3 : Room 3 _ := hr
    refine ⟨_, (C8.pss_cut (ps_if (PW.pt (pw_or (pt_not (pt_val (pe_callB call_isi (by rfl) T.isi (by decide +kernel) (pa_cons (pv 0) (pa_cons (pe_bltn (v := .ty "tuple") (by rfl) T.tuple (by decide +kernel) rfl) pa_nil))))) (pw_or1 (pt_cmpR op_ne (pe_callB call_len_seq (by rfl) T.len PySem.boot_len (pa_cons (pv 0) pa_nil)) pe_int (nomark _))))) (pss_one (ps_ret pe_bl)) pss_nil)
        (C8.pss_cut (ps_if (PW.pt (pw_or (pt_cmpR op_isN1 (pe_fn GS hr3 rfl (pa_cons (pe_ix (show IxR _ (rIxT K) from ix_tup) (pv 0) pe_int (fun _ _ => rfl)) pa_nil)) pe_non (nomark _)) (pw_or1 (pt_cmpR op_isN1 (pe_fn GS hr3 rfl (pa_cons (pe_ix (show IxR _ (rIxT K) from ix_tup) (pv 0) pe_int (fun _ _ => rfl)) pa_nil)) pe_non (nomark _))))) (pss_one (ps_ret pe_bl)) pss_nil)
        (pss_one (ps_ret (pe_cmpR op_ne (pe_ix (show IxR _ (rIxT K) from ix_tup) (pv 0) pe_int (fun _ _ => rfl)) (pe_ix (show IxR _ (rIxT K) from ix_tup) (pv 0) pe_int (fun _ _ => rfl)) (nomark _)))))), ?_⟩
    -- a tuple of two
    refine ⟨fun σ H' => ∃ a x y dx dy, σ = [some v] ∧ H' = H ∧ d = .tuple [dx, dy] ∧ v = .ref a ∧ SqT K H a [x, y] ∧ Dp K H x dx ∧ Dp K H y dy, ?_, ?_⟩
    · refine ⟨_, rfl, v, .ty "tuple", _, .type "tuple", isTup d, rfl, .ty "tuple", dp_ty hd, kit_tup hd, _, rfl, ?_⟩
      show if (!isTup d) = true then _ else _
      cases hd with
      | str x => exact iteT (iteT (q _ (Same.refl _)))
      | non => exact iteT (iteT (q _ (Same.refl _)))
      | bl b => exact iteT (iteT (q _ (Same.refl _)))
      | int i => exact iteT (iteT (q _ (Same.refl _)))
      | lst h1 h2 => exact iteT (iteT (q _ (Same.refl _)))
      | @tup a xs ds h1 h2 =>
        refine iteF ⟨_, rfl, a, xs, rfl, .inr h1, rfl, _, rfl, ?_⟩
        have le := DpAll.len h2
        show if (!decide (V.int (xs.length : Nat) = V.int 2)) = true then _ else _
        by_cases l2 : xs.length = 2
        · match xs, ds, l2, le, h1, h2 with
          | [x, y], [dx, dy], _, _, h1, h2 =>
            cases h2 with
            | cons a1 h2 =>
            cases h2 with
            | cons a2 h2 =>
            refine iteF ⟨a, x, y, dx, dy, rfl, rfl, rfl, rfl, h1, a1, a2⟩
        · rw [decide_eq_false (fun e => l2 (by have := V.int.inj e; omega))]
          have e := look_len (ds := ds) (by omega)
          rw [e] at q
          exact iteT (q _ (Same.refl _))
    rintro σ H0 ⟨a, x, y, dx, dy, rfl, rfl, rfl, rfl, ha, hx, hy⟩
    have px : partE dx := pe _ rfl dx List.mem_cons_self
    have py : partE dy := pe _ rfl dy (List.mem_cons_of_mem _ List.mem_cons_self)
    have q : ∀ H', Same H0 H' → Q (.bl (tokD dx && (tokD dy && decide (txtD dx ≠ txtD dy)))) H' := q
    -- of tokens
    refine ⟨fun σ H' => σ = [some (.ref a)] ∧ Same H0 H' ∧ tokD dx = true ∧ tokD dy = true, ?_, ?_⟩
    · refine ⟨_, rfl, a, _, 0, x, rfl, rfl, ha, rfl, x, txtD dx, rfl, thing_of hx px, fun H1 s1 => ⟨rfl, _, rfl, ?_⟩⟩
      rw [sort_none]
      cases t1 : tokD dx with
      | false =>
        rw [t1] at q
        exact iteT (iteT (q _ s1))
      | true =>
        refine iteF ⟨_, rfl, a, _, 1, y, rfl, rfl, SqT.ext ha s1, rfl, y, txtD dy, rfl, thing_of (dp_same s1 _ hy) py, fun H2 s2 => ⟨rfl, _, rfl, ?_⟩⟩
        rw [sort_none]
        cases t2 : tokD dy with
        | false =>
          rw [t1, t2] at q
          exact iteT (q _ (s1.trans s2))
        | true => exact iteF ⟨rfl, s1.trans s2, rfl, rfl⟩
    rintro σ H1 ⟨rfl, s1, t1, t2⟩
    obtain ⟨z1, rfl, rfl⟩ := tok_str hx t1
    obtain ⟨z2, rfl, rfl⟩ := tok_str hy t2
    have ha1 := SqT.ext ha s1
    refine ⟨_, rfl, a, _, 0, _, rfl, rfl, ha1, rfl, _, rfl, a, _, 1, _, rfl, rfl, ha1, rfl, rfl, ?_⟩
    have q := q _ s1
    rw [t1, t2] at q
    show Q (.bl (!decide (V.str z1 = V.str z2))) H1
    rw [eq_strB]
    have e : (!decide (z1 = z2)) = (true && (true && decide (txtD (.str z1) ≠ txtD (.str z2)))) := by
      show (!decide (z1 = z2)) = decide (some z1 ≠ some z2)
      by_cases h : z1 = z2
      · rw [decide_eq_true h, decide_eq_false (show ¬ (some z1 ≠ some z2) from fun n => n (by rw [h]))]; rfl
      · rw [decide_eq_false h, decide_eq_true (show some z1 ≠ some z2 from fun n => h (Option.some.inj n))]; rfl
    rw [e]
    exact q
end
end K5

/-! rules that hold for every program: a binary operator by an own method; `in` by an own __contains__ -/
namespace L2
open PySem PySem.Spec PyProof.Rows
section
variable {X : Cx} {CX : CXT} {k : Nat} {f C : Addr} {fd : FuncData} {ps : List Str} {sp : Sp}
/-- what a class must have that this operator of two of its instances is its own method m -/
structure OpO (K : PySem.W.Frag) (C f : Addr) (op : Operator) (m : Str) : Prop where
  dun : PySem.dunder op.info.2 = m
  first : PySem.W.selfFirst K C = true
  at_ : PySem.W.findIn K (.ref C) m = some (some (.ref f))
  fn : PySem.W.isFn K (.ref f) = true
/-- a def called with what is at hand -/
theorem run_own {pins : List (Addr × Obj)} {σ : St} {H : Hp} {s : Shared} {us : List Value} {vs : List V} {Q : VK} {E : XK} (F : FnOk X.prog X.w X.K X.mg X.base CX k f fd ps sp) (hr : Room k X.A) (hb : Binds X.K fd ps []) (hx : PassesAt CX X σ E) (I : Inv X pins σ H s) (r : Vals vs us) (q : sp vs H Q E) :
    codeAny (model X.prog X.w) X.A (.call (.ref f) ⟨us, []⟩) (fun r s' => match r with | .ok (.ret u) => EP X pins σ Q u s' | .ok _ => False | .error e => X.xe e s') s := by
  have hl : us.length = ps.length := by rw [← r.length]; exact F.len _ _ _ _ q
  have b := hb s us I.kIn (by rw [List.append_nil]; exact hl)
  rw [List.append_nil] at b
  refine codeAny_mono (F.run X.A X.stack s H ⟨us, []⟩ us vs Q E hr I.env0 b r q) fun r s' hq => ?_
  cases r with
  | error e => exact hx pins H s e s' I hq
  | ok fl =>
    cases fl with
    | ret u => exact I.after hq
    | next => exact False.elim hq
    | brk => exact False.elim hq
    | cont => exact False.elim hq
def rOpO (C : Addr) (sp : Sp) (E : XK) : R2 := fun x y H Q => ∃ (a b dx dy : Addr) (fs gs : List (Str × V)), x = .ref a ∧ y = .ref b ∧ H a = some (.ins C dx fs) ∧ H b = some (.ins C dy gs) ∧ sp [.ref a, .ref b] H Q E
theorem op_own {op : Operator} {m : Str} {E : XK} (F : FnOk X.prog X.w X.K X.mg X.base CX k f fd ps sp) (hr : Room k X.A) (c : OpO X.K C f op m) (hb : Binds X.K fd ps []) (hx : ∀ σ, PassesAt CX X σ E) : OpR X (binaryOp op) (rOpO C sp E) := by
  intro pins s σ H x y v u Q I rx ry h
  obtain ⟨a, b, dx, dy, fs, gs, rfl, rfl, ha, hb', q⟩ := h
  cases rx
  cases ry
  obtain ⟨mA, J, _⟩ := ins_get I.hok ha
  obtain ⟨od, J, _⟩ := J.look
  obtain ⟨mB, J2, _⟩ := ins_get I.hok hb'
  obtain ⟨od2, J2, _⟩ := J2.look
  obtain ⟨m', hF⟩ := I.fr
  refine PySem.W.binop_K (op := op) hF I.ok.mod.kin J J2.type c.first (by rw [c.dun]; exact c.at_) c.fn ?_
  refine wpAny_call (codeAny_mono (run_own (us := [.ref a, .ref b]) (vs := [.ref a, .ref b]) F hr hb (hx σ) I (.cons rfl (.cons rfl .nil)) q) fun r s' hq => ?_)
  cases r with
  | error e => exact hq
  | ok fl =>
    cases fl with
    | ret w =>
      obtain ⟨z, H', I', rz, q'⟩ := hq
      cases w with
      | notImplemented => exact absurd rz (by cases z <;> (intro q; first | (cases q; done) | (obtain ⟨_, q⟩ := q; cases q; done)))
      | _ => exact ⟨z, H', I', rz, q'⟩
    | next => exact False.elim hq
    | brk => exact False.elim hq
    | cont => exact False.elim hq
/-- what a class must have that `in` is its own -/
structure InO (K : PySem.W.Frag) (C f : Addr) : Prop where
  at_ : PySem.W.findIn K (.ref C) "__contains__" = some (some (.ref f))
  fn : PySem.W.isFn K (.ref f) = true
/-- x in o, by o's own __contains__, which answers a truth value -/
def rInO (C : Addr) (sp : Sp) (E : XK) : R2 := fun x y H Q => ∃ (a dx : Addr) (fs : List (Str × V)), y = .ref a ∧ H a = some (.ins C dx fs) ∧ sp [.ref a, x] H (fun z H' => ∃ b, z = .bl b ∧ Q (.bl b) H') E
theorem op_inO {E : XK} (F : FnOk X.prog X.w X.K X.mg X.base CX k f fd ps sp) (hr : Room k X.A) (c : InO X.K C f) (hb : Binds X.K fd ps []) (hx : ∀ σ, PassesAt CX X σ E) : OpR X (compareOp .In) (rInO C sp E) := by
  intro pins s σ H x y v u Q I rx ry h
  obtain ⟨a, dx, fs, rfl, ha, q⟩ := h
  cases ry
  obtain ⟨mA, J, _⟩ := ins_get I.hok ha
  obtain ⟨od, J, _⟩ := J.look
  obtain ⟨m', hF⟩ := I.fr
  refine PySem.W.in_K hF I.ok.mod.kin J c.at_ c.fn ?_
  refine wpAny_call (codeAny_mono (run_own (us := [.ref a, v]) (vs := [.ref a, x]) F hr hb (hx σ) I (.cons rfl (.cons rx .nil)) q) fun r s' hq => ?_)
  cases r with
  | error e => exact hq
  | ok fl =>
    cases fl with
    | ret w =>
      obtain ⟨z, H', I', rz, b, rfl, q'⟩ := hq
      cases rz
      exact wpAny_truthy_bool ⟨.bl b, H', I', rfl, q'⟩
    | next => exact False.elim hq
    | brk => exact False.elim hq
    | cont => exact False.elim hq
end
end L2

namespace K9E
open PySem PySem.W PySem.Calls PyProof.Rows PySem.HandSPX
/-! ### BadRule and its __init__, which says super().__init__(..) and stores one field -/
def eA (p1 p2 : Pos) : Arguments := { posonlyargs := [], args := [{ arg := "self", annotation := none, pos := p1 }, { arg := "worth", annotation := none, pos := p2 }], vararg := none, kwonlyargs := [], kw_defaults := [], kwarg := none, defaults := [] }
def eB (m : Str) (j : Nat) (o1 o2 o3 o4 o5 o6 q1 q2 q3 q4 : Pos) : List Stmt := [.Expr (.Call (.Attribute (.Call (.Name "super" o1) [] [] o2) "__init__" o3) [.Constant (.str m) j o4] [] o5) o6, .Assign [.Attribute (.Name "self" q1) "worth" q2] (.Name "worth" q3) q4]
def eS : Scope := { kind := .function, names := [(PySem.Str.ofString "self", .local), (PySem.Str.ofString "worth", .local), (PySem.Str.ofString "__class__", .free), (PySem.Str.ofString "super", .globalImplicit)], isGenerator := false, isCoroutine := false, more := [] }
/-- what the written part says of BadRule, at C, of its __init__, at fI, and of that one's cell and code -/
structure ErrTxt (prog : Program) (K : Frag) (mg : Str → Option Value) (C fI : Addr) : Prop where
  gC : mg "BadRule" = some (.ref C)
  cls : ∃ nm q N bs bm sn sub ab col dd k0 k1 k2 k3 k5, K.lookup C = some (excClassObj nm q C N bs bm true sn sub ab col dd k0 k1 k2 k3 k5 "ValueError.__new__") ∧ refsVE bm = true
  sa : findIn K (.ref C) "__setattr__" = some (some (.builtin "object.__setattr__"))
  noN : findIn K (.ref C) "worth" = some none
  iC : findIn K (.ref C) "__init__" = some (some (.ref fI))
  tC : typeIn K (.ref fI) = some (.type "function")
  kC : keepIn K (.ref C) = true
  exC : subIn K (.ref C) (.type "BaseException") = some true
  vaC : subIn K (.ref C) (.type "ValueError") = some true
  tyC : typeIn K (.ref C) = some (.type "type")
  te : exmOne K (.ref C) (.ref C) = some true
  sub : mroIn K C (.ref C) = some true
  sup : ks_superIn K C C "__init__" = some (some (.builtin "ValueError.__init__"))
  tp : nsIn K cStatics "thirdparty.any" = some none
  su : mg "super" = none
  top : (prog.main.scope.names.lookup ("super" : Str)).isSome = false
  fn : ∃ (oc : Value) (od : Option Addr) (doc pm : Value) (an : Option Addr) (cda cc : Addr) (ct : Value) (osl : Array (Option Value)) (m : Str) (j : Nat) (p1 p2 o1 o2 o3 o4 o5 o6 q1 q2 q3 q4 : Pos),
    K.lookup fI = some ⟨oc, od, .func (ksFn "__init__" "BadRule.__init__" (eA p1 p2) (eB m j o1 o2 o3 o4 o5 o6 q1 q2 q3 q4) eS .none .none doc pm an (.ref cda) ct cc), osl⟩ ∧ codeIn K (.ref cda) "BadRule.__init__" = true ∧
    (∃ (ccl : Value) (cdd : Option Addr) (vs : Array Value) (ccs : Array (Option Value)) (file : Str) (tf : Tok), K.lookup cda = some ⟨ccl, cdd, .fields vs, ccs⟩ ∧ vs[2]? = some (.str file tf) ∧ ((prog.main.file : Str) == file) = true) ∧
    (∀ env : Env, ∃ pl : Sem Bool, eval (.Call (.Attribute (.Call (.Name "super" o1) [] [] o2) "__init__" o3) [.Constant (.str m) j o4] [] o5) env = (do
      let ov ← attributeBase (.Call (.Name "super" o1) [] [] o2) "__init__" env (eval (.Call (.Name "super" o1) [] [] o2) env)
      standAt o3.atName
      let (f, first) ← holding [ov] (getMethod ov "__init__" pl)
      callWith o5 f first (backTo o5 (starEach [.Constant (.str m) j o4] env)) [])) ∧
    ∃ (cl : Value) (cld : Option Addr) (csl : Array (Option Value)), K.lookup cc = some ⟨cl, cld, .cell (some (.ref C)), csl⟩
theorem one_len (v : Value) : [v].length ≤ sizeLine := by
  show 1 ≤ sizeLine
  rw [sizeLine_eq]
  decide
/-- what __init__ leaves of a fresh exception at x -/
structure Left (h h' : Heap) (x C dx t1 : Addr) (v : Value) : Prop where
  keep : ∀ b o, b ≠ x → h.get? b = some o → h'.get? b = some o
  obj : h'.get? x = some { cls := .ref C, dict := some dx, data := .fields #[.ref t1, .none, .none, .none, .bool false, .none] }
  dbig : h.objs.size ≤ dx
  dne : dx ≠ x
  ns : h'.Ns1 dx (fun y => if y = "worth" then some v else none)
section
variable {prog : Program} {w : World} {A : Around} {E : Value → Shared → Prop} {R : Result → Shared → Prop} {K : Frag} {mg : Str → Option Value} {C fI : Addr}
/-- the wrapper of ValueError.__init__, bound to a fresh exception, called -/
theorem wrapped {h : Heap} {g : Array GenState} {d : Drawn} {t : Nat} {os : OsState} {nm q : Str} {N : Addr} {bs bm : List Value} {hdct : Bool} {sn : List Str} {sub : List Value} {ab : Bool} {col : Option Bool} {dd : Option Addr} {k0 k1 k2 k3 k5 : Option Value}
    {u e t0 : Addr} {rest : List Value} {Q : Value → Shared → Prop} (hC : h.get? C = some (excClassObj nm q C N bs bm hdct sn sub ab col dd k0 k1 k2 k3 k5 "ValueError.__new__")) (he : h.get? e = some (excO C t0)) (hu : h.get? u = some (kxs_mw "ValueError.__init__" e)) (hz : rest.length ≤ sizeLine)
    (hq : ∀ h' t1, (∀ b o, b ≠ e → h.get? b = some o → h'.get? b = some o) → h'.get? e = some (excO C t1) → Q .none ⟨h', g, d, t, os⟩) :
    wpAny (model prog w) A (PySem.call (.ref u) rest) Q E ⟨h, g, d, t, os⟩ := by
  refine wpAny_call (codeAny_of_tree ?_)
  show wpAny _ A.in1 (callAny (.ref u) ⟨rest, []⟩) _ _ _
  unfold callAny
  refine wpAny_bind (wpAny_load hu ?_)
  have y1 : (Value.type "method-wrapper" == Value.type "method" || Value.type "method-wrapper" == Value.type "builtin_function_or_method" || Value.type "method-wrapper" == Value.type "method-wrapper") = true := by decide
  simp only [kxs_mw, y1, if_true]
  refine KFB.if_so (by decide) ?_
  refine wpAny_bind (check_bound_init F.excBase_ValueError.toExcCallFacts hC he rfl ?_)
  refine wpAny_bind (wpAny_pure (wpAny_pure ?_))
  refine ⟨plainId_quiet F.excBase_ValueError.init.plain _, codeAny_builtin F.excBase_ValueError.initEntry ?_⟩
  exact exc_init_tree (cls := .ref C) (t0 := t0) (dv := none) (c2 := .none) (c3 := .none) (b4 := .bool false) he hz fun h' k e' _ => hq h' _ k e'
theorem bound_name {env : Env} {s : Shared} {m : Str → Option Value} {y : Str} {pos : Pos} {u : Value} {Q : Value → Shared → Prop} {M : Model} (hn : s.heap.Ns env.locals m) (hv : m y = some u) (h : Q u s)
    (hk : env.scope.kind = .function := by rfl) (hl : env.kindOf y = some .local := by rfl) (hd : (y == ("__debug__" : Str)) = false := by decide) : wpAny M A (eval (.Name y pos) env) Q E s := wpAny_Name (wpAny_loadName_local hk hl hn hv h) hd
theorem err_init (T : ErrTxt prog K mg C fI) {s : Shared} {x t0 : Addr} {v : Value} (X : K.In s.heap) (G : s.heap.Ns mainGlobals mg) (B : ∃ mb, s.heap.Ns builtinsNs mb ∧ mb "super" = bootBuiltins "super") (hlim : s.heap.NoLimit) (hx : s.heap.get? x = some (excO C t0)) (hnx : K.lookup x = none) (hroom : A.depth < recursionLimit)
    (hq : ∀ h' tk dx t1, Left s.heap h' x C dx t1 v → R (.ok (.ret .none)) { s with heap := h', toks := tk }) :
    codeAny (model prog w) A (.call (.ref fI) ⟨[.ref x, v], []⟩) R s := by
  obtain ⟨oc, od, doc, pm, an, cda, cc, ct, osl, msg, j, p1, p2, o1, o2, o3, o4, o5, o6, q1, q2, q3, q4, ho, hcd, ⟨ccl, cdd, vs, ccs, file, tf, hcode, hvs, hfile⟩, hev, cl, cld, csl, hcell⟩ := T.fn
  obtain ⟨nm, q, N, bs, bm, sn, sub, ab, col, dd, k0, k1, k2, k3, k5, hC, hbm⟩ := T.cls
  obtain ⟨mb, hB, hmb⟩ := B
  have hcl : clsIn K C = some { name := nm, bases := bs, mro := .ref C :: bm, ns := N, qualname := q, hasDict := true, slotNames := sn, subclasses := sub, abstract := ab, collection := col, hasDel := false } := by unfold clsIn; rw [hC] <;> rfl
  obtain ⟨hp, g, d, t, os⟩ := s
  refine ks_codeAny_call_defAt (binds := [((PySem.Str.ofString "self"), Value.ref x), ((PySem.Str.ofString "worth"), v)]) hroom (X _ _ ho) rfl hlim (codeRec_of X hcd) rfl (BindsTo.of_eq (by first | rfl | with_unfolding_all rfl)) (show ∀ y ∈ eS.names, y.2 ≠ .cell by decide +kernel) (fun y hy => ?_) (fun h₁ hns k₁ => ?_) rfl rfl rfl
  · have hy' : y = ((PySem.Str.ofString "self"), Value.ref x) ∨ y = ((PySem.Str.ofString "worth"), v) := by simpa using hy
    rcases hy' with e | e <;> rw [e] <;> rfl
  · have X₁ : K.In h₁ := X.keeps k₁
    have hx₁ : h₁.get? x = some (excO C t0) := k₁ _ _ hx
    obtain ⟨pl, hev⟩ := hev (ksEnv "BadRule.__init__" eS hp.objs.size fI (.ref cda) cc)
    refine ks_wpAt_execs_cons (ks_wpAt_Expr_any (ks_wpAt_MethodCall ?_ hev))
    refine ks_wpAt_super_base rfl rfl (by decide +kernel) rfl (X₁ _ _ ho) rfl rfl rfl (X₁ _ _ hcode) rfl hvs hfile T.top ?_
    refine ks_loadName_global rfl rfl (loadGlobal_builtin (G.keeps k₁) T.su (hB.keeps k₁) (hmb.trans PyProof.Rows.Boot.«super») ⟨rfl, ?_⟩)
    refine wpAny_loadName_free rfl rfl rfl ⟨_, X₁ _ _ hcell, rfl⟩ ?_
    refine wpAny_loadName_local (v := .ref x) rfl rfl hns rfl ?_
    have hC₁ := X₁ _ _ hC
    refine ks_wpAny_isType_cls hC₁ rfl ⟨rfl, ?_⟩
    refine ks_wpAny_call_super hC₁ rfl hx₁ rfl (fun c e => by cases e) (looks_mroIn X₁ T.sub) (fun h₂ e₂ k₂ => ?_)
    have X₂ : K.In h₂ := X₁.keeps k₂
    have hx₂ := k₂ _ _ hx₁
    have I₂ : InstAt h₂ x (excO C t0) C none := ⟨hx₂, rfl, rfl, trivial⟩
    have hxC : x ≠ C := fun z => by rw [z, hC] at hnx; cases hnx
    have hsup : alongIn K "__init__" (((Value.ref C :: bm).dropWhile (· != .ref C)).drop 1) = some (some (.builtin "ValueError.__init__")) := by
      have z := T.sup
      unfold ks_superIn at z
      rw [hcl] at z
      exact z
    refine kxs_getMethod kxs_ValueError e₂ (looks_opaque X₂ T.tp) (l₀ := Value.ref C :: bm) ((looks_clsIn X₂ hcl).andThen .now) rfl X₂ hsup (I₂.type.andThen (looks_subIn X₂ T.vaC)) hxC (by decide +kernel) ?_
    have k₃ : ∀ b o, h₂.get? b = some o → (h₂.push (kxs_mw "ValueError.__init__" x)).get? b = some o := fun b o e => Heap.get?_push_of_some _ e
    have hu₃ : (h₂.push (kxs_mw "ValueError.__init__" x)).get? h₂.objs.size = some (kxs_mw "ValueError.__init__" x) := Heap.get?_push_at rfl rfl
    refine kxs_callWith (i := "ValueError.__init__") (x := x) rfl (evalArgs_plain (spliced_cons (Constant_str (k := j) (pos := o4) (spliced_nil ⟨hu₃, ?_⟩))))
    refine wrapped (k₃ _ _ (X₂ _ _ hC)) (k₃ _ _ hx₂) hu₃ (one_len _) fun h₄ t1 k₄ hx₄ => ?_
    have k14 : ∀ b o, b ≠ x → h₁.get? b = some o → h₄.get? b = some o := fun b o n e => k₄ b o n (k₃ _ _ (k₂ _ _ e))
    have hL : hp.objs.size ≠ x := Nat.ne_of_gt (Heap.lt_size hx)
    have hns₄ : h₄.Ns hp.objs.size (fun y => List.lookup y [((PySem.Str.ofString "self"), Value.ref x), ((PySem.Str.ofString "worth"), v)].reverse) := hns.at fun o e => k14 _ _ hL e
    have X₄ : K.In h₄ := fun b o e => k14 b o (fun z => by rw [z, hnx] at e; cases e) (X₁ b o e)
    refine wpAt_of_wpAny (wpAny_execs_cons (plainObj_wpAny_Assign_Attribute ?_))
    refine bound_name (env := ksEnv "BadRule.__init__" eS hp.objs.size fI (.ref cda) cc) hns₄ (u := v) rfl (bound_name (env := ksEnv "BadRule.__init__" eS hp.objs.size fI (.ref cda) cc) hns₄ (u := .ref x) rfl ?_)
    refine set_plain X₄ (ox := excO C t1) (od := none) ⟨hx₄, rfl, rfl, trivial⟩ T.sa ?_
    refine exc_osa X₄ hx₄ hcl (show refsVE (.ref C :: bm) = true from hbm) rfl T.noN (fun h₅ tk₅ dx k₅ dn dne hx₅ hn₅ => ?_)
    show wpAny _ _ (execs _ _) _ _ _
    have hz : hp.objs.size ≤ h₄.objs.size := Nat.le_of_lt hns₄.lt
    exact wpAny_execs_nil (hq h₅ tk₅ dx t1 ⟨fun b o hb e => k₅ b o hb (k14 b o hb (k₁ b o e)), hx₅, Nat.le_trans hz dn, dne, hn₅⟩)
/-- a made BadRule -/
structure Made (h h' : Heap) (e C d : Addr) (v : Value) : Prop where
  keep : ∀ b o, h.get? b = some o → h'.get? b = some o
  new : h.objs.size ≤ e
  obj : ∃ oe vs, h'.get? e = some oe ∧ oe.cls = .ref C ∧ oe.dict = some d ∧ oe.data = .fields vs ∧ vs[1]? = some .none
  dbig : h.objs.size ≤ d
  dne : d ≠ e
  ns : h'.Ns1 d (fun y => if y = "worth" then some v else none)
theorem err_made (T : ErrTxt prog K mg C fI) {s : Shared} {v : Value} (X : K.In s.heap) (G : s.heap.Ns mainGlobals mg) (B : ∃ mb, s.heap.Ns builtinsNs mb ∧ mb "super" = bootBuiltins "super") (hlim : s.heap.NoLimit) (hroom : A.depth + 1 < recursionLimit)
    (hq : ∀ h' tk e d, Made s.heap h' e C d v → R (.ok (.ret (.ref e))) { s with heap := h', toks := tk }) : codeAny (model prog w) A (.call (.ref C) ⟨[v], []⟩) R s := by
  obtain ⟨nm, q, N, bs, bm, sn, sub, ab, col, dd, k0, k1, k2, k3, k5, hC, hbm⟩ := T.cls
  obtain ⟨mb, hB, hmb⟩ := B
  obtain ⟨hp, g, dr, tk, os⟩ := s
  have k : ∀ b o, hp.get? b = some o → ((hp.push (kdv_tup [v])).push (excO C hp.objs.size)).get? b = some o := fun b o e => Heap.get?_push_of_some _ (Heap.get?_push_of_some _ e)
  have hget : ((hp.push (kdv_tup [v])).push (excO C hp.objs.size)).get? (hp.objs.size + 1) = some (excO C hp.objs.size) := by heap_get
  have hnx : K.lookup (hp.objs.size + 1) = none := by
    cases e : K.lookup (hp.objs.size + 1) with
    | none => rfl
    | some o => exact absurd (Nat.lt_of_succ_lt (Heap.lt_size (X _ _ e))) (Nat.lt_irrefl _)
  refine call_own F.excBase_ValueError (fun X => refsVE_contains X bm hbm) (X _ _ hC) (looks_findIn X T.iC) (fun self => bind_fn X self T.tC) (one_len v) ?_
  refine err_init (s := ⟨(hp.push (kdv_tup [v])).push (excO C hp.objs.size), g, dr, tk, os⟩) T (X.keeps k) (G.keeps k) ⟨mb, hB.keeps k, hmb⟩ (hlim.keeps k) hget hnx (show A.depth + 1 < recursionLimit from hroom) fun h' tk' dx t1 L => ?_
  have old : ∀ b o, hp.get? b = some o → h'.get? b = some o := fun b o e => L.keep b o (Nat.ne_of_lt (Nat.lt_succ_of_lt (Heap.lt_size e))) (k b o e)
  have big : hp.objs.size ≤ dx := by
    have z := L.dbig
    rw [Heap.size_push, Heap.size_push] at z
    omega
  exact ⟨rfl, hq h' tk' (hp.objs.size + 1) dx ⟨old, Nat.le_succ _, ⟨_, _, L.obj, rfl, rfl, rfl, rfl⟩, big, L.dne, L.ns⟩⟩
end
end K9E
namespace L2
open PySem PySem.Spec PyProof.Rows K9E
theorem relO_bru {v : V} {v' : Value} (r : RelV v v') (f : Str) : RelO (List.lookup f [(("worth" : Str), v)]) (if f = "worth" then some v' else none) := by
  by_cases hw : f = "worth"
  · rw [if_pos hw, hw]
    have q : List.lookup ("worth" : Str) [(("worth" : Str), v)] = some v := by simp [List.lookup]
    rw [q]
    exact r
  · rw [if_neg hw]
    have qw : (f == ("worth" : Str)) = false := by simpa using hw
    have q2 : List.lookup f [(("worth" : Str), v)] = none := by simp [List.lookup, qw]
    rw [q2]
    trivial
section
variable {X : Cx} {C fI : Addr}
/-- BadRule(e) -/
def tBru (C : Addr) (ta : TA) : St → Hp → XK → Prop := fun σ H Q => ta σ H fun vs H1 => ∃ v, vs = [v] ∧ ∀ d, H1 d = none → Q (.ref C) (some d) (upd H1 d (.xd [(("worth" : Str), v)]))
theorem pmk_bru {a : Expr} {ta : TA} {p pos : Pos} {k : Nat} (T : ErrTxt X.prog X.K X.mg C fI) (hr : Room k X.A) (ha : PA X [a] ta) (hg : Gl X "BadRule" := by rfl)
    (he : starEach (a :: []) X.env = (false, eval a X.env) :: starEach [] X.env := by rfl) (hpl : (backTo pos (starEach [] X.env)).any (·.1) = false := by rfl) :
    PMk X (.Call (.Name "BadRule" p) [a] [] pos) (tBru C ta) := by
  intro pins s σ H Q I h
  refine wpAny_Call_Name_kw (ld_glob I hg T.gC ?_)
  refine PySem.W.callWith_K (h₀ := X.base) I.ok.mod.kin T.kC (thn (ha.run pos pins s σ H _ I h) fun us s1 hh => ?_) he hpl
  obtain ⟨vs, H1, I1, r1, v, ev, q1⟩ := hh
  subst ev
  refine ⟨I1.kIn, ?_⟩
  cases r1 with
  | cons rv rn =>
    rename_i v' us'
    cases rn
    show wpAny _ _ (PySem.call (.ref C) [v']) _ _ _
    have hlim := I1.nolimit
    obtain ⟨mb, hb1, hb2⟩ := I1.mod.blt
    have G1 : s1.heap.Ns mainGlobals X.mg := I1.mod.glob.keeps I1.bk
    have B1 : ∃ mb, s1.heap.Ns builtinsNs mb ∧ mb "super" = bootBuiltins "super" := ⟨mb, hb1.keeps I1.bk, hb2 _ (by decide +kernel)⟩
    obtain ⟨hp, g, dr, tk, os⟩ := s1
    refine wpAny_call (err_made T I1.kIn G1 B1 hlim (by have := hr.dp; omega) fun h' tk' e d M => ?_)
    show MkP X pins σ Q (.ref e) ⟨h', g, dr, tk', os⟩
    obtain ⟨oe, fv, hoe, hc, hd, hdat, h1⟩ := M.obj
    have hns := M.ns
    obtain ⟨G', g1, g2⟩ := restrict h' fun b => decide (b ≠ e)
    have gk : ∀ b, b ≠ e → G'.get? b = h'.get? b := fun b hb => g1 b (decide_eq_true hb)
    have ge : G'.get? e = none := g2 e (by simp)
    have old : ∀ b o, hp.get? b = some o → G'.get? b = some o := fun b o q => (gk b (Nat.ne_of_lt (Nat.lt_of_lt_of_le (Heap.lt_size q) M.new))).trans (M.keep b o q)
    have ob : ObjOk X.prog X.w (upd H1 d (.xd [(("worth" : Str), v)])) G' d (.xd [(("worth" : Str), v)]) :=
      ⟨_, hns.at (fun o q => (gk d M.dne).trans q), fun f => relO_bru rv f⟩
    have J : Inv X pins σ (upd H1 d (.xd [(("worth" : Str), v)])) ⟨G', g, dr, tk', os⟩ := I1.laid (t' := tk') old M.dbig ob
    refine ⟨e, oe, fv, ⟨G', g, dr, tk', os⟩, _, .ref C, some d, rfl, J, fun b o q => ?_, ge, hoe, ⟨hc, hd⟩, hdat, h1, ?_, rfl, I1.bare, raises_own T.exC T.tyC, q1 d (I1.hok.fresh M.dbig)⟩
    · by_cases hb : b = e
      · have q' : G'.get? b = some o := q
        rw [hb, ge] at q'
        cases q'
      · exact (gk b hb).symm.trans q
    · rw [upd_ne (Ne.symm M.dne)]
      exact I1.hok.fresh M.new
/-- raise BadRule(e) -/
theorem ps_raiseBru {a : Expr} {ta : TA} {W : WX} {p pos pos2 : Pos} {k : Nat} (hc : X.calm = true) (T : ErrTxt X.prog X.K X.mg C fI) (hr : Room k X.A) (tk : Takes X W) (ha : PA X [a] ta) (hg : Gl X "BadRule" := by rfl)
    (he : starEach (a :: []) X.env = (false, eval a X.env) :: starEach [] X.env := by rfl) (hpl : (backTo pos (starEach [] X.env)).any (·.1) = false := by rfl) :
    PS X (.Raise (some (.Call (.Name "BadRule" p) [a] [] pos)) none pos2) (fun _ σ H => tBru C ta σ H fun cls d H' => W cls d σ H') := ps_raise hc tk (pmk_bru T hr ha hg he hpl)
end
end L2

namespace L2
open PySem PySem.Spec PyProof.Rows
theorem Room.units5 {k : Nat} {A : Around} (r : Room k A) : A.units + 65 < cLine := by have := r.un; omega
theorem kit_self (K : PySem.W.Frag) (C : Addr) : PySem.W.kitOne K (.ref C) (.ref C) = some true := by
  unfold PySem.W.kitOne
  rw [if_pos (beq_iff_eq.mpr rfl)]
/-- x in a tuple: data of any depth -/
def rInT (K : PySem.W.Frag) : R2 := fun x y H Q => ∃ d ds, Dp K H x d ∧ Dp K H y (.tuple ds) ∧ SeqAt.shaped d = true ∧ SeqAt.shaped (.tuple ds) = true ∧ Q (.bl (ds.any fun z => PyData.eqv z d)) H
theorem op_inT {X : Cx} (hu : X.A.units + 65 < cLine) : OpR X (compareOp .In) (rInT X.K) := by
  intro pins s σ H x y v u Q I rx ry h
  obtain ⟨d, ds, hd, he, sd, se, q⟩ := h
  obtain ⟨as, r1⟩ := Dp.reads I d x v hd rx
  obtain ⟨bs, r2⟩ := Dp.reads I (.tuple ds) y u he ry
  exact SeqAt.in_tuple_reads r2 r1 (SeqAt.canLay_of_shaped se) (SeqAt.canLay_of_shaped sd) (room_in_shaped sd hu) ⟨.bl _, H, I, rfl, q⟩
end L2
namespace K5
open PySem L2
/-! rules of slips: the kinds, the looks, both -/
abbrev cRule : Stmt := top 18
abbrev sREq : Stmt := inClass (top 18) 5
abbrev sRIn : Stmt := inClass (top 18) 6
abbrev sRLen : Stmt := inClass (top 18) 7
abbrev sRWi : Stmt := inClass (top 18) 8
def lkP (p : Str × Str) : PyData := .tuple [.str p.1, .str p.2]
def kiD (ks : List Str) : List PyData := ks.map PyData.str
def loD (ls : List (Str × Str)) : List PyData := ls.map lkP
def paD (ks : List Str) (ls : List (Str × Str)) : List PyData := kiD ks ++ loD ls
/-- what the written part says of the class of rules -/
structure RuleC (K : PySem.W.Frag) (mg : Str → Option Value) (CR : Addr) : Prop where
  cl : Cls K CR
  ki : PySem.W.findIn K (.ref CR) "kinds" = some none
  lo : PySem.W.findIn K (.ref CR) "looks" = some none
  pa : PySem.W.findIn K (.ref CR) "parts" = some none
  gC : mg "SlipRule" = some (.ref CR)
  ha : PySem.W.findIn K (.ref CR) "__class__" = some (some (.builtin "object.__class__"))
  hn : PySem.W.specialIn K (.builtin "object.__class__") "__get__" = some (some (.builtin "getset_descriptor.__get__"))
  htk : PySem.W.takesIn K (.builtin "object.__class__") = some true
  hm : PySem.W.mroIn K CR (.type "object") = some true
def FRu (k l p : V) : List (Str × V) := [(("kinds" : Str), k), (("looks" : Str), l), (("parts" : Str), p)]
theorem fu_ki (k l p : V) : (FRu k l p).lookup ("kinds" : Str) = some k := by kernel_rfl
theorem fu_lo (k l p : V) : (FRu k l p).lookup ("looks" : Str) = some l := by kernel_rfl
theorem fu_pa (k l p : V) : (FRu k l p).lookup ("parts" : Str) = some p := by kernel_rfl
/-- at x a rule of these kinds and looks -/
def RuleV (K : PySem.W.Frag) (CR : Addr) (H : Hp) (x : Addr) (ks : List Str) (ls : List (Str × Str)) : Prop := ∃ (dx : Addr) (k l p : V), H x = some (.ins CR dx (FRu k l p)) ∧ Dp K H k (.tuple (kiD ks)) ∧ Dp K H l (.tuple (loD ls)) ∧ Dp K H p (.tuple (paD ks ls))
/-- a rule that may be compared and shown -/
structure RuleOk (ks : List Str) (ls : List (Str × Str)) : Prop where
  k : SeqAt.shaped (.tuple (kiD ks)) = true
  l : SeqAt.shaped (.tuple (loD ls)) = true
  p : SeqAt.shaped (.tuple (paD ks ls)) = true
  n : (paD ks ls).length ≤ 200
  one : ∀ d ∈ paD ks ls, SeqAt.shaped d = true
theorem rule_ty {K : PySem.W.Frag} {mg : Str → Option Value} {CR : Addr} {H : Hp} {x : Addr} {ks : List Str} {ls : List (Str × Str)} (RC : RuleC K mg CR) (h : RuleV K CR H x ks ls) : TyX K H (.ref x) (.ref CR) :=
  let ⟨_, _, _, _, hx, _⟩ := h
  .base (.ins hx RC.cl RC.ha RC.hn RC.htk RC.hm)
def textTup (d : PyData) : Bool := isStr d || isTup d
theorem kit_st {K : PySem.W.Frag} {H : Hp} {v : V} {d : PyData} (h : Dp K H v d) : PySem.W.kitAny K (.type (tyD d)) [.type "str", .type "tuple"] = some (textTup d) := by
  unfold PySem.W.kitAny textTup
  rw [kit_str h]
  cases isStr d with
  | true => rfl
  | false =>
    show PySem.W.kitAny K (.type (tyD d)) [.type "tuple"] = some (isTup d)
    unfold PySem.W.kitAny
    rw [kit_tup h]
    cases isTup d <;> rfl
def inP (ks : List Str) (ls : List (Str × Str)) (d : PyData) : Bool := (paD ks ls).any fun z => PyData.eqv z d
def spRIn (K : PySem.W.Frag) (CR : Addr) : Sp := fun vs H Q _ => ∃ (x : Addr) (v : V) (d : PyData) (ks : List Str) (ls : List (Str × Str)), vs = [.ref x, v] ∧ RuleV K CR H x ks ls ∧ RuleOk ks ls ∧ Dp K H v d ∧ SeqAt.shaped d = true ∧ ∀ H', Same H H' → Q (.bl (textTup d && inP ks ls d)) H'
def spRLen (K : PySem.W.Frag) (CR : Addr) : Sp := fun vs H Q _ => ∃ (x : Addr) (ks : List Str) (ls : List (Str × Str)), vs = [.ref x] ∧ RuleV K CR H x ks ls ∧ Q (.int (paD ks ls).length) H
def spREq (K : PySem.W.Frag) (CR : Addr) : Sp := fun vs H Q _ => ∃ (x : Addr) (y : V) (ks : List Str) (ls : List (Str × Str)), vs = [.ref x, y] ∧ RuleV K CR H x ks ls ∧ RuleOk ks ls ∧
  ((∃ x2 ks2 ls2, y = .ref x2 ∧ RuleV K CR H x2 ks2 ls2 ∧ RuleOk ks2 ls2 ∧ Q (.bl (PyData.eqv (.tuple (kiD ks)) (.tuple (kiD ks2)) && PyData.eqv (.tuple (loD ls)) (.tuple (loD ls2)))) H) ∨ (∃ c, TyX K H y c ∧ PySem.W.kitOne K c (.ref CR) = some false ∧ Q (.bl false) H))
section
variable {P : Program} {w : World} {K : PySem.W.Frag} {mg : Str → Option Value} {base : Heap} {CR : Addr}
theorem scRLen : FnScope ["self"] ["self"] (defScope sRLen) := ⟨rfl, rfl, rfl, by decide +kernel, rfl, by decide +kernel, by decide +kernel⟩
theorem ok_rlen {f : Addr} {fd : FuncData} (F : Fun K "__len__" "SlipRule.__len__" sRLen f fd) (T : Bare mg) (RC : RuleC K mg CR) : FnOk P w K mg base CX0 1 f fd ["self"] (spRLen K CR) := by
  refine F.ok scRLen (fun vs H Q E h => ?_) (fun cdv A outer s0 H vs Q E hr h => ?_)
  · obtain ⟨x, ks, ls, rfl, _⟩ := h
    rfl
  · obtain ⟨x, ks, ls, rfl, ⟨dx, k, l, p, hx, hk, hl, hp⟩, q⟩ := h
    refine ⟨_, (pss_one (ps_ret (pe_callB call_len_seq (by rfl) T.len PySem.boot_len (pa_cons (pe_fld (pv 0) rfl) pa_nil)))), ?_⟩
    cases hp with
    | tup h1 h2 =>
      refine ⟨_, rfl, x, CR, dx, _, _, rfl, hx, RC.cl, RC.pa, fu_pa _ _ _, _, _, rfl, .inr h1, ?_⟩
      rw [DpAll.len h2]
      exact q
theorem scRIn : FnScope ["self", "x"] ["self", "x"] (defScope sRIn) := ⟨rfl, rfl, rfl, by decide +kernel, rfl, by decide +kernel, by decide +kernel⟩
theorem ok_rin {f : Addr} {fd : FuncData} (F : Fun K "__contains__" "SlipRule.__contains__" sRIn f fd) (T : Bare mg) (RC : RuleC K mg CR) : FnOk P w K mg base CX0 1 f fd ["self", "x"] (spRIn K CR) := by
  refine F.ok scRIn (fun vs H Q E h => ?_) (fun cdv A outer s0 H vs Q E hr h => ?_)
  · obtain ⟨x, v, d, ks, ls, rfl, _⟩ := h
    rfl
  · obtain ⟨x, v, d, ks, ls, rfl, ⟨dx, k, l, p, hx, hk, hl, hp⟩, ok, hd, sd, q⟩ := h
    refine ⟨_, (pss_one (ps_ret (pe_and (pe_callB call_isiT (by rfl) T.isi (by decide +kernel) (pa_cons (pv 1) (pa_cons (pe_tup (pa_cons (pe_bltn (v := .ty "str") (by rfl) T.str (by decide +kernel) rfl) (pa_cons (pe_bltn (v := .ty "tuple") (by rfl) T.tuple (by decide +kernel) rfl) pa_nil))) pa_nil))) (pe_one (pe_cmpR (op_inT (Room.units5 hr)) (pv 1) (pe_fld (pv 0) rfl) (by rfl)))))), ?_⟩
    refine ⟨_, rfl, by show 2 ≤ sizeLine; decide, fun tp htp => ?_⟩
    have s1 := Same.new (o := .tup [.ty "str", .ty "tuple"]) (Same.refl H) htp
    have hd1 := dp_same s1 _ hd
    refine ⟨v, tp, _, _, [.type "str", .type "tuple"], textTup d, rfl, upd_same, .cons (.ty "str") (.cons (.ty "tuple") .nil), dp_ty hd1, kit_st hd1, _, rfl, ?_⟩
    have q := q _ s1
    cases c : textTup d with
    | false =>
      rw [c] at q
      exact iteF q
    | true =>
      rw [c] at q
      exact iteT ⟨_, rfl, _, rfl, x, CR, dx, _, _, rfl, s1 _ _ hx, RC.cl, RC.pa, fu_pa _ _ _, d, _, hd1, dp_same s1 _ hp, sd, ok.p, q⟩
theorem scREq : FnScope ["self", "other"] ["self", "other"] (defScope sREq) := ⟨rfl, rfl, rfl, by decide +kernel, rfl, by decide +kernel, by decide +kernel⟩
theorem ok_req {f : Addr} {fd : FuncData} (F : Fun K "__eq__" "SlipRule.__eq__" sREq f fd) (T : Bare mg) (RC : RuleC K mg CR) : FnOk P w K mg base CX0 1 f fd ["self", "other"] (spREq K CR) := by
  refine F.ok scREq (fun vs H Q E h => ?_) (fun cdv A outer s0 H vs Q E hr h => ?_)
  · obtain ⟨x, y, ks, ls, rfl, _⟩ := h
    rfl
  · obtain ⟨x, y, ks, ls, rfl, hR, ok, q⟩ := h
    refine ⟨_, (pss_one (ps_ret (pe_and (pe_callB call_isi (by rfl) T.isi (by decide +kernel) (pa_cons (pv 1) (pa_cons (pe_glob (v := .ref CR) (by rfl) RC.gC rfl) pa_nil))) (pe_and (pe_cmpR (op_eqD hr.units) (pe_fld (pv 0) rfl) (pe_fld (pv 1) rfl) (nomark _)) (pe_one (pe_cmpR (op_eqD hr.units) (pe_fld (pv 0) rfl) (pe_fld (pv 1) rfl) (nomark _))))))), ?_⟩
    rcases q with ⟨x2, ks2, ls2, rfl, hR2, ok2, q⟩ | ⟨c, ty, kt, q⟩
    case inr => exact ⟨_, rfl, y, .ref CR, c, .ref CR, false, rfl, .own CR, ty, kt, false, rfl, iteF q⟩
    have ty := rule_ty RC hR2
    obtain ⟨dx, k, l, p, hx, hk, hl, hp⟩ := hR
    obtain ⟨dx2, k2, l2, p2, hx2, hk2, hl2, hp2⟩ := hR2
    refine ⟨_, rfl, .ref x2, .ref CR, .ref CR, .ref CR, true, rfl, .own CR, ty, kit_self K CR, true, rfl, iteT ?_⟩
    refine ⟨_, rfl, x, CR, dx, _, _, rfl, hx, RC.cl, RC.ki, fu_ki _ _ _, _, rfl, x2, CR, dx2, _, _, rfl, hx2, RC.cl, RC.ki, fu_ki _ _ _, _, _, hk, hk2, ok.k, ok2.k, _, rfl, ?_⟩
    cases c : PyData.eqv (.tuple (kiD ks)) (.tuple (kiD ks2)) with
    | false =>
      rw [c] at q
      exact iteF q
    | true =>
      rw [c] at q
      exact iteT ⟨_, rfl, x, CR, dx, _, _, rfl, hx, RC.cl, RC.lo, fu_lo _ _ _, _, rfl, x2, CR, dx2, _, _, rfl, hx2, RC.cl, RC.lo, fu_lo _ _ _, _, _, hl, hl2, ok.l, ok2.l, q⟩
end
end K5

namespace K5
open PySem L2
abbrev nRWi : List Str := ["self", "other", "part"]
def spRWi (K : PySem.W.Frag) (CR : Addr) : Sp := fun vs H Q _ => ∃ (x y : Addr) (ks ks2 : List Str) (ls ls2 : List (Str × Str)), vs = [.ref x, .ref y] ∧ RuleV K CR H x ks ls ∧ RuleOk ks ls ∧ RuleV K CR H y ks2 ls2 ∧ RuleOk ks2 ls2 ∧ ∀ H', Same H H' → Q (.bl ((paD ks ls).all (inP ks2 ls2))) H'
section
variable {P : Program} {w : World} {K : PySem.W.Frag} {mg : Str → Option Value} {base : Heap} {CR : Addr}
theorem take_some {α : Type} {ds : List α} {i : Nat} {d : α} (h : ds[i]? = some d) : ds.take (i + 1) = ds.take i ++ [d] := by
  rw [List.take_add_one, h]
  rfl
theorem scRWi : FnScope nRWi ["self", "other"] (defScope sRWi) := ⟨rfl, rfl, rfl, by decide +kernel, rfl, by decide +kernel, by decide +kernel⟩
theorem ok_rwi {f : Addr} {fd : FuncData} (F : Fun K "within" "SlipRule.within" sRWi f fd) (T : Bare mg) (RC : RuleC K mg CR) : FnOk P w K mg base CX0 1 f fd ["self", "other"] (spRWi K CR) := by
  refine F.ok scRWi (fun vs H Q E h => ?_) (fun cdv A outer s0 H vs Q E hr h => ?_)
  · obtain ⟨x, y, ks, ks2, ls, ls2, rfl, _⟩ := h
    rfl
  · obtain ⟨x, y, ks, ks2, ls, ls2, rfl, ⟨dx, k, l, p, hx, hk, hl, hp⟩, ok, ⟨dy, k2, l2, p2, hy, hk2, hl2, hp2⟩, ok2, q⟩ := h
    refine ⟨_, (pss_one (ps_ret (pe_callB (cr_all rfl) (by rfl) T.all (by decide +kernel) (pa_cons (pe_lc (own := [("part", 2)]) (g := gName 2) (tt := tYes) (te := tOp (rInT K) (tVar 2) (tFld K (tVar 1) "parts")) (by rfl) scRWi.nd (pi_tup (pe_fld (pv 0) rfl)) (blkOk_by (own := [("part", 2)]) (N := nRWi) (sc := defScope sRWi) (by decide +kernel)) (fun _ _ _ _ _ => pg_name (i := 2) scRWi.nd rfl (Or.inl rfl)) (fun _ _ _ _ _ => pts_nil) (fun _ _ _ _ _ => (pe_cmpR (op_inT (Room.units5 hr)) (pv 2) (pe_fld (pv 1) rfl) (by rfl)))) pa_nil)))), ?_⟩
    cases hp with
    | @tup a xs _ h1 h2 =>
      have lx : xs.length = (paD ks ls).length := DpAll.len h2
      have n := ok.n
      refine ⟨_, rfl, x, CR, dx, _, _, rfl, hx, RC.cl, RC.pa, fu_pa _ _ _, a, rfl, ⟨xs, h1⟩, fun D hD => lc_tup (K := K) (a := a) (xs := xs) (fun i H' => Same H H' ∧ H' D = some (.lst ((((paD ks ls).take i).map (inP ks2 ls2)).map V.bl))) ⟨Same.new (Same.refl H) hD, upd_same⟩ (fun i H' _ h => SqT.ext h1 h.1) (fun i z H2 hz h => ?_) (fun H2 h => ?_)⟩
      · obtain ⟨s2, hd2⟩ := h
        obtain ⟨d, hd, dz⟩ := DpAll.at2 h2 hz
        have li : i < xs.length := (List.getElem?_eq_some_iff.mp hz).1
        refine ⟨rfl, _, rfl, _, rfl, y, CR, dy, _, _, rfl, s2 _ _ hy, RC.cl, RC.pa, fu_pa _ _ _, d, _, dp_same s2 _ dz, dp_same s2 _ hp2, ok.one d (List.mem_of_getElem? hd), ok2.p, _, hd2, ?_, Same.put s2 hD, ?_⟩
        · rw [List.length_map, List.length_map, List.length_take]
          exact Nat.lt_of_le_of_lt (show _ ≤ 200 by omega) (by decide)
        · rw [upd_same, take_some hd, List.map_append, List.map_append]
          rfl
      · obtain ⟨s2, hd2⟩ := h
        rw [lx, List.take_length] at hd2
        refine ⟨D, _, rfl, SqL.of hd2, ?_⟩
        have e : ((paD ks ls).map (inP ks2 ls2)).all id = (paD ks ls).all (inP ks2 ls2) := by rw [List.all_map]; rfl
        rw [e]
        exact q _ s2
end
end K5

/-! a def that takes any number of arguments: they are laid in a tuple when it is called -/
namespace L2
open PySem PySem.Spec PyProof.Rows
/-- the arguments bind to ps, the last of which is a new tuple of ks -/
def BindsStar (s : Shared) (fd : FuncData) (args : Args) (ps : List Str) (us ks : List Value) : Prop :=
  ∀ (M : Model) (A : Around) (E : Value → Shared → Prop) (Q : List (Str × Value) → Shared → Prop),
    Q (ps.zip (us ++ [.ref s.heap.objs.size])) { s with heap := s.heap.push { cls := .type "tuple", data := .seq ks.toArray } } → wpAny M A (bindArgs fd args) Q E s
/-- what the body of a def promises, behind the binding of its arguments -/
structure FnB (P : Program) (w : World) (K : PySem.W.Frag) (mg : Str → Option Value) (base : Heap) (CX : CXT) (k : Nat) (f : Addr) (fd : FuncData) (ps : List Str) (sp : Sp) : Prop where
  len : ∀ vs H Q E, sp vs H Q E → vs.length = ps.length
  run : ∀ (A : Around) (outer : List Env) (s s' : Shared) (H : Hp) (args : Args) (us : List Value) (vs : List V) (Q : VK) (E : XK) (R : Result → Shared → Prop), Room k A → K.In s.heap → Env0 P w K mg base A outer s' H → Vals vs us → sp vs H Q E →
    (∀ (M : Model) (A : Around) (E : Value → Shared → Prop) (Q : List (Str × Value) → Shared → Prop), Q (ps.zip us) s' → wpAny M A (bindArgs fd args) Q E s) → (∀ r t, CR CX outer P w H s' Q E r t → R r t) →
    codeAny (model P w) A (.call (.ref f) args) R s
theorem fnb_of {CX : CXT} {P : Program} {w : World} {K : PySem.W.Frag} {mg : Str → Option Value} {base : Heap} {k : Nat} {f : Addr} {name qual : Str} {params : Arguments} {body : List Stmt} {scope : Scope} {dV kV doc pm cdv ct oc : Value} {an od : Option Addr}
    {osl : Array (Option Value)} {N ps : List Str} {sp : Sp} (lk : K.lookup f = some ⟨oc, od, .func (PySem.W.fnOf name qual params body scope dV kV doc pm an cdv ct), osl⟩) (hcd : PySem.W.codeIn K cdv qual = true) (S : FnScope N ps scope)
    (len : ∀ vs H Q E, sp vs H Q E → vs.length = ps.length)
    (hbody : ∀ (A : Around) (outer : List Env) (s : Shared) (H : Hp) (vs : List V) (Q : VK) (E : XK), Room k (A.deeper (envOfC qual scope s.heap.objs.size f cdv)) → sp vs H Q E →
      ∃ t, PSs (cxOf CX P w K mg base N qual scope f cdv A outer s H E) body t ∧ t { nx := fun _ H' => Q .non H', rt := Q } (start N vs) H) :
    FnB P w K mg base CX (k + 1) f (PySem.W.fnOf name qual params body scope dV kV doc pm an cdv ct) ps sp := by
  refine ⟨len, fun A outer s s' H args us vs Q E R hr KX e0 r hsp hb hR => ?_⟩
  have hl := len _ _ _ _ hsp
  have lim : s'.heap.NoLimit := e0.mod.nolimit.keeps fun b o e => (e0.bs b o e).1
  have hkind : ∀ y ∈ ps.zip us, scope.names.lookup y.1 = some .local ∨ (scope.names.lookup y.1 = some .cell ∧ ((cellsFrom (s'.heap.objs.size + 1) scope.names []).lookup y.1).isSome = true) := fun y hy => by
    rcases S.par y.1 (List.of_mem_zip hy).1 with q | q
    · exact .inl q
    · exact .inr ⟨q, PySem.W.cellsFrom_some _ _ _ (.inl q)⟩
  refine codeAny_call_function hr.depth (KX _ _ lk) rfl S.co S.gen rfl (PySem.W.codeRec_of KX hcd) (hb _ _ _ _ ?_)
  refine wpAny_newFunctionEnv_cells S.kind hkind fun env he s1 x => ?_
  subst he
  refine ⟨lim.keeps x.toInCall.keep, codeAny_func ?_⟩
  obtain ⟨t, ht, hq⟩ := hbody A outer s' H vs Q E (hr.deeper _) hsp
  have I : Inv (cxOf CX P w K mg base N qual scope f cdv A outer s' H E) [] (start N vs) H s1 := inv_start S hr.hd e0 hl r x
  refine wpAny_mono (ht.run [] s1 (start N vs) H _ I hq) (fun fl s2 hs => hR _ _ ?_) fun e s2 hs => wpAny_mono hs (fun _ t h => hR (.error e) t h) fun e2 t h => hR (.error e2) t h
  cases fl with
  | ret u =>
    obtain ⟨v, σ', H', J, rv, q⟩ := hs
    exact ⟨v, H', J.os, J.bare, J.base, J.hok, rv, q⟩
  | next =>
    obtain ⟨σ', H', J, q⟩ := hs
    exact ⟨.non, H', J.os, J.bare, J.base, J.hok, rfl, q⟩
  | brk =>
    obtain ⟨_, _, _, q⟩ := hs
    exact False.elim q
  | cont =>
    obtain ⟨_, _, _, q⟩ := hs
    exact False.elim q
section
variable {X : Cx} {CX : CXT} {k : Nat} {f C : Addr} {fd : FuncData} {ps : List Str} {sp : Sp}
/-- such a def called with what is at hand -/
theorem run_star {pins : List (Addr × Obj)} {σ : St} {H : Hp} {s : Shared} {args : Args} {us ks : List Value} {vs zs : List V} {Q : VK} {E : XK} (F : FnB X.prog X.w X.K X.mg X.base CX k f fd ps sp) (hr : Room k X.A) (hb : BindsStar s fd args ps us ks) (hx : PassesAt CX X σ E) (I : Inv X pins σ H s) (r : Vals vs us) (rz : Vals zs ks) (hz : zs.length ≤ sizeLine)
    (q : ∀ p, H p = none → sp (vs ++ [.ref p]) (upd H p (.tup zs)) Q E) :
    codeAny (model X.prog X.w) X.A (.call (.ref f) args) (fun r s' => match r with | .ok (.ret u) => EP X pins σ Q u s' | .ok _ => False | .error e => X.xe e s') s := by
  have I' : Inv X pins σ (upd H s.heap.objs.size (.tup zs)) { s with heap := s.heap.push { cls := .type "tuple", data := .seq ks.toArray } } :=
    I.laid (t' := s.toks) (fun b o e => Heap.get?_push_of_some _ e) (Nat.le_refl _) ⟨hz, ks, rz, _, Heap.get?_push_size _ rfl, rfl, _, rfl⟩
  have r2 : Vals (vs ++ [.ref s.heap.objs.size]) (us ++ [.ref s.heap.objs.size]) := r.append (.cons rfl .nil)
  refine F.run X.A X.stack s _ _ args (us ++ [.ref s.heap.objs.size]) (vs ++ [.ref s.heap.objs.size]) Q E _ hr I.kIn I'.env0 r2 (q _ (I.hok.fresh (Nat.le_refl _))) (fun M A E Q h => hb M A E Q h) fun r t hq => ?_
  cases r with
  | error e => exact hx pins _ _ e t I' hq
  | ok fl =>
    cases fl with
    | ret u => exact I'.after hq
    | next => exact False.elim hq
    | brk => exact False.elim hq
    | cont => exact False.elim hq
end
end L2

namespace L2
open PySem PySem.Spec PyProof.Rows
theorem bind_star {fd : FuncData} {x y z : Arg} {a v : Value} {ks : List Value} {s : Shared} (hp : fd.params = { posonlyargs := [], args := [x], vararg := some z, kwonlyargs := [y], kw_defaults := fd.params.kw_defaults, kwarg := none, defaults := [] }) (hd : fd.defaults = .none) (ne : (x.arg == y.arg) = false) (hz : ks.length ≤ sizeLine) :
    BindsStar s fd ⟨a :: ks, [(y.arg, v)]⟩ [x.arg, y.arg, z.arg] [a, v] ks := by
  intro M A E Q h
  unfold bindArgs
  rw [hp, hd]
  have ne' : (y.arg == x.arg) = false := by
    have : x.arg ≠ y.arg := fun e => by rw [e] at ne; simp at ne
    simpa using Ne.symm this
  simp [ne', List.lookup]
  refine wpAny_bind ?_
  show wpAny M A (pure none : Sem (Option (Array Value))) _ _ _
  refine wpAny_pure ?_
  simp [ne', List.lookup]
  show wpAny M A (newTuple ks >>= fun a_1 => pure [(x.arg, a), (y.arg, v), (z.arg, a_1)]) Q E s
  exact wpAny_bind (wpAny_newTuple (wpAny_pure h) hz)
end L2

/-! C(e, .., key = v): making an instance whose __init__ takes any number of arguments and one by its name -/
namespace L2
open PySem PySem.Spec PyProof.Rows
section
variable {X : Cx} {CX : CXT} {k : Nat} {f C : Addr} {fd : FuncData} {ps : List Str} {sp : Sp} {key : Str}
def MakeQ (C : Addr) (sp : Sp) (E : XK) (zs : List V) (v : V) (H : Hp) (Q : VK) : Prop := zs.length ≤ sizeLine ∧ ∀ x dx p, H x = none → H dx = none → dx ≠ x → upd (upd H dx (.own x)) x (.ins C dx []) p = none →
  sp [.ref x, v, .ref p] (upd (upd (upd H dx (.own x)) x (.ins C dx [])) p (.tup zs)) (fun u H2 => u = .non ∧ Q (.ref x) H2) E
/-- how the arguments bind, the one by its name given -/
def StarBinds (fd : FuncData) (ps : List Str) (key : Str) : Prop := ∀ (s : Shared) (a v : Value) (ks : List Value), ks.length ≤ sizeLine → BindsStar s fd ⟨a :: ks, [(key, v)]⟩ ps [a, v] ks
theorem run_makeX {pins : List (Addr × Obj)} {σ : St} {H : Hp} {s : Shared} {Q : VK} {us : List Value} {zs : List V} {u : Value} {v : V} {E : XK} (M : Mk X.K C f) (F : FnB X.prog X.w X.K X.mg X.base CX k f fd ps sp) (hr : Room (k + 1) X.A) (hb : StarBinds fd ps key)
    (hx : PassesAt CX X σ E) (I : Inv X pins σ H s) (r : Vals zs us) (rv : RelV v u) (h : MakeQ C sp E zs v H Q) :
    wpAny (model X.prog X.w) X.A (call (.ref C) us [(key, u)]) (EP X pins σ Q) X.xe s := by
  obtain ⟨hz, h⟩ := h
  have I2 := Inv.made (C := C) I
  have lu : us.length ≤ sizeLine := by rw [← r.length]; exact hz
  have hq := h (s.heap.objs.size + 1) s.heap.objs.size _ (I.hok.fresh (Nat.le_succ _)) (I.hok.fresh (Nat.le_refl _)) (Nat.ne_of_lt (Nat.lt_succ_self _)) (I2.hok.fresh (Nat.le_refl _))
  have I3 : Inv X pins σ (upd (upd (upd H s.heap.objs.size (.own (s.heap.objs.size + 1))) (s.heap.objs.size + 1) (.ins C s.heap.objs.size [])) ((s.heap.push PySem.W.emptyDict).push (PySem.W.instObj C s.heap.objs.size)).objs.size (.tup zs))
      { s with heap := ((s.heap.push PySem.W.emptyDict).push (PySem.W.instObj C s.heap.objs.size)).push { cls := .type "tuple", data := .seq us.toArray } } :=
    I2.laid (t' := s.toks) (fun b o e => Heap.get?_push_of_some _ e) (Nat.le_refl _) ⟨hz, us, r, _, Heap.get?_push_size _ rfl, rfl, _, rfl⟩
  have r2 : Vals [V.ref (s.heap.objs.size + 1), v, .ref ((s.heap.push PySem.W.emptyDict).push (PySem.W.instObj C s.heap.objs.size)).objs.size] [Value.ref (s.heap.objs.size + 1), u, .ref ((s.heap.push PySem.W.emptyDict).push (PySem.W.instObj C s.heap.objs.size)).objs.size] := .cons rfl (.cons rv (.cons rfl .nil))
  refine wpAny_call (make_map (f := f) I.kIn M.makes M.init (beq_iff_eq.mp M.fn) (F.run _ X.stack _ _ _ ⟨Value.ref (s.heap.objs.size + 1) :: us, [(key, u)]⟩ _ _ _ E _ (hr.make C us [(key, u)]) I2.kIn (I3.env0.make C us [(key, u)]) r2 hq (fun M A E Q g => hb _ _ _ us lu M A E Q g) fun r t hq' => ?_))
  cases r with
  | error e => exact hx pins _ _ e t I3 hq'
  | ok fl =>
    cases fl with
    | ret w =>
      obtain ⟨z, H', I4, rz, ev, q3⟩ := I3.after hq'
      subst ev
      exact ⟨rz, ⟨V.ref (s.heap.objs.size + 1), H', I4, rfl, q3⟩⟩
    | next => exact False.elim hq'
    | brk => exact False.elim hq'
    | cont => exact False.elim hq'
variable {x : Str} {p pos : Pos} {e : Expr} {es : List Expr} {kws : List Keyword} {t tk : TA} {E : St → XK}
def tMakeX (C : Addr) (sp : Sp) (E : St → XK) (t tk : TA) : TE := fun σ H Q => t σ H fun zs H1 => tk σ H1 fun ws H2 => ∃ v, ws = [v] ∧ MakeQ C sp (E σ) zs v H2 Q
def tMakeX0 (C : Addr) (sp : Sp) (E : St → XK) (tk : TA) : TE := fun σ H Q => tk σ H fun ws H2 => ∃ v, ws = [v] ∧ MakeQ C sp (E σ) [] v H2 Q
/-- C(e, .., key = v) -/
theorem pe_makeX (M : Mk X.K C f) (F : FnB X.prog X.w X.K X.mg X.base CX k f fd ps sp) (hr : Room (k + 1) X.A) (hg : Gl X x) (hm : X.mg x = some (.ref C)) (hb : StarBinds fd ps key) (hx : ∀ σ, PassesAt CX X σ (E σ)) (ha : PA X (e :: es) t) (hkw : PK X kws tk)
    (hall : (backToKw pos (keywordEach kws X.env)).all (·.1.isSome) = true := by rfl) (hks : (backToKw pos (keywordEach kws X.env)).filterMap (·.1) = [key] := by rfl) (hdb : (x == ("__debug__" : Str)) = false := by decide)
    (hpl : ((backTo pos (starEach (e :: es) X.env)).any (·.1) || (backToKw pos (keywordEach kws X.env)).any (·.1.isNone)) = false := by rfl) (he : starEach (e :: es) X.env = (false, eval e X.env) :: starEach es X.env := by rfl) :
    PE X (.Call (.Name x p) (e :: es) kws pos) (tMakeX C sp E t tk) := by
  refine ⟨fun pins s σ H Q I h => ?_⟩
  refine wpAny_Call_Name_kw (ld_glob I hg hm ?_ hdb)
  refine PySem.W.callWith_KW (h₀ := X.base) I.ok.mod.kin M.kp hall ?_ hpl he
  refine thn (ha.run pos pins s σ H _ I h) fun us s1 ⟨zs, H1, I1, r, q⟩ => ?_
  refine thn (hkw.run pos pins s1 σ H1 _ I1 q) fun ws s2 ⟨vs, H2, I2, rz, v, ev, q2⟩ => ⟨I2.kIn, ?_⟩
  subst ev
  rw [hks]
  cases rz with
  | cons rv rn =>
    cases rn
    exact run_makeX M F hr hb (hx σ) I2 r rv q2
/-- C(key = v) -/
theorem pe_makeX0 (M : Mk X.K C f) (F : FnB X.prog X.w X.K X.mg X.base CX k f fd ps sp) (hr : Room (k + 1) X.A) (hg : Gl X x) (hm : X.mg x = some (.ref C)) (hb : StarBinds fd ps key) (hx : ∀ σ, PassesAt CX X σ (E σ)) (hkw : PK X kws tk)
    (hall : (backToKw pos (keywordEach kws X.env)).all (·.1.isSome) = true := by rfl) (hks : (backToKw pos (keywordEach kws X.env)).filterMap (·.1) = [key] := by rfl) (hdb : (x == ("__debug__" : Str)) = false := by decide)
    (hpl : ((backTo pos (starEach [] X.env)).any (·.1) || (backToKw pos (keywordEach kws X.env)).any (·.1.isNone)) = false := by rfl) :
    PE X (.Call (.Name x p) [] kws pos) (tMakeX0 C sp E tk) := by
  refine ⟨fun pins s σ H Q I h => ?_⟩
  refine wpAny_Call_Name_kw (ld_glob I hg hm ?_ hdb)
  refine PySem.W.callWith_KW0 (h₀ := X.base) I.ok.mod.kin M.kp hall ?_ hpl
  refine thn (hkw.run pos pins s σ H _ I h) fun ws s2 ⟨vs, H2, I2, rz, v, ev, q2⟩ => ⟨I2.kIn, ?_⟩
  subst ev
  rw [hks]
  cases rz with
  | cons rv rn =>
    cases rn
    exact run_makeX (us := []) (zs := []) M F hr hb (hx σ) I2 .nil rv q2
end
end L2

/-! C(*t, key = v) -/
namespace K9
open PySem PySem.W PyProof.Rows
section
variable {M : Model} {A : Around} {E : Value → Shared → Prop} {s : Shared}
theorem args_starkw {f : Value} {x : Sem Value} {pos : Pos} {kws : List (Option Str × Sem Value)} {Q : Args → Shared → Prop} (hall : kws.all (·.1.isSome) = true)
    (h : wpAny M A x (fun v s1 => wpAny M A (evalAll (kws.map (·.2))) (fun ks s2 => StarOf M A E v (fun vs s3 => Q ⟨vs, (kws.filterMap (·.1)).zip ks⟩ s3) s2) E s1) E s) :
    wpAny M A (evalArgs f true [(true, (do let v ← x; standAt pos; pure v))] kws) Q E s := by
  unfold evalArgs
  refine wpAny_bind (wpAny_bind (wpAny_mono h (fun v s1 h1 => wpAny_bind (wpAny_standAt (wpAny_pure ?_))) fun _ _ z => z))
  refine wpAny_bind (wpAny_pure ?_)
  refine wpAny_holding ?_
  simp only [hall, if_true]
  refine wpAny_bind (wpAny_mono h1 (fun ks s2 h2 => ?_) fun _ _ z => z)
  unfold StarOf at h2
  refine wpAny_bind ?_
  refine wpAny_bind (wpAny_mono h2 (fun b s3 h3 => ?_) fun _ _ z => z)
  obtain ⟨rfl, h3⟩ := h3
  rw [if_neg Bool.false_ne_true]
  exact wpAny_holding (wpAny_mono h3 (fun vs s4 h4 => wpAny_pure h4) fun _ _ z => z)
theorem call_starkw {f : Value} {first : List Value} {pos p2 : Pos} {x : Sem Value} {kws : List (Option Str × Sem Value)} {Q : Value → Shared → Prop} {K : Frag} (hk : keepIn K f = true) (hall : kws.all (·.1.isSome) = true)
    (h : wpAny M A x (fun v s1 => wpAny M A (evalAll (kws.map (·.2))) (fun ks s2 => StarOf M A E v (fun vs s3 => K.In s3.heap ∧ wpAny M A (call f (first ++ vs) ((kws.filterMap (·.1)).zip ks)) Q E s3) s2) E s1) E s) :
    wpAny M A (callWith pos f first [(true, (do let v ← x; standAt p2; pure v))] kws) Q E s := by
  unfold callWith
  refine wpAny_bind (wpAny_holding (wpAny_mono (args_starkw (f := f) (Q := fun a s1 => K.In s1.heap ∧ wpAny M A (call f (first ++ a.pos) a.kw) Q E s1) hall h) (fun a s1 h1 => wpAny_bind (wpAny_standAt ?_)) fun _ _ z => z))
  obtain ⟨k, hk', L⟩ := keeps_K hk _ h1.1
  simp only [List.any_cons, Bool.true_or]
  refine wpAny_bind (L.here ?_)
  have tail : ∀ {t : Sem Value}, wpAny M A t Q E s1 → wpAny M A (t >>= fun r => holding [r] point >>= fun _ => pure r) Q E s1 :=
    fun ht => wpAny_bind (wpAny_mono ht (fun r s2 hr => wpAny_bind (wpAny_holding (wpAny_point (wpAny_pure hr)))) fun _ _ z => z)
  have marked (mk : Value) : wpAny M A (callMarked mk f (first ++ a.pos) a.kw) Q E s1 := by unfold callMarked; exact Calls.wpAny_keep h1.2
  rcases hk' with rfl | rfl | rfl <;> dsimp only <;> first | exact tail (marked _) | exact tail (wpAny_operating h1.2)
end
end K9
namespace L2
open PySem PySem.Spec PyProof.Rows
section
variable {X : Cx} {CX : CXT} {k : Nat} {f C : Addr} {fd : FuncData} {ps : List Str} {sp : Sp} {key x : Str} {p p2 pos : Pos} {e : Expr} {kws : List Keyword} {te : TE} {tk : TA} {E : St → XK}
def tMakeXS (K : PySem.W.Frag) (C : Addr) (sp : Sp) (E : St → XK) (te : TE) (tk : TA) : TE := fun σ H Q => te σ H fun y H1 => tk σ H1 fun ws H2 => ∃ a zs v, y = .ref a ∧ ws = [v] ∧ (SqT K H2 a zs ∨ SqL K H2 a zs) ∧ MakeQ C sp (E σ) zs v H2 Q
/-- C(*e, key = v) -/
theorem pe_makeXS (M : Mk X.K C f) (F : FnB X.prog X.w X.K X.mg X.base CX k f fd ps sp) (hr : Room (k + 1) X.A) (hg : Gl X x) (hm : X.mg x = some (.ref C)) (hb : StarBinds fd ps key) (hx : ∀ σ, PassesAt CX X σ (E σ)) (he : PE X e te) (hkw : PK X kws tk)
    (hall : (backToKw pos (keywordEach kws X.env)).all (·.1.isSome) = true := by rfl) (hks : (backToKw pos (keywordEach kws X.env)).filterMap (·.1) = [key] := by rfl) (hdb : (x == ("__debug__" : Str)) = false := by decide)
    (hst : backTo pos (starEach [.Starred e p2] X.env) = [(true, (do let v ← eval e X.env; standAt pos; pure v))] := by rfl) :
    PE X (.Call (.Name x p) [.Starred e p2] kws pos) (tMakeXS X.K C sp E te tk) := by
  refine ⟨fun pins s σ H Q I h => ?_⟩
  refine wpAny_Call_Name_kw (ld_glob I hg hm ?_ hdb)
  rw [hst]
  refine K9.call_starkw (K := X.K) M.kp hall ?_
  refine thn (he.run pins s σ H _ I h) fun u s1 ⟨y, H1, I1, ry, q⟩ => ?_
  refine thn (hkw.run pos pins s1 σ H1 _ I1 q) fun ws s2 ⟨vs, H2, I2, rz, a, zs, v, ey, ev, hs, q2⟩ => ?_
  subst ey
  subst ev
  obtain rfl : u = Value.ref a := ry
  refine StX.star_any I2 hs fun us s3 I3 r3 => ⟨I3.kIn, ?_⟩
  rw [hks]
  cases rz with
  | cons rv rn =>
    cases rn
    exact run_makeX M F hr hb (hx σ) I3 r3 rv q2
end
end L2

/-! a def (self, *args, key = default) -/
namespace L2
open PySem PySem.Spec PyProof.Rows
theorem FunD.okB {P : Program} {w : World} {K : PySem.W.Frag} {mg : Str → Option Value} {base : Heap} {x qual : Str} {params : Arguments} {body : List Stmt} {scope : Scope} {dvs : List V} {kws : List (Str × V)} {f : Addr} {fd : FuncData} {CX : CXT} {N ps : List Str} {k : Nat} {sp : Sp}
    (F : FunD K x qual params body scope dvs kws f fd) (S : FnScope N ps scope) (len : ∀ vs H Q E, sp vs H Q E → vs.length = ps.length)
    (hbody : ∀ (cdv : Value) (A : Around) (outer : List Env) (s : Shared) (H : Hp) (vs : List V) (Q : VK) (E : XK), Room k (A.deeper (envOfC qual scope s.heap.objs.size f cdv)) → sp vs H Q E →
      ∃ t, PSs (cxOf CX P w K mg base N qual scope f cdv A outer s H E) body t ∧ t { nx := fun _ H' => Q .non H', rt := Q } (start N vs) H) : FnB P w K mg base CX (k + 1) f fd ps sp := by
  obtain ⟨oc, od, dV, kV, doc, pm, an, cdv, ct, osl, rfl, lk, hcd, _, _⟩ := F.ex
  exact fnb_of lk hcd S len fun A outer s H vs Q E hr hsp => hbody cdv A outer s H vs Q E hr hsp
/-- how the arguments bind where the one by its name is not given: its default u -/
def StarBinds0 (K : PySem.W.Frag) (fd : FuncData) (ps : List Str) (u : Value) : Prop := ∀ (s : Shared) (a : Value) (ks : List Value), K.In s.heap → ks.length ≤ sizeLine → BindsStar s fd ⟨a :: ks, []⟩ ps [a, u] ks
theorem bind_star0 {K : PySem.W.Frag} {fd : FuncData} {x y z : Arg} {D : Addr} {a u : Value} {ks : List Value} {s : Shared} (hp : fd.params = { posonlyargs := [], args := [x], vararg := some z, kwonlyargs := [y], kw_defaults := fd.params.kw_defaults, kwarg := none, defaults := [] }) (hd : fd.defaults = .none) (hk : fd.kwdefaults = .ref D) (ne : (x.arg == y.arg) = false)
    (X : K.In s.heap) (hu : PySem.W.nsIn K D y.arg = some (some u)) (hz : ks.length ≤ sizeLine) : BindsStar s fd ⟨a :: ks, []⟩ [x.arg, y.arg, z.arg] [a, u] ks := by
  intro M A E Q h
  unfold bindArgs
  rw [hp, hd, hk]
  have ne' : (y.arg == x.arg) = false := by
    have : x.arg ≠ y.arg := fun e => by rw [e] at ne; simp at ne
    simpa using Ne.symm this
  simp [ne', List.lookup]
  refine wpAny_bind ?_
  show wpAny M A (pure none : Sem (Option (Array Value))) _ _ _
  refine wpAny_pure ?_
  simp [ne', List.lookup]
  refine wpAny_bind ((PySem.W.looks_nsIn X hu).here ?_)
  refine wpAny_bind (wpAny_pure ?_)
  refine wpAny_bind (wpAny_pure ?_)
  simp [ne', List.lookup]
  show wpAny M A (newTuple ks >>= fun a_1 => pure [(x.arg, a), (y.arg, u), (z.arg, a_1)]) Q E s
  exact wpAny_bind (wpAny_newTuple (wpAny_pure h) hz)
/-- both ways of binding, of a def as it stands behind the top -/
theorem FunD.starBinds {K : PySem.W.Frag} {x qual : Str} {params : Arguments} {body : List Stmt} {scope : Scope} {f : Addr} {fd : FuncData} {p q r : Arg} {dv : V} (F : FunD K x qual params body scope [] [(q.arg, dv)] f fd)
    (hp : params = { posonlyargs := [], args := [p], vararg := some r, kwonlyargs := [q], kw_defaults := params.kw_defaults, kwarg := none, defaults := [] }) (ne : (p.arg == q.arg) = false) :
    StarBinds fd [p.arg, q.arg, r.arg] q.arg ∧ ∃ u, RelV dv u ∧ StarBinds0 K fd [p.arg, q.arg, r.arg] u := by
  obtain ⟨oc, od, dV, kV, doc, pm, an, cdv, ct, osl, rfl, lk, hcd, hD, hK⟩ := F.ex
  rcases hD with ⟨_, rfl⟩ | ⟨e, _⟩
  · refine ⟨fun s a v ks hz => bind_star (x := p) (y := q) (z := r) hp rfl ne hz, ?_⟩
    rcases hK with e | ⟨D, rfl, hq⟩
    · cases e
    · obtain ⟨u, hu, ru⟩ := hq _ List.mem_cons_self
      exact ⟨u, ru, fun s a ks X hz => bind_star0 (x := p) (y := q) (z := r) hp rfl rfl ne X hu hz⟩
  · exact absurd rfl e
end L2

/-! the order of tuples of texts, and a whole number that tells it among finitely many -/
namespace K9
open PySem
abbrev lts (x y : Str) : Prop := x.cps.toList < y.cps.toList
theorem lts_irrefl (x : Str) : ¬ lts x x := List.lt_irrefl _
theorem lts_trans {x y z : Str} (h : lts x y) (g : lts y z) : lts x z := List.lt_trans h g
theorem str_ext {x y : Str} (h : x.cps.toList = y.cps.toList) : x = y := by
  cases x; cases y
  simp only [Str.mk.injEq]
  exact Array.toList_inj.mp h
theorem lts_total {x y : Str} (h : x ≠ y) : lts x y ∨ lts y x := by
  by_cases a : lts x y
  · exact .inl a
  · by_cases b : lts y x
    · exact .inr b
    · exact absurd (str_ext (List.le_antisymm (by rw [← List.not_lt]; exact b) (by rw [← List.not_lt]; exact a))) h
def ltx : List Str → List Str → Bool
  | x :: xs, y :: ys => if x = y then ltx xs ys else decide (lts x y)
  | _, _ => false
theorem ltx_irrefl : ∀ xs : List Str, ltx xs xs = false
  | [] => rfl
  | x :: xs => by
    show (if x = x then ltx xs xs else _) = false
    rw [if_pos rfl]
    exact ltx_irrefl xs
theorem ltx_trans : ∀ {xs ys zs : List Str}, ltx xs ys = true → ltx ys zs = true → ltx xs zs = true
  | [], _, _, h, _ => by cases h
  | _ :: _, [], _, h, _ => by cases h
  | _ :: _, _ :: _, [], _, h => by cases h
  | x :: xs, y :: ys, z :: zs, h, g => by
    have h : (if x = y then ltx xs ys else decide (lts x y)) = true := h
    have g : (if y = z then ltx ys zs else decide (lts y z)) = true := g
    show (if x = z then ltx xs zs else decide (lts x z)) = true
    by_cases e : x = y
    · subst e
      rw [if_pos rfl] at h
      by_cases e2 : x = z
      · subst e2
        rw [if_pos rfl] at g ⊢
        exact ltx_trans h g
      · rw [if_neg e2] at g ⊢
        exact g
    · rw [if_neg e] at h
      by_cases e2 : y = z
      · subst e2
        rw [if_neg e]
        exact h
      · rw [if_neg e2] at g
        have t := lts_trans (of_decide_eq_true h) (of_decide_eq_true g)
        rw [if_neg fun q => lts_irrefl z (by rw [q] at t; exact t)]
        exact decide_eq_true t
theorem ltx_total : ∀ {xs ys : List Str}, xs.length = ys.length → xs ≠ ys → ltx xs ys = true ∨ ltx ys xs = true
  | [], [], _, h => absurd rfl h
  | [], _ :: _, h, _ => by cases h
  | _ :: _, [], h, _ => by cases h
  | x :: xs, y :: ys, hl, h => by
    show (if x = y then ltx xs ys else decide (lts x y)) = true ∨ (if y = x then ltx ys xs else decide (lts y x)) = true
    by_cases e : x = y
    · subst e
      rw [if_pos rfl, if_pos rfl]
      exact ltx_total (Nat.succ.inj hl) fun q => h (by rw [q])
    · rw [if_neg e, if_neg (Ne.symm e)]
      rcases lts_total e with a | a
      · exact .inl (decide_eq_true a)
      · exact .inr (decide_eq_true a)
/-- how many of ds lie below x -/
def rkN (ds : List (List Str)) (x : List Str) : Nat := (ds.filter fun y => ltx y x).length
theorem filter_le {α : Type} {p q : α → Bool} : ∀ l : List α, (∀ a ∈ l, p a = true → q a = true) → (l.filter p).length ≤ (l.filter q).length
  | [], _ => Nat.le_refl _
  | a :: l, h => by
    have ih := filter_le l fun b hb => h b (List.mem_cons_of_mem _ hb)
    rw [List.filter_cons, List.filter_cons]
    cases c : p a with
    | true => rw [if_pos rfl, if_pos (h a List.mem_cons_self c)]; exact Nat.succ_le_succ ih
    | false =>
      rw [if_neg Bool.false_ne_true]
      split
      · exact Nat.le_succ_of_le ih
      · exact ih
theorem filter_lt {α : Type} {p q : α → Bool} : ∀ {l : List α} {a : α}, a ∈ l → (∀ a ∈ l, p a = true → q a = true) → p a = false → q a = true → (l.filter p).length < (l.filter q).length
  | b :: l, a, hm, h, hp, hq => by
    rw [List.filter_cons, List.filter_cons]
    rcases List.mem_cons.mp hm with rfl | hm
    · rw [hp, hq, if_neg Bool.false_ne_true, if_pos rfl]
      exact Nat.lt_succ_of_le (filter_le l fun b hb => h b (List.mem_cons_of_mem _ hb))
    · have ih := filter_lt hm (fun b hb => h b (List.mem_cons_of_mem _ hb)) hp hq
      cases c : p b with
      | true => rw [if_pos rfl, if_pos (h b List.mem_cons_self c)]; exact Nat.succ_lt_succ ih
      | false =>
        rw [if_neg Bool.false_ne_true]
        split
        · exact Nat.lt_succ_of_lt ih
        · exact ih
theorem rk_lt {ds : List (List Str)} {x y : List Str} (hx : x ∈ ds) (hl : x.length = y.length) : decide ((rkN ds x : Int) < (rkN ds y : Int)) = ltx x y := by
  cases c : ltx x y with
  | true =>
    refine decide_eq_true (Int.ofNat_lt.mpr (filter_lt hx (fun a _ h => ltx_trans h c) (ltx_irrefl x) c))
  | false =>
    refine decide_eq_false fun h => ?_
    have h := Int.ofNat_lt.mp h
    by_cases e : x = y
    · subst e
      exact Nat.lt_irrefl _ h
    · have d := (ltx_total hl e).resolve_left fun q => by rw [c] at q; cases q
      exact absurd (filter_le ds fun a _ (q : ltx a y = true) => ltx_trans q d) (Nat.not_le.mpr h)
/-- sorted: none below the one before -/
def srt (ds : List (List Str)) : Prop := ds.Pairwise fun x y => ltx y x = false
/-- lists of the same members, sorted, are one list -/
theorem srt_one {d : Nat} : ∀ {xs ys : List (List Str)}, (∀ x ∈ xs, x.length = d) → xs.Perm ys → srt xs → srt ys → xs = ys
  | [], ys, _, p, _, _ => by rw [List.nil_perm.mp p]
  | x :: xs, [], _, p, _, _ => absurd (p.length_eq) (by simp)
  | x :: xs, y :: ys, hd, p, hx, hy => by
    have hx1 := List.pairwise_cons.mp hx
    have hy1 := List.pairwise_cons.mp hy
    have e : x = y := by
      by_cases q : x = y
      · exact q
      · have mx : x ∈ ys := (List.mem_cons.mp (p.mem_iff.mp List.mem_cons_self)).resolve_left q
        have my : y ∈ xs := (List.mem_cons.mp (p.mem_iff.mpr List.mem_cons_self)).resolve_left (Ne.symm q)
        rcases ltx_total (by rw [hd x List.mem_cons_self, hd y (List.mem_cons_of_mem _ my)]) q with a | a
        · rw [hy1.1 x mx] at a; cases a
        · rw [hx1.1 y my] at a; cases a
    subst e
    rw [srt_one (fun z hz => hd z (List.mem_cons_of_mem _ hz)) ((List.perm_cons x).mp p) hx1.2 hy1.2]
end K9

/-! sorted() of a list of tuples of texts -/
namespace K9
open PySem PyProof.Rows
/-- the value is a tuple of these texts -/
def TupS (h : Heap) (v : Value) (zs : List Str) : Prop := ∃ a xs, v = .ref a ∧ IsTup h a xs ∧ StrsAre xs.toList zs
theorem TupS.keeps {h h' : Heap} {v : Value} {zs : List Str} (x : TupS h v zs) (k : ∀ b o, h.get? b = some o → o.cls = .type "tuple" → h'.get? b = some o) : TupS h' v zs :=
  let ⟨a, xs, e, ⟨o, ho, hc, hd⟩, i⟩ := x
  ⟨a, xs, e, ⟨o, k _ _ ho hc, hc, hd⟩, i⟩
theorem StrsAre.one : ∀ {vs : List Value} {xs ys : List Str}, StrsAre vs xs → StrsAre vs ys → xs = ys
  | _, _, _, .nil, h => by cases h; rfl
  | _, _, _, .cons y t h, g => by
    cases g with
    | cons y' t' g => rw [StrsAre.one h g]
theorem TupS.one {h : Heap} {v : Value} {xs ys : List Str} (a : TupS h v xs) (b : TupS h v ys) : xs = ys := by
  obtain ⟨p, us, rfl, ⟨o, ho, _, n, hd⟩, i⟩ := a
  obtain ⟨q, ws, e, ⟨o', ho', _, n', hd'⟩, j⟩ := b
  cases e
  rw [ho] at ho'
  cases ho'
  rw [hd] at hd'
  cases hd'
  exact StrsAre.one i j
section
variable {prog : Program} {w : World} {A : Around} {E : Value → Shared → Prop} {s : Shared} {Q : Bool → Shared → Prop}
theorem one_less (c : Bool) {p q : Str} {t u : Tok} (h : Q (decide (lts p q)) s) : wpAny (model prog w) A (oneLt' c (.str p t) (.str q u)) Q E s := by
  cases c with
  | true => exact oneLt_str h
  | false => exact PySem.W.kat_one _ _ (PyProof.Rows.lt_str (Q := PySem.W.BoolBack Q) h)
theorem lex_less {b : Bool} : ∀ {xs ys : List Value} {ps qs : List Str} (i : Nat), StrsAre xs ps → StrsAre ys qs → ps.length = qs.length → Q (ltx ps qs) s → PySem.W.KatLex prog w A b false Q (xs.zip ys) i s
  | _, _, _, _, i, .nil, .nil, _, h => PySem.W.kat_nil h
  | _, _, _, _, i, .nil, .cons _ _ _, hl, _ => by cases hl
  | _, _, _, _, i, .cons _ _ _, .nil, hl, _ => by cases hl
  | _, _, _, _, i, .cons p t hx (vs := xs) (ys := ps), .cons q u hy (vs := ys) (ys := qs), hl, h => by
    have h : Q (if p = q then ltx ps qs else decide (lts p q)) s := h
    show PySem.W.KatLex prog w A b false Q ((Value.str p t, Value.str q u) :: xs.zip ys) i s
    refine PySem.W.kat_cons (wpAny_eqBool_str ?_)
    by_cases e : p = q
    · rw [if_pos e] at h
      rw [decide_eq_true e]
      exact PySem.W.kat_yes (lex_less (i + 1) hx hy (Nat.succ.inj hl) h)
    · rw [if_neg e] at h
      rw [decide_eq_false e]
      exact PySem.W.kat_no (one_less _ h)
end
/-- what is sorted: each is a tuple of d texts -/
structure Many (h : Heap) (d : Nat) (vs : List Value) (dat : Value → List Str) : Prop where
  tup : ∀ v ∈ vs, TupS h v (dat v)
  len : ∀ v ∈ vs, (dat v).length = d
theorem Many.keeps {h h' : Heap} {d : Nat} {vs : List Value} {dat : Value → List Str} (x : Many h d vs dat) (k : ∀ b o, h.get? b = some o → o.cls = .type "tuple" → h'.get? b = some o) : Many h' d vs dat := ⟨fun v hv => (x.tup v hv).keeps k, x.len⟩
theorem strs_all : ∀ {vs : List Value} {xs : List Str}, StrsAre vs xs → vs.length = xs.length ∧ ∀ v ∈ vs, ∃ z t, v = Value.str z t
  | _, _, .nil => ⟨rfl, fun _ h => nomatch h⟩
  | _, _, .cons y t h => by
    obtain ⟨a, b⟩ := strs_all h
    exact ⟨congrArg Nat.succ a, fun v hv => (List.mem_cons.mp hv).elim (fun e => ⟨y, t, e⟩) (b v)⟩
theorem heads {h : Heap} {d : Nat} {dat : Value → List Str} (hd : 1 ≤ d) : ∀ vs : List Value, Many h d vs dat → ∃ fs, PySem.W.KatTups h vs fs ∧ fs.length = vs.length ∧ ∀ f ∈ fs, ∃ z t, f = Value.str z t
  | [], _ => ⟨[], PySem.W.KatTups.nil, rfl, fun _ h => nomatch h⟩
  | v :: vs, x => by
    obtain ⟨fs, k, hl, hi⟩ := heads hd vs ⟨fun u hu => x.tup u (List.mem_cons_of_mem _ hu), fun u hu => x.len u (List.mem_cons_of_mem _ hu)⟩
    obtain ⟨a, xs, ev, ⟨o, ho, hc, n, hdt⟩, i⟩ := x.tup v List.mem_cons_self
    have ld := x.len v List.mem_cons_self
    obtain ⟨la, lb⟩ := strs_all i
    have l0 : 0 < xs.size := by rw [← Array.length_toList]; omega
    obtain ⟨f, hf⟩ : ∃ f, xs[0]? = some f := ⟨_, Array.getElem?_eq_getElem l0⟩
    have hm : f ∈ xs.toList := by
      rw [← Array.getElem?_toList] at hf
      exact List.mem_of_getElem? hf
    subst ev
    refine ⟨f :: fs, PySem.W.KatTups.cons ho hc hdt hf k, congrArg Nat.succ hl, fun g hg => ?_⟩
    rcases List.mem_cons.mp hg with rfl | hg
    · exact lb _ hm
    · exact hi g hg
/-- the rank of a value among the sorted -/
def rkV (vs : List Value) (dat : Value → List Str) (v : Value) : Int := (rkN (vs.map dat) (dat v) : Int)
section
variable {prog : Program} {w : World} {A : Around} {E : Value → Shared → Prop} {s : Shared}
theorem kind_texts {d : Nat} {vs : List Value} {dat : Value → List Str} (hd : 1 ≤ d) (h2 : 2 ≤ vs.length) (x : Many s.heap d vs dat) (Q : SortKind → Shared → Prop)
    (h : ∀ κ, TS.Cmp prog w A s κ (pairsOf vs) (rkV vs dat) → Q κ s) : wpAny (model prog w) A (keyKind' vs.toArray) Q E s := by
  obtain ⟨fs, k, hl, hi⟩ := heads hd vs x
  refine PySem.W.kat_kind (T := Value.type "str") k (by omega) (fun f hf => ?_) rfl (h _ ?_)
  · obtain ⟨z, t, rfl⟩ := hi f hf
    exact PySem.W.Looks.of_pure rfl
  · intro p q hp hq Q' E' hQ
    rw [pairsOf_toList] at hp hq
    have mp := (mem_zip_self hp).2
    have mq := (mem_zip_self hq).2
    have lp := x.len _ mp
    have lq := x.len _ mq
    have hQ' : Q' (ltx (dat p.1) (dat q.1)) s := by
      have z : decide (rkV vs dat p.1 < rkV vs dat q.1) = ltx (dat p.1) (dat q.1) := rk_lt (List.mem_map.mpr ⟨_, mp, rfl⟩) (by rw [lp, lq])
      rw [← z]; exact hQ
    obtain ⟨a, xs, e1, ⟨o, ho, hc, n, hdt⟩, i⟩ := x.tup _ mp
    obtain ⟨a', ys, e2, ⟨o', ho', hc', n', hdt'⟩, i'⟩ := x.tup _ mq
    rw [e1, e2]
    refine PySem.W.kat_lt ho hdt ho' hdt' ?_
    have sz : decide (xs.size < ys.size) = false := by
      have l1 := (strs_all i).1
      have l2 := (strs_all i').1
      rw [Array.length_toList] at l1 l2
      exact decide_eq_false (by omega)
    rw [sz]
    exact lex_less 0 i i' (by rw [lp, lq]) hQ'
theorem sort_texts {a : Addr} {vs : List Value} {n d : Nat} {dat : Value → List Str} {P : PySem.Fin → Shared → Prop} (ho : s.heap.get? a = some (seqObj "list" vs.toArray n)) (h64 : vs.length < 64) (hd : 1 ≤ d) (x : Many s.heap d vs dat)
    (h : ∀ out : Array Value, out.toList.Perm vs → out.toList.Pairwise (fun u v => rkV vs dat u ≤ rkV vs dat v) → P (.done (.ret .none)) { s with heap := sortedHeap s.heap a vs out }) :
    wpAny (model prog w) A (Builtin.«list.sort» ⟨[.ref a], []⟩) P E s := by
  have keep : ∀ b o, s.heap.get? b = some o → o.cls = .type "tuple" → (TS.midHeap s.heap a vs).get? b = some o := fun b o e hc => by
    refine TS.midHeap_old (fun z => ?_) e
    rw [z, ho] at e
    rw [← Option.some.inj e] at hc
    exact absurd (show Value.type "list" = Value.type "tuple" from hc) (by simp)
  refine SK.plain_sort (r := rkV vs dat) ho h64 (fun h2 Q hQ => kind_texts (s := { s with heap := TS.midHeap s.heap a vs }) hd h2 (x.keeps keep) Q hQ) fun ps out h1 h2 h3 => ?_
  obtain ⟨p, o⟩ := TS.out_rank h1 h2 h3
  exact h out p o
/-- sorted(xs) of a list -/
theorem sorted_texts {l : Addr} {vs : List Value} {d : Nat} {dat : Value → List Str} {Q : Value → Shared → Prop} (hl : s.heap.IsList l vs.toArray) (h64 : vs.length < 64) (hd : 1 ≤ d) (x : Many s.heap d vs dat)
    (h : ∀ out : Array Value, out.toList.Perm vs → out.toList.Pairwise (fun u v => rkV vs dat u ≤ rkV vs dat v) → Q (.ref (s.heap.objs.size + 1)) { s with heap := sortedAll s.heap vs out }) :
    wpAny (model prog w) A (call (.builtin "sorted") [.ref l]) Q E s := by
  refine Calls.call_function_entry kind_sorted plain_sorted entry_sorted (args_sorted1 _) ?_
  unfold Builtin.«sorted»
  refine wpAny_bind (m := checkCount "sorted" 1 1 _) (wpAny_pure ?_)
  refine wpAny_bind (collect_list hl ?_ (by rw [sizeLine_eq]; omega))
  refine wpAny_bind (wpAny_newList ?_ (by rw [sizeLine_eq]; omega))
  let h1 : Heap := (s.heap.push (seqObj "list" #[] 0)).update s.heap.objs.size (Obj.mapSeq (· ++ vs.toArray))
  have z1 : h1.objs.size = s.heap.objs.size + 1 := by show ((s.heap.push _).update _ _).objs.size = _; rw [Heap.size_update, size_push']
  have new : (h1.push (seqObj "list" vs.toArray 0)).get? (s.heap.objs.size + 1) = some (seqObj "list" vs.toArray 0) := by rw [← z1]; exact Heap.get?_push_size _ rfl
  have old : ∀ b o, s.heap.get? b = some o → o.cls = .type "tuple" → (h1.push (seqObj "list" vs.toArray 0)).get? b = some o := fun b o q _ => by
    have lt := Heap.lt_size q
    rw [Heap.get?_push_ne _ _ _ (by rw [z1]; exact Nat.ne_of_lt (Nat.lt_succ_of_lt lt))]
    show ((s.heap.push _).update _ _).get? b = some o
    rw [Heap.get?_update_ne _ _ _ _ (Nat.ne_of_lt lt), Heap.get?_push_ne _ _ _ (Nat.ne_of_lt lt)]
    exact q
  show wpAny _ _ _ _ _ { s with heap := h1.push (seqObj "list" vs.toArray 0) }
  show wpAny _ _ (holding [.ref h1.objs.size] _ >>= _) _ _ _
  rw [z1]
  refine wpAny_bind (wpAny_holding (wpAny_call_entry slot_list_sort ⟨_, new, rfl⟩ entry_list_sort (sort_texts new h64 hd (x.keeps old) fun out a1 a2 => ⟨_, rfl, ?_⟩) (args_list_sort _)))
  exact wpAny_pure ⟨_, rfl, h out a1 a2⟩
end
end K9
namespace L2
open PySem PySem.Spec PyProof.Rows
/-- x is a tuple of the texts zs -/
def TxT (K : PySem.W.Frag) (H : Hp) (x : V) (zs : List Str) : Prop := ∃ t, x = .ref t ∧ SqT K H t (zs.map V.str)
section
variable {X : Cx} {pins : List (Addr × Obj)} {σ : St} {H : Hp} {s : Shared}
theorem txt_raw (I : Inv X pins σ H s) {t : Addr} {zs : List Str} (h : SqT X.K H t (zs.map V.str)) : K9.TupS s.heap (.ref t) zs := by
  obtain ⟨its, rv, hT, _⟩ := I.tuple h
  exact ⟨t, its.toArray, rfl, hT, by simpa using rv.strs⟩
/-- sorted(xs), xs a list of tuples of d texts: a new list of the same, in their order -/
def rSortX (K : PySem.W.Frag) (d : Nat) : List V → Hp → VK → Prop := fun vs H Q => ∃ (a : Addr) (xs : List V), vs = [V.ref a] ∧ SqL K H a xs ∧ xs.length < 64 ∧ (∀ x ∈ xs, ∃ zs, TxT K H x zs ∧ zs.length = d) ∧
  ∀ (ys : List V) (p : Addr), ys.Perm xs → ys.Pairwise (fun x y => ∀ n m, TxT K H x n → TxT K H y m → K9.ltx m n = false) → H p = none → Q (.ref p) (upd H p (.lst ys))
open Classical in
theorem cr_sortX {d : Nat} (hd : 1 ≤ d) : CallR X (.builtin "sorted") (rSortX X.K d) := by
  intro pins s σ H vs us Q I r h
  obtain ⟨a, xs, rfl, hs, h64, hx, q⟩ := h
  obtain ⟨its, rv, hl, hz⟩ := I.list hs
  rw [Vals.ref1 r]
  obtain ⟨e1, e2⟩ := bkV_refs rv fun x m => by
    obtain ⟨zs, ⟨t, e, _⟩, _⟩ := hx x m
    exact ⟨t, e⟩
  let dat : Value → List Str := fun u => if c : ∃ zs, K9.TupS s.heap u zs then choose c else []
  have dt : ∀ {u zs}, K9.TupS s.heap u zs → dat u = zs := fun {u zs} h => by
    have c : ∃ zs, K9.TupS s.heap u zs := ⟨zs, h⟩
    show (if c : ∃ zs, K9.TupS s.heap u zs then choose c else []) = zs
    rw [dif_pos c]
    exact (choose_spec c).one h
  have mem : ∀ v ∈ its, ∃ (t : Addr) (zs : List Str), v = Value.ref t ∧ SqT X.K H t (zs.map V.str) ∧ zs.length = d := fun v hv => by
    obtain ⟨t, rfl⟩ := e2 v hv
    have hm : V.ref t ∈ xs := by
      rw [e1]
      exact List.mem_map.mpr ⟨_, hv, rfl⟩
    obtain ⟨zs, ⟨t', e, ht⟩, hn⟩ := hx _ hm
    cases e
    exact ⟨t, zs, rfl, ht, hn⟩
  have M : K9.Many s.heap d its dat := ⟨fun v hv => by
      obtain ⟨t, zs, rfl, ht, hn⟩ := mem v hv
      have r := txt_raw I ht
      rw [dt r]
      exact r, fun v hv => by
      obtain ⟨t, zs, rfl, ht, hn⟩ := mem v hv
      rw [dt (txt_raw I ht), hn]⟩
  refine K9.sorted_texts hl.isList (by rw [← rv.length]; exact h64) hd M fun out h1 h2 => ?_
  obtain ⟨ep, he'⟩ := PyProof.Rows.sortedAll_at s.heap its out
  have h3 : ∀ u ∈ out.toList, ∃ a, u = Value.ref a := fun u hu => e2 u (h1.mem_iff.mp hu)
  have hp : (out.toList.map bkV).Perm xs := by
    rw [e1]
    exact h1.map bkV
  have hlen : (out.toList.map bkV).length ≤ sizeLine := by
    rw [hp.length_eq]
    exact hz
  refine ⟨.ref _, upd H (s.heap.objs.size + 1) (.lst (out.toList.map bkV)), I.laid (t' := s.toks) (fun _ _ => PyProof.Rows.sortedAll_old) (Nat.le_succ _) ⟨hlen, out.toList, ep, bkV_vals h3, he'⟩, rfl, q _ _ hp ?_ (I.hok.fresh (Nat.le_succ _))⟩
  rw [List.pairwise_map]
  refine List.Pairwise.imp_of_mem (fun {u v} hu hv huv n m hn hm => ?_) h2
  obtain ⟨t, et, ht⟩ := hn
  obtain ⟨t', et', ht'⟩ := hm
  have i1 := dt (txt_raw I ht)
  have i2 := dt (txt_raw I ht')
  rw [← bkV_ref et] at i1
  rw [← bkV_ref et'] at i2
  have mv := h1.mem_iff.mp hv
  have lu := M.len u (h1.mem_iff.mp hu)
  have lv := M.len v mv
  cases c : K9.ltx m n with
  | false => rfl
  | true =>
    have z := K9.rk_lt (ds := its.map dat) (x := m) (y := n) (List.mem_map.mpr ⟨v, mv, i2⟩) (by rw [← i1, ← i2, lu, lv])
    rw [c] at z
    have z := of_decide_eq_true z
    have huv : (K9.rkN (its.map dat) (dat u) : Int) ≤ (K9.rkN (its.map dat) (dat v) : Int) := huv
    rw [i1, i2] at huv
    omega
end
end L2

/-! sets whose members are objects: any kind of keys in objects (tuples of texts, say) -/
namespace K9T
open PySem PySem.Spec PyProof.Rows L2
section
variable {P : Program} {w : World} {κ : Type} [DecidableEq κ]
/-- keys in objects that a set may hold: what is asked of them is answered, and they stay while sequences stay -/
structure Calm (knd : HeapKind P w κ) : Prop where
  stay : ∀ {h h' : Heap} {k : κ} {b : Addr}, (∀ c o vs n, h.get? c = some o → o.data = .seq vs n → h'.get? c = some o) → knd.is h k b → knd.is h' k b
  stm : ∀ {A : Around} {E : Value → Shared → Prop} {s : Shared} {k : κ} {b : Addr} {Q : Bool → Shared → Prop}, knd.is s.heap k b → Q false s → wpAny (model P w) A (ofAClassStatement 8 (.ref b)) Q E s
  val : ∀ {A : Around} {E : Value → Shared → Prop} {s : Shared} {k : κ} {b : Addr} {Q : Bool → Shared → Prop}, knd.is s.heap k b → (∀ c, Q c s) → wpAny (model P w) A (hashByValue 8 (.ref b)) Q E s
variable {knd : HeapKind P w κ}
theorem Calm.but (C : Calm knd) {h h' : Heap} {k : κ} {a b : Addr} {o : Obj} {es : Array (Int × Value)} {ep : Nat} {t : SetTable} (hb : knd.is h k b) (ho : h.get? a = some o) (hd : o.data = .set es ep t) (hs : Heap.SameBut a h h') : knd.is h' k b :=
  C.stay (fun c o' vs n e d => (hs.2 c fun z => by
    rw [z, ho] at e
    cases e
    rw [hd] at d
    cases d).trans e) hb
theorem Calm.more (C : Calm knd) {h h' : Heap} {k : κ} {b : Addr} (hb : knd.is h k b) (hs : ∀ c o, h.get? c = some o → h'.get? c = some o) : knd.is h' k b := C.stay (fun c o _ _ e _ => hs c o e) hb
/-- the entries of a set with these members -/
def ent (knd : HeapKind P w κ) (m : List (κ × Addr)) : List (Int × Value) := m.map fun p => (knd.hash p.1, Value.ref p.2)
def hsh (knd : HeapKind P w κ) (m : List (κ × Addr)) : List Int := m.map fun p => knd.hash p.1
/-- at a the set of these members -/
structure Mem (knd : HeapKind P w κ) (h : Heap) (a : Addr) (m : List (κ × Addr)) (es : Array (Int × Value)) (ep : Nat) (t : SetTable) : Prop where
  ob : ∃ o, h.get? a = some o ∧ o.ExactSet ∧ o.data = .set es ep t
  row : es.toList = ent knd m
  tab : TabOk t (hsh knd m)
  one : (m.map (·.1)).Nodup
  key : ∀ p ∈ m, knd.is h p.1 p.2
  led : w.params.followText "set-order" = true ∨ t.led = true
  gap : m.length * 5 < t.mask * 3
  few : m.length < 64
theorem ent_len (m : List (κ × Addr)) : (ent knd m).length = m.length := List.length_map ..
theorem hsh_len (m : List (κ × Addr)) : (hsh knd m).length = m.length := List.length_map ..
theorem es_size {es : Array (Int × Value)} {m : List (κ × Addr)} (h : es.toList = ent knd m) : es.size = m.length := by
  rw [← Array.length_toList, h, ent_len]
theorem es_at {es : Array (Int × Value)} {m : List (κ × Addr)} (h : es.toList = ent knd m) {i : Nat} {p : κ × Addr} (hp : m[i]? = some p) : es[i]? = some (knd.hash p.1, Value.ref p.2) := by
  rw [← Array.getElem?_toList, h]
  unfold ent
  rw [List.getElem?_map, hp]
  rfl
theorem hsh_at {m : List (κ × Addr)} {i : Nat} {p : κ × Addr} (hp : m[i]? = some p) : (hsh knd m)[i]? = some (knd.hash p.1) := by
  unfold hsh
  rw [List.getElem?_map, hp]
  rfl
theorem place_lt {t : SetTable} {m : List (κ × Addr)} (T : TabOk t (hsh knd m)) {i j : Nat} (h : t.place.toList[i]? = some j) : ∃ p, m[i]? = some p := by
  have lt := (List.getElem?_eq_some_iff.mp h).1
  rw [Array.length_toList, T.sz, hsh_len] at lt
  exact ⟨m[i], List.getElem?_eq_getElem lt⟩
theorem place_at {t : SetTable} {m : List (κ × Addr)} (T : TabOk t (hsh knd m)) {i : Nat} {p : κ × Addr} (h : m[i]? = some p) : ∃ j, t.place.toList[i]? = some j := by
  have lt := (List.getElem?_eq_some_iff.mp h).1
  have lt : i < t.place.toList.length := by rw [Array.length_toList, T.sz, hsh_len]; exact lt
  exact ⟨_, List.getElem?_eq_getElem lt⟩
theorem fits_of {t : SetTable} {m : List (κ × Addr)} {es : Array (Int × Value)} (T : TabOk t (hsh knd m)) (hr : es.toList = ent knd m) (le : m.length ≤ t.mask) : t.fits es.size = true := by
  have a := T.sz
  have b := es_size hr
  rw [hsh_len] at a
  unfold SetTable.fits SetTable.fill
  rw [T.dm, Bool.and_eq_true, beq_iff_eq, decide_eq_true_eq]
  show t.place.size = es.size ∧ t.place.size + 0 ≤ t.mask
  omega
/-- the table is not plain any more -/
theorem tab_plain {t : SetTable} {hs : List Int} (T : TabOk t hs) (c : Bool) : TabOk (if c = true then t else { t with plain := false }) hs := by
  cases c with
  | true => exact T
  | false => exact ⟨T.ris, T.dm, T.sz, T.mok, T.bd, T.reach⟩
variable {A : Around} {E : Value → Shared → Prop} {s : Shared} {a : Addr} {m : List (κ × Addr)} {es : Array (Int × Value)} {ep : Nat} {t : SetTable}
theorem Mem.fits (R : Mem knd s.heap a m es ep t) : t.fits es.size = true := fits_of R.tab R.row (by have := R.gap; omega)
theorem Mem.odd (R : Mem knd s.heap a m es ep t) : ¬ t.gaveWay = true := by
  unfold SetTable.gaveWay
  rw [mask_odd R.tab.mok]
  decide
/-- a search among such keys is not seen -/
theorem unseen (C : Calm knd) {k : κ} {b : Addr} {Q : Bool → Shared → Prop} (hk : knd.is s.heap k b) (h : Q false s) : ∀ ys : List Value, (∀ y ∈ ys, ∃ k' c, y = Value.ref c ∧ knd.is s.heap k' c) → wpAny (model P w) A (searchCouldBeSeen (.ref b) ys) Q E s := by
  intro ys hy
  unfold searchCouldBeSeen
  refine wpAny_bind (wpAny_forIn_list _ (fun rest r s' => (s' = s ∧ r.1 = none) ∧ ∀ y ∈ rest, ∃ k' c, y = Value.ref c ∧ knd.is s.heap k' c) _ (fun v rest r s' z => ?_) (fun r s' z => ?_) _ _ ⟨⟨rfl, rfl⟩, hy⟩)
  · obtain ⟨⟨rfl, hr⟩, all⟩ := z
    obtain ⟨k', c, rfl, hc⟩ := all v List.mem_cons_self
    have on := fun u hu => all u (List.mem_cons_of_mem _ hu)
    dsimp only
    by_cases e : (b == c || (carriedByValue (.ref b) && carriedByValue (.ref c))) = true
    · exact wp_if_pos e (wpAny_pure ⟨⟨rfl, rfl⟩, on⟩)
    · refine wp_if_neg e (wpAny_bind (knd.quiet hk ?_))
      simp only [Bool.not_true, Bool.false_eq_true, if_false]
      refine wpAny_bind (knd.quiet hc ?_)
      simp only [Bool.not_true, Bool.false_eq_true, if_false]
      refine wpAny_bind (C.stm hk ?_)
      simp only [Bool.false_eq_true, if_false]
      refine wpAny_bind (C.stm hc ?_)
      simp only [Bool.false_eq_true, if_false]
      exact wpAny_pure ⟨⟨rfl, rfl⟩, on⟩
  · obtain ⟨⟨rfl, hr⟩, _⟩ := z
    obtain ⟨r1, r2⟩ := r
    cases hr
    exact wpAny_pure h
/-- the c-th state of a search for the hash h -/
abbrev stp (m : Nat) (h : Int) (c : Nat) : SetTable.Probe := nth m (runAt m (SetTable.bits h % (m + 1)) (SetTable.bits h)) c
theorem stp_add (m : Nat) (h : Int) (c q : Nat) : nth m (stp m h c) q = stp m h (c + q) := (nth_add m c _ q).symm
theorem stp_dummy (m : Nat) (h : Int) : ∀ c, (stp m h c).dummy = none
  | 0 => rfl
  | c + 1 => by
    have ih := stp_dummy m h c
    show (nth m _ (c + 1)).dummy = none
    rw [nth_succ]
    unfold adv
    split <;> exact ih
abbrev hAt (es : Array (Int × Value)) : Nat → Int := fun i => (es[i]?.map (·.1)).getD 0
/-- where the search for h that stands at its c-th state comes to: the first entry of that hash, or the empty slot -/
theorem met {h : Int} {K c : Nat} (T : TabOk t (hsh knd m)) (hr : es.toList = ent knd m) (hf : K < 10 * SetTable.turns t.mask) (h1 : way t.mask h K ∉ t.place.toList) (h2 : ∀ q, q < K → way t.mask h q ∈ t.place.toList) (hc : c ≤ K) :
    (∃ q i p, c ≤ q ∧ q < K ∧ t.place.toList[i]? = some (way t.mask h q) ∧ m[i]? = some p ∧ (∀ (q' i' : Nat) (p' : κ × Addr), c ≤ q' → q' < q → t.place.toList[i']? = some (way t.mask h q') → m[i']? = some p' → knd.hash p'.1 ≠ h) ∧
      t.probe (hAt es) h (stp t.mask h c) = some (.candidate (way t.mask h q) i (stp t.mask h (q + 1)))) ∨
    ((∀ (q' i' : Nat) (p' : κ × Addr), c ≤ q' → q' < K → t.place.toList[i']? = some (way t.mask h q') → m[i']? = some p' → knd.hash p'.1 ≠ h) ∧ t.probe (hAt es) h (stp t.mask h c) = some (.empty (way t.mask h K) none)) := by
  have hh : ∀ (i : Nat) p, m[i]? = some p → hAt es i = knd.hash p.1 := fun i p hp => by
    show (es[i]?.map (·.1)).getD 0 = _
    rw [es_at hr hp]
    rfl
  have js : ∀ q, (nth t.mask (stp t.mask h c) q).j = way t.mask h (c + q) := fun q => congrArg SetTable.Probe.j (stp_add t.mask h c q)
  have goes := go_spec t T.ris T.dm (hAt es) h (10 * SetTable.turns t.mask) (K - c) _ (stp_dummy t.mask h c) (by omega) (fun q hq => by rw [js]; exact h2 _ (by omega)) (by rw [js, Nat.add_sub_cancel' hc]; exact h1)
  rcases goes with ⟨q, i, g1, g2, g3, g4, g5⟩ | ⟨g1, g2⟩
  · rw [js] at g2 g5
    rw [stp_add] at g5
    obtain ⟨p, hp⟩ := place_lt T g2
    refine .inl ⟨c + q, i, p, by omega, by omega, g2, hp, fun q' i' p' a1 a2 a3 a4 => ?_, g5⟩
    rw [← hh i' p' a4]
    exact g4 (q' - c) i' (by omega) (by rw [js, Nat.add_sub_cancel' a1]; exact a3)
  · rw [js, Nat.add_sub_cancel' hc] at g2
    refine .inr ⟨fun q' i' p' a1 a2 a3 a4 => ?_, g2⟩
    rw [← hh i' p' a4]
    exact g1 (q' - c) i' (by omega) (by rw [js, Nat.add_sub_cancel' a1]; exact a3)
/-- the search, from its c-th state on: all of the key that it asks for lie there -/
theorem seek (C : Calm knd) (R : Mem knd s.heap a m es ep t) {x : Addr} {k : κ} (hx : knd.is s.heap k x) (hu : knd.room A) {K : Nat} (hf : K < 10 * SetTable.turns t.mask) (h1 : way t.mask (knd.hash k) K ∉ t.place.toList)
    (h2 : ∀ q, q < K → way t.mask (knd.hash k) q ∈ t.place.toList) {Q : SetFound → Shared → Prop} (yes : k ∈ m.map (·.1) → Q (.there none) s) (no : k ∉ m.map (·.1) → Q (.free (way t.mask (knd.hash k) K) false) s) :
    ∀ (n c : Nat) (stand : Option SetTable.Probe), stand.getD (t.probeStart (knd.hash k)) = stp t.mask (knd.hash k) c → c ≤ K → K - c < n → (∀ (i : Nat) p, m[i]? = some p → p.1 = k → ∃ q, c ≤ q ∧ q < K ∧ t.place.toList[i]? = some (way t.mask (knd.hash k) q)) →
      wpAny (model P w) A (setSearchFrom a (.ref x) (knd.hash k) true n stand) Q E s := by
  obtain ⟨o, ho, hex, hd⟩ := R.ob
  intro n
  induction n with
  | zero => intro c stand _ _ hn; omega
  | succ n ih =>
    intro c stand hs hc hn lie
    rw [setSearchFrom_succ]
    refine wpAny_bind (wpAny_setState_of ho hd R.fits ?_)
    dsimp only
    refine wp_if_neg R.odd ?_
    try refine wpAny_bind (wpAny_pure ?_)
    rw [hs]
    rcases met R.tab R.row hf h1 h2 hc with ⟨q, i, p, q1, q2, hi, hp, before, pr⟩ | ⟨before, pr⟩
    · have pr : t.probe (fun i => (es[i]?.map (·.1)).getD 0) (knd.hash k) (stp t.mask (knd.hash k) c) = _ := pr
      rw [pr]
      dsimp only
      have mp : p ∈ m := List.mem_of_getElem? hp
      have live : t.slot (way t.mask (knd.hash k) q) = .live i := slot_live R.tab.ris hi
      have rest : wpAny (model P w) A (searchRest a (.ref x) (knd.hash k) true n es t (way t.mask (knd.hash k) q) i (stp t.mask (knd.hash k) (q + 1))) Q E s := by
        unfold searchRest
        rw [es_at R.row hp]
        dsimp only
        refine wpAny_bind (wpAny_holding (knd.eqBool hu (R.key p mp) hx ?_))
        refine wpAny_bind (wpAny_setState_of ho hd R.fits ?_)
        dsimp only
        by_cases e : p.1 = k
        · exact wp_if_pos (by simp [e]) (wpAny_pure (yes (List.mem_map.mpr ⟨p, mp, e⟩)))
        · refine wp_if_neg (by simp [e]) ?_
          try refine wpAny_bind (wpAny_pure ?_)
          rw [sameMem]
          dsimp only
          simp only [if_true, live, es_at R.row hp]
          refine wpAny_bind (wpAny_isSame_ref_self (wpAny_bind (wpAny_pure ?_)))
          simp only [if_true]
          refine wp_if_neg (by simp [e]) (ih (q + 1) _ rfl (by omega) (by omega) fun i0 p0 g0 e0 => ?_)
          obtain ⟨r, r1, r2, r3⟩ := lie i0 p0 g0 e0
          refine ⟨r, ?_, r2, r3⟩
          rcases Nat.lt_trichotomy r q with z | z | z
          · exact absurd (congrArg knd.hash e0) (before r i0 p0 r1 z r3 g0)
          · rw [z] at r3
            have l2 := slot_live R.tab.ris r3
            rw [live] at l2
            cases l2
            rw [hp] at g0
            cases g0
            exact absurd e0 e
          · exact z
      by_cases l : t.led = true
      · refine wp_if_neg (by simp [l]) ?_
        try refine wpAny_bind (wpAny_pure ?_)
        exact rest
      · refine wp_if_pos (by simp [l]) (wpAny_bind (unseen C hx ?_ _ fun y hy => ?_))
        · refine wp_if_neg (by decide) ?_
          try refine wpAny_bind (wpAny_pure ?_)
          exact rest
        · obtain ⟨e, he, rfl⟩ := List.mem_map.mp hy
          have he : e ∈ es.toList := by
            have z : e ∈ es ∧ e.1 = knd.hash k := by simpa using he
            simpa using z.1
          rw [R.row] at he
          obtain ⟨p2, hp2, rfl⟩ := List.mem_map.mp he
          exact ⟨p2.1, p2.2, rfl, R.key p2 hp2⟩
    · have pr : t.probe (fun i => (es[i]?.map (·.1)).getD 0) (knd.hash k) (stp t.mask (knd.hash k) c) = _ := pr
      rw [pr]
      dsimp only
      refine wpAny_pure (no fun hm => ?_)
      obtain ⟨p, hp, e⟩ := List.mem_map.mp hm
      obtain ⟨i, hi, ei⟩ := List.getElem_of_mem hp
      have gi : m[i]? = some p := by rw [List.getElem?_eq_getElem hi, ei]
      obtain ⟨q, r1, r2, r3⟩ := lie i p gi e
      exact before q i p r1 r2 r3 gi (congrArg knd.hash e)
theorem search (C : Calm knd) (R : Mem knd s.heap a m es ep t) {x : Addr} {k : κ} (hx : knd.is s.heap k x) (hu : knd.room A) {Q : SetFound → Shared → Prop} (yes : k ∈ m.map (·.1) → Q (.there none) s)
    (no : ∀ K, k ∉ m.map (·.1) → way t.mask (knd.hash k) K ∉ t.place.toList → (∀ q, q < K → way t.mask (knd.hash k) q ∈ t.place.toList) → Q (.free (way t.mask (knd.hash k) K) false) s) :
    wpAny (model P w) A (setSearch a (.ref x) (knd.hash k) true) Q E s := by
  obtain ⟨K, hf, h1, h2⟩ := R.tab.first (by rw [hsh_len]; have := R.gap; omega) (knd.hash k)
  have big : K < 100000 := by
    have : 10 * SetTable.turns t.mask ≤ 1420 := by
      unfold SetTable.turns
      rcases R.tab.mok with e | e | e <;> omega
    omega
  unfold setSearch
  refine seek C R hx hu hf h1 h2 yes (fun n => no K n h1 h2) 100000 0 none rfl (Nat.zero_le _) (by omega) fun i p hp e => ?_
  obtain ⟨j, hj⟩ := place_at R.tab hp
  have hh := hsh_at (knd := knd) hp
  rw [e] at hh
  obtain ⟨q, q1, q2⟩ := R.tab.before h1 hh hj
  exact ⟨q, Nat.zero_le _, q1, by rw [hj, q2]⟩
/-- the entries in another order are the members in another order -/
theorem reorder {es : Array (Int × Value)} (order : Array Nat) (hr : es.toList = ent knd m) (hp : order.toList.Perm (List.range m.length)) :
    ∃ m2, (order.filterMap (es[·]?)).toList = ent knd m2 ∧ m2.Perm m ∧ hsh knd m2 = order.toList.map fun i => (es.map (·.1)).getD i 0 := by
  have at_ : ∀ i, i < m.length → ∃ p, m[i]? = some p ∧ es[i]? = some (knd.hash p.1, Value.ref p.2) ∧ (es.map (·.1)).getD i 0 = knd.hash p.1 := fun i hi => by
    have e := es_at hr (List.getElem?_eq_getElem hi)
    refine ⟨_, List.getElem?_eq_getElem hi, e, ?_⟩
    have e2 : (es.map (·.1))[i]? = some (knd.hash m[i].1) := by rw [Array.getElem?_map, e]; rfl
    simp [Array.getD_eq_getD_getElem?, e2]
  have both : ∀ l : List Nat, (∀ i ∈ l, i < m.length) → l.filterMap (fun i => es[i]?) = ent knd (l.filterMap fun i => m[i]?) ∧ hsh knd (l.filterMap fun i => m[i]?) = l.map fun i => (es.map (·.1)).getD i 0 := by
    intro l
    induction l with
    | nil => exact fun _ => ⟨rfl, rfl⟩
    | cons i l ih =>
      intro hl
      obtain ⟨p, p1, p2, p3⟩ := at_ i (hl i List.mem_cons_self)
      obtain ⟨a1, a2⟩ := ih fun j hj => hl j (List.mem_cons_of_mem _ hj)
      rw [List.filterMap_cons_some p2, List.filterMap_cons_some p1, List.map_cons, p3, a1, ← a2]
      exact ⟨rfl, rfl⟩
  obtain ⟨b1, b2⟩ := both order.toList fun i hi => List.mem_range.mp (hp.mem_iff.mp hi)
  refine ⟨_, by first | (rw [Array.toList_filterMap]; exact b1) | simpa using b1, ?_, b2⟩
  have all : ∀ n, n ≤ m.length → (List.range n).filterMap (fun i => m[i]?) = m.take n := by
    intro n
    induction n with
    | zero => exact fun _ => rfl
    | succ n ih =>
      intro hn
      rw [List.range_succ, List.filterMap_append, ih (Nat.le_of_lt hn), List.take_succ, List.getElem?_eq_getElem hn, List.filterMap_cons_some (List.getElem?_eq_getElem hn)]
      rfl
  have z := hp.filterMap fun i => m[i]?
  rw [all _ (Nat.le_refl _), List.take_length] at z
  exact z
/-- the table is laid anew -/
theorem relay (C : Calm knd) {o : Obj} (ho : s.heap.get? a = some o) (hex : o.ExactSet) (hd : o.data = .set es ep t) (hr : es.toList = ent knd m) (T : TabOk t (hsh knd m)) (le : m.length ≤ t.mask) (one : (m.map (·.1)).Nodup) (key : ∀ p ∈ m, knd.is s.heap p.1 p.2)
    (led : w.params.followText "set-order" = true ∨ t.led = true) (few : m.length < 64) {wanted M : Nat} (hw : SetTable.sizeAbove wanted - 1 = M) (hM : MaskOk M) (hw2 : SetTable.sizeAbove wanted ≤ 128) (gap : m.length * 5 < M * 3) {Q : Unit → Shared → Prop}
    (h : ∀ h' m' es' ep' t', Heap.SameBut a s.heap h' → Mem knd h' a m' es' ep' t' → m'.Perm m → Q () { s with heap := h' }) : wpAny (model P w) A (setRelay a wanted) Q E s := by
  have sz := es_size hr
  obtain ⟨t', order, e, pm, T', em, el, epl, ed⟩ := relaid_ok t (hs := es.map (·.1)) (wanted := wanted) hw hM (by rw [Array.size_map, sz]; omega)
  rw [Array.size_map, sz] at pm
  obtain ⟨m2, r1, r2, r3⟩ := reorder order hr pm
  rw [← r3] at T'
  have sz2 : (order.filterMap (es[·]?)).size = es.size := by rw [es_size r1, sz, r2.length_eq]
  rw [setRelay_eq]
  refine wpAny_bind (wpAny_setState_of ho hd (fits_of T hr le) ?_)
  dsimp only
  refine wp_if_neg (by rw [sizeLine_eq]; omega) ?_
  try refine wpAny_bind (wpAny_pure ?_)
  rw [e]
  dsimp only
  refine wpAny_bind ?_
  refine wp_if_neg (by rw [sz2]; simp) ?_
  try refine wpAny_bind (wpAny_pure ?_)
  refine wpAny_pure ?_
  dsimp only
  refine wpAny_storeSet_of ho hd ?_ (by rw [sz2, sz, sizeLine_eq]; omega)
  have sb : Heap.SameBut a s.heap (s.heap.update a (Obj.putSet (order.filterMap (es[·]?)) t')) := Heap.SameBut.update ..
  refine h _ m2 _ (ep + 1) t' sb ⟨⟨_, store_at ho hd, ⟨hex.1, hex.2.1, hex.2.2⟩, rfl⟩, r1, T', (r2.map (·.1)).nodup_iff.mpr one, fun p hp => C.but (key p (r2.mem_iff.mp hp)) ho hd sb, by rw [el]; exact led, by rw [r2.length_eq, em]; exact gap, by rw [r2.length_eq]; exact few⟩ r2
/-- one more -/
theorem put (C : Calm knd) (R : Mem knd s.heap a m es ep t) {x : Addr} {k : κ} (hx : knd.is s.heap k x) (hu : knd.room A) (few : m.length + 1 < 64) {Q : Bool → Shared → Prop}
    (h : ∀ b h' m' es' ep' t', Heap.SameBut a s.heap h' → Mem knd h' a m' es' ep' t' → m'.Perm (if k ∈ m.map (·.1) then m else (k, x) :: m) → Q b { s with heap := h' }) :
    wpAny (model P w) A (setAddHashed a (.ref x) (knd.hash k)) Q E s := by
  obtain ⟨o, ho, hex, hd⟩ := R.ob
  have sz := es_size R.row
  have gap := R.gap
  unfold setAddHashed
  refine wpAny_holding ?_
  rw [show (100000 : Nat) = 99999 + 1 from rfl, setAddHashedIn_succ]
  refine wpAny_bind (wpAny_setState_of ho hd R.fits ?_)
  dsimp only
  refine wp_if_neg (by simp [byScan, Value.scannable]) ?_
  try refine wpAny_bind (wpAny_pure ?_)
  refine wpAny_bind (search C R hx hu (fun yes => ?_) fun K no h1 h2 => ?_)
  · dsimp only
    exact wpAny_pure (h false s.heap m es ep t (Heap.SameBut.refl a s.heap) R (by rw [if_pos yes]))
  have h : ∀ b h' m' es' ep' t', Heap.SameBut a s.heap h' → Mem knd h' a m' es' ep' t' → m'.Perm ((k, x) :: m) → Q b { s with heap := h' } := fun b h' m' es' ep' t' z1 z2 z3 => h b h' m' es' ep' t' z1 z2 (by rw [if_neg no]; exact z3)
  dsimp only
  refine wpAny_bind (wpAny_setState_of ho hd R.fits ?_)
  dsimp only
  obtain ⟨e1, le, T1, em, el, _, _, _, ef⟩ := R.tab.put h1 h2
  generalize hT : t.put (way t.mask (knd.hash k) K) = pt at e1 T1 em el ef ⊢
  obtain ⟨t1, p⟩ := pt
  dsimp only at e1 T1 em el ef ⊢
  subst e1
  generalize SetTable.below t.place (way t.mask (knd.hash k) K) = j at le T1 ⊢
  rw [hsh_len] at le ef
  have row : (SetTable.insertAt es j (knd.hash k, Value.ref x)).toList = ent knd (m.take j ++ (k, x) :: m.drop j) := by
    rw [SetTable.toList_insertAt, R.row]
    unfold ent
    rw [List.map_append, List.map_cons, List.map_take, List.map_drop]
  have T1 : TabOk t1 (hsh knd (m.take j ++ (k, x) :: m.drop j)) := by
    have e : hsh knd (m.take j ++ (k, x) :: m.drop j) = (hsh knd m).take j ++ knd.hash k :: (hsh knd m).drop j := by
      unfold hsh
      rw [List.map_append, List.map_cons, List.map_take, List.map_drop]
    rw [e]
    exact T1
  have pm : (m.take j ++ (k, x) :: m.drop j).Perm ((k, x) :: m) := put_perm m j (k, x)
  generalize SetTable.insertAt es j (knd.hash k, Value.ref x) = es1 at row ⊢
  generalize m.take j ++ (k, x) :: m.drop j = m1 at row T1 pm
  have len1 : m1.length = m.length + 1 := pm.length_eq
  have sz1 : es1.size = m.length + 1 := by rw [es_size row, len1]
  have one1 : (m1.map (·.1)).Nodup := (pm.map (·.1)).nodup_iff.mpr (by rw [List.map_cons]; exact List.nodup_cons.mpr ⟨no, R.one⟩)
  -- with or without the mark of plain keys
  have fin : ∀ t2 : SetTable, TabOk t2 (hsh knd m1) → t2.mask = t.mask → t2.led = t.led → t2.fill = m.length + 1 → wpAny (model P w) A (storeSet a es1 t2 >>= fun _ => if (!false && t2.tooFull) = true then setRelay a (SetTable.grown (es.size + 1)) >>= fun _ => pure true else pure true) Q E s := by
    intro t2 T2 em el ef
    refine wpAny_bind (wpAny_storeSet_of ho hd ?_ (by rw [sz1, sizeLine_eq]; omega))
    have sb : Heap.SameBut a s.heap (s.heap.update a (Obj.putSet es1 t2)) := Heap.SameBut.update ..
    have ho1 := store_at (es' := es1) (t' := t2) ho hd
    generalize s.heap.update a (Obj.putSet es1 t2) = g at sb ho1 ⊢
    have key1 : ∀ p ∈ m1, knd.is g p.1 p.2 := fun p hp => by
      rcases List.mem_cons.mp (pm.mem_iff.mp hp) with rfl | hp
      · exact C.but hx ho hd sb
      · exact C.but (R.key p hp) ho hd sb
    have led1 : w.params.followText "set-order" = true ∨ t2.led = true := by rw [el]; exact R.led
    by_cases full : t2.tooFull = true
    · refine wp_if_pos (by simp [full]) (wpAny_bind ?_)
      have full5 : (m.length + 1) * 5 ≥ t.mask * 3 := by
        have z := full
        unfold SetTable.tooFull at z
        rw [decide_eq_true_eq, ef, em] at z
        exact z
      rw [sz]
      have go : ∀ M, SetTable.sizeAbove (SetTable.grown (m.length + 1)) - 1 = M → MaskOk M → SetTable.sizeAbove (SetTable.grown (m.length + 1)) ≤ 128 → (m.length + 1) * 5 < M * 3 → m.length + 1 ≤ t.mask →
          wpAny (model P w) A (setRelay a (SetTable.grown (m.length + 1))) (fun _ s' => wpAny (model P w) A (pure true) Q E s') E { s with heap := g } := fun M a1 a2 a3 a4 a5 =>
        relay (s := { s with heap := g }) C ho1 ⟨hex.1, hex.2.1, hex.2.2⟩ rfl row T2 (by rw [len1, em]; exact a5) one1 key1 led1 (by rw [len1]; exact few) a1 a2 a3 (by rw [len1]; exact a4) fun g2 m2 es2 ep2 t3 sb2 R2 pm2 =>
          wpAny_pure (h true g2 m2 es2 ep2 t3 (sb.trans sb2) R2 (pm2.trans pm))
      rcases R.tab.mok with e | e | e
      · have l4 : m.length = 4 := by rw [e] at full5 gap; omega
        exact go 31 (by rw [l4, size_20]) (.inr (.inl rfl)) (by rw [l4, size_20]; decide) (by omega) (by omega)
      · have l4 : m.length = 18 := by rw [e] at full5 gap; omega
        exact go 127 (by rw [l4, size_76]) (.inr (.inr rfl)) (by rw [l4, size_76]; decide) (by omega) (by omega)
      · exfalso
        rw [e] at full5
        omega
    · refine wp_if_neg (by simp [full]) (wpAny_pure (h true g m1 es1 (ep + 1) t2 sb ⟨⟨_, ho1, ⟨hex.1, hex.2.1, hex.2.2⟩, rfl⟩, row, T2, one1, key1, led1, ?_, by rw [len1]; exact few⟩ pm))
      have z := full
      unfold SetTable.tooFull at z
      rw [decide_eq_true_eq, ef] at z
      rw [len1]
      omega
  have two : ∀ c : Bool, wpAny (model P w) A (storeSet a es1 (if c = true then t1 else { t1 with plain := false }) >>= fun _ => if (!false && (if c = true then t1 else { t1 with plain := false }).tooFull) = true then setRelay a (SetTable.grown (es.size + 1)) >>= fun _ => pure true else pure true) Q E s := fun c => by
    cases c with
    | true => exact fin t1 T1 em el ef
    | false => exact fin { t1 with plain := false } (tab_plain T1 false) em el ef
  by_cases pl : t1.plain = true
  · first
      | (refine wpAny_bind ?_; refine wp_if_pos pl ?_; exact C.val hx two)
      | exact wp_if_pos pl (wpAny_bind (C.val hx two))
  · first
      | (refine wpAny_bind ?_; refine wp_if_neg pl ?_; exact wpAny_pure (two true))
      | exact wp_if_neg pl (wpAny_bind (wpAny_pure (two true)))
end
end K9T

/-! set() of a list or a tuple of such keys; sorted() of a set of tuples of texts -/
namespace K9T
open PySem PySem.Spec PyProof.Rows L2
section
variable {κ : Type} [DecidableEq κ]
/-- what a set has got of the first i of ks -/
structure Got (ks : List (κ × Addr)) (i : Nat) (m : List (κ × Addr)) : Prop where
  sub : ∀ p ∈ m, p ∈ ks.take i
  all : ∀ p ∈ ks.take i, p.1 ∈ m.map (·.1)
  len : m.length ≤ i
theorem got_nil (ks : List (κ × Addr)) : Got ks 0 [] := ⟨fun _ h => (nomatch h), fun p h => by simp at h, Nat.le_refl _⟩
theorem Got.next {ks m m' : List (κ × Addr)} {i : Nat} {x : κ × Addr} (g : Got ks i m) (h : ks[i]? = some x) (pm : m'.Perm (if x.1 ∈ m.map (·.1) then m else x :: m)) : Got ks (i + 1) m' := by
  have e : ks.take (i + 1) = ks.take i ++ [x] := by rw [List.take_add_one, h]; rfl
  by_cases c : x.1 ∈ m.map (·.1)
  · rw [if_pos c] at pm
    refine ⟨fun p hp => ?_, fun p hp => ?_, by rw [pm.length_eq]; exact Nat.le_succ_of_le g.len⟩
    · rw [e]
      exact List.mem_append_left _ (g.sub p (pm.mem_iff.mp hp))
    · rw [(pm.map (·.1)).mem_iff]
      rw [e] at hp
      rcases List.mem_append.mp hp with z | z
      · exact g.all p z
      · rw [List.mem_singleton.mp z]
        exact c
  · rw [if_neg c] at pm
    refine ⟨fun p hp => ?_, fun p hp => ?_, by rw [pm.length_eq]; exact Nat.succ_le_succ g.len⟩
    · rw [e]
      rcases List.mem_cons.mp (pm.mem_iff.mp hp) with rfl | z
      · exact List.mem_append_right _ List.mem_cons_self
      · exact List.mem_append_left _ (g.sub p z)
    · rw [(pm.map (·.1)).mem_iff]
      rw [e] at hp
      rcases List.mem_append.mp hp with z | z
      · exact List.mem_cons_of_mem _ (g.all p z)
      · rw [List.mem_singleton.mp z]
        exact List.mem_cons_self
end
section
variable {P : Program} {w : World} {κ : Type} [DecidableEq κ] {knd : HeapKind P w κ} {A : Around} {E : Value → Shared → Prop} {s : Shared}
/-- a set without members -/
def noneOb (w : World) : Obj := { cls := .type "set", dict := none, data := .set #[] 0 (.fresh 0 0 (!w.params.followText "set-order")) }
theorem mem_nil {h : Heap} {a : Addr} (ho : h.get? a = some (noneOb w)) : Mem knd h a [] #[] 0 (.fresh 0 0 (!w.params.followText "set-order")) where
  ob := ⟨_, ho, ⟨rfl, rfl, rfl⟩, rfl⟩
  row := rfl
  tab := ⟨List.Pairwise.nil, rfl, rfl, .inl rfl, fun _ h => (nomatch h), fun i h j z => by simp [hsh] at z⟩
  one := List.nodup_nil
  key := fun _ h => (nomatch h)
  led := by
    show _ ∨ (!w.params.followText "set-order") = true
    cases w.params.followText "set-order" <;> simp
  gap := by show 0 * 5 < 7 * 3; decide
  few := by show 0 < 64; decide
theorem Mem.keep {h h' : Heap} {a : Addr} {m : List (κ × Addr)} {es : Array (Int × Value)} {ep : Nat} {t : SetTable} (R : Mem knd h a m es ep t) (ha : ∀ o, h.get? a = some o → h'.get? a = some o) (hk : ∀ p ∈ m, knd.is h' p.1 p.2) : Mem knd h' a m es ep t :=
  ⟨let ⟨o, ho, r⟩ := R.ob; ⟨o, ha o ho, r⟩, R.row, R.tab, R.one, hk, R.led, R.gap, R.few⟩
theorem loop {I : Addr} {fp wr : List Addr} {G : Array GenState → Array GenState → Prop} {n : Nat} {Pv : Nat → Value → Prop} {St : Nat → Shared → Prop} {R : Result → Shared → Prop} (C : Calm knd) (W : WalksS P w A.in1 I fp wr G n Pv St) (S : Addr) (far : S ∉ fp) (ks : List (κ × Addr)) (hn : ks.length = n) (few : n < 64)
    (hval : ∀ i v, Pv i v → ∃ p, ks[i]? = some p ∧ v = .ref p.2) (h0 : Heap) (key : ∀ p ∈ ks, knd.is h0 p.1 p.2) (hS : h0.get? S = none) (hw : ∀ b ∈ wr, h0.get? b = none) (hu : knd.room A.in1) :
    ∀ (k i : Nat) (s : Shared), n - i = k → i ≤ n → St i s → (∀ b o, h0.get? b = some o → s.heap.get? b = some o) → (∃ m es ep t, Mem knd s.heap S m es ep t ∧ Got ks i m) →
      (∀ s' m es ep t, Moved (S :: wr) G s s' → Mem knd s'.heap S m es ep t → Got ks n m → R (.ok (.ret .none)) s') → codeAny (model P w) A (.builtin "set.update.loop" ⟨[.ref S, .ref I], []⟩) R s := by
  have off : S ∉ wr := fun z => far (W.sub _ z)
  have up : ∀ b ∈ wr, b ∈ S :: wr := fun b z => List.mem_cons_of_mem _ z
  have kept : ∀ {s s' : Shared}, Moved wr G s s' → (∀ b o, h0.get? b = some o → s.heap.get? b = some o) → ∀ b o, h0.get? b = some o → s'.heap.get? b = some o := fun hm hk b o e =>
    hm.heap b o (fun z => by rw [hw b z] at e; cases e) (hk b o e)
  have here : ∀ {s s' : Shared} {m es ep t} {i : Nat}, Moved wr G s s' → (∀ b o, h0.get? b = some o → s'.heap.get? b = some o) → Got ks i m → Mem knd s.heap S m es ep t → Mem knd s'.heap S m es ep t := fun hm hk g R =>
    R.keep (fun o e => hm.heap S o off e) fun p hp => C.more (key p (List.mem_of_mem_take (g.sub p hp))) hk
  intro k
  induction k with
  | zero =>
    intro i s hk hi hst h0s hM done
    obtain ⟨m, es, ep, t, R, g⟩ := hM
    obtain rfl : i = n := by omega
    refine codeAny_builtin F.entry_set_update_loop ?_
    rw [Around.under_plainId F.plain_set_update_loop _]
    refine (wpAny_bind (W.done s _ _ hst fun s' hm => ?_) : wpAny _ A.in1 (pyNext (.ref I) >>= _) _ _ s)
    show wpAny (model P w) A.in1 (ret .none) _ _ s'
    exact wpAny_pure (done s' m es ep t (hm.mono up) (here hm (kept hm h0s) g R) g)
  | succ k ih =>
    intro i s hk hi hst h0s hM done
    obtain ⟨m, es, ep, t, R, g⟩ := hM
    have lt : i < n := by omega
    refine codeAny_builtin F.entry_set_update_loop ?_
    rw [Around.under_plainId F.plain_set_update_loop _]
    refine (wpAny_bind (W.item i s _ _ lt hst fun v s' hP hst' hm => ?_) : wpAny _ A.in1 (pyNext (.ref I) >>= _) _ _ s)
    obtain ⟨p, hp, rfl⟩ := hval i v hP
    have h0s' := kept hm h0s
    have R' := here hm h0s' g R
    have hx := C.more (key p (List.mem_of_getElem? hp)) h0s'
    refine (wpAny_bind (wpAny_holding ?_) : wpAny _ A.in1 (holding [Value.ref p.2] (setAdd S (.ref p.2)) >>= _) _ _ s')
    unfold setAdd
    refine wpAny_holding (wpAny_bind (knd.pyHash hu hx ?_))
    refine put (s := { s' with toks := s'.toks + knd.draws p.1 }) C R' hx hu (by have := g.len; omega) fun b h' m' es' ep' t' sb R2 pm => ?_
    have h0s2 : ∀ b o, h0.get? b = some o → h'.get? b = some o := fun b o e => (sb.2 b fun z => by rw [z, hS] at e; cases e).trans (h0s' b o e)
    refine wpAny_pure ⟨plainId_quiet F.plain_set_update_loop _, ih (i + 1) _ (by omega) lt (W.frame _ s' _ _ hst' (Nat.le_add_right _ _) fun b hb o e => ?_) h0s2 ⟨m', es', ep', t', R2, g.next hp pm⟩ fun s'' m2 es2 ep2 t2 hm'' R3 g3 => ?_⟩
    · exact (sb.2 b fun z : b = S => far (z ▸ hb)).trans e
    · exact done s'' m2 es2 ep2 t2 (Moved.trans W.gtrans ((hm.mono up).then_heap (Nat.le_add_right _ _) fun b o hb e => (sb.2 b fun z : b = S => hb (z ▸ List.mem_cons_self)).trans e) hm'') R3 g3
/-- set(x), x an object of the built-in type T that is walked as W says -/
theorem set_by {T : String} {cx : Addr} {o it : Obj} {items : Array Value} {z : Nat} {St : Addr → Nat → Heap → Prop} {Q : Value → Shared → Prop} (C : Calm knd) (ks : List (κ × Addr))
    (hh : A.handled = none) (hu : knd.room A.in1.in1.in1) (ho : s.heap.get? cx = some o) (hcls : o.cls = .type T) (hdat : o.data = .seq items z)
    (tA : isSubtype (.type T) (.type "set") = pure false) (tB : isSubtype (.type T) (.type "frozenset") = pure false) (tC : (Value.type T == Value.type "dict") = false)
    (hi : items.toList = ks.map fun p => Value.ref p.2) (key : ∀ p ∈ ks, knd.is s.heap p.1 p.2) (few : ks.length < 64) (hfr : it.isFreed = false)
    (hit : ∀ (s1 : Shared) (Q' : Value → Shared → Prop) (E' : Value → Shared → Prop) (A' : Around), s1.heap.get? cx = some o → Q' (.ref s1.heap.objs.size) { s1 with heap := s1.heap.push it } → wpAny (model P w) A' (pyIter (.ref cx)) Q' E' s1)
    (W : ∀ A' : Around, A'.handled = none → ∀ I, cx ≠ I → Walks P w A' I [I, cx] [I] items.size (fun i v => items[i]? = some v) (St I))
    (hSt : ∀ (h : Heap) I, h.get? I = some it → h.get? cx = some o → St I 0 h)
    (h : ∀ (h' : Heap) (tk : Nat) m es ep t, Mem knd h' s.heap.objs.size m es ep t → Got ks ks.length m → (∀ b o, s.heap.get? b = some o → h'.get? b = some o) → Q (.ref s.heap.objs.size) { s with heap := h', toks := tk }) :
    wpAny (model P w) A (call (.type "set") [.ref cx]) Q E s := by
  obtain ⟨cc, tl, mro⟩ := F.called_set.mro
  have made := F.called_set.made
  have sub := F.called_set.sub
  have z1 := F.called_set.notType
  have z2 := F.called_set.canCreate
  have z3 := F.typeCall_set_1 (.ref cx)
  refine wpAny_call (codeAny_of_tree ?_)
  show wpAny (model P w) _ (callAny (.type "set") _) _ _ _
  refine wpAny_pure ⟨Code.quiet_builtin _ (by decide +kernel), codeAny_builtin (b := Builtin.«type.__call__») F.entry_type_call ?_⟩
  rw [Around.under_plain (weight_type_call_type "set" [.ref cx] []) rfl]
  repeat (any_goals (first | assumption | wp_step))
  have nS : (s.heap.push (noneOb w)).get? s.heap.objs.size = some (noneOb w) := Heap.get?_push_size _ rfl
  have old : ∀ b q, s.heap.get? b = some q → (s.heap.push (noneOb w)).get? b = some q := fun b q z => Heap.get?_push_of_some _ z
  refine codeAny_mono (code_set_led1 (.ref cx) (E := E) (Q₁ := fun obj s₁ => obj = .ref s.heap.objs.size ∧ s₁ = { s with heap := s.heap.push (noneOb w) }) ⟨rfl, rfl⟩) fun r s₁ hr => ?_
  cases r
  case error e => exact hr
  case ok fl =>
    cases fl
    case ret obj =>
      obtain ⟨rfl, rfl⟩ := hr
      have tS : Shared.TypeIs { s with heap := s.heap.push (noneOb w) } (.ref s.heap.objs.size) "set" := ⟨_, nS, rfl⟩
      have y1 := F.called_set.init.lookup
      have y2 := F.called_set.init.bind (.ref s.heap.objs.size)
      repeat (any_goals (first | assumption | wp_step))
      refine codeAny_mono (codeAny_call_builtin (R := wants (fun r s₂ => r = .none ∧ ∃ h' tk m es ep t, s₂ = { s with heap := h', toks := tk } ∧ Mem knd h' s.heap.objs.size m es ep t ∧ Got ks ks.length m ∧
        (∀ b o, s.heap.get? b = some o → h'.get? b = some o)) E) F.called_set.init.plain F.entry_set_init (check_set_init_1 tS ?_)) fun r₂ s₂ hr₂ => ?_
      · obtain ⟨ocls, odict, odata, oslots⟩ := o
        simp only at hcls hdat
        subst hcls hdat
        have hoc := old cx _ ho
        unfold Builtin.«set.__init__» noKeywords Builtin.Frozenset.updateFrom
        generalize hPI : pyIter = PI
        wp_walk
        subst hPI
        refine hit _ _ _ _ hoc ?_
        refine wpAny_bind (wpAny_runValue ?_)
        have lt : cx < s.heap.objs.size := Heap.lt_size ho
        have sz : (s.heap.push (noneOb w)).objs.size = s.heap.objs.size + 1 := Heap.size_push _ _
        have neI : cx ≠ (s.heap.push (noneOb w)).objs.size := Nat.ne_of_lt (sz ▸ Nat.lt_succ_of_lt lt)
        have neS : s.heap.objs.size ≠ (s.heap.push (noneOb w)).objs.size := Nat.ne_of_lt (sz ▸ Nat.lt_succ_self _)
        have far : s.heap.objs.size ∉ [(s.heap.push (noneOb w)).objs.size, cx] := fun z => (List.mem_cons.mp z).elim neS fun z => Nat.ne_of_gt lt (List.mem_singleton.mp z)
        have hn : ks.length = items.size := by
          have q := congrArg List.length hi
          rw [Array.length_toList, List.length_map] at q
          exact q.symm
        have hh3 : A.in1.in1.in1.handled = none := by simp [hh]
        have free : ∀ b, s.heap.objs.size ≤ b → s.heap.get? b = none := fun b hb => by
          cases q : s.heap.get? b with
          | none => rfl
          | some o => exact absurd (Nat.lt_of_lt_of_le (Heap.lt_size q) hb) (Nat.lt_irrefl _)
        refine loop C (W _ hh3 _ neI).toS s.heap.objs.size far ks hn (by omega) (fun i v hv => ?_) s.heap key (free _ (Nat.le_refl _)) (fun b hb => free b (by rw [List.mem_singleton.mp hb, sz]; exact Nat.le_succ _)) hu
          (items.size - 0) 0 _ (by omega) (Nat.zero_le _) (hSt _ _ (Heap.get?_push_size _ hfr) (Heap.get?_push_of_some _ hoc)) (fun b o e => Heap.get?_push_of_some _ (old b o e)) ?_ fun s' m es ep t hm R g => ?_
        · have q : items.toList[i]? = some v := by rw [Array.getElem?_toList]; exact hv
          rw [hi, List.getElem?_map] at q
          obtain ⟨p, hp, e⟩ := Option.map_eq_some_iff.mp q
          exact ⟨p, hp, e.symm⟩
        · exact ⟨[], #[], 0, _, mem_nil (Heap.get?_push_of_some it nS), got_nil ks⟩
        · obtain ⟨h', g', d', tk', os'⟩ := s'
          obtain rfl : g' = s.gens := hm.gens
          obtain rfl : d' = s.drawn := hm.drawn
          obtain rfl : os' = s.os := hm.os
          show wpAny (model P w) _ _ _ _ _
          refine wpAny_pure ?_
          show wpAny (model P w) _ (ret .none) _ _ _
          rw [← hn] at g
          refine wpAny_pure ⟨rfl, h', tk', m, es, ep, t, rfl, R, g, fun b o e => ?_⟩
          have hb := Heap.lt_size e
          exact hm.heap b o (fun z => (List.mem_cons.mp z).elim (fun z => Nat.ne_of_lt hb z) fun z => Nat.ne_of_lt (sz ▸ Nat.lt_succ_of_lt hb) (List.mem_singleton.mp z)) (Heap.get?_push_of_some _ (old b o e))
      · cases r₂
        case error e => exact hr₂
        case ok fl₂ =>
          cases fl₂
          case ret r =>
            obtain ⟨rfl, h', tk, m, es, ep, t, rfl, u1, u2, u3⟩ := hr₂
            repeat (any_goals (first | assumption | wp_step))
            exact h _ _ _ _ _ _ u1 u2 u3
          all_goals exact False.elim hr₂
    all_goals exact False.elim hr
end
/-! ### tuples of texts -/
section
variable {P : Program} {w : World}
theorem items_str {zs : List Str} {vs : List Value} (h : ItemsAre (strKind P w) zs vs) : StrsAre vs zs := by
  induction h with
  | nil => exact .nil
  | cons h1 _ ih =>
    obtain ⟨t, rfl⟩ := Value.isStrOf_shape h1
    exact .cons _ t ih
theorem str_items : ∀ {vs : List Value} {zs : List Str}, StrsAre vs zs → ItemsAre (strKind P w) zs vs
  | _, _, .nil => .nil
  | _, _, .cons z t h => .cons (strKind_is P w z t) (str_items h)
theorem stm_str (n : Nat) (z : Str) (t : Tok) : ofAClassStatement n (.str z t) = pure false := by cases n <;> rfl
theorem val_str (n : Nat) (z : Str) (t : Tok) : hashByValue n (.str z t) = pure false := by cases n <;> rfl
theorem calmT : Calm (tupleKind (strKind P w)) where
  stay := fun hk x => tupleKind_stays.stays hk x
  stm := fun {A E s k b Q} x h => by
    have hT := IsTupleKey.typeIs x
    obtain ⟨o, items, n, ho, _, hd, hi⟩ := x
    unfold ofAClassStatement
    refine wpAny_bind (wpAny_typeOf hT ?_)
    dsimp only
    have e : (("tuple" : String) == "tuple") = true := by decide
    simp only [e, if_true, Bool.not_true, Bool.false_eq_true, if_false]
    try refine wpAny_bind (wpAny_pure ?_)
    try simp only [Bool.not_true, Bool.false_eq_true, if_false]
    refine (wpAny_bind (wpAny_seqItems ho hd ?_) : wpAny _ _ (seqItems? (.ref b) >>= _) _ _ s)
    dsimp only
    refine wpAny_bind ?_
    show wpAny _ _ (forIn items _ _) _ _ s
    rw [← Array.forIn_toList]
    refine wpAny_forIn_list _ (fun rest r s' => (s' = s ∧ r.1 = none) ∧ ∀ v ∈ rest, ∃ z t, v = Value.str z t) _ (fun v rest r s' z => ?_) (fun r s' z => ?_) _ _ ⟨⟨rfl, rfl⟩, (K9.strs_all (items_str hi)).2⟩
    · obtain ⟨⟨rfl, hr⟩, all⟩ := z
      obtain ⟨z, t, rfl⟩ := all v List.mem_cons_self
      rw [stm_str]
      refine wpAny_bind (wpAny_pure ?_)
      simp only [Bool.false_eq_true, if_false]
      exact wpAny_pure ⟨⟨rfl, rfl⟩, fun u hu => all u (List.mem_cons_of_mem _ hu)⟩
    · obtain ⟨⟨rfl, hr⟩, _⟩ := z
      obtain ⟨r1, r2⟩ := r
      cases hr
      exact wpAny_pure h
  val := fun {A E s k b Q} x h => by
    have hT := IsTupleKey.typeIs x
    obtain ⟨o, items, n, ho, _, hd, hi⟩ := x
    unfold hashByValue
    refine wpAny_bind (wpAny_specialOf hT F.slot_tuple_hash.lookup ?_)
    refine (wpAny_bind (wpAny_seqItems ho hd ?_) : wpAny _ _ (seqItems? (.ref b) >>= _) _ _ s)
    refine wpAny_bind ?_
    show wpAny _ _ (forIn items _ _) _ _ s
    rw [← Array.forIn_toList]
    refine wpAny_forIn_list _ (fun rest r s' => s' = s ∧ r.1 = none ∧ ∀ v ∈ rest, ∃ z t, v = Value.str z t) _ (fun v rest r s' z => ?_) (fun r s' z => ?_) _ _ ⟨rfl, rfl, (K9.strs_all (items_str hi)).2⟩
    · obtain ⟨rfl, hr, all⟩ := z
      obtain ⟨z, t, rfl⟩ := all v List.mem_cons_self
      rw [val_str]
      refine wpAny_bind (wpAny_pure ?_)
      simp only [Bool.not_false, if_true]
      exact wpAny_pure (wpAny_pure (h _))
    · obtain ⟨rfl, hr, _⟩ := z
      obtain ⟨r1, r2⟩ := r
      cases hr
      exact wpAny_pure (h _)
variable {A : Around} {E : Value → Shared → Prop} {s : Shared}
open Classical in
/-- sorted() of a set of tuples of d texts -/
theorem sorted_set {a : Addr} {m : List (List Str × Addr)} {es : Array (Int × Value)} {ep : Nat} {t : SetTable} {Q : Value → Shared → Prop} (R : Mem (tupleKind (strKind P w)) s.heap a m es ep t) (hh : A.handled = none) {d : Nat} (hd : 1 ≤ d) (hl : ∀ p ∈ m, p.1.length = d)
    (hQ : ∀ s' p (out : Array Value) (c : Nat) (m' : List (List Str × Addr)), (∀ b o, s.heap.get? b = some o → s'.heap.get? b = some o) → s'.gens = s.gens → s'.os = s.os → s.heap.objs.size ≤ p →
      s'.heap.get? p = some (seqObj "list" out c) → out.toList = m'.map (fun q => Value.ref q.2) → m'.Perm m → K9.srt (m'.map (·.1)) → Q (.ref p) s') :
    wpAny (model P w) A (call (.builtin "sorted") [.ref a]) Q E s := by
  obtain ⟨o, ho, hex, hdt⟩ := R.ob
  have sz := es_size R.row
  have few := R.few
  refine Calls.call_function_entry kind_sorted plain_sorted entry_sorted (args_sorted1 _) ?_
  unfold Builtin.«sorted»
  refine wpAny_bind (m := checkCount "sorted" 1 1 _) (wpAny_pure ?_)
  refine wpAny_bind (collect_set (A := A.in1) hh ⟨o, ho, hex.1, hdt⟩ R.fits (by unfold scanBound; omega) R.tab.ris R.led fun s1 vs k1 hz g1 o1 pm => ?_)
  have row : es.toList.map (·.2) = m.map fun q => Value.ref q.2 := by
    rw [R.row]
    unfold ent
    rw [List.map_map]
    rfl
  rw [row] at pm
  have few2 : vs.length < 64 := by rw [pm.length_eq, List.length_map]; exact few
  refine wpAny_bind (wpAny_newList ?_ (by rw [sizeLine_eq]; omega))
  have new : (s1.heap.push (seqObj "list" vs.toArray 0)).get? s1.heap.objs.size = some (seqObj "list" vs.toArray 0) := Heap.get?_push_size _ rfl
  let dat : Value → List Str := fun u => if c : ∃ zs, K9.TupS (s1.heap.push (seqObj "list" vs.toArray 0)) u zs then choose c else []
  have dt : ∀ {u zs}, K9.TupS (s1.heap.push (seqObj "list" vs.toArray 0)) u zs → dat u = zs := fun {u zs} h => by
    have c : ∃ zs, K9.TupS (s1.heap.push (seqObj "list" vs.toArray 0)) u zs := ⟨zs, h⟩
    show (if c : ∃ zs, K9.TupS (s1.heap.push (seqObj "list" vs.toArray 0)) u zs then choose c else []) = zs
    rw [dif_pos c]
    exact (choose_spec c).one h
  have tup : ∀ q ∈ m, K9.TupS (s1.heap.push (seqObj "list" vs.toArray 0)) (.ref q.2) q.1 := fun q hq => by
    obtain ⟨o', items, n, h1, h2, h3, h4⟩ := R.key q hq
    exact ⟨q.2, items, rfl, ⟨o', Heap.get?_push_of_some _ (k1 _ _ h1), h2, n, h3⟩, items_str h4⟩
  have src : ∀ v ∈ vs, ∃ q ∈ m, v = Value.ref q.2 := fun v hv => by
    obtain ⟨q, hq, e⟩ := List.mem_map.mp (pm.mem_iff.mp hv)
    exact ⟨q, hq, e.symm⟩
  have M : K9.Many (s1.heap.push (seqObj "list" vs.toArray 0)) d vs dat := ⟨fun v hv => by
      obtain ⟨q, hq, rfl⟩ := src v hv
      rw [dt (tup q hq)]
      exact tup q hq, fun v hv => by
      obtain ⟨q, hq, rfl⟩ := src v hv
      rw [dt (tup q hq)]
      exact hl q hq⟩
  refine wpAny_bind (wpAny_holding (wpAny_call_entry slot_list_sort ⟨_, new, rfl⟩ entry_list_sort (K9.sort_texts (s := { s1 with heap := s1.heap.push (seqObj "list" vs.toArray 0) }) new few2 hd M fun out a1 a2 => ⟨_, rfl, ?_⟩) (args_list_sort _)))
  obtain ⟨c, hc⟩ := sortedHeap_at (vs := vs) (out := out) new
  obtain ⟨m', p1, p2⟩ := perm_lift (fun q : List Str × Addr => Value.ref q.2) (a1.trans pm) m rfl
  refine wpAny_pure ⟨_, rfl, hQ _ s1.heap.objs.size out c m' (fun b u e => ?_) g1 o1 hz hc p2.symm p1 ?_⟩
  · have q := k1 b u e
    have lt := Heap.lt_size q
    show (sortedHeap (s1.heap.push (seqObj "list" vs.toArray 0)) s1.heap.objs.size vs out).get? b = some u
    rw [sortedHeap_old (Nat.ne_of_lt lt) (by rw [size_push']; exact Nat.lt_succ_of_lt lt)]
    exact Heap.get?_push_of_some _ q
  · rw [← p2, List.pairwise_map] at a2
    show List.Pairwise _ _
    rw [List.pairwise_map]
    refine List.Pairwise.imp_of_mem (fun {q r} hq hr hle => ?_) a2
    have mq := p1.mem_iff.mp hq
    have mr := p1.mem_iff.mp hr
    have hle : (K9.rkN (vs.map dat) (dat (.ref q.2)) : Int) ≤ (K9.rkN (vs.map dat) (dat (.ref r.2)) : Int) := hle
    rw [dt (tup q mq), dt (tup r mr)] at hle
    have hv : Value.ref r.2 ∈ vs := pm.mem_iff.mpr (List.mem_map.mpr ⟨r, mr, rfl⟩)
    have z := K9.rk_lt (ds := vs.map dat) (x := r.1) (y := q.1) (List.mem_map.mpr ⟨_, hv, dt (tup r mr)⟩) (by rw [hl r mr, hl q mq])
    cases c : K9.ltx r.1 q.1 with
    | false => rfl
    | true =>
      rw [c] at z
      have z := of_decide_eq_true z
      omega
end
end K9T

/-! sorted(set(xs)), xs a list or a tuple of tuples of d texts -/
namespace K9T
open PySem PySem.Spec PyProof.Rows L2
theorem items_vals {P : Program} {w : World} : ∀ {zs : List Str} {us : List Value}, Vals (zs.map V.str) us → ItemsAre (strKind P w) zs us
  | [], _, .nil => .nil
  | z :: zs, _, .cons r t => by
    obtain ⟨tk, rfl⟩ := r
    exact .cons (strKind_is P w z tk) (items_vals t)
theorem inv_is {X : Cx} {pins : List (Addr × Obj)} {σ : L2.St} {H : Hp} {s : Shared} {b : Addr} {zs : List Str} (I : Inv X pins σ H s) (h : SqT X.K H b (zs.map V.str)) : (tupleKind (strKind X.prog X.w)).is s.heap zs b := by
  obtain ⟨its, r, ⟨o, ho, hc, n, hd⟩, _⟩ := I.tuple h
  exact ⟨o, its.toArray, n, ho, hc, hd, by simpa using items_vals r⟩
theorem refs_of : ∀ {ks : List (List Str × Addr)} {us : List Value}, Vals (ks.map fun p => V.ref p.2) us → us = ks.map fun p => Value.ref p.2
  | [], _, .nil => rfl
  | p :: ks, _, .cons r t => by
    cases r
    rw [refs_of t]
    rfl
section
variable {X : Cx}
def tSorted (K : PySem.W.Frag) (d : Nat) (ta : TE) : TE := fun σ H Q => ta σ H fun x H1 => ∃ (l : Addr) (ks : List (List Str × Addr)), x = .ref l ∧ (SqL K H1 l (ks.map fun p => V.ref p.2) ∨ SqT K H1 l (ks.map fun p => V.ref p.2)) ∧ (∀ p ∈ ks, SqT K H1 p.2 (p.1.map V.str) ∧ p.1.length = d) ∧ ks.length < 64 ∧
  ∀ (p : Addr) (m : List (List Str × Addr)), H1 p = none → (∀ q ∈ m, q ∈ ks) → (∀ q ∈ ks, q.1 ∈ m.map (·.1)) → (m.map (·.1)).Nodup → K9.srt (m.map (·.1)) → Q (.ref p) (upd H1 p (.lst (m.map fun q => V.ref q.2)))
theorem pe_sorted {a : Expr} {ta : TE} {p p2 q pos : Pos} {d : Nat} (hd : 1 ≤ d) (hc : X.calm = true) (hu : X.A.units + 65 < cLine) (hg : Gl X "sorted") (hm : X.mg "sorted" = none) (hg2 : Gl X "set") (hm2 : X.mg "set" = none) (ha : PE X a ta)
    (na : starEach [a] X.env = (false, eval a X.env) :: starEach [] X.env := by rfl) : PE X (.Call (.Name "sorted" p) [.Call (.Name "set" p2) [a] [] q] [] pos) (tSorted X.K d ta) := by
  refine ⟨fun pins s σ H Q I h => Call_ (ld_blt I hg hm boot_sorted (callWith_builtin1 (args_cons (Call_ (ld_blt I hg2 hm2 boot_set (callWith_type1 (args_cons (thn (ha.run pins s σ H _ I h) fun v s1 ⟨x, H1, I1, r1, q1⟩ => args_nil ?_) na) na rfl))) rfl) rfl rfl))⟩
  obtain ⟨l, ks, rfl, hq, key, few, q1⟩ := q1
  cases r1
  have fin : ∀ (h' : Heap) (tk : Nat) m es ep t, Mem (tupleKind (strKind X.prog X.w)) h' s1.heap.objs.size m es ep t → Got ks ks.length m → (∀ b o, s1.heap.get? b = some o → h'.get? b = some o) →
      wpAny (model X.prog X.w) X.A (spliced (backTo pos (starEach [] X.env))) (fun vs s₂ => wpAny (model X.prog X.w) X.A (call (.builtin "sorted") (Value.ref s1.heap.objs.size :: vs)) (EP X pins σ Q) X.xe s₂) X.xe { s1 with heap := h', toks := tk } := fun h' tk m es ep t R g hk => by
    obtain ⟨s2, e2⟩ : ∃ s2 : Shared, s2 = { s1 with heap := h', toks := tk } := ⟨_, rfl⟩
    have I2 : Inv X pins σ H1 { s1 with heap := h', toks := tk } := I1.kept fun b o e => hk b o e
    have R : Mem (tupleKind (strKind X.prog X.w)) ({ s1 with heap := h', toks := tk } : Shared).heap s1.heap.objs.size m es ep t := R
    rw [← e2] at I2 R ⊢
    have sub : ∀ q ∈ m, q ∈ ks := fun q hq => List.mem_of_mem_take (g.sub q hq)
    refine args_nil (sorted_set R (I2.ok.hd hc) hd (fun q hq => (key q (sub q hq)).2) fun s' p out c m' k g1 o1 hp hat hout pm srt => ?_)
    have hn : H1 p = none := I2.hok.fresh hp
    have hlen : (m'.map fun q => V.ref q.2).length ≤ sizeLine := by
      have := R.few
      rw [List.length_map, pm.length_eq, sizeLine_eq]
      omega
    have hv : Vals (m'.map fun q => V.ref q.2) out.toList := by
      rw [hout]
      exact vals_maps _ _ _ fun z _ => rfl
    have J : Inv X pins σ (upd H1 p (.lst (m'.map fun q => V.ref q.2))) { s2 with heap := s'.heap, gens := s'.gens, drawn := s'.drawn, toks := s'.toks } :=
      I2.call (ch := []) (Un.laid k hp hn) (I2.hok.laid k hp ⟨hlen, out.toList, c, hv, hat⟩) (by rw [g1]; exact I2.bare) (fun _ z => nomatch z)
    have e : s' = { s2 with heap := s'.heap, gens := s'.gens, drawn := s'.drawn, toks := s'.toks } := by
      cases s'
      cases o1
      rfl
    rw [e]
    refine ⟨.ref p, _, J, rfl, q1 p m' hn (fun q hq => sub q (pm.mem_iff.mp hq)) (fun q hq => ?_) ((pm.map (·.1)).nodup_iff.mpr R.one) srt⟩
    exact (pm.map (·.1)).mem_iff.mpr (g.all q (by rw [List.take_length]; exact hq))
  have hu : (tupleKind (strKind X.prog X.w)).room X.A.in1.in1.in1 := by
    show X.A.in1.in1.in1.units < cLine
    have : X.A.in1.in1.in1.units = X.A.units + 3 := rfl
    omega
  rcases hq with hq | hq
  · obtain ⟨its, r, pl, hz⟩ := I1.list hq
    obtain ⟨o, ho, hcls, m, hd⟩ := pl.isList
    exact set_by (T := "list") (it := { cls := .type "list_iterator", data := .fields #[.ref l, .int 0 0] }) (St := fun I i h => h.IsListIter I l i ∧ h.IsList l its.toArray) calmT ks (I1.ok.hd hc) hu ho hcls hd F.sub_list_set F.sub_list_frozenset (by decide) (by simpa using refs_of r) (fun q hq => inv_is I1 (key q hq).1) few rfl
      (fun s1 Q' E' A' e k => wpAny_pyIter_list ⟨o, e, hcls, m, hd⟩ k) (fun A' hh I ne => Walks.list hh I l ne its.toArray) (fun h I e1 e2 => ⟨⟨_, e1, rfl, rfl⟩, ⟨o, e2, hcls, m, hd⟩⟩) fin
  · obtain ⟨its, r, pl, hz⟩ := I1.tuple hq
    obtain ⟨o, ho, hcls, m, hd⟩ := pl
    exact set_by (T := "tuple") (it := { cls := .type "tuple_iterator", data := .fields #[.ref l, .int 0 0] }) (St := fun I i h => h.IsTupleIter I l i ∧ h.IsTuple l its.toArray) calmT ks (I1.ok.hd hc) hu ho hcls hd F.sub_tuple_set F.sub_tuple_frozenset (by decide) (by simpa using refs_of r) (fun q hq => inv_is I1 (key q hq).1) few rfl
      (fun s1 Q' E' A' e k => wpAny_pyIter_tuple ⟨o, e, hcls, m, hd⟩ k) (fun A' hh I ne => Walks.tuple hh I l ne its.toArray) (fun h I e1 e2 => ⟨⟨_, e1, rfl, rfl⟩, ⟨o, e2, hcls, m, hd⟩⟩) fin
end
end K9T

namespace K5
open PySem L2
abbrev sOf : Stmt := top 23
abbrev sKinds : Stmt := top 24
abbrev nKinds : List Str := ["_law_pool_here", "_law_menu", "_law_k"]
def spOf : Sp := fun vs H Q _ => ∃ (p : Addr) (c : Nat) (a : Addr) (xs : List V), vs = [.ref p, .ref a] ∧ Pool H p c ∧ c ≤ 900000 ∧ H a = some (.lst xs) ∧ a ≠ p ∧ xs ≠ [] ∧ xs.length ≤ 1000 ∧
  ∀ (v : V) (H' : Hp), v ∈ xs → Keep p H H' → Pool H' p (c + 1) → Q v H'
theorem at_mem {xs : List V} {r : Int} (h0 : 0 ≤ r) (h1 : r < (xs.length : Int)) : ∃ v, atI xs r = some v ∧ v ∈ xs := by
  have hk : r.toNat < xs.length := by omega
  refine ⟨xs[r.toNat], at_of (j := r.toNat) (by omega) (List.getElem?_eq_getElem hk), List.getElem_mem hk⟩
def words6 : List Str := ["left", "doubled", "swapped", "word", "number", "sign"]
def spKinds : Sp := fun vs H Q _ => ∃ (p : Addr) (c : Nat), vs = [.ref p] ∧ Pool H p c ∧ c ≤ 500000 ∧
  ∀ (D : Addr) (ks : List Str) (H' : Hp), H D = none → H' D = some (.lst (ks.map V.str)) → (∀ z ∈ ks, z ∈ words6) → ks.length ≤ 5 → Keep p H H' → Pool H' p (c + 6) → Q (.ref D) H'
section
variable {P : Program} {w : World} {K : PySem.W.Frag} {mg : Str → Option Value} {base : Heap}
theorem scOf : FnScope ["_law_pool_here", "_law_some"] ["_law_pool_here", "_law_some"] (defScope sOf) := ⟨rfl, rfl, rfl, by decide +kernel, rfl, by decide +kernel, by decide +kernel⟩
theorem ok_of {f : Addr} {fd : FuncData} (F : Fun K "_law_of" "_law_of" sOf f fd) (T : Bare mg) (GP : Fn P w K mg base 1 "_law_pick" ["_law_pool_here", "_law_many"] spPick) : FnOk P w K mg base CX0 2 f fd ["_law_pool_here", "_law_some"] spOf := by
  refine F.ok scOf (fun vs H Q E h => ?_) (fun cdv A outer s H vs Q E hr h => ?_)
  · obtain ⟨p, c, a, xs, rfl, _⟩ := h
    rfl
  · obtain ⟨p, c, a, xs, rfl, hp, hc, ha, hap, hn, hl, q⟩ := h
    have hr1 : Room 1 _ := hr
    refine ⟨_, (pss_one (ps_ret (pe_ix ix_list (pv 1) (pe_fn GP hr1 rfl (pa_cons (pv 0) (pa_cons (pe_callB call_len_seq (by rfl) T.len PySem.boot_len (pa_cons (pv 1) pa_nil)) pa_nil))) (fun _ _ => rfl)))), ?_⟩
    have := List.length_pos_iff.mpr hn
    refine ⟨_, rfl, _, rfl, _, rfl, a, xs, rfl, .inl (SqL.of ha), p, c, _, rfl, hp, by omega, by omega, by omega, fun r H' r0 r1 hk hp' => ?_⟩
    obtain ⟨v, hv, hm⟩ := at_mem r0 r1
    exact ⟨a, xs, r, v, rfl, rfl, SqL.of (hk _ _ hap ha), hv, q v H' hm hk hp'⟩
theorem scKinds : FnScope nKinds ["_law_pool_here"] (defScope sKinds) := ⟨rfl, rfl, rfl, by decide +kernel, rfl, by decide +kernel, by decide +kernel⟩
theorem ok_kinds {f : Addr} {fd : FuncData} (F : Fun K "_law_kinds" "_law_kinds" sKinds f fd) (T : Bare mg) (GP : Fn P w K mg base 1 "_law_pick" ["_law_pool_here", "_law_many"] spPick) (GO : Fn P w K mg base 2 "_law_of" ["_law_pool_here", "_law_some"] spOf) : FnOk P w K mg base CX0 3 f fd ["_law_pool_here"] spKinds := by
  refine F.ok scKinds (fun vs H Q E h => ?_) (fun cdv A outer s H vs Q E hr h => ?_)
  · obtain ⟨p, c, rfl, _⟩ := h
    rfl
  · obtain ⟨p, c, rfl, hp, hc, q⟩ := h
    have hr2 : Room 2 _ := hr
    have hr1 : Room 1 _ := hr.mono (by decide)
    refine ⟨_, (C8.pss_cut (ps_set (i := 1) scKinds.nd rfl (.inr rfl) (pe_lst (pa_cons pe_str (pa_cons pe_str (pa_cons pe_str (pa_cons pe_str (pa_cons pe_str (pa_cons pe_str pa_nil))))))))
        (pss_one (ps_ret (pe_lc (own := [("_law_k", 2)]) (g := gName 2) (tt := tYes) (by rfl) scKinds.nd (pi_range1 (by rfl) T.range (pa_cons (pe_fn GP hr1 rfl (pa_cons (pv 0) (pa_cons pe_int pa_nil))) pa_nil)) (blkOk_by (own := [("_law_k", 2)]) (N := nKinds) (sc := defScope sKinds) (by decide +kernel)) (fun _ _ _ _ _ => pg_name (i := 2) scKinds.nd rfl (Or.inl rfl)) (fun _ _ _ _ _ => pts_nil) (fun _ _ _ _ _ => (pe_fn GO hr2 rfl (pa_cons (pv 0) (pa_cons (pv 1) pa_nil)))))))), ?_⟩
    refine ⟨fun σ H' => ∃ M, σ = [some (.ref p), some (.ref M), none] ∧ Same H H' ∧ H M = none ∧ H' M = some (.lst (words6.map V.str)), ⟨by show 6 ≤ sizeLine; decide, fun M hM => ⟨M, rfl, Same.new (Same.refl H) hM, hM, upd_same⟩⟩, ?_⟩
    rintro σ H1 ⟨M, rfl, s1, hM0, hM⟩
    have nMp : M ≠ p := pool_ne hp hM0
    have p1 := hp.same s1
    refine ⟨_, rfl, p, c, 6, rfl, p1, by omega, by decide, by decide, fun r H2 r0 r1 k2 p2 => ?_⟩
    have hM2 := k2 _ _ nMp hM
    have k02 := (Same.keep (p := p) s1).trans k2
    refine ⟨r, rfl, by omega, by omega, fun D hD => lc_range (lo := 0) (n := r.toNat) (fun i H' => Keep p H2 H' ∧ Pool H' p (c + 1 + i) ∧ ∃ ks : List Str, H' D = some (.lst (ks.map V.str)) ∧ (∀ z ∈ ks, z ∈ words6) ∧ ks.length = i) ⟨(Keep.refl p H2).new hD, (p2.new hD).mono (by omega), [], upd_same, (fun _ h => nomatch h), rfl⟩ (fun i H3 hi h => ?_) (fun H3 h => ?_)⟩
    · obtain ⟨k3, p3, ks, hk, hw, lk⟩ := h
      have nDp := pool_ne p2 hD
      refine ⟨rfl, _, rfl, _, rfl, p, _, M, words6.map V.str, rfl, p3, by omega, k3 _ _ nMp hM2, nMp, (fun e => nomatch e), by decide, fun v H4 hv k4 p4 => ?_⟩
      obtain ⟨z, hz, rfl⟩ := List.mem_map.mp hv
      have hk4 := k4 _ _ nDp hk
      refine ⟨_, hk4, by rw [List.length_map]; exact Nat.lt_of_le_of_lt (show ks.length ≤ 6 by omega) (by decide), fun b o nb e => ?_, (p4.other (Ne.symm nDp)).mono (by omega), ks ++ [z], by rw [upd_same, List.map_append]; rfl, fun y hy => ?_, by rw [List.length_append, lk]; rfl⟩
      · rw [upd_ne (ne_of_none e hD)]
        exact (k3.trans k4) b o nb e
      · rcases List.mem_append.mp hy with hy | hy
        · exact hw y hy
        · rw [List.mem_singleton.mp hy]; exact hz
    · obtain ⟨k3, p3, ks, hk, hw, lk⟩ := h
      exact q D ks H3 (k02.free (pool_ne p2 hD) hD) hk hw (by omega) (k02.trans k3) (p3.mono (by omega))
end
end K5

namespace K5
open PySem L2
abbrev sRInit : Stmt := inClass (top 18) 0
abbrev nRInit : List Str := ["self", "looks", "kinds", "kind", "look", "word"]
abbrev pRInit : List Str := ["self", "looks", "kinds"]
/-- the first part that is none: words ahead of looks -/
def badPart (dk dl : List PyData) : Option PyData := (dk.find? fun d => !inD words6 d).or (dl.find? fun d => !lookD d)
def pairL (p : Str × Str) : List Str := [p.1, p.2]
/-- ls: these looks, each once, ascending -/
structure LooksOf (ls0 ls : List (Str × Str)) : Prop where
  nd : ls.Nodup
  srt : K9.srt (ls.map pairL)
  mem : ∀ p, p ∈ ls ↔ p ∈ ls0
/-- the six words in order, those that are given -/
def kinds6 (ks : List Str) : List Str := words6.filter fun z => decide (z ∈ ks)
def SeqD (K : PySem.W.Frag) (H : Hp) (v : V) (ds : List PyData) : Prop := Dp K H v (.list ds) ∨ Dp K H v (.tuple ds)
def But (x : Addr) (H H' : Hp) : Prop := ∀ b o, b ≠ x → H b = some o → H' b = some o
theorem but_sqt {K : PySem.W.Frag} {H H' : Hp} {x a C dx : Addr} {fs : List (Str × V)} {xs : List V} (hx : H x = some (.ins C dx fs)) (k : But x H H') (h : SqT K H a xs) : SqT K H' a xs := by
  rcases h with (h | ⟨o, h⟩) | h
  · exact .inl (.inl (k _ _ (fun e => by rw [e, hx] at h; cases h) h))
  · exact .inl (.inr ⟨o, k _ _ (fun e => by rw [e, hx] at h; cases h) h⟩)
  · exact .inr h
theorem txts_of {K : PySem.W.Frag} {H : Hp} : ∀ {ks : List Str} {us : List V}, DpAll K H us (kiD ks) → us = ks.map V.str
  | [], _, h => by
    cases h
    rfl
  | k :: ks, _, h => by
    cases h with
    | cons h1 h2 =>
      cases h1
      rw [txts_of h2]
      rfl
theorem of_txts {K : PySem.W.Frag} {H : Hp} : ∀ ks : List Str, DpAll K H (ks.map V.str) (kiD ks)
  | [] => .nil
  | k :: ks => .cons (.str k) (of_txts ks)
theorem nodup_le {α : Type} [BEq α] [LawfulBEq α] : ∀ {l m : List α}, l.Nodup → (∀ a ∈ l, a ∈ m) → l.length ≤ m.length
  | [], _, _, _ => Nat.zero_le _
  | a :: l, m, hn, hs => by
    obtain ⟨h1, h2⟩ := List.nodup_cons.mp hn
    have ha := hs a List.mem_cons_self
    have ih := nodup_le (m := m.erase a) h2 fun b hb => (List.mem_erase_of_ne (fun e : b = a => h1 (e ▸ hb))).2 (hs b (List.mem_cons_of_mem _ hb))
    have e := List.length_erase_of_mem ha
    have hp := List.length_pos_of_mem ha
    rw [List.length_cons]
    omega
theorem but_sql {K : PySem.W.Frag} {H H' : Hp} {x a C dx : Addr} {fs : List (Str × V)} {xs : List V} (hx : H x = some (.ins C dx fs)) (k : But x H H') (h : SqL K H a xs) : SqL K H' a xs := by
  rcases h with (h | ⟨o, h⟩) | h
  · exact .inl (.inl (k _ _ (fun e => by rw [e, hx] at h; cases h) h))
  · exact .inl (.inr ⟨o, k _ _ (fun e => by rw [e, hx] at h; cases h) h⟩)
  · exact .inr h
theorem iteT' {c : Bool} {a b : Prop} (h : c = true) (ha : a) : if c = true then a else b := by rw [if_pos h]; exact ha
theorem iteF' {c : Bool} {a b : Prop} (h : c = false) (hb : b) : if c = true then a else b := by rw [h, if_neg Bool.false_ne_true]; exact hb
theorem pairL_inj {p q : Str × Str} (h : pairL p = pairL q) : p = q := by
  obtain ⟨a, b⟩ := p
  obtain ⟨c, d⟩ := q
  unfold pairL at h
  simp only [List.cons.injEq, and_true] at h
  rw [h.1, h.2]
/-- where nothing is wrong the parts are texts and pairs of texts -/
theorem kinds_of {dk : List PyData} (h : ∀ d ∈ dk, inD words6 d = true) : ∃ ks, dk = kiD ks ∧ ∀ z ∈ ks, z ∈ words6 := by
  induction dk with
  | nil => exact ⟨[], rfl, fun _ h => nomatch h⟩
  | cons d dk ih =>
    obtain ⟨ks, e, hk⟩ := ih fun x hx => h x (List.mem_cons_of_mem _ hx)
    have hd := h d List.mem_cons_self
    cases d with
    | str z => exact ⟨z :: ks, by rw [e]; rfl, fun y hy => (List.mem_cons.mp hy).elim (fun e => by rw [e]; exact of_decide_eq_true hd) (hk y)⟩
    | _ => cases hd
theorem look_pair {d : PyData} (h : lookD d = true) : ∃ p, d = lkP p := by
  cases d with
  | tuple ds =>
    match ds, h with
    | [], h => cases h
    | [_], h => cases h
    | [a, b], h =>
      have h : (tokD a && (tokD b && decide (txtD a ≠ txtD b))) = true := h
      rw [Bool.and_eq_true, Bool.and_eq_true] at h
      cases a with
      | str x => cases b with
        | str y => exact ⟨(x, y), rfl⟩
        | _ => exact absurd h.2.1 (by simp [tokD, txtD])
      | _ => exact absurd h.1 (by simp [tokD, txtD])
    | _ :: _ :: _ :: _, h => cases h
  | _ => cases h
theorem looks_of {dl : List PyData} (h : ∀ d ∈ dl, lookD d = true) : ∃ ls, dl = loD ls := by
  induction dl with
  | nil => exact ⟨[], rfl⟩
  | cons d dl ih =>
    obtain ⟨ls, e⟩ := ih fun x hx => h x (List.mem_cons_of_mem _ hx)
    obtain ⟨p, rfl⟩ := look_pair (h d List.mem_cons_self)
    exact ⟨p :: ls, by rw [e]; rfl⟩
/-- looks as the keys of a set -/
theorem look_keys {K : PySem.W.Frag} {H : Hp} : ∀ {ls : List (Str × Str)} {us : List V}, DpAll K H us (loD ls) → ∃ ks : List (List Str × Addr), us = ks.map (fun q => V.ref q.2) ∧ ks.map (·.1) = ls.map pairL ∧ ∀ q ∈ ks, SqT K H q.2 (q.1.map V.str) ∧ q.1.length = 2
  | [], _, h => by
    cases h
    exact ⟨[], rfl, rfl, fun _ h => nomatch h⟩
  | p :: ls, _, h => by
    cases h with
    | cons h1 h2 =>
      obtain ⟨ks, e1, e2, e3⟩ := look_keys h2
      cases h1 with
      | @tup a xs _ g1 g2 =>
        cases g2 with
        | cons g2 g3 =>
          cases g3 with
          | cons g3 g4 =>
            cases g4
            cases g2
            cases g3
            refine ⟨(pairL p, a) :: ks, by rw [e1]; rfl, by rw [List.map_cons, List.map_cons, e2], fun q hq => ?_⟩
            rcases List.mem_cons.mp hq with rfl | hq
            · exact ⟨g1, rfl⟩
            · exact e3 q hq
/-- and back -/
theorem keys_look {K : PySem.W.Frag} {H : Hp} : ∀ {ls : List (Str × Str)} {m : List (List Str × Addr)}, m.map (·.1) = ls.map pairL → (∀ q ∈ m, SqT K H q.2 (q.1.map V.str)) → DpAll K H (m.map fun q => V.ref q.2) (loD ls)
  | [], m, e, _ => by
    cases m with
    | nil => exact .nil
    | cons _ _ => cases e
  | p :: ls, m, e, h => by
    cases m with
    | nil => cases e
    | cons q m =>
      rw [List.map_cons, List.map_cons] at e
      obtain ⟨e1, e2⟩ := List.cons.inj e
      have hq := h q List.mem_cons_self
      rw [e1] at hq
      exact .cons (.tup hq (.cons (.str _) (.cons (.str _) .nil))) (keys_look e2 fun r hr => h r (List.mem_cons_of_mem _ hr))
/-- what a set of looks makes of them -/
theorem looks_made {ls0 : List (Str × Str)} {ks m : List (List Str × Addr)} (ek : ks.map (·.1) = ls0.map pairL) (sub : ∀ q ∈ m, q ∈ ks) (all : ∀ q ∈ ks, q.1 ∈ m.map (·.1)) (nd : (m.map (·.1)).Nodup) (srt : K9.srt (m.map (·.1))) : ∃ ls, m.map (·.1) = ls.map pairL ∧ LooksOf ls0 ls := by
  have src : ∀ q ∈ m, ∃ p ∈ ls0, pairL p = q.1 := fun q hq => by
    have z : q.1 ∈ ks.map (·.1) := List.mem_map.mpr ⟨q, sub q hq, rfl⟩
    rw [ek] at z
    exact List.mem_map.mp z
  have some : ∀ m' : List (List Str × Addr), (∀ q ∈ m', ∃ p ∈ ls0, pairL p = q.1) → ∃ ls : List (Str × Str), m'.map (·.1) = ls.map pairL ∧ ∀ p ∈ ls, p ∈ ls0 := by
    intro m'
    induction m' with
    | nil => exact fun _ => ⟨[], rfl, fun _ h => nomatch h⟩
    | cons q m' ih =>
      intro h
      obtain ⟨p, hp, e⟩ := h q List.mem_cons_self
      obtain ⟨ls, e2, hl⟩ := ih fun r hr => h r (List.mem_cons_of_mem _ hr)
      refine ⟨p :: ls, by rw [List.map_cons, List.map_cons, e2, e], fun r hr => ?_⟩
      rcases List.mem_cons.mp hr with rfl | hr
      · exact hp
      · exact hl r hr
  obtain ⟨ls, e, hl⟩ := some m src
  refine ⟨ls, e, ?_, by rw [← e]; exact srt, fun p => ⟨hl p, fun hp => ?_⟩⟩
  · rw [e] at nd
    exact L2.nodup_of_map nd
  · have z : pairL p ∈ ks.map (·.1) := by
      rw [ek]
      exact List.mem_map.mpr ⟨p, hp, rfl⟩
    obtain ⟨q, hq, eq⟩ := List.mem_map.mp z
    have z := all q hq
    rw [eq, e] at z
    obtain ⟨r, hr, er⟩ := List.mem_map.mp z
    rw [← pairL_inj er]
    exact hr
theorem find_first {α : Type} {p : α → Bool} : ∀ {l : List α} {i : Nat} {a : α}, l[i]? = some a → (∀ (j : Nat) (b : α), j < i → l[j]? = some b → p b = false) → p a = true → l.find? p = some a
  | [], _, _, h, _, _ => by cases h
  | b :: l, 0, a, h, _, hp => by
    cases h
    rw [List.find?_cons, hp]
  | b :: l, i + 1, a, h, hb, hp => by
    rw [List.find?_cons, hb 0 b (Nat.succ_pos i) rfl]
    exact find_first (l := l) (i := i) h (fun j c hj hc => hb (j + 1) c (Nat.succ_lt_succ hj) hc) hp
theorem find_no {α : Type} {p : α → Bool} {l : List α} (h : ∀ a ∈ l, p a = false) : l.find? p = none := List.find?_eq_none.mpr fun a ha hp => by rw [h a ha] at hp; cases hp
def spRInit (K : PySem.W.Frag) (CR CX : Addr) : Sp := fun vs H Q E => ∃ (x dx p : Addr) (lk : V) (dk dl : List PyData), vs = [.ref x, lk, .ref p] ∧ H x = some (.ins CR dx []) ∧ Dp K H (.ref p) (.tuple dk) ∧ SeqD K H lk dl ∧ dl.length < 64 ∧ dk.length ≤ 100 ∧
  (∀ d ∈ dl, ∀ ds, d = .tuple ds → ∀ e ∈ ds, partE e) ∧
  (∀ ks0 ls0 ls H', dk = kiD ks0 → (∀ z ∈ ks0, z ∈ words6) → dl = loD ls0 → (∀ d ∈ dl, lookD d = true) → LooksOf ls0 ls → But x H H' → RuleV K CR H' x (kinds6 ks0) ls → Q .non H') ∧
  (∀ d, badPart dk dl = some d → ∀ v e H', H e = none → Same H H' → Dp K H' v d → H' e = some (.xd [(("worth" : Str), v)]) → E (.ref CX) (some e) H')
/-- what the written part says of WORDS -/
structure WordsC (K : PySem.W.Frag) (mg : Str → Option Value) (aW : Addr) : Prop where
  g : mg "WORDS" = some (.ref aW)
  srt : mg "sorted" = none
  tup : ∃ (o : Obj) (its : Array Value) (n : Nat), K.lookup aW = some o ∧ o.cls = .type "tuple" ∧ o.data = .seq its n ∧ its.size ≤ sizeLine ∧ Vals (words6.map V.str) its.toList
theorem WordsC.sq {K : PySem.W.Frag} {mg : Str → Option Value} {aW : Addr} (T : WordsC K mg aW) (H : Hp) : SqT K H aW (words6.map V.str) := .inr T.tup
abbrev s6r (x p : Addr) (lk : V) (a b : Option V) : St := [some (.ref x), some lk, some (.ref p), a, b, none]
theorem put1 (k : V) : putF "kinds" k [] = [(("kinds" : Str), k)] := by kernel_rfl
theorem put2 (k l : V) : putF "looks" l [(("kinds" : Str), k)] = [(("kinds" : Str), k), (("looks" : Str), l)] := by kernel_rfl
theorem put3 (k l p : V) : putF "parts" p [(("kinds" : Str), k), (("looks" : Str), l)] = FRu k l p := by kernel_rfl
section
variable {P : Program} {w : World} {K : PySem.W.Frag} {mg : Str → Option Value} {base : Heap} {CR CX fX aW : Addr}
theorem scRInit : FnScope nRInit pRInit (defScope sRInit) := ⟨rfl, rfl, rfl, by decide +kernel, rfl, by decide +kernel, by decide +kernel⟩
theorem ok_rinit {f : Addr} {fd : FuncData} {kws : List (Str × V)} (F : FunD K "__init__" "SlipRule.__init__" (defArgs sRInit) (defBody sRInit) (defScope sRInit) [] kws f fd) (T : Bare mg) (RC : RuleC K mg CR) (TX : K9E.ErrTxt P K mg CX fX) (WC : WordsC K mg aW)
    (GO : Fn P w K mg base 1 "is_one_of" ["thing", "words"] (spOneOf K)) (GL : Fn P w K mg base 4 "is_look" ["thing"] (spLook K)) :
    FnB P w K mg base (L2.CX P w) 5 f fd pRInit (spRInit K CR CX) := by
  refine F.okB scRInit (fun vs H Q E h => ?_) (fun cdv A outer s H vs Q E hr h => ?_)
  · obtain ⟨x, dx, p, lk, dk, dl, rfl, _⟩ := h
    rfl
  · obtain ⟨x, dx, p, lk, dk, dl, rfl, hx, hp, hlk, l64, k100, pe, q0, qe⟩ := h
    have hu := Room.units5 hr
    have hr4 : Room 4 _ := hr
    have hr1 : Room 1 _ := hr.mono (by decide)
    refine ⟨_, (C8.pss_cut (ps_for (passes_of rfl) rfl (pi_tup (pv 2)) (pg_name (i := 3) scRInit.nd rfl (.inl rfl)) (pss_one (ps_if (pt_not (pt_val (pe_fn GO hr1 rfl (pa_cons (pv 3) (pa_cons (pe_glob (v := .ref aW) (by rfl) WC.g rfl) pa_nil))))) (pss_one (ps_raiseBru rfl TX hr (takes_of rfl rfl rfl rfl) (pa_cons (pv 3) pa_nil))) pss_nil)))
        (C8.pss_cut (ps_for (passes_of rfl) rfl (pi_or (pi_list (pv 1)) (pi_tup (pv 1))) (pg_name (i := 4) scRInit.nd rfl (.inl rfl)) (pss_one (ps_if (pt_not (pt_val (pe_fn GL hr4 rfl (pa_cons (pv 4) pa_nil)))) (pss_one (ps_raiseBru rfl TX hr (takes_of rfl rfl rfl rfl) (pa_cons (pv 4) pa_nil))) pss_nil)))
        (C8.pss_cut (ps_fld (pv 0) (pe_callTy call_tuple_of (by rfl) T.tuple (by decide +kernel) (pa_cons (pe_lc (own := [("word", 5)]) (g := gName 5) (tt := tTest (tOp (rIn K false) (tVar 5) (tVar 2))) (te := tVar 5) (by rfl) scRInit.nd (pi_tup (pe_glob (v := .ref aW) (by rfl) WC.g rfl)) (blkOk_by (own := [("word", 5)]) (N := nRInit) (sc := defScope sRInit) (by decide +kernel)) (fun _ _ _ _ _ => pg_name (i := 5) scRInit.nd rfl (Or.inl rfl)) (fun _ _ _ _ _ => pts_one (pt_cmpR op_in_seq (pv 5) (pv 2) rfl)) (fun _ _ _ _ _ => pv 5)) pa_nil)) rfl)
        (C8.pss_cut (ps_fld (pv 0) (pe_callTy call_tuple_of (by rfl) T.tuple (by decide +kernel) (pa_cons (K9T.pe_sorted (d := 2) (by decide) rfl (Room.units5 hr) (by rfl) WC.srt (by rfl) T.set (pv 1)) pa_nil)) rfl)
        (pss_one (ps_fld (pv 0) (pe_op op_catA (pe_fld (pv 0) rfl) (pe_fld (pv 0) rfl)) rfl)))))), ?_⟩
    cases hp with
    | @tup _ us _ hp1 hp2 =>
    have lu := DpAll.len hp2
    -- the words
    refine ⟨fun σ H' => (∃ a, σ = s6r x p lk a none) ∧ H' = H ∧ ∀ d ∈ dk, inD words6 d = true, ?_, ?_⟩
    · refine ⟨_, rfl, p, rfl, ⟨us, hp1⟩, for_tup (K := K) (a := p) (xs := us) (fun i σ H' => (∃ a, σ = s6r x p lk a none) ∧ H' = H ∧ ∀ (j : Nat) d, j < i → dk[j]? = some d → inD words6 d = true) ⟨⟨_, rfl⟩, rfl, fun j _ h => absurd h (Nat.not_lt_zero j)⟩ (fun i σ H' _ h => by rw [h.2.1]; exact hp1) ?_ ?_⟩
      · rintro i u σ H1 hi ⟨⟨a, rfl⟩, rfl, hy⟩
        obtain ⟨d, hd, hv⟩ := DpAll.at2 hp2 hi
        have e : (strD d).elim false (fun z => decide (z ∈ words6)) = inD words6 d := rfl
        refine ⟨_, rfl, u, strD d, aW, words6, rfl, dp_thing hv, WC.sq _, _, rfl, ?_⟩
        rw [e]
        cases c : inD words6 d with
        | true =>
          refine iteF ⟨⟨_, rfl⟩, rfl, fun j d' hj h1 => ?_⟩
          rcases Nat.lt_succ_iff_lt_or_eq.mp hj with h | rfl
          · exact hy j d' h h1
          · rw [hd] at h1
            cases h1
            exact c
        | false =>
          refine iteT ⟨_, rfl, _, rfl, fun e he => qe d ?_ u e _ he (Same.new (Same.refl _) he) (dp_same (Same.new (Same.refl _) he) _ hv) upd_same⟩
          unfold badPart
          rw [find_first hd (fun j b hj hb => by rw [hy j b hj hb]; rfl) (by rw [c]; rfl)]
          rfl
      · rintro σ H1 ⟨⟨a, rfl⟩, rfl, hy⟩
        refine ⟨⟨a, rfl⟩, rfl, fun d hd => ?_⟩
        obtain ⟨j, hj, e⟩ := List.getElem_of_mem hd
        exact hy j d (by rw [lu]; exact hj) (by rw [List.getElem?_eq_getElem hj, e])
    rintro σ H1 ⟨⟨a, rfl⟩, rfl, allK⟩
    have noK : dk.find? (fun d => !inD words6 d) = none := find_no fun d hd => by rw [allK d hd]; rfl
    obtain ⟨ks0, rfl, k6⟩ := kinds_of allK
    -- the looks
    have lookStep : ∀ {us : List V}, DpAll K H1 us dl → ∀ (i : Nat) (u : V) (σ : St) (H2 : Hp), us[i]? = some u → ((∃ b, σ = s6r x p lk a b) ∧ Same H1 H2 ∧ ∀ (j : Nat) d, j < i → dl[j]? = some d → lookD d = true) → ∃ d, dl[i]? = some d ∧ Dp K H2 u d ∧ (∀ ds, d = .tuple ds → ∀ e ∈ ds, partE e) ∧ (lookD d = false → badPart (kiD ks0) dl = some d) ∧
        (lookD d = true → ∀ (j : Nat) d', j < i + 1 → dl[j]? = some d' → lookD d' = true) := by
      rintro us hd2 i u σ H2 hi ⟨_, s2, hy⟩
      obtain ⟨d, hd, hv⟩ := DpAll.at2 hd2 hi
      refine ⟨d, hd, dp_same s2 _ hv, pe d (List.mem_of_getElem? hd), fun c => ?_, fun c j d' hj h1 => ?_⟩
      · unfold badPart
        rw [noK, find_first hd (fun j b hj hb => by rw [hy j b hj hb]; rfl) (by rw [c]; rfl)]
        rfl
      · rcases Nat.lt_succ_iff_lt_or_eq.mp hj with h | rfl
        · exact hy j d' h h1
        · rw [hd] at h1
          cases h1
          exact c
    have lookEnd : ∀ (n : Nat), n = dl.length → (∀ (j : Nat) d, j < n → dl[j]? = some d → lookD d = true) → ∀ d ∈ dl, lookD d = true := fun n hn hy d hd => by
      obtain ⟨j, hj, e⟩ := List.getElem_of_mem hd
      exact hy j d (by rw [hn]; exact hj) (by rw [List.getElem?_eq_getElem hj, e])
    refine ⟨fun σ H' => (∃ b, σ = s6r x p lk a b) ∧ Same H1 H' ∧ ∀ d ∈ dl, lookD d = true, ?_, ?_⟩
    · rcases hlk with hlk | hlk
      all_goals cases hlk
      all_goals rename_i a2 us2 h1 h2
      · refine .inl ⟨_, rfl, a2, rfl, ⟨us2, h1⟩, for_list (K := K) (a := a2) (xs := us2) (fun i σ H' => (∃ b, σ = s6r x p (.ref a2) a b) ∧ Same H1 H' ∧ ∀ (j : Nat) d, j < i → dl[j]? = some d → lookD d = true) ⟨⟨_, rfl⟩, Same.refl _, fun j _ h => absurd h (Nat.not_lt_zero j)⟩ (fun i σ H' _ h => h.2.1.seq h1) (fun i u σ H2 hi h => ?_) (fun σ H2 h => ⟨h.1, h.2.1, lookEnd _ (DpAll.len h2) h.2.2⟩)⟩
        obtain ⟨d, hd, hv, pd, bad, good⟩ := lookStep h2 i u σ H2 hi h
        obtain ⟨⟨b0, rfl⟩, s2, hy⟩ := h
        refine ⟨_, rfl, u, d, rfl, hv, pd, fun H3 s3 => ⟨_, rfl, ?_⟩⟩
        cases c : lookD d with
        | true => exact iteF ⟨⟨_, rfl⟩, s2.trans s3, good c⟩
        | false => exact iteT ⟨_, rfl, _, rfl, fun e he => qe d (bad c) u e _ ((s2.trans s3).free he) (Same.new (s2.trans s3) he) (dp_same (s3.trans (Same.new (Same.refl _) he)) _ hv) upd_same⟩
      · refine .inr ⟨_, rfl, a2, rfl, ⟨us2, h1⟩, for_tup (K := K) (a := a2) (xs := us2) (fun i σ H' => (∃ b, σ = s6r x p (.ref a2) a b) ∧ Same H1 H' ∧ ∀ (j : Nat) d, j < i → dl[j]? = some d → lookD d = true) ⟨⟨_, rfl⟩, Same.refl _, fun j _ h => absurd h (Nat.not_lt_zero j)⟩ (fun i σ H' _ h => SqT.ext h1 h.2.1) (fun i u σ H2 hi h => ?_) (fun σ H2 h => ⟨h.1, h.2.1, lookEnd _ (DpAll.len h2) h.2.2⟩)⟩
        obtain ⟨d, hd, hv, pd, bad, good⟩ := lookStep h2 i u σ H2 hi h
        obtain ⟨⟨b0, rfl⟩, s2, hy⟩ := h
        refine ⟨_, rfl, u, d, rfl, hv, pd, fun H3 s3 => ⟨_, rfl, ?_⟩⟩
        cases c : lookD d with
        | true => exact iteF ⟨⟨_, rfl⟩, s2.trans s3, good c⟩
        | false => exact iteT ⟨_, rfl, _, rfl, fun e he => qe d (bad c) u e _ ((s2.trans s3).free he) (Same.new (s2.trans s3) he) (dp_same (s3.trans (Same.new (Same.refl _) he)) _ hv) upd_same⟩
    rintro σ H2 ⟨⟨b, rfl⟩, s2, allL⟩
    obtain ⟨ls0, rfl⟩ := looks_of allL
    have q := fun ls H' h1 h2 h3 => q0 ks0 ls0 ls H' rfl k6 rfl allL h1 h2 h3
    have eu : us = ks0.map V.str := txts_of hp2
    subst eu
    have hx2 := s2 _ _ hx
    have l100 : ks0.length ≤ 100 := by rw [kiD, List.length_map] at k100; exact k100
    -- the kinds
    refine ⟨fun σ H' => ∃ kA, σ = s6r x p lk a b ∧ H' x = some (.ins CR dx [(("kinds" : Str), .ref kA)]) ∧ SqT K H' kA ((kinds6 ks0).map V.str) ∧ But x H1 H', ?_, ?_⟩
    · refine ⟨aW, rfl, ⟨_, WC.sq _⟩, fun D hD => lc_tup (K := K) (a := aW) (xs := words6.map V.str) (fun i H' => Same H2 H' ∧ H' D = some (.lst (((words6.take i).filter fun z => decide (z ∈ ks0)).map V.str))) ⟨Same.new (Same.refl H2) hD, upd_same⟩ (fun i H' _ _ => WC.sq _) (fun i u H3 hu h => ?_) (fun H3 h => ?_)⟩
      · obtain ⟨s3, hd3⟩ := h
        rw [List.getElem?_map] at hu
        obtain ⟨z, hz, rfl⟩ := Option.map_eq_some_iff.mp hu
        have li : i < 6 := (List.getElem?_eq_some_iff.mp hz).1
        have tk : words6.take (i + 1) = words6.take i ++ [z] := take_some hz
        refine ⟨rfl, _, rfl, _, rfl, p, _, rfl, .inr (SqT.ext hp1 (s2.trans s3)), rfl, flat_strs ks0, _, rfl, ?_⟩
        show if inV (V.str z) (ks0.map V.str) = true then _ else _
        rw [inV_strs]
        by_cases c : z ∈ ks0
        · refine iteT' (decide_eq_true c) ⟨_, rfl, _, hd3, ?_, Same.put s3 hD, ?_⟩
          · have l1 := List.length_filter_le (fun z => decide (z ∈ ks0)) (words6.take i)
            rw [List.length_take] at l1
            rw [List.length_map]
            exact Nat.lt_of_le_of_lt (show _ ≤ 900 by omega) (by decide)
          · rw [upd_same, tk, List.filter_append, List.map_append]
            simp [c]
        · refine iteF' (decide_eq_false c) ⟨s3, ?_⟩
          rw [hd3, tk, List.filter_append]
          simp [c]
      · obtain ⟨s3, hd3⟩ := h
        have hd3 : H3 D = some (.lst ((kinds6 ks0).map V.str)) := hd3
        refine ⟨D, _, rfl, .inl ⟨SqL.of hd3, fun t ht => ?_⟩⟩
        have s4 := Same.new (o := .tup ((kinds6 ks0).map V.str)) s3 ht
        refine ⟨_, rfl, x, CR, dx, [], rfl, s4 _ _ hx2, RC.cl, RC.ki, (by show 0 < 1000; decide), t, rfl, ?_, ?_, fun b o n e => ?_⟩
        · rw [upd_same, put1]
        · have nt : t ≠ x := (ne_of_none (s3 _ _ hx2) ht).symm
          exact SqT.of (by rw [upd_ne nt]; exact upd_same)
        · rw [upd_ne n]
          exact s4 _ _ (s2 _ _ e)
    rintro σ H3 ⟨kA, rfl, hx3, hk3, b3⟩
    -- the looks
    refine ⟨fun σ H' => ∃ (lA : Addr) (m : List (List Str × Addr)) (ls : List (Str × Str)), σ = s6r x p lk a b ∧ H' x = some (.ins CR dx [(("kinds" : Str), .ref kA), (("looks" : Str), .ref lA)]) ∧ SqT K H' kA ((kinds6 ks0).map V.str) ∧ SqT K H' lA (m.map fun q : List Str × Addr => V.ref q.2) ∧ m.map (·.1) = ls.map pairL ∧ (∀ q ∈ m, SqT K H' q.2 (q.1.map V.str)) ∧ LooksOf ls0 ls ∧ m.length < 64 ∧ But x H1 H', ?_, ?_⟩
    · obtain ⟨l, us, rfl, hl, hd⟩ : ∃ l us, lk = .ref l ∧ (SqL K H1 l us ∨ SqT K H1 l us) ∧ DpAll K H1 us (loD ls0) := by
        rcases hlk with hlk | hlk
        · cases hlk with
          | lst h1 h2 => exact ⟨_, _, rfl, .inl h1, h2⟩
        · cases hlk with
          | tup h1 h2 => exact ⟨_, _, rfl, .inr h1, h2⟩
      obtain ⟨ks, rfl, ek, key⟩ := look_keys hd
      have lks : ks.length < 64 := by
        have z := congrArg List.length ek
        rw [List.length_map, List.length_map] at z
        rw [z]
        rw [loD, List.length_map] at l64
        exact l64
      have hl3 : SqL K H3 l (ks.map fun q => V.ref q.2) ∨ SqT K H3 l (ks.map fun q => V.ref q.2) := hl.elim (fun h => .inl (but_sql hx b3 h)) fun h => .inr (but_sqt hx b3 h)
      refine ⟨_, rfl, l, ks, rfl, hl3, fun q hq => ⟨but_sqt hx b3 (key q hq).1, (key q hq).2⟩, lks, fun pA m hn sub all nd srt => ?_⟩
      obtain ⟨ls, e1, lo⟩ := looks_made ek sub all nd srt
      have lm : m.length < 64 := Nat.lt_of_le_of_lt (by
        have z := nodup_le nd (fun a ha => by
          obtain ⟨q, hq, rfl⟩ := List.mem_map.mp ha
          exact List.mem_map.mpr ⟨q, sub q hq, rfl⟩ : ∀ a ∈ m.map (·.1), a ∈ ks.map (·.1))
        rw [List.length_map, List.length_map] at z
        exact z) lks
      refine ⟨pA, _, rfl, .inl ⟨SqL.of upd_same, fun t ht => ?_⟩⟩
      have s4 := Same.new (o := .tup (m.map fun q => V.ref q.2)) (Same.new (o := .lst (m.map fun q => V.ref q.2)) (Same.refl H3) hn) ht
      have hx4 := s4 _ _ hx3
      have nt : t ≠ x := (ne_of_none ((Same.new (o := .lst (m.map fun q => V.ref q.2)) (Same.refl H3) hn) _ _ hx3) ht).symm
      refine ⟨_, rfl, x, CR, dx, _, rfl, hx4, RC.cl, RC.lo, (by show 1 < 1000; decide), t, m, ls, rfl, by rw [upd_same, put2], ?_, ?_, e1, fun q hq => ?_, lo, lm, fun b o n e => ?_⟩
      · exact but_sqt hx4 (fun b o n e => by rw [upd_ne n]; exact e) (SqT.ext hk3 s4)
      · exact SqT.of (by rw [upd_ne nt]; exact upd_same)
      · exact but_sqt hx4 (fun b o n e => by rw [upd_ne n]; exact e) (SqT.ext (but_sqt hx b3 (key q (sub q hq)).1) s4)
      · rw [upd_ne n]
        exact s4 _ _ (b3 b o n e)
    rintro σ H4 ⟨lA, m, ls, rfl, hx4, hk4, hl4, e1, key4, lo, lm, b4⟩
    -- both
    have fin : ∀ (pa : Addr) (H5 : Hp), Same H4 H5 → SqT K H5 pa ((kinds6 ks0).map V.str ++ m.map fun q => V.ref q.2) →
        H5 x = some (.ins CR dx [(("kinds" : Str), .ref kA), (("looks" : Str), .ref lA)]) ∧ Q .non (upd H5 x (.ins CR dx (putF "parts" (.ref pa) [(("kinds" : Str), .ref kA), (("looks" : Str), .ref lA)]))) := by
      intro pa H5 s5 hpa
      have hx5 := s5 _ _ hx4
      have k5 : But x H5 (upd H5 x (.ins CR dx (FRu (.ref kA) (.ref lA) (.ref pa)))) := fun b o n e => by rw [upd_ne n]; exact e
      refine ⟨hx5, ?_⟩
      rw [put3]
      have dk : DpAll K (upd H5 x (.ins CR dx (FRu (.ref kA) (.ref lA) (.ref pa)))) ((kinds6 ks0).map V.str) (kiD (kinds6 ks0)) := of_txts _
      have dl : DpAll K (upd H5 x (.ins CR dx (FRu (.ref kA) (.ref lA) (.ref pa)))) (m.map fun q => V.ref q.2) (loD ls) := keys_look e1 fun q hq => but_sqt hx5 k5 (SqT.ext (key4 q hq) s5)
      exact q ls _ lo (fun b o n e => k5 b o n (s5 _ _ (b4 b o n e))) ⟨dx, _, _, _, upd_same, .tup (but_sqt hx5 k5 (SqT.ext hk4 s5)) dk, .tup (but_sqt hx5 k5 (SqT.ext hl4 s5)) dl, .tup (but_sqt hx5 k5 hpa) (DpAll.app dk dl)⟩
    have lk6 : (kinds6 ks0).length ≤ 6 := List.length_filter_le _ _
    refine ⟨_, rfl, x, CR, dx, _, _, rfl, hx4, RC.cl, RC.ki, by kernel_rfl, _, rfl, x, CR, dx, _, _, rfl, hx4, RC.cl, RC.lo, by kernel_rfl, kA, lA, _, _, rfl, rfl, hk4, hl4, ?_, fun e => ?_, fun _ e => ?_, fun _ _ g hg => ?_⟩
    · rw [List.length_map, List.length_map]
      exact line_ge (by omega)
    · obtain ⟨f1, f2⟩ := fin lA H4 (Same.refl H4) (by rw [e, List.nil_append]; exact hl4)
      exact ⟨_, rfl, x, CR, dx, _, rfl, f1, RC.cl, RC.pa, (by show 2 < 1000; decide), f2⟩
    · obtain ⟨f1, f2⟩ := fin kA H4 (Same.refl H4) (by rw [e, List.append_nil]; exact hk4)
      exact ⟨_, rfl, x, CR, dx, _, rfl, f1, RC.cl, RC.pa, (by show 2 < 1000; decide), f2⟩
    · obtain ⟨f1, f2⟩ := fin g _ (Same.new (Same.refl H4) hg) (SqT.of upd_same)
      exact ⟨_, rfl, x, CR, dx, _, rfl, f1, RC.cl, RC.pa, (by show 2 < 1000; decide), f2⟩
end
end K5

namespace K5
open PySem L2
theorem shaped_lt {ds : List PyData} : SeqAt.shaped (.list ds) = SeqAt.shaped (.tuple ds) := by
  unfold SeqAt.shaped
  rw [PyData.canLay0, PyData.canLay0, PyData.depth, PyData.depth]
/-- x in y, x not in y: data of any depth in a list or a tuple -/
def rInA (K : PySem.W.Frag) (neg : Bool) : R2 := fun x y H Q => ∃ d ds, Dp K H x d ∧ SeqD K H y ds ∧ SeqAt.shaped d = true ∧ SeqAt.shaped (.tuple ds) = true ∧ Q (.bl (neg != (ds.any fun z => PyData.eqv z d))) H
section
variable {X : Cx}
open PySem.Spec PyProof.Rows
theorem op_inA (hu : X.A.units + 65 < cLine) : OpR X (compareOp .In) (rInA X.K false) := by
  intro pins s σ H x y v u Q I rx ry h
  obtain ⟨d, ds, hd, he, sd, se, q⟩ := h
  rw [Bool.false_bne] at q
  obtain ⟨as, r1⟩ := Dp.reads I d x v hd rx
  rcases he with he | he
  · obtain ⟨bs, r2⟩ := Dp.reads I (.list ds) y u he ry
    exact SeqAt.in_list_reads r2 r1 (by have z := SeqAt.canLay_of_shaped se; rw [PyData.canLay0] at z; exact z) (SeqAt.canLay_of_shaped sd) (room_in_shaped sd hu) ⟨.bl _, H, I, rfl, q⟩
  · obtain ⟨bs, r2⟩ := Dp.reads I (.tuple ds) y u he ry
    exact SeqAt.in_tuple_reads r2 r1 (SeqAt.canLay_of_shaped se) (SeqAt.canLay_of_shaped sd) (room_in_shaped sd hu) ⟨.bl _, H, I, rfl, q⟩
theorem op_ninA (hu : X.A.units + 65 < cLine) : OpR X (compareOp .NotIn) (rInA X.K true) := by
  intro pins s σ H x y v u Q I rx ry h
  obtain ⟨d, ds, hd, he, sd, se, q⟩ := h
  rw [Bool.true_bne] at q
  obtain ⟨as, r1⟩ := Dp.reads I d x v hd rx
  rcases he with he | he
  · obtain ⟨bs, r2⟩ := Dp.reads I (.list ds) y u he ry
    exact SeqAt.notIn_list_reads r2 r1 (by have z := SeqAt.canLay_of_shaped se; rw [PyData.canLay0] at z; exact z) (SeqAt.canLay_of_shaped sd) (room_in_shaped sd hu) ⟨.bl _, H, I, rfl, q⟩
  · obtain ⟨bs, r2⟩ := Dp.reads I (.tuple ds) y u he ry
    exact SeqAt.notIn_tuple_reads r2 r1 (SeqAt.canLay_of_shaped se) (SeqAt.canLay_of_shaped sd) (room_in_shaped sd hu) ⟨.bl _, H, I, rfl, q⟩
end
theorem eqv_str (a b : Str) : PyData.eqv (.str a) (.str b) = decide (a = b) := by
  rw [PyData.eqv]
  by_cases h : a = b
  · subst h; simp
  · simp [h]
theorem eqv_look (p q : Str × Str) : PyData.eqv (lkP p) (lkP q) = decide (p = q) := by
  obtain ⟨a, b⟩ := p
  obtain ⟨c, d⟩ := q
  unfold lkP
  rw [PyData.eqv, PyData.eqvAll, PyData.eqvAll, PyData.eqvAll, eqv_str, eqv_str]
  by_cases h : a = c <;> by_cases g : b = d <;> simp [h, g]
theorem eqv_sl (a : Str) (q : Str × Str) : PyData.eqv (.str a) (lkP q) = false := by
  unfold lkP
  rw [PyData.eqv]
  all_goals simp
theorem eqv_ls (a : Str) (q : Str × Str) : PyData.eqv (lkP q) (.str a) = false := by
  unfold lkP
  rw [PyData.eqv]
  all_goals simp
theorem any_ki (ks : List Str) (z : Str) : ((kiD ks).any fun y => PyData.eqv y (.str z)) = decide (z ∈ ks) := by
  induction ks with
  | nil => rfl
  | cons k ks ih =>
    show (PyData.eqv (.str k) (.str z) || (kiD ks).any fun y => PyData.eqv y (.str z)) = _
    rw [ih, eqv_str]
    by_cases h : k = z
    · subst h; simp
    · have : ¬ z = k := fun e => h e.symm
      simp [h, this]
theorem any_lo (ls : List (Str × Str)) (p : Str × Str) : ((loD ls).any fun y => PyData.eqv y (lkP p)) = decide (p ∈ ls) := by
  induction ls with
  | nil => rfl
  | cons k ls ih =>
    show (PyData.eqv (lkP k) (lkP p) || (loD ls).any fun y => PyData.eqv y (lkP p)) = _
    rw [ih, eqv_look]
    by_cases h : k = p
    · subst h; simp
    · have : ¬ p = k := fun e => h e.symm
      simp [h, this]
theorem any_ki_l (ks : List Str) (p : Str × Str) : ((kiD ks).any fun y => PyData.eqv y (lkP p)) = false := List.any_eq_false.mpr fun d hd => by
  obtain ⟨z, _, rfl⟩ := List.mem_map.mp hd
  rw [eqv_sl]
  decide
theorem any_lo_k (ls : List (Str × Str)) (z : Str) : ((loD ls).any fun y => PyData.eqv y (.str z)) = false := List.any_eq_false.mpr fun d hd => by
  obtain ⟨q, _, rfl⟩ := List.mem_map.mp hd
  rw [eqv_ls]
  decide
/-! the looks that the law draws -/
def looks10 : List (Str × Str) := [("a", "b"), ("b", "a"), (";", ","), ("=", ";"), ("1", "a"), ("7", "1"), ("a", "="), ("on", "no"), ("[", "]"), ("0", "999999999")]
theorem l10_fair : ∀ p ∈ looks10, Fair1 (lkP p) := by
  have h : (looks10.all fun p => fairB (lkP p)) = true := by decide +kernel
  exact fun p hp => fair_of (List.all_eq_true.mp h p hp)
theorem w6_fair : ∀ z ∈ words6, Fair1 (.str z) := by
  have h : (words6.all fun z => fairB (.str z)) = true := by decide +kernel
  exact fun z hz => fair_of (List.all_eq_true.mp h z hz)
theorem l10_look : ∀ p ∈ looks10, lookD (lkP p) = true := by
  have h : (looks10.all fun p => lookD (lkP p)) = true := by decide +kernel
  exact fun p hp => List.all_eq_true.mp h p hp
theorem l10_part : ∀ p ∈ looks10, p.1.length ≤ sizeLine ∧ p.2.length ≤ sizeLine := by
  have h : (looks10.all fun p => decide (p.1.length ≤ 20) && decide (p.2.length ≤ 20)) = true := by decide +kernel
  intro p hp
  have z := List.all_eq_true.mp h p hp
  rw [Bool.and_eq_true] at z
  have a := of_decide_eq_true z.1
  have b := of_decide_eq_true z.2
  exact ⟨line_ge (by omega), line_ge (by omega)⟩
/-- a rule of the law: words in order, looks ascending, each once -/
structure RuleG (ks : List Str) (ls : List (Str × Str)) : Prop where
  k : kinds6 ks = ks
  l : LooksOf ls ls
  m : ∀ p ∈ ls, p ∈ looks10
theorem mem_k6 {ks : List Str} {z : Str} : z ∈ kinds6 ks ↔ z ∈ words6 ∧ z ∈ ks := by
  unfold kinds6
  rw [List.mem_filter, decide_eq_true_iff]
theorem k6_k6 (ks : List Str) : kinds6 (kinds6 ks) = kinds6 ks := by
  show words6.filter (fun z => decide (z ∈ kinds6 ks)) = words6.filter fun z => decide (z ∈ ks)
  refine List.filter_congr fun z hz => ?_
  by_cases h : z ∈ ks
  · rw [decide_eq_true h, decide_eq_true (mem_k6.mpr ⟨hz, h⟩)]
  · rw [decide_eq_false h, decide_eq_false fun e => h (mem_k6.mp e).2]
theorem RuleG.w {ks : List Str} {ls : List (Str × Str)} (G : RuleG ks ls) : ∀ z ∈ ks, z ∈ words6 := fun z hz => by
  rw [← G.k] at hz
  exact (mem_k6.mp hz).1
theorem RuleG.lk {ks : List Str} {ls : List (Str × Str)} (G : RuleG ks ls) : ks.length ≤ 6 := by
  rw [← G.k]
  exact List.length_filter_le _ _
theorem RuleG.ll {ks : List Str} {ls : List (Str × Str)} (G : RuleG ks ls) : ls.length ≤ 10 := nodup_le G.l.nd G.m
theorem ki_fair {ks : List Str} (h : ∀ z ∈ ks, z ∈ words6) : Fair (kiD ks) := fun d hd => by
  obtain ⟨z, hz, rfl⟩ := List.mem_map.mp hd
  exact w6_fair z (h z hz)
theorem lo_fair {ls : List (Str × Str)} (h : ∀ p ∈ ls, p ∈ looks10) : Fair (loD ls) := fun d hd => by
  obtain ⟨z, hz, rfl⟩ := List.mem_map.mp hd
  exact l10_fair z (h z hz)
theorem pa_fair {ks : List Str} {ls : List (Str × Str)} (hk : ∀ z ∈ ks, z ∈ words6) (hl : ∀ p ∈ ls, p ∈ looks10) : Fair (paD ks ls) := fun d hd => (List.mem_append.mp hd).elim (ki_fair hk d) (lo_fair hl d)
theorem pa_len {ks : List Str} {ls : List (Str × Str)} : (paD ks ls).length = ks.length + ls.length := by
  unfold paD kiD loD
  rw [List.length_append, List.length_map, List.length_map]
theorem RuleG.ok {ks : List Str} {ls : List (Str × Str)} (G : RuleG ks ls) : RuleOk ks ls where
  k := fair_shaped_t (ki_fair G.w)
  l := fair_shaped_t (lo_fair G.m)
  p := fair_shaped_t (pa_fair G.w G.m)
  n := by
    rw [pa_len]
    have := G.lk
    have := G.ll
    omega
  one := fun d hd => (pa_fair G.w G.m d hd).shaped
theorem LooksOf.self {ls0 ls : List (Str × Str)} (h : LooksOf ls0 ls) : LooksOf ls ls := ⟨h.nd, h.srt, fun _ => Iff.rfl⟩
theorem LooksOf.good {ls0 ls : List (Str × Str)} {ks : List Str} (h : LooksOf ls0 ls) (hl : ∀ p ∈ ls0, p ∈ looks10) : RuleG (kinds6 ks) ls := ⟨k6_k6 ks, h.self, fun p hp => hl p ((h.mem p).mp hp)⟩
/-- the same looks, each once and ascending, are one list -/
theorem LooksOf.one {a b ls ls' : List (Str × Str)} (h : LooksOf a ls) (h' : LooksOf b ls') (e : ∀ p, p ∈ a ↔ p ∈ b) : ls = ls' := by
  have pm : ls.Perm ls' := (List.perm_ext_iff_of_nodup h.nd h'.nd).mpr fun p => ((h.mem p).trans (e p)).trans (h'.mem p).symm
  have z := K9.srt_one (d := 2) (fun x hx => by
    obtain ⟨p, _, rfl⟩ := List.mem_map.mp hx
    rfl) (pm.map pairL) h.srt h'.srt
  exact (List.map_inj_right fun p q e => pairL_inj e).mp z
theorem k6_congr {ks ks' : List Str} (h : ∀ z ∈ words6, (z ∈ ks ↔ z ∈ ks')) : kinds6 ks = kinds6 ks' := by
  refine List.filter_congr fun z hz => ?_
  rw [decide_eq_decide]
  exact h z hz
end K5

/-! C(e, ..): making an instance whose __init__ takes any number of arguments, the one by its name left out -/
namespace L2
open PySem PySem.Spec PyProof.Rows
section
variable {X : Cx} {CX : CXT} {k : Nat} {f C : Addr} {fd : FuncData} {ps : List Str} {sp : Sp} {key : Str}
theorem run_makeD {pins : List (Addr × Obj)} {σ : St} {H : Hp} {s : Shared} {Q : VK} {us : List Value} {zs : List V} {u : Value} {v : V} {E : XK} (M : Mk X.K C f) (F : FnB X.prog X.w X.K X.mg X.base CX k f fd ps sp) (hr : Room (k + 1) X.A) (hb : StarBinds0 X.K fd ps u)
    (hx : PassesAt CX X σ E) (I : Inv X pins σ H s) (r : Vals zs us) (rv : RelV v u) (h : MakeQ C sp E zs v H Q) :
    wpAny (model X.prog X.w) X.A (call (.ref C) us) (EP X pins σ Q) X.xe s := by
  obtain ⟨hz, h⟩ := h
  have I2 := Inv.made (C := C) I
  have lu : us.length ≤ sizeLine := by rw [← r.length]; exact hz
  have hq := h (s.heap.objs.size + 1) s.heap.objs.size _ (I.hok.fresh (Nat.le_succ _)) (I.hok.fresh (Nat.le_refl _)) (Nat.ne_of_lt (Nat.lt_succ_self _)) (I2.hok.fresh (Nat.le_refl _))
  have I3 : Inv X pins σ (upd (upd (upd H s.heap.objs.size (.own (s.heap.objs.size + 1))) (s.heap.objs.size + 1) (.ins C s.heap.objs.size [])) ((s.heap.push PySem.W.emptyDict).push (PySem.W.instObj C s.heap.objs.size)).objs.size (.tup zs))
      { s with heap := ((s.heap.push PySem.W.emptyDict).push (PySem.W.instObj C s.heap.objs.size)).push { cls := .type "tuple", data := .seq us.toArray } } :=
    I2.laid (t' := s.toks) (fun b o e => Heap.get?_push_of_some _ e) (Nat.le_refl _) ⟨hz, us, r, _, Heap.get?_push_size _ rfl, rfl, _, rfl⟩
  have r2 : Vals [V.ref (s.heap.objs.size + 1), v, .ref ((s.heap.push PySem.W.emptyDict).push (PySem.W.instObj C s.heap.objs.size)).objs.size] [Value.ref (s.heap.objs.size + 1), u, .ref ((s.heap.push PySem.W.emptyDict).push (PySem.W.instObj C s.heap.objs.size)).objs.size] := .cons rfl (.cons rv (.cons rfl .nil))
  refine wpAny_call (make_map (f := f) I.kIn M.makes M.init (beq_iff_eq.mp M.fn) (F.run _ X.stack _ _ _ ⟨Value.ref (s.heap.objs.size + 1) :: us, []⟩ _ _ _ E _ (hr.make C us []) I2.kIn (I3.env0.make C us []) r2 hq (fun M A E Q g => hb _ _ us I2.kIn lu M A E Q g) fun r t hq' => ?_))
  cases r with
  | error e => exact hx pins _ _ e t I3 hq'
  | ok fl =>
    cases fl with
    | ret w =>
      obtain ⟨z, H', I4, rz, ev, q3⟩ := I3.after hq'
      subst ev
      exact ⟨rz, ⟨V.ref (s.heap.objs.size + 1), H', I4, rfl, q3⟩⟩
    | next => exact False.elim hq'
    | brk => exact False.elim hq'
    | cont => exact False.elim hq'
variable {x : Str} {p pos : Pos} {e : Expr} {es : List Expr} {t : TA} {E : St → XK}
def tMakeD (C : Addr) (sp : Sp) (E : St → XK) (v : V) (t : TA) : TE := fun σ H Q => t σ H fun zs H1 => MakeQ C sp (E σ) zs v H1 Q
/-- C(e, ..) -/
theorem pe_makeD {u : Value} {v : V} (M : Mk X.K C f) (F : FnB X.prog X.w X.K X.mg X.base CX k f fd ps sp) (hr : Room (k + 1) X.A) (hg : Gl X x) (hm : X.mg x = some (.ref C)) (hb : StarBinds0 X.K fd ps u) (rv : RelV v u) (hx : ∀ σ, PassesAt CX X σ (E σ)) (ha : PA X (e :: es) t)
    (hdb : (x == ("__debug__" : Str)) = false := by decide) (he : starEach (e :: es) X.env = (false, eval e X.env) :: starEach es X.env := by rfl) (hpl : (backTo pos (starEach es X.env)).any (·.1) = false := by rfl) :
    PE X (.Call (.Name x p) (e :: es) [] pos) (tMakeD C sp E v t) := by
  refine ⟨fun pins s σ H Q I h => ?_⟩
  refine wpAny_Call_Name_kw (ld_glob I hg hm ?_ hdb)
  refine PySem.W.callWith_K (h₀ := X.base) I.ok.mod.kin M.kp (thn (ha.run pos pins s σ H _ I h) fun us s1 ⟨zs, H1, I1, r, q⟩ => ⟨I1.kIn, ?_⟩) he hpl
  exact run_makeD M F hr hb (hx σ) I1 r rv q
end
end L2

/-! C.m(), m a staticmethod of the class at C -/
namespace L2
open PySem PySem.Spec PyProof.Rows ClX
structure SMet (K : PySem.W.Frag) (C : Addr) (mc : Value) (m : Str) (p g : Addr) : Prop where
  at_ : PySem.W.findCls K (.ref C) mc m = some (.get (.builtin "staticmethod.__get__") (.ref p) .none (.ref C))
  rc : ∃ rest, PySem.W.recIn K p "staticmethod" = some (.ref g :: rest)
  kp : PySem.W.keepIn K (.ref g) = true
def tStat (C : Addr) (sp : Sp) (E : St → XK) (ta : TE) : TE := fun σ H Q => ta σ H fun x H1 => x = .ref C ∧ sp [] H1 Q (E σ)
section
variable {X : Cx} {CX : CXT} {k : Nat} {C p g : Addr} {mc : Value} {fd : FuncData} {ps : List Str} {sp : Sp} {E : St → XK} {o : Expr} {m : Str} {pos apos : Pos} {ta : TE} {pl : Sem Bool}
theorem pe_static (he : PE X o ta) (r : CRead X.K C mc) (c : SMet X.K C mc m p g) (F : FnOk X.prog X.w X.K X.mg X.base CX k g fd ps sp) (hr : Room k X.A) (hb : Binds X.K fd ps []) (hx : ∀ σ, PassesAt CX X σ (E σ))
    (ht : eval (.Call (.Attribute o m apos) [] [] pos) X.env = (do
      let ov ← eval o X.env
      standAt apos.atName
      let (f, first) ← holding [ov] (getMethod ov m pl)
      callWith pos f first (backTo pos (starEach [] X.env)) (backToKw pos (keywordEach [] X.env))) := by rfl) :
    PE X (.Call (.Attribute o m apos) [] [] pos) (tStat C sp E ta) := by
  refine ⟨fun pins s σ H Q I h => ?_⟩
  refine PySem.W.methodCall_KW (pl := pl) (thn (he.run pins s σ H _ I h) fun u s1 ⟨x, H1, I1, rx, ex, q⟩ => ?_) ht
  subst ex
  obtain rfl : u = Value.ref C := rx
  obtain ⟨rest, hp⟩ := c.rc
  refine PySem.W.method_cls I1.kIn r.ga (PySem.W.cls_bind I1.kIn r.rd c.at_ (wpAny_call (PySem.W.sm_get (s := { s1 with toks := s1.toks + 1 }) I1.kIn hp (PySem.W.handed_on rfl ?_))))
  have I2 : Inv X pins σ H1 { s1 with toks := s1.toks + 1 } := I1.tok _
  refine PySem.W.callWith_K0 (first := []) I2.kIn c.kp ?_
  refine wpAny_call (codeAny_mono (run_own (us := []) (vs := []) F hr hb (hx σ) I2 .nil q) fun r s' hq => ?_)
  cases r with
  | error e => exact hq
  | ok fl =>
    cases fl with
    | ret w => exact hq
    | next => exact False.elim hq
    | brk => exact False.elim hq
    | cont => exact False.elim hq
end
end L2

namespace K5
open PySem L2
abbrev sREvery : Stmt := inClass (top 18) 1
abbrev sROr : Stmt := inClass (top 18) 2
abbrev sRAnd : Stmt := inClass (top 18) 3
abbrev sRSub : Stmt := inClass (top 18) 4
abbrev sMade : Stmt := top 19
abbrev nRAnd : List Str := ["self", "other", "kinds", "looks", "kind", "look"]
theorem noPass {X : Cx} {P : Program} {w : World} (σ : L2.St) : PassesAt (L2.CX P w) X σ (fun _ _ _ => False) := fun pins => passNo pins σ
/-- making a rule, whatever its parts are -/
theorem madeQ {K : PySem.W.Frag} {CR CX : Addr} {zs : List V} {v : V} {dk dl : List PyData} {H : Hp} {Q : VK} {E : XK} (hz : DpAll K H zs dk) (hv : SeqD K H v dl) (l64 : dl.length < 64) (k100 : dk.length ≤ 100) (pe : ∀ d ∈ dl, ∀ ds, d = .tuple ds → ∀ e ∈ ds, partE e)
    (q0 : ∀ x ks0 ls0 ls H', dk = kiD ks0 → (∀ z ∈ ks0, z ∈ words6) → dl = loD ls0 → (∀ d ∈ dl, lookD d = true) → LooksOf ls0 ls → H x = none → Same H H' → RuleV K CR H' x (kinds6 ks0) ls → Q (.ref x) H')
    (qe : ∀ d, badPart dk dl = some d → ∀ w e H', H e = none → Same H H' → Dp K H' w d → H' e = some (.xd [(("worth" : Str), w)]) → E (.ref CX) (some e) H') : MakeQ CR (spRInit K CR CX) E zs v H Q := by
  refine ⟨by rw [DpAll.len hz]; exact line_ge (by omega), fun x dx p hx hdx ne hp => ?_⟩
  have s1 := Same.new (o := .own x) (Same.refl H) hdx
  have hx1 : upd H dx (.own x) x = none := by rw [upd_ne ne.symm]; exact hx
  have s2 := Same.new (o := .ins CR dx []) s1 hx1
  have s3 := Same.new (o := .tup zs) s2 hp
  have hx3 : upd (upd (upd H dx (.own x)) x (.ins CR dx [])) p (.tup zs) x = some (.ins CR dx []) := by
    rw [upd_ne (ne_of_none upd_same hp)]
    exact upd_same
  refine ⟨x, dx, p, v, dk, dl, rfl, hx3, .tup (SqT.of upd_same) (dpAll_same s3 _ hz), hv.elim (fun h => .inl (dp_same s3 _ h)) fun h => .inr (dp_same s3 _ h), l64, k100, pe, fun ks0 ls0 ls H' h1 h2 h3 h4 h5 b r => ⟨rfl, ?_⟩, fun d hd w e H' he s hw hx' => qe d hd w e H' (s3.free he) (s3.trans s) hw hx'⟩
  exact q0 x ks0 ls0 ls H' h1 h2 h3 h4 h5 hx (fun c o e => b c o (ne_of_none e hx) (s3 c o e)) r
theorem lo_part {ls : List (Str × Str)} (h : ∀ p ∈ ls, p ∈ looks10) : ∀ d ∈ loD ls, ∀ ds, d = .tuple ds → ∀ e ∈ ds, partE e := by
  intro d hd ds e x hx
  obtain ⟨p, hp, rfl⟩ := List.mem_map.mp hd
  cases e
  obtain ⟨a, b⟩ := l10_part p (h p hp)
  rcases List.mem_cons.mp hx with rfl | hx
  · exact a
  · rw [List.mem_singleton.mp hx]
    exact b
theorem lo_inj {a b : List (Str × Str)} (h : loD a = loD b) : a = b := (List.map_inj_right fun p q e => by
  unfold lkP at e
  simp only [PyData.tuple.injEq, List.cons.injEq, PyData.str.injEq, and_true] at e
  exact Prod.ext e.1 e.2).mp h
theorem ki_inj {a b : List Str} (h : kiD a = kiD b) : a = b := (List.map_inj_right fun p q e => by cases e; rfl).mp h
/-- of words and looks that are some -/
theorem bad_none {ks : List Str} {ls : List (Str × Str)} (hk : ∀ z ∈ ks, z ∈ words6) (hl : ∀ p ∈ ls, p ∈ looks10) : badPart (kiD ks) (loD ls) = none := by
  unfold badPart
  rw [find_no fun d hd => ?_, find_no fun d hd => ?_]
  · rfl
  · obtain ⟨p, hp, rfl⟩ := List.mem_map.mp hd
    rw [l10_look p (hl p hp)]
    rfl
  · obtain ⟨z, hz, rfl⟩ := List.mem_map.mp hd
    show (!decide (z ∈ words6)) = false
    rw [decide_eq_true (hk z hz)]
    rfl
theorem goodQ {K : PySem.W.Frag} {CR CX : Addr} {zs : List V} {v : V} {ks : List Str} {ls0 : List (Str × Str)} {H : Hp} {Q : VK} {E : XK} (hz : DpAll K H zs (kiD ks)) (hv : SeqD K H v (loD ls0)) (hk : ∀ z ∈ ks, z ∈ words6) (hl : ∀ p ∈ ls0, p ∈ looks10) (l64 : ls0.length < 64) (k100 : ks.length ≤ 100)
    (q0 : ∀ x ls H', LooksOf ls0 ls → H x = none → Same H H' → RuleV K CR H' x (kinds6 ks) ls → Q (.ref x) H') : MakeQ CR (spRInit K CR CX) E zs v H Q := by
  refine madeQ hz hv (by rw [loD, List.length_map]; exact l64) (by rw [kiD, List.length_map]; exact k100) (lo_part hl) (fun x ks0 ls1 ls H' h1 _ h3 _ h4 h5 h6 r => ?_) fun d hd => ?_
  · cases ki_inj h1
    cases lo_inj h3
    exact q0 x ls H' h4 h5 h6 r
  · rw [bad_none hk hl] at hd
    cases hd
/-- what is known of making rules -/
structure MkR (P : Program) (w : World) (K : PySem.W.Frag) (mg : Str → Option Value) (base : Heap) (CR CX : Addr) : Prop where
  ex : ∃ (f : Addr) (fd : FuncData) (u : Value) (v : V), Mk K CR f ∧ FnB P w K mg base (L2.CX P w) 5 f fd pRInit (spRInit K CR CX) ∧ StarBinds fd pRInit "looks" ∧ StarBinds0 K fd pRInit u ∧ RelV v u ∧ ∀ H, Dp K H v (.tuple [])
def spMade (K : PySem.W.Frag) (CR : Addr) : Sp := fun vs H Q _ => ∃ (kv lv : V) (ks : List Str) (ls0 : List (Str × Str)), vs = [kv, lv] ∧ SeqD K H kv (kiD ks) ∧ SeqD K H lv (loD ls0) ∧ (∀ z ∈ ks, z ∈ words6) ∧ (∀ p ∈ ls0, p ∈ looks10) ∧ ls0.length < 64 ∧ ks.length ≤ 100 ∧
  ∀ x ls H', LooksOf ls0 ls → H x = none → Same H H' → RuleV K CR H' x (kinds6 ks) ls → Q (.ref x) H'
def spREvery (K : PySem.W.Frag) (CR : Addr) : Sp := fun vs H Q _ => vs = [] ∧ ∀ x H', H x = none → Same H H' → RuleV K CR H' x words6 [] → Q (.ref x) H'
/-- two rules, and what is made of them -/
def spROp (K : PySem.W.Frag) (CR : Addr) (fk : List Str → List Str → List Str) (fl : List (Str × Str) → List (Str × Str) → List (Str × Str)) : Sp := fun vs H Q _ => ∃ (x y : Addr) (ks ks2 : List Str) (ls ls2 : List (Str × Str)), vs = [.ref x, .ref y] ∧ RuleV K CR H x ks ls ∧ RuleG ks ls ∧ RuleV K CR H y ks2 ls2 ∧ RuleG ks2 ls2 ∧
  ∀ z ls' H', LooksOf (fl ls ls2) ls' → H z = none → Same H H' → RuleV K CR H' z (kinds6 (fk ks ks2)) ls' → Q (.ref z) H'
def bothF {α : Type} [DecidableEq α] (a b : List α) : List α := a.filter fun z => decide (z ∈ b)
def lessF {α : Type} [DecidableEq α] (a b : List α) : List α := a.filter fun z => !decide (z ∈ b)
theorem catD {K : PySem.W.Frag} {H : Hp} {v u : V} {ds es : List PyData} {Q : VK} (hv : Dp K H v (.tuple ds)) (hu : Dp K H u (.tuple es)) (hz : ds.length + es.length ≤ 1000) (q : ∀ p H', Same H H' → Dp K H' (.ref p) (.tuple (ds ++ es)) → Q (.ref p) H') : rCatA K v u H Q := by
  cases hv with
  | @tup a xs _ h1 h2 =>
    cases hu with
    | @tup b ys _ g1 g2 =>
      refine ⟨a, b, xs, ys, rfl, rfl, h1, g1, by rw [DpAll.len h2, DpAll.len g2]; exact line_ge (by omega), fun e => ?_, fun _ e => ?_, fun _ _ p hp => ?_⟩
      · subst e
        cases h2
        exact q b H (Same.refl H) (.tup g1 g2)
      · subst e
        cases g2
        rw [List.append_nil] at q
        exact q a H (Same.refl H) (.tup h1 h2)
      · have s := Same.new (o := .tup (xs ++ ys)) (Same.refl H) hp
        exact q p _ s (.tup (SqT.of upd_same) (DpAll.app (dpAll_same s _ h2) (dpAll_same s _ g2)))
theorem RuleV.same {K : PySem.W.Frag} {CR : Addr} {H H' : Hp} {x : Addr} {ks : List Str} {ls : List (Str × Str)} (h : RuleV K CR H x ks ls) (s : Same H H') : RuleV K CR H' x ks ls := by
  obtain ⟨dx, k, l, p, h1, h2, h3, h4⟩ := h
  exact ⟨dx, k, l, p, s _ _ h1, dp_same s _ h2, dp_same s _ h3, dp_same s _ h4⟩
theorem ki_app (a b : List Str) : kiD a ++ kiD b = kiD (a ++ b) := (List.map_append ..).symm
theorem lo_app (a b : List (Str × Str)) : loD a ++ loD b = loD (a ++ b) := (List.map_append ..).symm
theorem ki_filter (p : PyData → Bool) (ks : List Str) : (kiD ks).filter p = kiD (ks.filter fun z => p (.str z)) := by
  unfold kiD
  rw [List.filter_map]
  rfl
theorem lo_filter (p : PyData → Bool) (ls : List (Str × Str)) : (loD ls).filter p = loD (ls.filter fun z => p (lkP z)) := by
  unfold loD
  rw [List.filter_map]
  rfl
theorem ki_both (a b : List Str) : (kiD a).filter (fun d => false != (kiD b).any fun z => PyData.eqv z d) = kiD (bothF a b) := by
  rw [ki_filter]
  unfold bothF
  congr 2
  funext z
  rw [any_ki, Bool.false_bne]
theorem ki_less (a b : List Str) : (kiD a).filter (fun d => true != (kiD b).any fun z => PyData.eqv z d) = kiD (lessF a b) := by
  rw [ki_filter]
  unfold lessF
  congr 2
  funext z
  rw [any_ki, Bool.true_bne]
theorem lo_both (a b : List (Str × Str)) : (loD a).filter (fun d => false != (loD b).any fun z => PyData.eqv z d) = loD (bothF a b) := by
  rw [lo_filter]
  unfold bothF
  congr 2
  funext z
  rw [any_lo, Bool.false_bne]
  exact decide_eq_decide.mpr Iff.rfl
theorem lo_less (a b : List (Str × Str)) : (loD a).filter (fun d => true != (loD b).any fun z => PyData.eqv z d) = loD (lessF a b) := by
  rw [lo_filter]
  unfold lessF
  congr 2
  funext z
  rw [any_lo, Bool.true_bne]
  exact congrArg (!·) (decide_eq_decide.mpr Iff.rfl)
section
variable {P : Program} {w : World} {K : PySem.W.Frag} {mg : Str → Option Value} {base : Heap} {CR CX : Addr}
theorem scMade : FnScope ["kinds", "looks"] ["kinds", "looks"] (defScope sMade) := ⟨rfl, rfl, rfl, by decide +kernel, rfl, by decide +kernel, by decide +kernel⟩
theorem ok_made {f : Addr} {fd : FuncData} (F : Fun K "made_rule" "made_rule" sMade f fd) (T : Bare mg) (RC : RuleC K mg CR) (MR : MkR P w K mg base CR CX) : FnOk P w K mg base CX0 7 f fd ["kinds", "looks"] (spMade K CR) := by
  refine F.ok scMade (fun vs H Q E h => ?_) (fun cdv A outer s H vs Q E hr h => ?_)
  · obtain ⟨kv, lv, ks, ls0, rfl, _⟩ := h
    rfl
  · obtain ⟨kv, lv, ks, ls0, rfl, hk, hl, hkw, hl10, l64, k100, q⟩ := h
    obtain ⟨fI, fdI, u, v, M, FI, SB, _⟩ := MR.ex
    have hr6 : Room 6 _ := hr
    refine ⟨_, (pss_one (ps_ret (pe_makeXS M FI hr6 (by rfl) RC.gC SB (fun σ => noPass σ) (pv 0) (pk_cons (pv 1) pk_nil)))), ?_⟩
    obtain ⟨a, zs, rfl, ha, hz⟩ : ∃ a zs, kv = .ref a ∧ (SqT K H a zs ∨ SqL K H a zs) ∧ DpAll K H zs (kiD ks) := by
      rcases hk with h | h
      · cases h with
        | lst h1 h2 => exact ⟨_, _, rfl, .inr h1, h2⟩
      · cases h with
        | tup h1 h2 => exact ⟨_, _, rfl, .inl h1, h2⟩
    exact ⟨_, rfl, _, rfl, a, zs, lv, rfl, rfl, ha, goodQ hz hl hkw hl10 l64 k100 q⟩
theorem scREvery : FnScope [] [] (defScope sREvery) := ⟨rfl, rfl, rfl, by decide +kernel, rfl, by decide +kernel, by decide +kernel⟩
theorem ok_revery {f : Addr} {fd : FuncData} (F : Fun K "every" "SlipRule.every" sREvery f fd) (T : Bare mg) (RC : RuleC K mg CR) (MR : MkR P w K mg base CR CX) : FnOk P w K mg base CX0 7 f fd [] (spREvery K CR) := by
  refine F.ok scREvery (fun vs H Q E h => ?_) (fun cdv A outer s H vs Q E hr h => ?_)
  · obtain ⟨rfl, _⟩ := h
    rfl
  · obtain ⟨rfl, q⟩ := h
    obtain ⟨fI, fdI, u, v, M, FI, _, SB0, rv, hv⟩ := MR.ex
    have hr6 : Room 6 _ := hr
    refine ⟨_, (pss_one (ps_ret (pe_makeD M FI hr6 (by rfl) RC.gC SB0 rv (fun σ => noPass σ) (pa_cons pe_str (pa_cons pe_str (pa_cons pe_str (pa_cons pe_str (pa_cons pe_str (pa_cons pe_str pa_nil))))))))), ?_⟩
    refine goodQ (ks := words6) (ls0 := []) (of_txts words6) (.inr (hv H)) (fun z h => h) (fun _ h => nomatch h) (by decide) (by decide) fun x ls H' h1 h2 h3 r => ?_
    have e : ls = [] := by
      cases ls with
      | nil => rfl
      | cons p ls => exact absurd ((h1.mem p).mp List.mem_cons_self) (by simp)
    subst e
    exact q x H' h2 h3 r
theorem scROr : FnScope ["self", "other", "kinds", "looks"] ["self", "other"] (defScope sROr) := ⟨rfl, rfl, rfl, by decide +kernel, rfl, by decide +kernel, by decide +kernel⟩
theorem ok_ror {f : Addr} {fd : FuncData} (F : Fun K "__or__" "SlipRule.__or__" sROr f fd) (T : Bare mg) (RC : RuleC K mg CR) (GM : Fn P w K mg base 7 "made_rule" ["kinds", "looks"] (spMade K CR)) : FnOk P w K mg base CX0 8 f fd ["self", "other"] (spROp K CR (· ++ ·) (· ++ ·)) := by
  refine F.ok scROr (fun vs H Q E h => ?_) (fun cdv A outer s H vs Q E hr h => ?_)
  · obtain ⟨x, y, ks, ks2, ls, ls2, rfl, _⟩ := h
    rfl
  · obtain ⟨x, y, ks, ks2, ls, ls2, rfl, ⟨dx, k, l, p, hx, hk, hl, hp⟩, G, ⟨dy, k2, l2, p2, hy, hk2, hl2, hp2⟩, G2, q⟩ := h
    have hr7 : Room 7 _ := hr
    have a1 := G.lk; have a2 := G2.lk; have b1 := G.ll; have b2 := G2.ll
    refine ⟨_, (C8.pss_cut (ps_set (i := 2) scROr.nd rfl (.inl rfl) (pe_op op_catA (pe_fld (pv 0) rfl) (pe_fld (pv 1) rfl)))
        (C8.pss_cut (ps_set (i := 3) scROr.nd rfl (.inl rfl) (pe_op op_catA (pe_fld (pv 0) rfl) (pe_fld (pv 1) rfl)))
        (pss_one (ps_ret (pe_fn GM hr7 rfl (pa_cons (pv 2) (pa_cons (pv 3) pa_nil))))))), ?_⟩
    refine ⟨fun σ H' => ∃ kv, σ = [some (.ref x), some (.ref y), some kv, none] ∧ Same H H' ∧ Dp K H' kv (.tuple (kiD (ks ++ ks2))), ?_, ?_⟩
    · refine ⟨_, rfl, x, CR, dx, _, _, rfl, hx, RC.cl, RC.ki, fu_ki _ _ _, _, rfl, y, CR, dy, _, _, rfl, hy, RC.cl, RC.ki, fu_ki _ _ _, ?_⟩
      refine catD hk hk2 (by rw [kiD, kiD, List.length_map, List.length_map]; omega) fun g H' s hg => ⟨_, rfl, s, ?_⟩
      rw [← ki_app]
      exact hg
    rintro σ H1 ⟨kv, rfl, s1, hkv⟩
    refine ⟨fun σ H' => ∃ lv, σ = [some (.ref x), some (.ref y), some kv, some lv] ∧ Same H H' ∧ Dp K H' kv (.tuple (kiD (ks ++ ks2))) ∧ Dp K H' lv (.tuple (loD (ls ++ ls2))), ?_, ?_⟩
    · refine ⟨_, rfl, x, CR, dx, _, _, rfl, s1 _ _ hx, RC.cl, RC.lo, fu_lo _ _ _, _, rfl, y, CR, dy, _, _, rfl, s1 _ _ hy, RC.cl, RC.lo, fu_lo _ _ _, ?_⟩
      refine catD (dp_same s1 _ hl) (dp_same s1 _ hl2) (by rw [loD, loD, List.length_map, List.length_map]; omega) fun g H' s hg => ⟨_, rfl, s1.trans s, dp_same s _ hkv, ?_⟩
      rw [← lo_app]
      exact hg
    rintro σ H2 ⟨lv, rfl, s2, hkv2, hlv⟩
    refine ⟨_, rfl, _, rfl, kv, lv, _, _, rfl, .inr hkv2, .inr hlv, fun z hz => (List.mem_append.mp hz).elim (G.w z) (G2.w z), fun p hp => (List.mem_append.mp hp).elim (G.m p) (G2.m p), by rw [List.length_append]; omega, by rw [List.length_append]; omega, fun z ls' H' lo hz s r => q z ls' H' lo (s2.free hz) (s2.trans s) r⟩
theorem scRAnd : FnScope nRAnd ["self", "other"] (defScope sRAnd) := ⟨rfl, rfl, rfl, by decide +kernel, rfl, by decide +kernel, by decide +kernel⟩
theorem ok_rand {f : Addr} {fd : FuncData} (F : Fun K "__and__" "SlipRule.__and__" sRAnd f fd) (T : Bare mg) (RC : RuleC K mg CR) (GM : Fn P w K mg base 7 "made_rule" ["kinds", "looks"] (spMade K CR)) : FnOk P w K mg base CX0 8 f fd ["self", "other"] (spROp K CR bothF bothF) := by
  refine F.ok scRAnd (fun vs H Q E h => ?_) (fun cdv A outer s H vs Q E hr h => ?_)
  · obtain ⟨x, y, ks, ks2, ls, ls2, rfl, _⟩ := h
    rfl
  · obtain ⟨x, y, ks, ks2, ls, ls2, rfl, ⟨dx, k, l, p, hx, hk, hl, hp⟩, G, ⟨dy, k2, l2, p2, hy, hk2, hl2, hp2⟩, G2, q⟩ := h
    have hr7 : Room 7 _ := hr
    have a1 := G.lk; have a2 := G2.lk; have b1 := G.ll; have b2 := G2.ll
    refine ⟨_, (C8.pss_cut (ps_setLc (i := 2) rfl scRAnd.nd rfl rfl (by rfl) (own := [("kind", 4)]) (g := gName 4) (tt := tTest (tOp (rInA K false) (tVar 4) (tFld K (tVar 1) "kinds"))) (te := tVar 4) (pi_tup (pe_fld (pv 0) rfl)) (blkOk_by (own := [("kind", 4)]) (N := nRAnd) (sc := defScope sRAnd) (by decide +kernel)) (fun _ _ _ _ _ => pg_name (i := 4) scRAnd.nd rfl (Or.inl rfl)) (fun _ _ _ _ _ => pts_one (pt_cmpR (op_inA (Room.units5 hr)) (pv 4) (pe_fld (pv 1) rfl) (by rfl))) (fun _ _ _ _ _ => pv 4))
        (C8.pss_cut (ps_setLc (i := 3) rfl scRAnd.nd rfl rfl (by rfl) (own := [("look", 5)]) (g := gName 5) (tt := tTest (tOp (rInA K false) (tVar 5) (tFld K (tVar 1) "looks"))) (te := tVar 5) (pi_tup (pe_fld (pv 0) rfl)) (blkOk_by (own := [("look", 5)]) (N := nRAnd) (sc := defScope sRAnd) (by decide +kernel)) (fun _ _ _ _ _ => pg_name (i := 5) scRAnd.nd rfl (Or.inl rfl)) (fun _ _ _ _ _ => pts_one (pt_cmpR (op_inA (Room.units5 hr)) (pv 5) (pe_fld (pv 1) rfl) (by rfl))) (fun _ _ _ _ _ => pv 5))
        (pss_one (ps_ret (pe_fn GM hr7 rfl (pa_cons (pv 2) (pa_cons (pv 3) pa_nil))))))), ?_⟩
    refine ⟨fun σ H' => ∃ kv, σ = [some (.ref x), some (.ref y), some (.ref kv), none, none, none] ∧ Same H H' ∧ Dp K H' (.ref kv) (.list (kiD (bothF ks ks2))), ?_, ?_⟩
    · cases hk with
      | @tup a xs _ h1 h2 =>
      have lx : xs.length ≤ 6 := by rw [DpAll.len h2, kiD, List.length_map]; exact a1
      refine ⟨_, rfl, x, CR, dx, _, _, rfl, hx, RC.cl, RC.ki, fu_ki _ _ _, a, rfl, ⟨xs, h1⟩, fun D hD => lc_tup (K := K) (a := a) (xs := xs) (fun i H' => Same H H' ∧ ∃ us, H' D = some (.lst us) ∧ us.length ≤ i ∧ DpAll K H us (((kiD ks).take i).filter fun d => false != ((kiD ks2).any fun z => PyData.eqv z d))) ⟨Same.new (Same.refl _) hD, [], upd_same, Nat.le_refl _, .nil⟩ (fun i H' _ h => SqT.ext h1 h.1) (fun i z H2 hz h => ?_) (fun H2 h => ?_)⟩
      · obtain ⟨s2, us, hd2, lu, hu⟩ := h
        obtain ⟨d, hd, dz⟩ := DpAll.at2 h2 hz
        have li : i < xs.length := (List.getElem?_eq_some_iff.mp hz).1
        have tk := take_some hd
        refine ⟨rfl, _, rfl, _, rfl, y, CR, dy, _, _, rfl, s2 _ _ (hy), RC.cl, RC.ki, fu_ki _ _ _, d, _, dp_same s2 _ dz, .inr (dp_same s2 _ hk2), (fun d hd => (ki_fair G.w d hd).shaped) d (List.mem_of_getElem? hd), G2.ok.k, _, rfl, ?_⟩
        cases c : (false != ((kiD ks2).any fun z => PyData.eqv z d)) with
        | true =>
          refine iteT ⟨_, rfl, us, hd2, Nat.lt_of_le_of_lt (show _ ≤ 900 by omega) (by decide), Same.put s2 hD, us ++ [z], upd_same, by rw [List.length_append, List.length_singleton]; omega, ?_⟩
          rw [tk, List.filter_append, List.filter_cons_of_pos (by exact c), List.filter_nil]
          exact DpAll.app hu (.cons dz .nil)
        | false =>
          refine iteF ⟨s2, us, hd2, Nat.le_succ_of_le lu, ?_⟩
          rw [tk, List.filter_append, List.filter_cons_of_neg (by rw [c]; exact Bool.false_ne_true), List.filter_nil, List.append_nil]
          exact hu
      · obtain ⟨s2, us, hd2, lu, hu⟩ := h
        rw [DpAll.len h2, List.take_length, ki_both] at hu
        have hu := dpAll_same s2 _ hu
        exact ⟨D, rfl, s2, .lst (SqL.of hd2) hu⟩
    rintro σ H1 ⟨kv, rfl, s1, hkv⟩
    refine ⟨fun σ H' => ∃ lv, σ = [some (.ref x), some (.ref y), some (.ref kv), some (.ref lv), none, none] ∧ Same H H' ∧ Dp K H' (.ref kv) (.list (kiD (bothF ks ks2))) ∧ Dp K H' (.ref lv) (.list (loD (bothF ls ls2))), ?_, ?_⟩
    · have hl1 := dp_same s1 _ hl
      cases hl1 with
      | @tup a xs _ h1 h2 =>
      have lx : xs.length ≤ 10 := by rw [DpAll.len h2, loD, List.length_map]; exact b1
      refine ⟨_, rfl, x, CR, dx, _, _, rfl, (s1 _ _ hx), RC.cl, RC.lo, fu_lo _ _ _, a, rfl, ⟨xs, h1⟩, fun D hD => lc_tup (K := K) (a := a) (xs := xs) (fun i H' => Same H1 H' ∧ ∃ us, H' D = some (.lst us) ∧ us.length ≤ i ∧ DpAll K H1 us (((loD ls).take i).filter fun d => false != ((loD ls2).any fun z => PyData.eqv z d))) ⟨Same.new (Same.refl _) hD, [], upd_same, Nat.le_refl _, .nil⟩ (fun i H' _ h => SqT.ext h1 h.1) (fun i z H2 hz h => ?_) (fun H2 h => ?_)⟩
      · obtain ⟨s2, us, hd2, lu, hu⟩ := h
        obtain ⟨d, hd, dz⟩ := DpAll.at2 h2 hz
        have li : i < xs.length := (List.getElem?_eq_some_iff.mp hz).1
        have tk := take_some hd
        refine ⟨rfl, _, rfl, _, rfl, y, CR, dy, _, _, rfl, s2 _ _ (s1 _ _ hy), RC.cl, RC.lo, fu_lo _ _ _, d, _, dp_same s2 _ dz, .inr (dp_same s2 _ (dp_same s1 _ hl2)), (fun d hd => (lo_fair G.m d hd).shaped) d (List.mem_of_getElem? hd), G2.ok.l, _, rfl, ?_⟩
        cases c : (false != ((loD ls2).any fun z => PyData.eqv z d)) with
        | true =>
          refine iteT ⟨_, rfl, us, hd2, Nat.lt_of_le_of_lt (show _ ≤ 900 by omega) (by decide), Same.put s2 hD, us ++ [z], upd_same, by rw [List.length_append, List.length_singleton]; omega, ?_⟩
          rw [tk, List.filter_append, List.filter_cons_of_pos (by exact c), List.filter_nil]
          exact DpAll.app hu (.cons dz .nil)
        | false =>
          refine iteF ⟨s2, us, hd2, Nat.le_succ_of_le lu, ?_⟩
          rw [tk, List.filter_append, List.filter_cons_of_neg (by rw [c]; exact Bool.false_ne_true), List.filter_nil, List.append_nil]
          exact hu
      · obtain ⟨s2, us, hd2, lu, hu⟩ := h
        rw [DpAll.len h2, List.take_length, lo_both] at hu
        have hu := dpAll_same s2 _ hu
        exact ⟨D, rfl, s1.trans s2, dp_same s2 _ hkv, .lst (SqL.of hd2) hu⟩
    rintro σ H2 ⟨lv, rfl, s2, hkv2, hlv⟩
    have e1 : (bothF ks ks2).length ≤ ks.length := List.length_filter_le _ _
    have e2 : (bothF ls ls2).length ≤ ls.length := List.length_filter_le _ _
    exact ⟨_, rfl, _, rfl, _, _, _, _, rfl, .inl hkv2, .inl hlv, fun z hz => G.w z (List.mem_filter.mp hz).1, fun p hp => G.m p (List.mem_filter.mp hp).1, by omega, by omega, fun z ls' H' lo hz s r => q z ls' H' lo (s2.free hz) (s2.trans s) r⟩
theorem scRSub : FnScope nRAnd ["self", "other"] (defScope sRSub) := ⟨rfl, rfl, rfl, by decide +kernel, rfl, by decide +kernel, by decide +kernel⟩
theorem ok_rsub {f : Addr} {fd : FuncData} (F : Fun K "__sub__" "SlipRule.__sub__" sRSub f fd) (T : Bare mg) (RC : RuleC K mg CR) (GM : Fn P w K mg base 7 "made_rule" ["kinds", "looks"] (spMade K CR)) : FnOk P w K mg base CX0 8 f fd ["self", "other"] (spROp K CR lessF lessF) := by
  refine F.ok scRSub (fun vs H Q E h => ?_) (fun cdv A outer s H vs Q E hr h => ?_)
  · obtain ⟨x, y, ks, ks2, ls, ls2, rfl, _⟩ := h
    rfl
  · obtain ⟨x, y, ks, ks2, ls, ls2, rfl, ⟨dx, k, l, p, hx, hk, hl, hp⟩, G, ⟨dy, k2, l2, p2, hy, hk2, hl2, hp2⟩, G2, q⟩ := h
    have hr7 : Room 7 _ := hr
    have a1 := G.lk; have a2 := G2.lk; have b1 := G.ll; have b2 := G2.ll
    refine ⟨_, (C8.pss_cut (ps_setLc (i := 2) rfl scRSub.nd rfl rfl (by rfl) (own := [("kind", 4)]) (g := gName 4) (tt := tTest (tOp (rInA K true) (tVar 4) (tFld K (tVar 1) "kinds"))) (te := tVar 4) (pi_tup (pe_fld (pv 0) rfl)) (blkOk_by (own := [("kind", 4)]) (N := nRAnd) (sc := defScope sRSub) (by decide +kernel)) (fun _ _ _ _ _ => pg_name (i := 4) scRSub.nd rfl (Or.inl rfl)) (fun _ _ _ _ _ => pts_one (pt_cmpR (op_ninA (Room.units5 hr)) (pv 4) (pe_fld (pv 1) rfl) (by rfl))) (fun _ _ _ _ _ => pv 4))
        (C8.pss_cut (ps_setLc (i := 3) rfl scRSub.nd rfl rfl (by rfl) (own := [("look", 5)]) (g := gName 5) (tt := tTest (tOp (rInA K true) (tVar 5) (tFld K (tVar 1) "looks"))) (te := tVar 5) (pi_tup (pe_fld (pv 0) rfl)) (blkOk_by (own := [("look", 5)]) (N := nRAnd) (sc := defScope sRSub) (by decide +kernel)) (fun _ _ _ _ _ => pg_name (i := 5) scRSub.nd rfl (Or.inl rfl)) (fun _ _ _ _ _ => pts_one (pt_cmpR (op_ninA (Room.units5 hr)) (pv 5) (pe_fld (pv 1) rfl) (by rfl))) (fun _ _ _ _ _ => pv 5))
        (pss_one (ps_ret (pe_fn GM hr7 rfl (pa_cons (pv 2) (pa_cons (pv 3) pa_nil))))))), ?_⟩
    refine ⟨fun σ H' => ∃ kv, σ = [some (.ref x), some (.ref y), some (.ref kv), none, none, none] ∧ Same H H' ∧ Dp K H' (.ref kv) (.list (kiD (lessF ks ks2))), ?_, ?_⟩
    · cases hk with
      | @tup a xs _ h1 h2 =>
      have lx : xs.length ≤ 6 := by rw [DpAll.len h2, kiD, List.length_map]; exact a1
      refine ⟨_, rfl, x, CR, dx, _, _, rfl, hx, RC.cl, RC.ki, fu_ki _ _ _, a, rfl, ⟨xs, h1⟩, fun D hD => lc_tup (K := K) (a := a) (xs := xs) (fun i H' => Same H H' ∧ ∃ us, H' D = some (.lst us) ∧ us.length ≤ i ∧ DpAll K H us (((kiD ks).take i).filter fun d => true != ((kiD ks2).any fun z => PyData.eqv z d))) ⟨Same.new (Same.refl _) hD, [], upd_same, Nat.le_refl _, .nil⟩ (fun i H' _ h => SqT.ext h1 h.1) (fun i z H2 hz h => ?_) (fun H2 h => ?_)⟩
      · obtain ⟨s2, us, hd2, lu, hu⟩ := h
        obtain ⟨d, hd, dz⟩ := DpAll.at2 h2 hz
        have li : i < xs.length := (List.getElem?_eq_some_iff.mp hz).1
        have tk := take_some hd
        refine ⟨rfl, _, rfl, _, rfl, y, CR, dy, _, _, rfl, s2 _ _ (hy), RC.cl, RC.ki, fu_ki _ _ _, d, _, dp_same s2 _ dz, .inr (dp_same s2 _ hk2), (fun d hd => (ki_fair G.w d hd).shaped) d (List.mem_of_getElem? hd), G2.ok.k, _, rfl, ?_⟩
        cases c : (true != ((kiD ks2).any fun z => PyData.eqv z d)) with
        | true =>
          refine iteT ⟨_, rfl, us, hd2, Nat.lt_of_le_of_lt (show _ ≤ 900 by omega) (by decide), Same.put s2 hD, us ++ [z], upd_same, by rw [List.length_append, List.length_singleton]; omega, ?_⟩
          rw [tk, List.filter_append, List.filter_cons_of_pos (by exact c), List.filter_nil]
          exact DpAll.app hu (.cons dz .nil)
        | false =>
          refine iteF ⟨s2, us, hd2, Nat.le_succ_of_le lu, ?_⟩
          rw [tk, List.filter_append, List.filter_cons_of_neg (by rw [c]; exact Bool.false_ne_true), List.filter_nil, List.append_nil]
          exact hu
      · obtain ⟨s2, us, hd2, lu, hu⟩ := h
        rw [DpAll.len h2, List.take_length, ki_less] at hu
        have hu := dpAll_same s2 _ hu
        exact ⟨D, rfl, s2, .lst (SqL.of hd2) hu⟩
    rintro σ H1 ⟨kv, rfl, s1, hkv⟩
    refine ⟨fun σ H' => ∃ lv, σ = [some (.ref x), some (.ref y), some (.ref kv), some (.ref lv), none, none] ∧ Same H H' ∧ Dp K H' (.ref kv) (.list (kiD (lessF ks ks2))) ∧ Dp K H' (.ref lv) (.list (loD (lessF ls ls2))), ?_, ?_⟩
    · have hl1 := dp_same s1 _ hl
      cases hl1 with
      | @tup a xs _ h1 h2 =>
      have lx : xs.length ≤ 10 := by rw [DpAll.len h2, loD, List.length_map]; exact b1
      refine ⟨_, rfl, x, CR, dx, _, _, rfl, (s1 _ _ hx), RC.cl, RC.lo, fu_lo _ _ _, a, rfl, ⟨xs, h1⟩, fun D hD => lc_tup (K := K) (a := a) (xs := xs) (fun i H' => Same H1 H' ∧ ∃ us, H' D = some (.lst us) ∧ us.length ≤ i ∧ DpAll K H1 us (((loD ls).take i).filter fun d => true != ((loD ls2).any fun z => PyData.eqv z d))) ⟨Same.new (Same.refl _) hD, [], upd_same, Nat.le_refl _, .nil⟩ (fun i H' _ h => SqT.ext h1 h.1) (fun i z H2 hz h => ?_) (fun H2 h => ?_)⟩
      · obtain ⟨s2, us, hd2, lu, hu⟩ := h
        obtain ⟨d, hd, dz⟩ := DpAll.at2 h2 hz
        have li : i < xs.length := (List.getElem?_eq_some_iff.mp hz).1
        have tk := take_some hd
        refine ⟨rfl, _, rfl, _, rfl, y, CR, dy, _, _, rfl, s2 _ _ (s1 _ _ hy), RC.cl, RC.lo, fu_lo _ _ _, d, _, dp_same s2 _ dz, .inr (dp_same s2 _ (dp_same s1 _ hl2)), (fun d hd => (lo_fair G.m d hd).shaped) d (List.mem_of_getElem? hd), G2.ok.l, _, rfl, ?_⟩
        cases c : (true != ((loD ls2).any fun z => PyData.eqv z d)) with
        | true =>
          refine iteT ⟨_, rfl, us, hd2, Nat.lt_of_le_of_lt (show _ ≤ 900 by omega) (by decide), Same.put s2 hD, us ++ [z], upd_same, by rw [List.length_append, List.length_singleton]; omega, ?_⟩
          rw [tk, List.filter_append, List.filter_cons_of_pos (by exact c), List.filter_nil]
          exact DpAll.app hu (.cons dz .nil)
        | false =>
          refine iteF ⟨s2, us, hd2, Nat.le_succ_of_le lu, ?_⟩
          rw [tk, List.filter_append, List.filter_cons_of_neg (by rw [c]; exact Bool.false_ne_true), List.filter_nil, List.append_nil]
          exact hu
      · obtain ⟨s2, us, hd2, lu, hu⟩ := h
        rw [DpAll.len h2, List.take_length, lo_less] at hu
        have hu := dpAll_same s2 _ hu
        exact ⟨D, rfl, s1.trans s2, dp_same s2 _ hkv, .lst (SqL.of hd2) hu⟩
    rintro σ H2 ⟨lv, rfl, s2, hkv2, hlv⟩
    have e1 : (lessF ks ks2).length ≤ ks.length := List.length_filter_le _ _
    have e2 : (lessF ls ls2).length ≤ ls.length := List.length_filter_le _ _
    exact ⟨_, rfl, _, rfl, _, _, _, _, rfl, .inl hkv2, .inl hlv, fun z hz => G.w z (List.mem_filter.mp hz).1, fun p hp => G.m p (List.mem_filter.mp hp).1, by omega, by omega, fun z ls' H' lo hz s r => q z ls' H' lo (s2.free hz) (s2.trans s) r⟩
end
end K5

namespace L2
open PySem PySem.Spec PyProof.Rows
/-- a text many times (twice or more) -/
def mulS (a : Str) (n : Nat) : Str := ⟨(List.replicate n a.cps).foldl (· ++ ·) #[]⟩
def rMulS : R2 := fun x y H Q => ∃ (a : Str) (n : Nat), x = .str a ∧ y = .int n ∧ 2 ≤ n ∧ n ≤ 1000 ∧ 1 ≤ a.length ∧ a.length ≤ 1000 ∧ (mulS a n).length ≤ sizeLine ∧ Q (.str (mulS a n)) H
theorem op_mulS {X : Cx} : OpR X (binaryOp .Mult) rMulS := by
  intro pins s σ H x y v u Q I rx ry h
  obtain ⟨a, n, rfl, rfl, h1, h2, h3, h4, h5, q⟩ := h
  obtain ⟨t, rfl⟩ := rx
  obtain ⟨t2, rfl⟩ := ry
  have hn : ((n : Int) == 1 || a.length == 0) = false := by
    rw [Bool.or_eq_false_iff]
    exact ⟨beq_eq_false_iff_ne.mpr (by omega), beq_eq_false_iff_ne.mpr (by omega)⟩
  refine P.mul_str ?_ (fun _ _ => ?_) (fun _ _ => ?_) ?_
  · rw [decide_eq_false (by omega), decide_eq_false (by omega)]
    rfl
  · intro h
    have n0 : (0 : Int) < (n : Int) := Int.natCast_pos.mpr (Nat.lt_of_lt_of_le (by decide) h1)
    have b : a.length * n ≤ 1000 * 1000 := Nat.mul_le_mul h4 h2
    have c : ((a.length : Int)) * (n : Int) ≤ 1000000 := by
      rw [← Int.natCast_mul]
      exact Int.ofNat_le.mpr b
    have d := Int.lt_mul_of_ediv_lt n0 h
    exact absurd (Int.lt_of_lt_of_le d c) (by decide)
  · show decide _ = false
    refine decide_eq_false ?_
    have : a.length * (n : Int).toNat ≤ 1000 * 1000 := Nat.mul_le_mul h4 (by omega)
    have h6 : (1000 * 1000 : Nat) ≤ sizeLine := by decide
    omega
  · rw [if_neg (by omega), if_neg (by rw [hn]; decide), Int.toNat_natCast]
    exact ⟨h5, .str (mulS a n), H, I.tok _, ⟨_, rfl⟩, q⟩
end L2

namespace K5
open PySem L2
/-- the expression gives these data, whatever stands in the heap -/
def Giv (K : PySem.W.Frag) (te : TE) (d : PyData) : Prop := ∀ σ H Q, (∀ v H', Same H H' → Dp K H' v d → Q v H') → te σ H Q
def Givs (K : PySem.W.Frag) (ta : TA) (ds : List PyData) : Prop := ∀ σ H Q, (∀ vs H', Same H H' → DpAll K H' vs ds → Q vs H') → ta σ H Q
variable {K : PySem.W.Frag}
theorem g_str (z : Str) : Giv K (tC (.str z)) (.str z) := fun σ H Q h => h _ H (Same.refl H) (.str z)
theorem g_int (i : Int) : Giv K (tC (.int i)) (.int i) := fun σ H Q h => h _ H (Same.refl H) (.int i)
theorem g_bl (i : Bool) : Giv K (tC (.bl i)) (.bool i) := fun σ H Q h => h _ H (Same.refl H) (.bl i)
theorem g_non : Giv K (tC .non) .none := fun σ H Q h => h _ H (Same.refl H) .non
theorem g_nine : Giv K (tOp rMulS (tC (.str "9")) (tC (.int 9))) (.str "999999999") := fun σ H Q h => ⟨"9", 9, rfl, rfl, by decide, by decide, by decide +kernel, by decide +kernel, line_ge (by decide +kernel), by
  rw [show mulS "9" 9 = "999999999" by decide +kernel]
  exact h _ H (Same.refl H) (.str _)⟩
theorem gs_nil : Givs K tNil [] := fun σ H Q h => h [] H (Same.refl H) .nil
theorem gs_cons {te : TE} {ta : TA} {d : PyData} {ds : List PyData} (a : Giv K te d) (b : Givs K ta ds) : Givs K (tCons te ta) (d :: ds) := fun σ H Q h => a σ H _ fun v H1 s1 h1 => b σ H1 _ fun vs H2 s2 h2 => h (v :: vs) H2 (s1.trans s2) (.cons (dp_same s2 _ h1) h2)
theorem g_tup {ta : TA} {ds : List PyData} (a : Givs K ta ds) (l : ds.length ≤ 100) : Giv K (tTup ta) (.tuple ds) := fun σ H Q h => a σ H _ fun vs H1 s1 h1 => ⟨by rw [DpAll.len h1]; exact line_ge (by omega), fun p hp => by
  have s2 := Same.new (o := .tup vs) (Same.refl H1) hp
  exact h _ _ (s1.trans s2) (.tup (SqT.of upd_same) (dpAll_same s2 _ h1))⟩
theorem lst_new {ta : TA} {ds : List PyData} {σ : St} {H : Hp} {Q : VK} (a : Givs K ta ds) (l : ds.length ≤ 100) (h : ∀ p vs H', H p = none → H' p = some (.lst vs) → DpAll K H' vs ds → Same H H' → Q (.ref p) H') : tLst ta σ H Q := a σ H _ fun vs H1 s1 h1 => ⟨by rw [DpAll.len h1]; exact line_ge (by omega), fun p hp => by
  have s2 := Same.new (o := .lst vs) (Same.refl H1) hp
  exact h _ vs _ (s1.free hp) upd_same (dpAll_same s2 _ h1) (s1.trans s2)⟩
theorem g_lst {ta : TA} {ds : List PyData} (a : Givs K ta ds) (l : ds.length ≤ 100) : Giv K (tLst ta) (.list ds) := fun σ H Q h => lst_new a l fun p vs H' _ h1 h2 s => h _ _ s (.lst (SqL.of h1) h2)
theorem DpAll.mem {H : Hp} : ∀ {ds : List PyData} {vs : List V} {v : V}, DpAll K H vs ds → v ∈ vs → ∃ d, d ∈ ds ∧ Dp K H v d := fun {ds vs v} h hv => by
  obtain ⟨i, hi, e⟩ := List.getElem_of_mem hv
  obtain ⟨d, h1, h2⟩ := DpAll.at2 h (show vs[i]? = some v by rw [List.getElem?_eq_getElem hi, e])
  exact ⟨d, List.mem_of_getElem? h1, h2⟩
/-! data that a pool's change leaves as they are -/
def atomB : PyData → Bool
  | .list _ => false
  | .tuple _ => false
  | .dict _ => false
  | _ => true
def oddD : PyData → Bool
  | .list (.str _ :: es) => es.all atomB
  | .list _ => false
  | .tuple es => es.all atomB
  | .dict _ => false
  | _ => true
theorem atom_any {H H' : Hp} {v : V} {d : PyData} (a : atomB d = true) (h : Dp K H v d) : Dp K H' v d := by
  cases h with
  | str x => exact .str x
  | non => exact .non
  | bl b => exact .bl b
  | int i => exact .int i
  | lst _ _ => cases a
  | tup _ _ => cases a
theorem atoms_any {H H' : Hp} : ∀ {vs : List V} {ds : List PyData}, ds.all atomB = true → DpAll K H vs ds → DpAll K H' vs ds
  | _, [], _, h => by
    cases h
    exact .nil
  | _, d :: ds, a, h => by
    rw [List.all_cons, Bool.and_eq_true] at a
    cases h with
    | cons h1 h2 => exact .cons (atom_any a.1 h1) (atoms_any a.2 h2)
theorem keep_sqt {H H' : Hp} {p a : Addr} {L xs : List V} (hp : H p = some (.lst L)) (k : Keep p H H') (h : SqT K H a xs) : SqT K H' a xs := by
  rcases h with (h | ⟨o, h⟩) | h
  · exact .inl (.inl (k _ _ (fun e => by rw [e, hp] at h; cases h) h))
  · exact .inl (.inr ⟨o, k _ _ (fun e => by rw [e, hp] at h; cases h) h⟩)
  · exact .inr h
theorem odd_keep {H H' : Hp} {p : Addr} {c : Nat} {v : V} {d : PyData} (o : oddD d = true) (hp : Pool H p c) (k : Keep p H H') (h : Dp K H v d) : Dp K H' v d := by
  obtain ⟨g, m, j, hp, _⟩ := hp
  cases h with
  | str x => exact .str x
  | non => exact .non
  | bl b => exact .bl b
  | int i => exact .int i
  | @tup a xs ds h1 h2 => exact .tup (keep_sqt hp k h1) (atoms_any o h2)
  | @lst a xs ds h1 h2 =>
    cases ds with
    | nil => cases o
    | cons d ds =>
      cases d with
      | str z =>
        cases h2 with
        | cons h3 h4 =>
          cases h3
          refine .lst ?_ (.cons (.str z) (atoms_any o h4))
          rcases h1 with (h1 | ⟨o', h1⟩) | h1
          · exact .inl (.inl (k _ _ (fun e => by rw [e, hp] at h1; cases h1) h1))
          · exact .inl (.inr ⟨o', k _ _ (fun e => by rw [e, hp] at h1; cases h1) h1⟩)
          · exact .inr h1
      | _ => cases o
theorem odds_keep {H H' : Hp} {p : Addr} {c : Nat} (hp : Pool H p c) (k : Keep p H H') : ∀ {vs : List V} {ds : List PyData}, (∀ d ∈ ds, oddD d = true) → DpAll K H vs ds → DpAll K H' vs ds
  | _, [], _, h => by
    cases h
    exact .nil
  | _, d :: ds, o, h => by
    cases h with
    | cons h1 h2 => exact .cons (odd_keep (o d List.mem_cons_self) hp k h1) (odds_keep hp k (fun e he => o e (List.mem_cons_of_mem _ he)) h2)
theorem look_odd (p : Str × Str) : oddD (lkP p) = true := rfl
end K5

namespace K5
open PySem L2
abbrev sLooks : Stmt := top 25
abbrev sOdd : Stmt := top 26
abbrev nLooks : List Str := ["_law_pool_here", "_law_menu", "_law_k"]
/-- what no look is, what no word is -/
def oddL : List PyData := [lkP ("a", "a"), .list [.str "a", .str "b"], .str "ab", .tuple [.str "a"], .tuple [.str "a", .str "b", .str "c"], .tuple [.int 1, .str "a"], lkP ("a", "A"), lkP ("", "a"), .none, lkP ("a", "b c"), lkP (";", ";"), lkP ("01", "a")]
def oddK : List PyData := [.str "written", .str "", .str "Left", .none, .int 1, .bool true, lkP ("a", "b"), .list [.str "left"], .str "look"]
def partB : PyData → Bool
  | .str z => decide (z.length ≤ 100)
  | .list _ => false
  | .tuple _ => false
  | .dict _ => false
  | _ => true
theorem part_of {d : PyData} (h : partB d = true) : partE d := by
  cases d with
  | str z => exact line_ge (Nat.le_trans (of_decide_eq_true h) (by decide))
  | list _ => cases h
  | tuple _ => cases h
  | dict _ => cases h
  | _ => trivial
def partsB : PyData → Bool
  | .tuple ds => ds.all partB
  | _ => true
theorem parts_of {d : PyData} (h : partsB d = true) : ∀ ds, d = .tuple ds → ∀ e ∈ ds, partE e := by
  rintro ds rfl e he
  exact part_of (List.all_eq_true.mp h e he)
theorem oddL_all : (oddL.all fun d => !lookD d && (fairB d && (oddD d && partsB d))) = true := by decide +kernel
theorem oddK_all : (oddK.all fun d => !inD words6 d && (fairB d && oddD d)) = true := by decide +kernel
structure OddL (d : PyData) : Prop where
  no : lookD d = false
  f : Fair1 d
  o : oddD d = true
  p : ∀ ds, d = .tuple ds → ∀ e ∈ ds, partE e
structure OddK (d : PyData) : Prop where
  no : inD words6 d = false
  f : Fair1 d
  o : oddD d = true
theorem oddL_of {d : PyData} (h : d ∈ oddL) : OddL d := by
  have z := List.all_eq_true.mp oddL_all d h
  rw [Bool.and_eq_true, Bool.and_eq_true, Bool.and_eq_true, Bool.not_eq_true'] at z
  exact ⟨z.1, fair_of z.2.1, z.2.2.1, parts_of z.2.2.2⟩
theorem oddK_of {d : PyData} (h : d ∈ oddK) : OddK d := by
  have z := List.all_eq_true.mp oddK_all d h
  rw [Bool.and_eq_true, Bool.and_eq_true, Bool.not_eq_true'] at z
  exact ⟨z.1, fair_of z.2.1, z.2.2⟩
/-- a list grows: what are looks stay looks -/
theorem look_put {K : PySem.W.Frag} {H : Hp} {D : Addr} {L M : List V} (hD : H D = some (.lst L)) {x : V} {y : Str × Str} (h : Dp K H x (lkP y)) : Dp K (upd H D (.lst M)) x (lkP y) := by
  cases h with
  | @tup a xs ds h1 h2 =>
    refine .tup ?_ (atoms_any rfl h2)
    rcases h1 with (h1 | ⟨o, h1⟩) | h1
    · exact .inl (.inl (by rw [upd_ne (fun e => by rw [e, hD] at h1; cases h1)]; exact h1))
    · exact .inl (.inr ⟨o, by rw [upd_ne (fun e => by rw [e, hD] at h1; cases h1)]; exact h1⟩)
    · exact .inr h1
theorem looks_put {K : PySem.W.Frag} {H : Hp} {D : Addr} {L M : List V} (hD : H D = some (.lst L)) : ∀ {ls : List (Str × Str)} {vs : List V}, DpAll K H vs (loD ls) → DpAll K (upd H D (.lst M)) vs (loD ls)
  | [], _, h => by
    cases h
    exact .nil
  | p :: ls, _, h => by
    cases h with
    | cons h1 h2 => exact .cons (look_put hD h1) (looks_put hD h2)
def spLooks (K : PySem.W.Frag) : Sp := fun vs H Q _ => ∃ (p : Addr) (c : Nat), vs = [.ref p] ∧ Pool H p c ∧ c ≤ 500000 ∧
  ∀ (D : Addr) (us : List V) (ls : List (Str × Str)) (H' : Hp), H D = none → H' D = some (.lst us) → DpAll K H' us (loD ls) → (∀ q ∈ ls, q ∈ looks10) → ls.length ≤ 3 → Keep p H H' → Pool H' p (c + 6) → Q (.ref D) H'
def spOdd (K : PySem.W.Frag) : Sp := fun vs H Q _ => ∃ (p : Addr) (c : Nat) (b : Bool), vs = [.ref p, .bl b] ∧ Pool H p c ∧ c ≤ 500000 ∧
  ∀ (v : V) (d : PyData) (H' : Hp), (b = true → d ∈ oddL) → (b = false → d ∈ oddK) → Dp K H' v d → Keep p H H' → Pool H' p (c + 1) → Q v H'
section
variable {P : Program} {w : World} {K : PySem.W.Frag} {mg : Str → Option Value} {base : Heap}
theorem scLooks : FnScope nLooks ["_law_pool_here"] (defScope sLooks) := ⟨rfl, rfl, rfl, by decide +kernel, rfl, by decide +kernel, by decide +kernel⟩
theorem ok_looks {f : Addr} {fd : FuncData} (F : Fun K "_law_looks" "_law_looks" sLooks f fd) (T : Bare mg) (GP : Fn P w K mg base 1 "_law_pick" ["_law_pool_here", "_law_many"] spPick) (GO : Fn P w K mg base 2 "_law_of" ["_law_pool_here", "_law_some"] spOf) : FnOk P w K mg base CX0 3 f fd ["_law_pool_here"] (spLooks K) := by
  refine F.ok scLooks (fun vs H Q E h => ?_) (fun cdv A outer s H vs Q E hr h => ?_)
  · obtain ⟨p, c, rfl, _⟩ := h
    rfl
  · obtain ⟨p, c, rfl, hp, hc, q⟩ := h
    have hr2 : Room 2 _ := hr
    have hr1 : Room 1 _ := hr.mono (by decide)
    refine ⟨_, (C8.pss_cut (ps_set (i := 1) scLooks.nd rfl (.inr rfl) (pe_lst (pa_cons (pe_tup (pa_cons pe_str (pa_cons pe_str pa_nil))) (pa_cons (pe_tup (pa_cons pe_str (pa_cons pe_str pa_nil))) (pa_cons (pe_tup (pa_cons pe_str (pa_cons pe_str pa_nil))) (pa_cons (pe_tup (pa_cons pe_str (pa_cons pe_str pa_nil))) (pa_cons (pe_tup (pa_cons pe_str (pa_cons pe_str pa_nil))) (pa_cons (pe_tup (pa_cons pe_str (pa_cons pe_str pa_nil))) (pa_cons (pe_tup (pa_cons pe_str (pa_cons pe_str pa_nil))) (pa_cons (pe_tup (pa_cons pe_str (pa_cons pe_str pa_nil))) (pa_cons (pe_tup (pa_cons pe_str (pa_cons pe_str pa_nil))) (pa_cons (pe_tup (pa_cons pe_str (pa_cons (pe_op op_mulS pe_str pe_int) pa_nil))) pa_nil))))))))))))
        (pss_one (ps_ret (pe_lc (own := [("_law_k", 2)]) (g := gName 2) (tt := tYes) (by rfl) scLooks.nd (pi_range1 (by rfl) T.range (pa_cons (pe_fn GP hr1 rfl (pa_cons (pv 0) (pa_cons pe_int pa_nil))) pa_nil)) (blkOk_by (own := [("_law_k", 2)]) (N := nLooks) (sc := defScope sLooks) (by decide +kernel)) (fun _ _ _ _ _ => pg_name (i := 2) scLooks.nd rfl (Or.inl rfl)) (fun _ _ _ _ _ => pts_nil) (fun _ _ _ _ _ => (pe_fn GO hr2 rfl (pa_cons (pv 0) (pa_cons (pv 1) pa_nil)))))))), ?_⟩
    refine ⟨fun σ H' => ∃ M us, σ = [some (.ref p), some (.ref M), none] ∧ Same H H' ∧ H M = none ∧ H' M = some (.lst us) ∧ DpAll K H' us (loD looks10), lst_new (ds := loD looks10) (by repeat (first | exact gs_nil | exact g_str _ | exact g_non | exact g_bl _ | exact g_nine | exact g_int _ | refine gs_cons ?_ ?_ | refine g_tup ?_ (by decide) | refine g_lst ?_ (by decide))) (by decide) fun M us H' h1 h2 h3 s => ⟨M, us, rfl, s, h1, h2, h3⟩, ?_⟩
    rintro σ H1 ⟨M, us, rfl, s1, hM0, hM, hus⟩
    have lus : us.length = 10 := DpAll.len hus
    have nMp : M ≠ p := pool_ne hp hM0
    have p1 := hp.same s1
    refine ⟨_, rfl, p, c, 4, rfl, p1, by omega, by decide, by decide, fun r H2 r0 r1 k2 p2 => ?_⟩
    have hM2 := k2 _ _ nMp hM
    have hus2 := odds_keep p1 k2 (fun d hd => by obtain ⟨y, _, rfl⟩ := List.mem_map.mp hd; rfl) hus
    have k02 := (Same.keep (p := p) s1).trans k2
    refine ⟨r, rfl, by omega, by omega, fun D hD => lc_range (lo := 0) (n := r.toNat) (fun i H' => Keep p H2 H' ∧ Pool H' p (c + 1 + i) ∧ ∃ (vs : List V) (ls : List (Str × Str)), H' D = some (.lst vs) ∧ DpAll K H' vs (loD ls) ∧ (∀ z ∈ ls, z ∈ looks10) ∧ ls.length = i) ⟨(Keep.refl p H2).new hD, (p2.new hD).mono (by omega), [], [], upd_same, .nil, (fun _ h => nomatch h), rfl⟩ (fun i H3 hi h => ?_) (fun H3 h => ?_)⟩
    · obtain ⟨k3, p3, vs, ls, hk, hd, hw, lk⟩ := h
      have nDp := pool_ne p2 hD
      refine ⟨rfl, _, rfl, _, rfl, p, _, M, us, rfl, p3, by omega, k3 _ _ nMp hM2, nMp, (fun e => by rw [e] at lus; cases lus), by omega, fun v H4 hv k4 p4 => ?_⟩
      obtain ⟨d, hdm, hdv⟩ := DpAll.mem hus2 hv
      obtain ⟨z, hz, rfl⟩ := List.mem_map.mp hdm
      have hk4 := k4 _ _ nDp hk
      have hv4 := odd_keep (look_odd z) p2 (k3.trans k4) hdv
      have hd4 := odds_keep p3 k4 (fun d hd => by obtain ⟨y, _, rfl⟩ := List.mem_map.mp hd; rfl) hd
      have lvs := DpAll.len hd
      rw [loD, List.length_map] at lvs
      have nD : ∀ {x : V} {y : Str × Str}, Dp K H4 x (lkP y) → Dp K (upd H4 D (.lst (vs ++ [v]))) x (lkP y) := fun h => look_put hk4 h
      refine ⟨_, hk4, Nat.lt_of_le_of_lt (show vs.length ≤ 6 by omega) (by decide), fun b o nb e => ?_, (p4.other (Ne.symm nDp)).mono (by omega), vs ++ [v], ls ++ [z], upd_same, ?_, fun y hy => ?_, by rw [List.length_append, lk]; rfl⟩
      · rw [upd_ne (ne_of_none e hD)]
        exact (k3.trans k4) b o nb e
      · rw [← lo_app]
        exact DpAll.app (looks_put hk4 hd4) (.cons (nD hv4) .nil)
      · rcases List.mem_append.mp hy with hy | hy
        · exact hw y hy
        · rw [List.mem_singleton.mp hy]; exact hz
    · obtain ⟨k3, p3, vs, ls, hk, hd, hw, lk⟩ := h
      exact q D vs ls H3 (k02.free (pool_ne p2 hD) hD) hk hd hw (by omega) (k02.trans k3) (p3.mono (by omega))
theorem scOdd : FnScope ["_law_pool_here", "_law_is_look"] ["_law_pool_here", "_law_is_look"] (defScope sOdd) := ⟨rfl, rfl, rfl, by decide +kernel, rfl, by decide +kernel, by decide +kernel⟩
theorem ok_odd {f : Addr} {fd : FuncData} (F : Fun K "_law_odd" "_law_odd" sOdd f fd) (T : Bare mg) (GO : Fn P w K mg base 2 "_law_of" ["_law_pool_here", "_law_some"] spOf) : FnOk P w K mg base CX0 3 f fd ["_law_pool_here", "_law_is_look"] (spOdd K) := by
  refine F.ok scOdd (fun vs H Q E h => ?_) (fun cdv A outer s H vs Q E hr h => ?_)
  · obtain ⟨p, c, b, rfl, _⟩ := h
    rfl
  · obtain ⟨p, c, b, rfl, hp, hc, q⟩ := h
    have hr2 : Room 2 _ := hr
    refine ⟨_, (C8.pss_cut (ps_if (pt_val (pv 1)) (pss_one (ps_ret (pe_fn GO hr2 rfl (pa_cons (pv 0) (pa_cons (pe_lst (pa_cons (pe_tup (pa_cons pe_str (pa_cons pe_str pa_nil))) (pa_cons (pe_lst (pa_cons pe_str (pa_cons pe_str pa_nil))) (pa_cons pe_str (pa_cons (pe_tup (pa_cons pe_str pa_nil)) (pa_cons (pe_tup (pa_cons pe_str (pa_cons pe_str (pa_cons pe_str pa_nil)))) (pa_cons (pe_tup (pa_cons pe_int (pa_cons pe_str pa_nil))) (pa_cons (pe_tup (pa_cons pe_str (pa_cons pe_str pa_nil))) (pa_cons (pe_tup (pa_cons pe_str (pa_cons pe_str pa_nil))) (pa_cons pe_non (pa_cons (pe_tup (pa_cons pe_str (pa_cons pe_str pa_nil))) (pa_cons (pe_tup (pa_cons pe_str (pa_cons pe_str pa_nil))) (pa_cons (pe_tup (pa_cons pe_str (pa_cons pe_str pa_nil))) pa_nil))))))))))))) pa_nil))))) pss_nil)
        (pss_one (ps_ret (pe_fn GO hr2 rfl (pa_cons (pv 0) (pa_cons (pe_lst (pa_cons pe_str (pa_cons pe_str (pa_cons pe_str (pa_cons pe_non (pa_cons pe_int (pa_cons pe_bl (pa_cons (pe_tup (pa_cons pe_str (pa_cons pe_str pa_nil))) (pa_cons (pe_lst (pa_cons pe_str pa_nil)) (pa_cons pe_str pa_nil)))))))))) pa_nil)))))), ?_⟩
    refine ⟨fun σ H' => σ = [some (.ref p), some (.bl b)] ∧ H' = H ∧ b = false, ⟨_, rfl, b, rfl, ?_⟩, ?_⟩
    · cases b with
      | false => exact iteF ⟨rfl, rfl, rfl⟩
      | true =>
        refine iteT ⟨_, rfl, lst_new (K := K) (ds := oddL) (by unfold oddL; repeat (first | exact gs_nil | exact g_str _ | exact g_non | exact g_bl _ | exact g_nine | exact g_int _ | refine gs_cons ?_ ?_ | refine g_tup ?_ (by decide) | refine g_lst ?_ (by decide))) (by decide) fun M us H' h1 h2 h3 s => ?_⟩
        refine ⟨p, c, M, us, rfl, hp.same s, by omega, h2, pool_ne hp h1, (fun e => by subst e; cases h3), by rw [DpAll.len h3]; decide, fun v H2 hv k2 p2 => ?_⟩
        obtain ⟨d, hd, hdv⟩ := DpAll.mem h3 hv
        exact q v d H2 (fun _ => hd) (fun e => nomatch e) (odd_keep (oddL_of hd).o (hp.same s) k2 hdv) ((Same.keep s).trans k2) p2
    rintro σ H1 ⟨rfl, rfl, rfl⟩
    refine ⟨_, rfl, lst_new (K := K) (ds := oddK) (by unfold oddK; repeat (first | exact gs_nil | exact g_str _ | exact g_non | exact g_bl _ | exact g_nine | exact g_int _ | refine gs_cons ?_ ?_ | refine g_tup ?_ (by decide) | refine g_lst ?_ (by decide))) (by decide) fun M us H' h1 h2 h3 s => ?_⟩
    refine ⟨p, c, M, us, rfl, hp.same s, by omega, h2, pool_ne hp h1, (fun e => by subst e; cases h3), by rw [DpAll.len h3]; decide, fun v H2 hv k2 p2 => ?_⟩
    obtain ⟨d, hd, hdv⟩ := DpAll.mem h3 hv
    exact q v d H2 (fun e => nomatch e) (fun _ => hd) (odd_keep (oddK_of hd).o (hp.same s) k2 hdv) ((Same.keep s).trans k2) p2
end
end K5

namespace K5
open PySem L2
abbrev sParts : Stmt := top 27
abbrev nParts : List Str := ["_law_words_drawn", "_law_looks_drawn", "_law_found", "_law_kept", "_law_look", "_law_one"]
/-! each once, in the order of the first time -/
section
variable {α : Type} [DecidableEq α]
def dd (l : List α) : List α := l.foldl (fun k x => if x ∈ k then k else k ++ [x]) []
theorem dd_snoc (l : List α) (x : α) : dd (l ++ [x]) = if x ∈ dd l then dd l else dd l ++ [x] := by
  unfold dd
  rw [List.foldl_append]
  rfl
theorem snoc_ind {p : List α → Prop} (h0 : p []) (h : ∀ l x, p l → p (l ++ [x])) : ∀ l, p l := fun l => by
  have key : ∀ r : List α, p r.reverse := by
    intro r
    induction r with
    | nil => exact h0
    | cons x r ih =>
      rw [List.reverse_cons]
      exact h _ x ih
  have z := key l.reverse
  rw [List.reverse_reverse] at z
  exact z
theorem dd_mem (l : List α) : ∀ y, y ∈ dd l ↔ y ∈ l := by
  refine snoc_ind (p := fun l => ∀ y, y ∈ dd l ↔ y ∈ l) (fun y => Iff.rfl) (fun l x ih y => ?_) l
  rw [dd_snoc]
  by_cases c : x ∈ dd l
  · rw [if_pos c, ih, List.mem_append, List.mem_singleton]
    exact ⟨.inl, fun h => h.elim id fun e => by rw [e]; exact (ih x).mp c⟩
  · rw [if_neg c, List.mem_append, List.mem_append, ih]
theorem dd_nodup (l : List α) : (dd l).Nodup := by
  refine snoc_ind (p := fun l => (dd l).Nodup) List.nodup_nil (fun l x ih => ?_) l
  rw [dd_snoc]
  by_cases c : x ∈ dd l
  · rw [if_pos c]
    exact ih
  · rw [if_neg c, List.nodup_append]
    refine ⟨ih, by simp, fun a ha b hb e => ?_⟩
    rw [List.mem_singleton] at hb
    rw [e, hb] at ha
    exact c ha
theorem dd_sub (l : List α) : (dd l).Sublist l := by
  refine snoc_ind (p := fun l => (dd l).Sublist l) (List.Sublist.refl _) (fun l x ih => ?_) l
  rw [dd_snoc]
  by_cases c : x ∈ dd l
  · rw [if_pos c]
    exact ih.trans (List.sublist_append_left _ _)
  · rw [if_neg c]
    exact ih.append (List.Sublist.refl _)
end
theorem dd_looks {ls0 ls : List (Str × Str)} (pm : ls.Perm ls0) (srt : K9.srt (ls.map pairL)) : LooksOf ls0 (dd ls) where
  nd := dd_nodup ls
  srt := List.Pairwise.sublist ((dd_sub ls).map pairL) srt
  mem := fun p => (dd_mem ls p).trans pm.mem_iff
/-- what are looks stay looks where a list changes -/
theorem look_but {K : PySem.W.Frag} {H H' : Hp} {D : Addr} {L : List V} (hD : H D = some (.lst L)) (k : But D H H') {x : V} {y : Str × Str} (h : Dp K H x (lkP y)) : Dp K H' x (lkP y) := by
  cases h with
  | @tup a xs ds h1 h2 =>
    refine .tup ?_ (atoms_any rfl h2)
    rcases h1 with (h1 | ⟨o, h1⟩) | h1
    · exact .inl (.inl (k _ _ (fun e => by rw [e, hD] at h1; cases h1) h1))
    · exact .inl (.inr ⟨o, k _ _ (fun e => by rw [e, hD] at h1; cases h1) h1⟩)
    · exact .inr h1
theorem looks_but {K : PySem.W.Frag} {H H' : Hp} {D : Addr} {L : List V} (hD : H D = some (.lst L)) (k : But D H H') : ∀ {vs : List V} {ls : List (Str × Str)}, DpAll K H vs (loD ls) → DpAll K H' vs (loD ls)
  | _, [], h => by
    cases h
    exact .nil
  | _, p :: ls, h => by
    cases h with
    | cons h1 h2 => exact .cons (look_but hD k h1) (looks_but hD k h2)
def spParts (K : PySem.W.Frag) : Sp := fun vs H Q _ => ∃ (a b : Addr) (us ws : List V) (ks0 : List Str) (ls0 : List (Str × Str)), vs = [.ref a, .ref b] ∧ SqL K H a us ∧ DpAll K H us (kiD ks0) ∧ SqL K H b ws ∧ DpAll K H ws (loD ls0) ∧ (∀ p ∈ ls0, p ∈ looks10) ∧ ls0.length < 64 ∧
  ∀ (D : Addr) (vs' : List V) (ls : List (Str × Str)) (H' : Hp), H D = none → H' D = some (.lst vs') → DpAll K H' vs' (paD (kinds6 ks0) ls) → LooksOf ls0 ls → Same H H' → Q (.ref D) H'
section
variable {P : Program} {w : World} {K : PySem.W.Frag} {mg : Str → Option Value} {base : Heap} {aW : Addr}
theorem scParts : FnScope nParts ["_law_words_drawn", "_law_looks_drawn"] (defScope sParts) := ⟨rfl, rfl, rfl, by decide +kernel, rfl, by decide +kernel, by decide +kernel⟩
theorem ok_parts {f : Addr} {fd : FuncData} (F : Fun K "_law_parts" "_law_parts" sParts f fd) (T : Bare mg) (WC : WordsC K mg aW) : FnOk P w K mg base CX0 1 f fd ["_law_words_drawn", "_law_looks_drawn"] (spParts K) := by
  refine F.ok scParts (fun vs H Q E h => ?_) (fun cdv A outer s H vs Q E hr h => ?_)
  · obtain ⟨a, b, us, ws, ks0, ls0, rfl, _⟩ := h
    rfl
  · obtain ⟨a, b, us, ws, ks0, ls0, rfl, ha, hus, hb, hws, h10, l64, q⟩ := h
    refine ⟨_, (C8.pss_cut (ps_setLc (i := 2) rfl scParts.nd rfl rfl (by rfl) (own := [("_law_one", 5)]) (g := gName 5) (tt := tTest (tOp (rIn K false) (tVar 5) (tVar 0))) (te := tVar 5) (pi_list (pe_lst (pa_cons pe_str (pa_cons pe_str (pa_cons pe_str (pa_cons pe_str (pa_cons pe_str (pa_cons pe_str pa_nil)))))))) (blkOk_by (own := [("_law_one", 5)]) (N := nParts) (sc := defScope sParts) (by decide +kernel)) (fun _ _ _ _ _ => pg_name (i := 5) scParts.nd rfl (Or.inl rfl)) (fun _ _ _ _ _ => pts_one (pt_cmpR op_in_seq (pv 5) (pv 0) rfl)) (fun _ _ _ _ _ => pv 5))
        (C8.pss_cut (ps_set (i := 3) scParts.nd rfl (.inl rfl) (pe_lst pa_nil))
        (C8.pss_cut (ps_for PassesOwn.never rfl (pi_list (pe_callB (cr_sortX (d := 2) (by decide)) (by rfl) WC.srt PyProof.Rows.boot_sorted (pa_cons (pv 1) pa_nil))) (pg_name (i := 4) scParts.nd rfl (.inl rfl))
        (pss_one (ps_if (pt_cmpR (op_ninA (Room.units5 hr)) (pv 4) (pv 3) (by rfl)) (pss_one (ps_expr (pe_bm PySem.F.plainAttrs_list PySem.F.slot_list_append PySem.F.type_list_append mt_append (pv 3) (pa_cons (pv 4) pa_nil)))) pss_nil)))
        (pss_one (ps_ret (pe_op op_cat (pv 2) (pv 3))))))), ?_⟩
    obtain rfl := txts_of hus
    -- the words
    refine ⟨fun σ H' => ∃ D, σ = [some (.ref a), some (.ref b), some (.ref D), none, none, none] ∧ Same H H' ∧ H D = none ∧ H' D = some (.lst ((kinds6 ks0).map V.str)), ?_, ?_⟩
    · unfold tAsg tLc iList
      refine lst_new (K := K) (ds := words6.map PyData.str) (by unfold words6; repeat (first | exact gs_nil | exact g_str _ | exact g_non | exact g_bl _ | exact g_nine | exact g_int _ | refine gs_cons ?_ ?_ | refine g_tup ?_ (by decide) | refine g_lst ?_ (by decide))) (by decide) fun L vs H1 hL0 hL hvs s1 => ?_
      obtain rfl : vs = words6.map V.str := txts_of hvs
      refine ⟨L, rfl, ⟨_, SqL.of hL⟩, fun D hD => lc_list (K := K) (a := L) (xs := words6.map V.str) (fun i H' => Same H1 H' ∧ H' D = some (.lst (((words6.take i).filter fun z => decide (z ∈ ks0)).map V.str))) ⟨Same.new (Same.refl H1) hD, upd_same⟩ (fun i H' _ h => SqL.of (h.1 _ _ hL)) (fun i u H3 hu h => ?_) (fun H3 h => ?_)⟩
      · obtain ⟨s3, hd3⟩ := h
        rw [List.getElem?_map] at hu
        obtain ⟨z, hz, rfl⟩ := Option.map_eq_some_iff.mp hu
        have li : i < 6 := (List.getElem?_eq_some_iff.mp hz).1
        have tk : words6.take (i + 1) = words6.take i ++ [z] := take_some hz
        refine ⟨rfl, _, rfl, _, rfl, a, _, rfl, .inl ((s1.trans s3).seq ha), rfl, flat_strs ks0, _, rfl, ?_⟩
        show if inV (V.str z) (ks0.map V.str) = true then _ else _
        rw [inV_strs]
        by_cases c : z ∈ ks0
        · refine iteT' (decide_eq_true c) ⟨_, rfl, _, hd3, ?_, Same.put s3 hD, ?_⟩
          · have l1 := List.length_filter_le (fun z => decide (z ∈ ks0)) (words6.take i)
            rw [List.length_take] at l1
            rw [List.length_map]
            exact Nat.lt_of_le_of_lt (show _ ≤ 900 by omega) (by decide)
          · rw [upd_same, tk, List.filter_append, List.map_append]
            simp [c]
        · refine iteF' (decide_eq_false c) ⟨s3, ?_⟩
          rw [hd3, tk, List.filter_append]
          simp [c]
      · obtain ⟨s3, hd3⟩ := h
        exact ⟨D, rfl, s1.trans s3, s1.free hD, hd3⟩
    rintro σ H1 ⟨D, rfl, s1, hD0, hD⟩
    -- the looks, sorted, each once
    refine ⟨fun σ H' => ∃ E, σ = [some (.ref a), some (.ref b), some (.ref D), some (.ref E), none, none] ∧ Same H1 H' ∧ H1 E = none ∧ H' E = some (.lst []), ⟨by show 0 ≤ sizeLine; decide, fun E hE => ⟨E, rfl, Same.new (Same.refl H1) hE, hE, upd_same⟩⟩, ?_⟩
    rintro σ H2 ⟨E, rfl, s2, hE0, hE⟩
    have s02 := s1.trans s2
    refine ⟨fun σ H' => ∃ (z : Option V) (ls : List (Str × Str)) (vs : List V), σ = [some (.ref a), some (.ref b), some (.ref D), some (.ref E), z, none] ∧ Same H1 H' ∧ H' E = some (.lst vs) ∧ DpAll K H' vs (loD ls) ∧ LooksOf ls0 ls, ?_, ?_⟩
    · obtain ⟨ks, rfl, ek, key⟩ := look_keys hws
      have lks : ks.length < 64 := by
        have z := congrArg List.length ek
        rw [List.length_map, List.length_map] at z
        rw [z]
        exact l64
      refine ⟨_, rfl, b, _, rfl, s02.seq hb, by rw [List.length_map]; exact lks, fun x hx => ?_, fun ys S pm pw hS => ?_⟩
      · obtain ⟨r, hr, rfl⟩ := List.mem_map.mp hx
        exact ⟨r.1, ⟨r.2, rfl, SqT.ext (key r hr).1 s02⟩, (key r hr).2⟩
      obtain ⟨ks', p1, p2⟩ := perm_lift (fun q : List Str × Addr => V.ref q.2) pm ks rfl
      subst p2
      obtain ⟨ls', p3, p4⟩ := perm_lift pairL ((p1.map (·.1)).trans (ek ▸ List.Perm.refl _)) ls0 rfl
      have sS := Same.new (o := .lst (ks'.map fun q => V.ref q.2)) (Same.refl H2) hS
      have key' : ∀ r ∈ ks', SqT K (upd H2 S (.lst (ks'.map fun q => V.ref q.2))) r.2 (r.1.map V.str) := fun r hr => SqT.ext (key r (p1.mem_iff.mp hr)).1 (s02.trans sS)
      have srt : K9.srt (ls'.map pairL) := by
        rw [p4]
        show List.Pairwise _ _
        rw [List.pairwise_map]
        rw [List.pairwise_map] at pw
        refine List.Pairwise.imp_of_mem (fun {r t} hr ht h => ?_) pw
        exact h r.1 t.1 ⟨r.2, rfl, SqT.ext (key r (p1.mem_iff.mp hr)).1 s02⟩ ⟨t.2, rfl, SqT.ext (key t (p1.mem_iff.mp ht)).1 s02⟩
      have hys : DpAll K (upd H2 S (.lst (ks'.map fun q => V.ref q.2))) (ks'.map fun q => V.ref q.2) (loD ls') := keys_look p4.symm key'
      have lo := dd_looks p3 srt
      have nSE : E ≠ S := ne_of_none hE hS
      have lys : (ks'.map fun q => V.ref q.2).length = ls'.length := by rw [DpAll.len hys, loD, List.length_map]
      have l10 : ∀ p ∈ ls', p ∈ looks10 := fun p hp => h10 p (p3.mem_iff.mp hp)
      have lls : ls'.length < 64 := by rw [p3.length_eq]; exact l64
      refine ⟨S, rfl, ⟨_, SqL.of upd_same⟩, for_list (K := K) (a := S) (xs := ks'.map fun q => V.ref q.2) (fun i σ H' => ∃ (z : Option V) (vs : List V), σ = [some (.ref a), some (.ref b), some (.ref D), some (.ref E), z, none] ∧ But E (upd H2 S (.lst (ks'.map fun q => V.ref q.2))) H' ∧ H' E = some (.lst vs) ∧ DpAll K (upd H2 S (.lst (ks'.map fun q => V.ref q.2))) vs (loD (dd (ls'.take i)))) ⟨_, [], rfl, fun _ _ _ h => h, sS _ _ hE, .nil⟩ (fun i σ H' _ h => ?_) (fun i u σ H3 hu h => ?_) (fun σ H3 h => ?_)⟩
      · obtain ⟨z, vs, _, b3, _⟩ := h
        exact SqL.of (b3 _ _ (Ne.symm nSE) upd_same)
      · obtain ⟨z, vs, rfl, b3, hE3, hvs⟩ := h
        obtain ⟨d, hd, hdu⟩ := DpAll.at2 hys hu
        unfold loD at hd
        rw [List.getElem?_map] at hd
        obtain ⟨p, hp, rfl⟩ := Option.map_eq_some_iff.mp hd
        have tk := take_some hp
        have bE : ∀ {v : V} {y : Str × Str}, Dp K (upd H2 S (.lst (ks'.map fun q => V.ref q.2))) v (lkP y) → Dp K H3 v (lkP y) := fun h => look_but (sS _ _ hE) b3 h
        have bEs : ∀ {vs : List V} {ls : List (Str × Str)}, DpAll K (upd H2 S (.lst (ks'.map fun q => V.ref q.2))) vs (loD ls) → DpAll K H3 vs (loD ls) := fun h => looks_but (sS _ _ hE) b3 h
        have mp : p ∈ ls' := List.mem_of_getElem? hp
        have fd : Fair (loD (dd (ls'.take i))) := lo_fair fun r hr => l10 r (List.mem_of_mem_take ((dd_mem _ r).mp hr))
        refine ⟨_, rfl, _, rfl, lkP p, _, bE hdu, .inl (.lst (SqL.of hE3) (bEs hvs)), (l10_fair p (l10 p mp)).shaped, fair_shaped_t fd, _, rfl, ?_⟩
        rw [any_lo, Bool.true_bne]
        have lvs : vs.length < 64 := by
          rw [DpAll.len hvs, loD, List.length_map]
          have z := (dd_sub (ls'.take i)).length_le
          rw [List.length_take] at z
          omega
        by_cases c : p ∈ dd (ls'.take i)
        · refine iteF' (by rw [decide_eq_true c]; rfl) ⟨_, vs, rfl, b3, hE3, ?_⟩
          rw [tk, dd_snoc, if_pos c]
          exact hvs
        · refine iteT' (by rw [decide_eq_false c]; rfl) ⟨_, rfl, (.inl ⟨rfl, _, SqL.of hE3⟩), _, rfl, E, vs, u, rfl, rfl, hE3, Nat.lt_of_lt_of_le (Nat.lt_trans lvs (show 64 < 1000 by decide)) (by decide), _, vs ++ [u], rfl, fun b o n e => by rw [upd_ne n]; exact b3 b o n e, upd_same, ?_⟩
          rw [tk, dd_snoc, if_neg c, ← lo_app]
          exact DpAll.app hvs (.cons hdu .nil)
      · obtain ⟨z, vs, rfl, b3, hE3, hvs⟩ := h
        rw [lys, List.take_length] at hvs
        refine ⟨z, dd ls', vs, rfl, fun b o e => ?_, hE3, looks_but (sS _ _ hE) b3 hvs, lo⟩
        exact b3 b o (ne_of_none e hE0) ((s2.trans sS) _ _ e)
    rintro σ H3 ⟨z, ls, vs, rfl, s3, hE3, hvs, lo⟩
    have hD3 := s3 _ _ hD
    have n10 : ls.length ≤ 10 := nodup_le lo.nd fun p hp => h10 p ((lo.mem p).mp hp)
    have n6 : (kinds6 ks0).length ≤ 6 := List.length_filter_le _ _
    refine ⟨_, rfl, _, rfl, D, E, _, vs, rfl, rfl, hD3, hE3, by rw [List.length_map, DpAll.len hvs, loD, List.length_map]; exact line_ge (by omega), fun G hG => ?_⟩
    have sG := Same.new (o := .lst ((kinds6 ks0).map V.str ++ vs)) (Same.refl H3) hG
    exact q G _ ls _ ((s1.trans s3).free hG) upd_same (DpAll.app (of_txts _) (dpAll_same sG _ hvs)) lo ((s1.trans s3).trans sG)
end
end K5

namespace K5
open PySem L2
abbrev sTog : Stmt := top 30
abbrev nTog : List Str := ["_law_first", "_law_second", "_law_either", "_law_one"]
/-- the new list at D holds those of the first i data that p keeps -/
def Sift (K : PySem.W.Frag) (H0 : Hp) (D : Addr) (ds : List PyData) (p : PyData → Bool) (i : Nat) (H' : Hp) : Prop := Same H0 H' ∧ ∃ us, H' D = some (.lst us) ∧ us.length ≤ i ∧ DpAll K H0 us ((ds.take i).filter p)
theorem sift0 {K : PySem.W.Frag} {H0 : Hp} {D : Addr} {ds : List PyData} {p : PyData → Bool} (hD : H0 D = none) : Sift K H0 D ds p 0 (upd H0 D (.lst [])) := ⟨Same.new (Same.refl H0) hD, [], upd_same, Nat.le_refl _, .nil⟩
theorem sift_step {K : PySem.W.Frag} {H0 H2 : Hp} {D : Addr} {ds : List PyData} {xs : List V} {p : PyData → Bool} {i : Nat} {z : V} (h2 : DpAll K H0 xs ds) (hz : xs[i]? = some z) (hD : H0 D = none) (l : xs.length ≤ 300) (h : Sift K H0 D ds p i H2) :
    ∃ d, ds[i]? = some d ∧ Dp K H2 z d ∧ Same H0 H2 ∧ (p d = true → ∃ us, H2 D = some (.lst us) ∧ us.length < sizeLine ∧ Sift K H0 D ds p (i + 1) (upd H2 D (.lst (us ++ [z])))) ∧ (p d = false → Sift K H0 D ds p (i + 1) H2) := by
  obtain ⟨s2, us, hd2, lu, hu⟩ := h
  obtain ⟨d, hd, dz⟩ := DpAll.at2 h2 hz
  have li : i < xs.length := (List.getElem?_eq_some_iff.mp hz).1
  have tk := take_some hd
  refine ⟨d, hd, dp_same s2 _ dz, s2, fun c => ⟨us, hd2, Nat.lt_of_le_of_lt (show _ ≤ 900 by omega) (by decide), Same.put s2 hD, us ++ [z], upd_same, by rw [List.length_append, List.length_singleton]; omega, ?_⟩, fun c => ⟨s2, us, hd2, Nat.le_succ_of_le lu, ?_⟩⟩
  · rw [tk, List.filter_append, List.filter_cons_of_pos c, List.filter_nil]
    exact DpAll.app hu (.cons dz .nil)
  · rw [tk, List.filter_append, List.filter_cons_of_neg (by rw [c]; exact Bool.false_ne_true), List.filter_nil, List.append_nil]
    exact hu
theorem sift_end {K : PySem.W.Frag} {H0 H2 : Hp} {D : Addr} {ds : List PyData} {xs : List V} {p : PyData → Bool} (h2 : DpAll K H0 xs ds) (h : Sift K H0 D ds p xs.length H2) : Same H0 H2 ∧ ∃ us, H2 D = some (.lst us) ∧ DpAll K H2 us (ds.filter p) := by
  obtain ⟨s2, us, hd2, lu, hu⟩ := h
  rw [DpAll.len h2, List.take_length] at hu
  exact ⟨s2, us, hd2, dpAll_same s2 _ hu⟩
theorem ki_strs (ks : List Str) : (kiD ks).filter isStr = kiD ks ∧ (kiD ks).filter isTup = [] := by
  constructor
  · exact List.filter_eq_self.mpr fun d hd => by
      obtain ⟨z, _, rfl⟩ := List.mem_map.mp hd
      rfl
  · exact List.filter_eq_nil_iff.mpr fun d hd => by
      obtain ⟨z, _, rfl⟩ := List.mem_map.mp hd
      exact Bool.false_ne_true
theorem lo_tups (ls : List (Str × Str)) : (loD ls).filter isStr = [] ∧ (loD ls).filter isTup = loD ls := by
  constructor
  · exact List.filter_eq_nil_iff.mpr fun d hd => by
      obtain ⟨z, _, rfl⟩ := List.mem_map.mp hd
      exact Bool.false_ne_true
  · exact List.filter_eq_self.mpr fun d hd => by
      obtain ⟨z, _, rfl⟩ := List.mem_map.mp hd
      rfl
theorem pa_strs (k1 k2 : List Str) (l1 l2 : List (Str × Str)) : (paD k1 l1 ++ paD k2 l2).filter isStr = kiD (k1 ++ k2) := by
  unfold paD
  rw [List.filter_append, List.filter_append, List.filter_append, (ki_strs k1).1, (ki_strs k2).1, (lo_tups l1).1, (lo_tups l2).1, List.append_nil, List.append_nil, ki_app]
theorem pa_tups (k1 k2 : List Str) (l1 l2 : List (Str × Str)) : (paD k1 l1 ++ paD k2 l2).filter isTup = loD (l1 ++ l2) := by
  unfold paD
  rw [List.filter_append, List.filter_append, List.filter_append, (ki_strs k1).2, (ki_strs k2).2, (lo_tups l1).2, (lo_tups l2).2, List.nil_append, List.nil_append, lo_app]
theorem pa_any_k (ks : List Str) (ls : List (Str × Str)) (z : Str) : ((paD ks ls).any fun y => PyData.eqv y (.str z)) = decide (z ∈ ks) := by
  unfold paD
  rw [List.any_append, any_ki, any_lo_k, Bool.or_false]
theorem pa_any_l (ks : List Str) (ls : List (Str × Str)) (p : Str × Str) : ((paD ks ls).any fun y => PyData.eqv y (lkP p)) = decide (p ∈ ls) := by
  unfold paD
  rw [List.any_append, any_lo, any_ki_l, Bool.false_or]
theorem pa_both (k1 k2 : List Str) (l1 l2 : List (Str × Str)) : (paD k1 l1).filter (fun d => false != (paD k2 l2).any fun z => PyData.eqv z d) = paD (bothF k1 k2) (bothF l1 l2) := by
  show (kiD k1 ++ loD l1).filter _ = kiD _ ++ loD _
  rw [List.filter_append, ki_filter, lo_filter]
  unfold bothF
  congr 2
  · congr 1
    funext z
    rw [pa_any_k, Bool.false_bne]
  · congr 1
    funext z
    rw [pa_any_l, Bool.false_bne]
    exact decide_eq_decide.mpr Iff.rfl
theorem pa_less (k1 k2 : List Str) (l1 l2 : List (Str × Str)) : (paD k1 l1).filter (fun d => true != (paD k2 l2).any fun z => PyData.eqv z d) = paD (lessF k1 k2) (lessF l1 l2) := by
  show (kiD k1 ++ loD l1).filter _ = kiD _ ++ loD _
  rw [List.filter_append, ki_filter, lo_filter]
  unfold lessF
  congr 2
  · congr 1
    funext z
    rw [pa_any_k, Bool.true_bne]
  · congr 1
    funext z
    rw [pa_any_l, Bool.true_bne]
    exact congrArg (!·) (decide_eq_decide.mpr Iff.rfl)
def spTog (K : PySem.W.Frag) : Sp := fun vs H Q _ => ∃ (a1 a2 : Addr) (us1 us2 : List V) (k1 k2 : List Str) (l1 l2 : List (Str × Str)), vs = [.ref a1, .ref a2] ∧ H a1 = some (.lst us1) ∧ H a2 = some (.lst us2) ∧ DpAll K H us1 (paD k1 l1) ∧ DpAll K H us2 (paD k2 l2) ∧ RuleG k1 l1 ∧ RuleG k2 l2 ∧
  ∀ (D : Addr) (xs : List V) (ls : List (Str × Str)) (H' : Hp), H D = none → H' D = some (.lst xs) → DpAll K H' xs [.list (paD (kinds6 (k1 ++ k2)) ls), .list (paD (bothF k1 k2) (bothF l1 l2)), .list (paD (lessF k1 k2) (lessF l1 l2))] → LooksOf (l1 ++ l2) ls → Same H H' → Q (.ref D) H'
section
variable {P : Program} {w : World} {K : PySem.W.Frag} {mg : Str → Option Value} {base : Heap}
theorem scTog : FnScope nTog ["_law_first", "_law_second"] (defScope sTog) := ⟨rfl, rfl, rfl, by decide +kernel, rfl, by decide +kernel, by decide +kernel⟩
theorem ok_tog {f : Addr} {fd : FuncData} (F : Fun K "_law_together" "_law_together" sTog f fd) (T : Bare mg) (GP : Fn P w K mg base 1 "_law_parts" ["_law_words_drawn", "_law_looks_drawn"] (spParts K)) : FnOk P w K mg base CX0 2 f fd ["_law_first", "_law_second"] (spTog K) := by
  refine F.ok scTog (fun vs H Q E h => ?_) (fun cdv A outer s H vs Q E hr h => ?_)
  · obtain ⟨a1, a2, us1, us2, k1, k2, l1, l2, rfl, _⟩ := h
    rfl
  · obtain ⟨a1, a2, us1, us2, k1, k2, l1, l2, rfl, h1, h2, d1, d2, G1, G2, q⟩ := h
    have hr1 : Room 1 _ := hr
    have n1 := G1.ok.n; have n2 := G2.ok.n
    have lu1 := DpAll.len d1; have lu2 := DpAll.len d2
    refine ⟨_, (C8.pss_cut (ps_set (i := 2) scTog.nd rfl (.inl rfl) (pe_fn GP hr1 rfl (pa_cons (pe_lc (own := [("_law_one", 3)]) (g := gName 3) (tt := tB (tCB (rIsi K) (tCons (tVar 3) (tCons (tC (V.ty "str")) tNil)))) (te := tVar 3) (by rfl) scTog.nd (pi_list (pe_op op_cat (pv 0) (pv 1))) (blkOk_by (own := [("_law_one", 3)]) (N := nTog) (sc := defScope sTog) (by decide +kernel)) (fun _ _ _ _ _ => pg_name (i := 3) scTog.nd rfl (Or.inl rfl)) (fun _ _ _ _ _ => pts_one (pt_val (pe_callB call_isi (by rfl) T.isi (by decide +kernel) (pa_cons (pv 3) (pa_cons (pe_bltn (v := .ty "str") (by rfl) T.str (by decide +kernel) rfl) pa_nil))))) (fun _ _ _ _ _ => pv 3)) (pa_cons (pe_lc (own := [("_law_one", 3)]) (g := gName 3) (tt := tB (tCB (rIsi K) (tCons (tVar 3) (tCons (tC (V.ty "tuple")) tNil)))) (te := tVar 3) (by rfl) scTog.nd (pi_list (pe_op op_cat (pv 0) (pv 1))) (blkOk_by (own := [("_law_one", 3)]) (N := nTog) (sc := defScope sTog) (by decide +kernel)) (fun _ _ _ _ _ => pg_name (i := 3) scTog.nd rfl (Or.inl rfl)) (fun _ _ _ _ _ => pts_one (pt_val (pe_callB call_isi (by rfl) T.isi (by decide +kernel) (pa_cons (pv 3) (pa_cons (pe_bltn (v := .ty "tuple") (by rfl) T.tuple (by decide +kernel) rfl) pa_nil))))) (fun _ _ _ _ _ => pv 3)) pa_nil))))
        (pss_one (ps_ret (pe_lst (pa_cons (pv 2) (pa_cons (pe_lc (own := [("_law_one", 3)]) (g := gName 3) (tt := tTest (tOp (rInA K false) (tVar 3) (tVar 1))) (te := tVar 3) (by rfl) scTog.nd (pi_list (pv 0)) (blkOk_by (own := [("_law_one", 3)]) (N := nTog) (sc := defScope sTog) (by decide +kernel)) (fun _ _ _ _ _ => pg_name (i := 3) scTog.nd rfl (Or.inl rfl)) (fun _ _ _ _ _ => pts_one (pt_cmpR (op_inA (Room.units5 hr)) (pv 3) (pv 1) (by rfl))) (fun _ _ _ _ _ => pv 3)) (pa_cons (pe_lc (own := [("_law_one", 3)]) (g := gName 3) (tt := tTest (tOp (rInA K true) (tVar 3) (tVar 1))) (te := tVar 3) (by rfl) scTog.nd (pi_list (pv 0)) (blkOk_by (own := [("_law_one", 3)]) (N := nTog) (sc := defScope sTog) (by decide +kernel)) (fun _ _ _ _ _ => pg_name (i := 3) scTog.nd rfl (Or.inl rfl)) (fun _ _ _ _ _ => pts_one (pt_cmpR (op_ninA (Room.units5 hr)) (pv 3) (pv 1) (by rfl))) (fun _ _ _ _ _ => pv 3)) pa_nil))))))), ?_⟩
    -- of either
    refine ⟨fun σ H' => ∃ (E : Addr) (vs' : List V) (ls : List (Str × Str)), σ = [some (.ref a1), some (.ref a2), some (.ref E), none] ∧ Same H H' ∧ H' E = some (.lst vs') ∧ DpAll K H' vs' (paD (kinds6 (k1 ++ k2)) ls) ∧ LooksOf (l1 ++ l2) ls, ?_, ?_⟩
    · refine ⟨_, rfl, _, rfl, a1, a2, us1, us2, rfl, rfl, h1, h2, by rw [lu1, lu2]; exact line_ge (by omega), fun B hB => ?_⟩
      have sB := Same.new (o := .lst (us1 ++ us2)) (Same.refl H) hB
      have dB := dpAll_same sB _ (DpAll.app d1 d2)
      have lB : (us1 ++ us2).length ≤ 300 := by
        have := G1.lk; have := G1.ll; have := G2.lk; have := G2.ll
        rw [pa_len] at lu1 lu2
        rw [List.length_append]; omega
      refine ⟨B, rfl, ⟨_, SqL.of upd_same⟩, fun D hD => lc_list (K := K) (a := B) (xs := us1 ++ us2) (fun i H' => Sift K _ D (paD k1 l1 ++ paD k2 l2) isStr i H') (sift0 hD) (fun i H' _ h => SqL.of (h.1 _ _ upd_same)) (fun i z H2 hz h => ?_) (fun H2 h => ?_)⟩
      · obtain ⟨d, hd, dz, s2, yes, no⟩ := sift_step dB hz hD lB h
        refine ⟨rfl, _, rfl, z, .ty "str", _, .type "str", isStr d, rfl, .ty "str", dp_ty dz, kit_str dz, _, rfl, ?_⟩
        cases c : isStr d with
        | true =>
          obtain ⟨us, y1, y2, y3⟩ := yes c
          exact iteT ⟨_, rfl, us, y1, y2, y3⟩
        | false => exact iteF (no c)
      obtain ⟨s2, us, hus, dus⟩ := sift_end dB h
      rw [pa_strs] at dus
      have s02 := sB.trans s2
      refine ⟨_, rfl, _, rfl, a1, a2, us1, us2, rfl, rfl, s02 _ _ h1, s02 _ _ h2, by rw [lu1, lu2]; exact line_ge (by omega), fun B2 hB2 => ?_⟩
      have sB2 := Same.new (o := .lst (us1 ++ us2)) (Same.refl H2) hB2
      have dB2 := dpAll_same (s02.trans sB2) _ (DpAll.app d1 d2)
      refine ⟨B2, rfl, ⟨_, SqL.of upd_same⟩, fun D2 hD2 => lc_list (K := K) (a := B2) (xs := us1 ++ us2) (fun i H' => Sift K _ D2 (paD k1 l1 ++ paD k2 l2) isTup i H') (sift0 hD2) (fun i H' _ h => SqL.of (h.1 _ _ upd_same)) (fun i z H3 hz h => ?_) (fun H3 h => ?_)⟩
      · obtain ⟨d, hd, dz, s3, yes, no⟩ := sift_step dB2 hz hD2 lB h
        refine ⟨rfl, _, rfl, z, .ty "tuple", _, .type "tuple", isTup d, rfl, .ty "tuple", dp_ty dz, kit_tup dz, _, rfl, ?_⟩
        cases c : isTup d with
        | true =>
          obtain ⟨us, y1, y2, y3⟩ := yes c
          exact iteT ⟨_, rfl, us, y1, y2, y3⟩
        | false => exact iteF (no c)
      obtain ⟨s3, ws, hws, dws⟩ := sift_end dB2 h
      rw [pa_tups] at dws
      have s23 := sB2.trans s3
      refine ⟨D, D2, us, ws, k1 ++ k2, l1 ++ l2, rfl, SqL.of (s23 _ _ hus), dpAll_same s23 _ dus, SqL.of hws, dws, fun p hp => (List.mem_append.mp hp).elim (G1.m p) (G2.m p), by have := G1.ll; have := G2.ll; rw [List.length_append]; omega, fun E vs' ls H' e1 e2 e3 e4 e5 => ?_⟩
      exact ⟨E, vs', ls, rfl, (s02.trans s23).trans e5, e2, e3, e4⟩
    rintro σ H1 ⟨E, vs', ls, rfl, s1, hE, dE, lo⟩
    -- of both, of the first alone
    have d1' := dpAll_same s1 _ d1
    have d2' : Dp K H1 (.ref a2) (.list (paD k2 l2)) := .lst (SqL.of (s1 _ _ h2)) (dpAll_same s1 _ d2)
    refine ⟨_, rfl, _, rfl, a1, rfl, ⟨us1, SqL.of (s1 _ _ h1)⟩, fun D hD => lc_list (K := K) (a := a1) (xs := us1) (fun i H' => Sift K _ D (paD k1 l1) (fun d => false != (paD k2 l2).any fun z => PyData.eqv z d) i H') (sift0 hD) (fun i H' _ h => SqL.of (h.1 _ _ (s1 _ _ h1))) (fun i z H2 hz h => ?_) (fun H2 h => ?_)⟩
    · obtain ⟨d, hd, dz, s2, yes, no⟩ := sift_step d1' hz hD (by rw [lu1]; omega) h
      refine ⟨rfl, _, rfl, _, rfl, d, _, dz, .inl (dp_same s2 _ d2'), G1.ok.one d (List.mem_of_getElem? hd), G2.ok.p, _, rfl, ?_⟩
      cases c : (false != (paD k2 l2).any fun z => PyData.eqv z d) with
      | true =>
        obtain ⟨us, y1, y2, y3⟩ := yes c
        exact iteT ⟨_, rfl, us, y1, y2, y3⟩
      | false => exact iteF (no c)
    obtain ⟨s2, us, hus, dus⟩ := sift_end d1' h
    rw [pa_both] at dus
    have s12 := s1.trans s2
    have d1'' := dpAll_same s2 _ d1'
    refine ⟨_, rfl, a1, rfl, ⟨us1, SqL.of (s12 _ _ h1)⟩, fun D2 hD2 => lc_list (K := K) (a := a1) (xs := us1) (fun i H' => Sift K _ D2 (paD k1 l1) (fun d => true != (paD k2 l2).any fun z => PyData.eqv z d) i H') (sift0 hD2) (fun i H' _ h => SqL.of (h.1 _ _ (s12 _ _ h1))) (fun i z H3 hz h => ?_) (fun H3 h => ?_)⟩
    · obtain ⟨d, hd, dz, s3, yes, no⟩ := sift_step d1'' hz hD2 (by rw [lu1]; omega) h
      refine ⟨rfl, _, rfl, _, rfl, d, _, dz, .inl (dp_same (s2.trans s3) _ d2'), G1.ok.one d (List.mem_of_getElem? hd), G2.ok.p, _, rfl, ?_⟩
      cases c : (true != (paD k2 l2).any fun z => PyData.eqv z d) with
      | true =>
        obtain ⟨us, y1, y2, y3⟩ := yes c
        exact iteT ⟨_, rfl, us, y1, y2, y3⟩
      | false => exact iteF (no c)
    obtain ⟨s3, ws, hws, dws⟩ := sift_end d1'' h
    rw [pa_less] at dws
    refine ⟨by show 3 ≤ sizeLine; decide, fun G hG => ?_⟩
    have sG := Same.new (o := .lst [.ref E, .ref D, .ref D2]) (Same.refl H3) hG
    have s23 := s2.trans s3
    refine q G _ ls _ (((s1.trans s23)).free hG) upd_same (.cons (.lst (SqL.of (sG _ _ (s23 _ _ hE))) (dpAll_same (s23.trans sG) _ dE)) (.cons (.lst (SqL.of (sG _ _ (s3 _ _ hus))) (dpAll_same (s3.trans sG) _ dus)) (.cons (.lst (SqL.of (sG _ _ hws)) (dpAll_same sG _ dws)) .nil))) lo ((s1.trans s23).trans sG)
end
end K5

/-! len and list of an instance whose own __len__ and __iter__ give an int and an iterator of a tuple; != of equal lists; iter of a tuple -/
namespace GQ
open PySem PySem.SeqAt
open AutoSeq1 (wpAny_loadPart')
open MeetsSeq MeetsSeq2 MeetsSeq3 SeqRoads2
section
variable {prog : Program} {w : World} {A : Around} {R : Result → Shared → Prop}
theorem eq_loopN (l b : Addr) (N : Nat) (I : Nat → Shared → Prop) (hl : ListI prog w A (fun e s' => R (.error e) s') l b N I)
    (fin : ∀ s, I N s → R (.ok (.ret (.bool false))) s) (k : Nat) :
    ∀ i : Nat, N - i = k → i ≤ N → ∀ s, I i s →
      wpAny (model prog w) A.in1 (Builtin.«list.__eq__.loop» ⟨[.ref l, .ref b, rawInt i, rawInt 3], []⟩) (FinOf prog w A R) (fun e s' => R (.error e) s') s := by
  induction k with
  | zero =>
    intro i hk hi s h
    obtain ⟨items, items2, n, n2, hl1, hb1, hs1, hs2, _⟩ := hl _ _ h
    have hi' : i = N := by omega
    have hR : R (.ok (.ret (.bool false))) s := fin s (hi' ▸ h)
    obtain ⟨hp, g, d, tk, os⟩ := s
    wp_walk using wpAny_loadPart' hl1, wpAny_loadPart' hb1
    have hi1 : items[((i : Nat) : Int).toNat]? = none := by simp; omega
    have hi2 : items2[((i : Nat) : Int).toNat]? = none := by simp; omega
    rw [hi1, hi2]
    wp_walk using wpAny_loadPart' hl1, wpAny_loadPart' hb1
    show R (.ok (.ret (.bool (items.size != items2.size)))) _
    rw [hs1, hs2]
    simpa using hR
  | succ k ih =>
    intro i hk hi s h
    obtain ⟨items, items2, n, n2, hl1, hb1, hs1, hs2, turn⟩ := hl _ _ h
    have hlt : i < items.size := by omega
    have hlt2 : i < items2.size := by omega
    have ht := turn hlt hlt2
    obtain ⟨hp, g, d, tk, os⟩ := s
    wp_walk using wpAny_loadPart' hl1, wpAny_loadPart' hb1
    have hi1 : items[((i : Nat) : Int).toNat]? = some items[i] := by simp [hlt]
    have hi2 : items2[((i : Nat) : Int).toNat]? = some items2[i] := by simp [hlt2]
    have hc : ((i : Int) + 1) = ((i + 1 : Nat) : Int) := by omega
    rw [hi1, hi2]
    refine wpAny_bind (wpAny_mono ht (fun r s2 h2 => ?_) fun _ _ x => x)
    obtain ⟨hr, h2⟩ := h2
    subst hr
    have hrec := ih (i + 1) (by omega) (by omega) s2 h2
    obtain ⟨hp2, g2, d2, tk2, os2⟩ := s2
    wp_walk
    rw [hc]
    exact ⟨plainId_quiet plain_eq_loop _, codeAny_builtin entry_eq_loop (by
      rw [Around.under_plainId plain_eq_loop _]
      exact hrec)⟩
theorem list_neG (l b : Addr) (N : Nat) (I : Nat → Shared → Prop) (hl : ListI prog w A (fun e s' => R (.error e) s') l b N I)
    (fin : ∀ s, I N s → R (.ok (.ret (.bool false))) s) {s : Shared} (h : I 0 s) :
    wpAny (model prog w) A.in1 (Builtin.«list.__ne__» ⟨[.ref l, .ref b], []⟩) (FinOf prog w A R) (fun e s' => R (.error e) s') s := by
  obtain ⟨items, items2, n, n2, hl1, hb1, hs1, hs2, _⟩ := hl _ _ h
  have hrec := eq_loopN (A := A) (R := R) l b N I hl fin _ 0 rfl (Nat.zero_le _) s h
  obtain ⟨hp, g, d, tk, os⟩ := s
  have f3 := AutoSeq1.sub_list_list
  have hne : ¬ (items.size != items2.size) = true := by simp [hs1, hs2]
  wp_walk using wpAny_loadPart' hl1, wpAny_loadPart' hb1
  exact ⟨plainId_quiet plain_eq_loop _, codeAny_builtin entry_eq_loop (by
    rw [Around.under_plainId plain_eq_loop _]
    exact hrec)⟩
end
section
variable {prog : Program} {w : World} {A : Around} {E : Value → Shared → Prop} {s : Shared}
theorem rc_listN {l b : Addr} {N : Nat} {Q : Value → Shared → Prop} (hu : A.units < cLine) (I : Nat → Shared → Prop) (hl : ListI prog w A E l b N I)
    (fin : ∀ s, I N s → Q (.bool false) s) (h : I 0 s) : wpAny (model prog w) A (richCompare .NotEq (.ref l) (.ref b)) Q E s := by
  obtain ⟨items, items2, n, n2, hl1, hb1, _, _, _⟩ := hl _ _ h
  refine wpAny_richCompare_same_room (op := .NotEq) ⟨_, hl1, rfl⟩ ⟨_, hb1, rfl⟩ F.slot_list_ne (call_here F.slot_list_ne ⟨_, hl1, rfl⟩ F.entry_list_ne (F.args_list_ne_2 _ _) ?_) hu
  exact list_neG (R := wants (fun v s' => v ≠ .notImplemented ∧ Q v s') E) l b N I hl (fun s' q => ⟨(fun x => nomatch x), fin s' q⟩) h
/-- an iterator of a tuple at its end -/
theorem next_end_keeps {it t : Addr} {i : Nat} {items} {Q : Option Value → Shared → Prop} (hh : A.handled = none)
    (hit : s.heap.IsTupleIter it t i) (ht : s.heap.IsTuple t items) (hx : items[i]? = none)
    (hQ : ∀ h', Heap.ExtBut it s.heap h' → (∃ o, h'.get? it = some o) → Q none { s with heap := h' }) : wpAny (model prog w) A (pyNext (.ref it)) Q E s := by
  obtain ⟨o, ho, hc, hd⟩ := id hit
  obtain ⟨ol, hol, _, nl, hdl⟩ := ht
  unfold pyNext
  refine wpAny_bind (wpAny_attempt (wpAny_callSpecial?_slot (name := Str.ofString "__next__") hit.typeIs F.slot_tuple_iterator_next
    (wpAny_call_entry F.slot_tuple_iterator_next hit.typeIs F.entry_tuple_iterator_next ?_ (F.args_tuple_iterator_next_1 _))))
  show wpAny _ _ (field (.ref it) 0 >>= _) _ _ s
  refine wpAny_bind (wpAny_field ho hd (x := .ref t) rfl ?_)
  show wpAny _ _ (if (Value.ref t == Value.none) = true then _ else _) _ _ s
  rw [if_neg (show ¬ ((Value.ref t == Value.none) = true) from Bool.false_ne_true)]
  show wpAny _ _ (field (.ref it) 1 >>= _) _ _ s
  refine wpAny_bind (wpAny_field ho hd (x := .int i 0) rfl ?_)
  show wpAny _ _ (seqItems? (.ref t) >>= _) _ _ s
  refine wpAny_bind (wpAny_seqItems hol hdl ?_)
  simp only [Int.toNat_natCast, hx]
  refine wpAny_bind (wpAny_rule (wpAny_bind (wpAny_setField ho hd (by simp) ?_)))
  show wpAny _ _ (newExc (.type "StopIteration") [] >>= _) _ _ _
  refine wpAny_bind ?_
  simp only [newExc, newTuple]
  refine wpAny_bind (wpAny_newObj_type ?_ (by size_fits))
  refine wpAny_bind (m := firstArgMember _ _) (wpAny_of_eq (a := Value.none) (by first | rfl | (simp only [firstArgMember]; rfl)) ?_)
  refine wpAny_newObj_type ?_ (by size_fits)
  simp only [raiseNew]
  refine wpAny_bind (wpAny_handled ?_)
  first | rw [show A.in1.handled = none from hh] | rw [hh]
  refine wpAny_bind (wpAny_pure (wpAny_throw ?_))
  refine wpAny_bind (wpAny_isInstance (T := "StopIteration") (b := true) ⟨_, Heap.get?_push_size _ rfl, rfl⟩ isSubtype_stop ?_)
  exact wpAny_pure (hQ _ (((Heap.SameBut.update ..).extBut.push _).push _) ⟨_, Heap.get?_push_of_some _ (Heap.get?_push_of_some _ (Heap.get?_update_self _ ho (Obj.isFreed_of_fields (Obj.data_mapFields hd _))))⟩)
end
end GQ
namespace L2
open PySem PySem.Spec PyProof.Rows
section
variable {X : Cx} {n : Nat} {D : Eqv}
/-- two lists equal item by item: != gives False -/
def rNeG (D : Eqv) : R2 := fun x y H Q => DList D x y H ∧ ∀ H', Ext H H' → Q (.bl false) H'
theorem op_neListG (hD : Mon D) (h : EqG X n D) (hr : Room (n + 1) X.A) : OpR X (compareOp .NotEq) (rNeG D) := by
  intro pins s σ H x y v u Q I rx ry hq
  obtain ⟨⟨a, b, xs, ys, rfl, rfl, ha, hb, p⟩, q⟩ := hq
  cases rx
  cases ry
  show wpAny (model X.prog X.w) X.A (richCompare .NotEq (.ref a) (.ref b)) (EP X pins σ Q) X.xe s
  refine GQ.rc_listN (N := xs.length) hr.units0 (fun _ s' => LoopI X pins σ H s') (fun i s' q => ?_) (fun s' ⟨H', I', e⟩ => ⟨.bl false, H', I', rfl, q H' e⟩) ⟨H, I, Ext.rfl'⟩
  obtain ⟨H1, I1, e1⟩ := id q
  obtain ⟨z, its, k, r, e⟩ := I1.hok a _ (e1 _ _ ha)
  obtain ⟨z2, its2, k2, r2, e2⟩ := I1.hok b _ (e1 _ _ hb)
  refine ⟨its.toArray, its2.toArray, k, k2, e, e2, by rw [List.size_toArray, ← r.length], by rw [List.size_toArray, ← r2.length, ← p.1], fun h1 h2 => ?_⟩
  exact turnG hD h ⟨hr, rfl⟩ p r r2 i h1 h2 s' q
end
/-- at it an iterator of the tuple at a, the next place is i -/
def ItT (a it : Addr) (i : Nat) : HO := .ext fun h => h.IsTupleIter it a i
/-- .. that has ended -/
def ItD (it : Addr) : HO := .ext fun h => ∃ o, h.get? it = some o
section
variable {X : Cx} {pins : List (Addr × Obj)} {σ : St} {H : Hp} {s : Shared} {a it : Addr} {i : Nat}
theorem itT_ok {P : Program} {w : World} {H : Hp} {h : Heap} (e : h.IsTupleIter it a i) : ObjOk P w H h it (ItT a it i) := ⟨e, ⟨_, e.choose_spec.1⟩, fun h1 h2 q k => q.at k⟩
theorem itD_ok {P : Program} {w : World} {H : Hp} {h : Heap} (e : ∃ o, h.get? it = some o) : ObjOk P w H h it (ItD it) := ⟨e, e, fun h1 h2 ⟨o, q⟩ k => ⟨o, k o q⟩⟩
theorem itT_get (I : Inv X pins σ H s) (e : H it = some (ItT a it i)) : s.heap.IsTupleIter it a i := (I.hok it _ e).1
/-- iter of a tuple -/
def rIterT (K : PySem.W.Frag) : List V → Hp → VK → Prop := fun xs H Q => ∃ (a : Addr) (zs : List V), xs = [.ref a] ∧ SqT K H a zs ∧ ∀ it, H it = none → Q (.ref it) (upd H it (ItT a it 0))
theorem call_iterT : CallR X (.builtin "iter") (rIterT X.K) := by
  intro pins s σ H xs us Q I r h
  obtain ⟨a, zs, rfl, hq, q⟩ := h
  obtain rfl := Vals.ref1 r
  obtain ⟨its, rv, pl, hz⟩ := I.tuple hq
  refine Calls.call_function_entry (by decide +kernel) (by decide +kernel) PySem.W.kdk_entry_iter (PySem.W.kdk_args_iter _) ?_
  unfold Builtin.«iter»
  refine wpAny_bind (m := someArgs "iter" 1 2 _) (wpAny_of_eq (a := [Value.ref a]) (by first | rfl | kernel_rfl!) ?_)
  show wpAny _ _ (pyIter (.ref a) >>= _) _ _ _
  refine wpAny_bind (wpAny_pyIter_tuple (show s.heap.IsTuple a its.toArray from pl) ?_)
  refine wpAny_pure ⟨_, rfl, ?_⟩
  exact ⟨.ref s.heap.objs.size, _, I.laid (t' := s.toks) (fun b u e => Heap.get?_push_of_some _ e) (Nat.le_refl _) (itT_ok ⟨_, Heap.get?_push_size _ rfl, rfl, rfl⟩), rfl, q _ (I.hok.fresh (Nat.le_refl _))⟩
/-! len of an instance -/
variable {C fi fl q : Addr} {fdI fdL : FuncData} {psI psL : List Str} {spI spL : Sp} {k : Nat} {A1 : Around}
def rLenI (C : Addr) (spL : Sp) : List V → Hp → VK → Prop := fun xs H Q => ∃ a dx fs, xs = [.ref a] ∧ H a = some (.ins C dx fs) ∧ spL [.ref a] H (fun v H' => ∃ n : Nat, v = .int n ∧ n ≤ 1000000 ∧ Q (.int n) H') E0
theorem len_I {Q : VK} {dx : Addr} {fs : List (Str × V)} (sb : Sub X (k + 1) A1) (FL : FnOk X.prog X.w X.K X.mg X.base CX0 k fl fdL psL spL) (hs : PySem.W.findIn X.K (.ref C) "__len__" = some (some (.ref fl))) (hf : PySem.W.isFn X.K (.ref fl) = true) (hb : Binds X.K fdL psL [])
    (I : Inv X pins σ H s) (ha : H a = some (.ins C dx fs)) (hsp : spL [.ref a] H (fun v H' => ∃ n : Nat, v = .int n ∧ n ≤ 1000000 ∧ Q (.int n) H') E0) {E : Value → Shared → Prop} :
    wpAny (model X.prog X.w) A1 (call (.builtin "len") [.ref a]) (fun v s' => ∃ (n : Nat) (t : Tok) (H' : Hp), v = .int n t ∧ n ≤ 1000000 ∧ Inv X pins σ H' s' ∧ Q (.int n) H') E s := by
  obtain ⟨mA, J, _⟩ := ins_get I.hok ha
  obtain ⟨od, J, _⟩ := J.look
  refine Calls.call_function_entry kind_len plain_len entry_len (args_len1 _) ?_
  unfold Builtin.«len»
  refine wpAny_bind (m := oneArg "len" _) (wpAny_pure ?_)
  have e0 : Env0 X.prog X.w X.K X.mg X.base A1.in1 X.stack s H := by
    have e := I.env0
    exact ⟨by rw [sb.in1.fr]; exact e.frames, e.mod, e.bs, e.bsz, e.funs, e.frf, e.hok, e.bare⟩
  have hl := FL.len _ _ _ _ hsp
  have r2 : Vals [V.ref a] [Value.ref a] := .cons rfl .nil
  refine wpAny_bind (m := callSpecial? (.ref a) (Str.ofString "__len__")) (PySem.W.special_fn (name := "__len__") (args := []) I.kIn J hs (beq_iff_eq.mp hf) ?_)
  refine wpAny_call (codeAny_mono (FL.run A1.in1 X.stack s H ⟨[.ref a], []⟩ [.ref a] [.ref a] _ E0 sb.in1.room e0 (by
    have := hb s [.ref a] I.kIn (by simpa using hl)
    simpa using this) r2 hsp) fun r s' hq => ?_)
  cases r with
  | error e => exact False.elim hq
  | ok fl =>
    cases fl with
    | next => exact False.elim hq
    | brk => exact False.elim hq
    | cont => exact False.elim hq
    | ret u =>
      obtain ⟨v, H', I', rv, n, rfl, hn, qq⟩ := I.after hq
      obtain ⟨t, rfl⟩ := rv
      refine wpAny_bind (wpAny_holding (wpAny_pure ?_))
      refine wpAny_bind (wpAny_letGo ?_)
      show wpAny _ _ (if (n : Int) < 0 then _ else _) _ _ _
      rw [if_neg (by omega)]
      show wpAny _ _ (if (n : Int) ≥ 2 ^ 63 then _ else _) _ _ _
      rw [if_neg (by omega)]
      exact wpAny_bind (wpAny_mkInt (wpAny_pure ⟨_, rfl, n, _, H', rfl, hn, I'.tok _, qq⟩))
theorem call_lenI (FL : FnOk X.prog X.w X.K X.mg X.base CX0 k fl fdL psL spL) (hr : Room (k + 1) X.A) (hs : PySem.W.findIn X.K (.ref C) "__len__" = some (some (.ref fl))) (hf : PySem.W.isFn X.K (.ref fl) = true) (hb : Binds X.K fdL psL []) : CallR X (.builtin "len") (rLenI C spL) := by
  intro pins s σ H xs us Q I rv h
  obtain ⟨a, dx, fs, rfl, ha, hsp⟩ := h
  obtain rfl := Vals.ref1 rv
  refine wpAny_mono (len_I ⟨hr, rfl⟩ FL hs hf hb I ha hsp) (fun v s' ⟨n, t, H', e, _, I', qq⟩ => ?_) fun _ _ z => z
  subst e
  exact ⟨.int n, H', I', ⟨t, rfl⟩, qq⟩
/-! list of an instance -/
theorem sqT_put {K : PySem.W.Frag} {H : Hp} {t b : Addr} {zs ys : List V} {φ : Heap → Prop} {o1 o2 : HO} (h : SqT K H t zs) (h1 : H it = some (.ext φ)) (h2 : H b = some (.lst ys)) : SqT K (upd (upd H it o1) b o2) t zs := by
  rcases h with (h | ⟨o, h⟩) | h
  · exact .inl (.inl (by rw [upd_ne (ne_of h h2 (fun z => nomatch z)), upd_ne (ne_of h h1 (fun z => nomatch z))]; exact h))
  · exact .inl (.inr ⟨o, by rw [upd_ne (ne_of h h2 (fun z => nomatch z)), upd_ne (ne_of h h1 (fun z => nomatch z))]; exact h⟩)
  · exact .inr h
/-- the iterator at it runs to its end, what comes is laid in the list at q -/
theorem tup_loop {zs : List V} {t : Addr} {Rs : Result → Shared → Prop} (hh : A1.handled = none) (hq0 : q ≠ it) (hT : SqT X.K H t zs) {j : Nat} (h1 : H it = some (ItT t it j)) (h2 : H q = some (.lst []))
    (hdone : ∀ s, Inv X pins σ (upd (upd H it (ItD it)) q (.lst zs)) s → Rs (.ok (.ret .none)) s) :
    ∀ (m i : Nat) (s : Shared), i + m = zs.length → Inv X pins σ (upd (upd H it (ItT t it i)) q (.lst (zs.take i))) s →
      codeAny (model X.prog X.w) A1 (.builtin "list.extend.loop" ⟨[.ref q, .ref it, .none], []⟩) Rs s := by
  intro m
  induction m with
  | zero =>
    intro i s hi I
    have hit : s.heap.IsTupleIter it t i := itT_get I (by rw [upd_ne (Ne.symm hq0), upd_same])
    obtain ⟨its, rv, ht, hz⟩ := I.tuple (sqT_put hT h1 h2)
    refine codeAny_builtin PySem.F.entry_extend_loop ?_
    rw [Around.under_plainId PySem.F.plain_extend_loop _]
    show wpAny _ A1.in1 (pyNext (.ref it) >>= _) _ _ s
    have lz := rv.length
    refine wpAny_bind (GQ.next_end_keeps (show A1.in1.handled = none from hh) hit (show s.heap.IsTuple t its.toArray from ht) (by simp; omega) fun h' eb ex => ?_)
    have ei : i = zs.length := by omega
    rw [ei, List.take_length] at I
    have mu : Mut ((upd (upd H it (ItT t it zs.length)) q (.lst zs)) it) := by rw [upd_ne (Ne.symm hq0), upd_same]; exact True.intro
    have I2 := I.write (x := it) (e := it) (t' := s.toks) mu (.inl rfl) (fun b o nb z => eb b o nb z) ex (itD_ok ex)
    have eH : upd (upd (upd H it (ItT t it zs.length)) q (.lst zs)) it (ItD it) = upd (upd H it (ItD it)) q (.lst zs) := by
      funext b
      unfold upd
      by_cases b1 : b = it
      · subst b1
        rw [if_pos rfl, if_neg (Ne.symm hq0), if_pos rfl]
      · rw [if_neg b1, if_neg b1, if_neg b1]
    rw [eH] at I2
    exact wpAny_pure (hdone _ I2)
  | succ m ih =>
    intro i s hi I
    have hit : s.heap.IsTupleIter it t i := itT_get I (by rw [upd_ne (Ne.symm hq0), upd_same])
    obtain ⟨its, rv, ht, hz⟩ := I.tuple (sqT_put hT h1 h2)
    refine codeAny_builtin PySem.F.entry_extend_loop ?_
    rw [Around.under_plainId PySem.F.plain_extend_loop _]
    show wpAny _ A1.in1 (pyNext (.ref it) >>= _) _ _ s
    have hlt : i < zs.length := by omega
    obtain ⟨u, hu, ru⟩ := rv.get (List.getElem?_eq_getElem hlt)
    refine wpAny_bind (wpAny_pyNext_tuple_item hit (show s.heap.IsTuple t its.toArray from ht) (x := u) (by simpa using hu) fun h' st' sb => ?_)
    have mu : Mut ((upd (upd H it (ItT t it i)) q (.lst (zs.take i))) it) := by rw [upd_ne (Ne.symm hq0), upd_same]; exact True.intro
    have I2 := I.write (x := it) (e := it) (t' := s.toks) mu (.inl rfl) (fun b o nb z => (sb.2 b nb).trans z) ⟨_, st'.choose_spec.1⟩ (itT_ok st')
    have eH : upd (upd (upd H it (ItT t it i)) q (.lst (zs.take i))) it (ItT t it (i + 1)) = upd (upd H it (ItT t it (i + 1))) q (.lst (zs.take i)) := by
      funext b
      unfold upd
      by_cases b1 : b = it
      · subst b1
        rw [if_pos rfl, if_neg (Ne.symm hq0), if_pos rfl]
      · rw [if_neg b1, if_neg b1, if_neg b1]
    rw [eH] at I2
    show wpAny _ A1.in1 (updateSeq q (·.push u) >>= _) _ _ _
    obtain ⟨z, its2, k2, r2, hl2, e2⟩ := I2.lstM upd_same
    have lt2 := r2.length
    rw [List.length_take] at lt2
    refine wpAny_bind (wpAny_updateSeq e2 rfl (wpAny_pure ⟨plainId_quiet PySem.F.plain_extend_loop _, ?_⟩) (by rw [List.size_toArray]; omega) (by show (its2.toArray.push u).size ≤ sizeLine + 1; rw [Array.size_push, List.size_toArray]; omega))
    have I3 := I2.lset (f := (·.push u)) (its' := its2 ++ [u]) (ys := zs.take i ++ [zs[i]]) (t' := s.toks) upd_same e2 (by simp) (r2.append (.cons ru .nil)) (by rw [List.length_append, List.length_singleton, List.length_take]; omega)
    rw [upd_upd] at I3
    have et : zs.take i ++ [zs[i]] = zs.take (i + 1) := by rw [List.take_add_one, List.getElem?_eq_getElem hlt]; rfl
    rw [et] at I3
    exact ih (i + 1) _ (by omega) I3
theorem hint_I {dx : Addr} {fs : List (Str × V)} (sb : Sub X (k + 1) A1) (FL : FnOk X.prog X.w X.K X.mg X.base CX0 k fl fdL psL spL) (hs : PySem.W.findIn X.K (.ref C) "__len__" = some (some (.ref fl))) (hf : PySem.W.isFn X.K (.ref fl) = true) (hb : Binds X.K fdL psL [])
    (I : Inv X pins σ H s) (ha : H a = some (.ins C dx fs)) (hsp : spL [.ref a] H (fun v H' => ∃ n : Nat, v = .int n ∧ n ≤ 1000000 ∧ H' = H) E0) {E : Value → Shared → Prop} {Q : Bool → Shared → Prop} (h : ∀ b s', Inv X pins σ H s' → Q b s') :
    wpAny (model X.prog X.w) A1 (Builtin.List.listLengthHint (.ref a)) Q E s := by
  obtain ⟨mA, J, _⟩ := ins_get I.hok ha
  obtain ⟨od, J, _⟩ := J.look
  unfold Builtin.List.listLengthHint
  refine wpAny_bind (wpAny_bind (J.type.here ((PySem.W.looks_findIn I.kIn hs).here ?_)))
  refine PySem.W.KFB.if_not rfl ?_
  refine PySem.W.KFB.if_so rfl ?_
  refine wpAny_bind (wpAny_rule ?_)
  refine wpAny_bind (wpAny_attempt (wpAny_mono (len_I (Q := fun _ H' => H' = H) (E := fun _ _ => False) sb FL hs hf hb I ha hsp) (fun v s' ⟨n, t, H', e, hn, I', eH⟩ => ?_) fun _ _ z => z.elim))
  subst e eH
  show wpAny _ _ (if Builtin.List.listTooLong (n : Int).toNat = true then _ else _) _ _ _
  have hz : Builtin.List.listTooLong (n : Int).toNat = false := by
    unfold Builtin.List.listTooLong
    rw [sizeLine_eq]
    simp
    omega
  rw [hz, if_neg Bool.false_ne_true]
  exact wpAny_pure (h _ _ I')
/-- list of an instance whose __iter__ gives an iterator of a tuple -/
def rListI (K : PySem.W.Frag) (C : Addr) (spI spL : Sp) : List V → Hp → VK → Prop := fun xs H Q => ∃ a dx fs, xs = [.ref a] ∧ H a = some (.ins C dx fs) ∧ ∀ q, H q = none →
  spI [.ref a] (upd H q (.lst [])) (fun v H1 => ∃ it t zs, v = .ref it ∧ H1 it = some (ItT t it 0) ∧ SqT K H1 t zs ∧ H1 q = some (.lst []) ∧ H1 a = some (.ins C dx fs) ∧
    spL [.ref a] H1 (fun v H2 => ∃ n : Nat, v = .int n ∧ n ≤ 1000000 ∧ H2 = H1) E0 ∧ Q (.ref q) (upd (upd H1 it (ItD it)) q (.lst zs))) E0
theorem call_listI (hc : X.calm = true) (FI : FnOk X.prog X.w X.K X.mg X.base CX0 k fi fdI psI spI) (FL : FnOk X.prog X.w X.K X.mg X.base CX0 k fl fdL psL spL) (hi : PySem.W.findIn X.K (.ref C) "__iter__" = some (some (.ref fi))) (hiF : PySem.W.isFn X.K (.ref fi) = true) (bI : Binds X.K fdI psI [])
    (hs : PySem.W.findIn X.K (.ref C) "__len__" = some (some (.ref fl))) (hf : PySem.W.isFn X.K (.ref fl) = true) (bL : Binds X.K fdL psL []) (hr : Room (k + 3) X.A) : CallR X (.type "list") (rListI X.K C spI spL) := by
  intro pins s σ H xs us Q I rv h
  obtain ⟨a, dx, fs, rfl, ha, hq⟩ := h
  obtain ⟨u, rfl, ru⟩ := rv.one
  cases ru
  have sb : Sub X (k + 1) X.A.in1.in1 := (Sub.in1 (Sub.in1 (⟨hr, rfl⟩ : Sub X (k + 3) X.A)))
  refine callType_codes (Q₁ := fun obj s₁ => obj = .ref s.heap.objs.size ∧ s₁ = { s with heap := s.heap.push { cls := .type "list", data := .seq #[] } }) PySem.F.called_list (PySem.F.typeCall_list_1 _) PySem.F.entry_list_init
    (code_list_new _ ⟨rfl, rfl⟩) fun obj s₁ h₁ => ?_
  obtain ⟨rfl, rfl⟩ := h₁
  have hS : (s.heap.push { cls := .type "list", data := .seq #[] }).get? s.heap.objs.size = some { cls := .type "list", data := .seq #[] } := Heap.get?_push_size _ rfl
  refine ⟨⟨_, hS, rfl⟩, PySem.F.args_list_init_2 _ _, ?_⟩
  have fr : H s.heap.objs.size = none := I.hok.fresh (Nat.le_refl _)
  have hsp := hq _ fr
  have I1 : Inv X pins σ (upd H s.heap.objs.size (.lst [])) { s with heap := s.heap.push { cls := .type "list", data := .seq #[] } } := I.lnew (its := []) (t' := s.toks) .nil (Nat.zero_le _)
  generalize s.heap.objs.size = q at *
  show wpAny _ _ (do let old ← Builtin.List.listItems (.ref q); Builtin.List.listUpdate (.ref q) (fun _ => #[]); letGo old.toList.reverse; Builtin.List.listExtendWith (.ref q) (.ref a) .none) _ _ _
  refine wpAny_bind ?_
  unfold Builtin.List.listItems
  refine wpAny_bind (wpAny_seqItems hS rfl (wpAny_pure ?_))
  show wpAny _ _ (updateSeq q (fun _ => #[]) >>= fun _ => letGo (#[] : Array Value).toList.reverse >>= fun _ => Builtin.List.listExtendWith (.ref q) (.ref a) .none) _ _ _
  refine wpAny_bind (wpAny_updateSeq hS rfl ?_)
  have I2 := I1.lset (f := fun _ => #[]) (its := []) (its' := []) (ys := []) (t' := s.toks) upd_same hS rfl .nil (Nat.zero_le _)
  rw [upd_upd] at I2
  refine wpAny_bind (wpAny_letGo ?_)
  have ha2 : upd H q (.lst []) a = some (.ins C dx fs) := by rw [upd_ne (ne_of_none ha fr)]; exact ha
  generalize hs2 : ({ s with heap := _, toks := s.toks } : Shared) = s2 at I2 ⊢
  have hne : q ≠ a := Ne.symm (ne_of_none ha fr)
  obtain ⟨mA, J, _⟩ := ins_get I2.hok ha2
  obtain ⟨od, J, _⟩ := J.look
  obtain ⟨m0, hF⟩ := I2.fr
  unfold Builtin.List.listExtendWith
  refine wpAny_bind (J.type.here ?_)
  have h1 : Builtin.List.listSameRef (.ref q) (.ref a) = false := by simp [Builtin.List.listSameRef, hne]
  have h2 : (Value.ref C == Value.type "list") = false := rfl
  have h3 : (Value.ref C == Value.type "tuple") = false := rfl
  simp only [h1, h2, h3, Bool.or_false, Bool.false_eq_true, if_false]
  refine wpAny_bind (PySem.W.owit_iter hF I2.ok.mod.kin J hi hiF ?_)
  have e0 : Env0 X.prog X.w X.K X.mg X.base X.A.in1.in1 X.stack s2 (upd H q (.lst [])) := by
    have e := I2.env0
    exact ⟨by rw [sb.fr]; exact e.frames, e.mod, e.bs, e.bsz, e.funs, e.frf, e.hok, e.bare⟩
  have hl := FI.len _ _ _ _ hsp
  have r2 : Vals [V.ref a] [Value.ref a] := .cons rfl .nil
  refine wpAny_call (codeAny_mono (FI.run X.A.in1.in1 X.stack s2 (upd H q (.lst [])) ⟨[.ref a], []⟩ [.ref a] [.ref a] _ E0 (sb.mono (Nat.le_succ k)).room e0 (by
    have := bI s2 [.ref a] I2.kIn (by simpa using hl)
    simpa using this) r2 hsp) fun r s' hq' => ?_)
  cases r with
  | error e => exact False.elim hq'
  | ok fl =>
    cases fl with
    | next => exact False.elim hq'
    | brk => exact False.elim hq'
    | cont => exact False.elim hq'
    | ret u =>
      obtain ⟨v, H', I', rv, it, t, zs, rfl, hit, hT, hqq, ha', hL, qq⟩ := I2.after hq'
      cases rv
      have hgit := itT_get I' hit
      unfold PySem.W.OwitIt
      refine wpAny_specialOf hgit.typeIs PySem.F.slot_tuple_iterator_next.lookup ?_
      refine wpAny_bind (wpAny_holding (hint_I sb FL hs hf bL I' ha' hL fun b s3 I3 => ?_))
      have hq0 : q ≠ it := ne_of hqq hit (fun z => nomatch z)
      have go : ∀ s4, Inv X pins σ H' s4 → codeAny (model X.prog X.w) X.A.in1 (.builtin "list.extend.loop" ⟨[.ref q, .ref it, .none], []⟩) (wants (fun r s₂ => r = .none ∧ EP X pins σ Q (.ref q) s₂) X.xe) s4 := fun s4 I4 => by
        refine tup_loop (A1 := X.A.in1) (I4.ok.hd hc) hq0 hT hit hqq (fun s5 I5 => ⟨rfl, .ref q, _, I5, rfl, qq⟩) zs.length 0 s4 (by omega) ?_
        have eH : upd (upd H' it (ItT t it 0)) q (.lst (zs.take 0)) = H' := by
          funext b
          unfold upd
          by_cases b1 : b = q
          · rw [if_pos b1, b1]; exact hqq.symm
          · rw [if_neg b1]
            by_cases b2 : b = it
            · rw [if_pos b2, b2]; exact hit.symm
            · rw [if_neg b2]
        rw [eH]
        exact I4
      refine wpAny_ite_split (fun _ => ?_) (fun _ => wpAny_pure ⟨plainId_quiet PySem.F.plain_extend_loop _, go s3 I3⟩)
      refine wpAny_bind (wpAny_rule ?_)
      refine wpAny_bind ?_
      show wpAny _ _ (updateSeq q (·.push .none) >>= fun _ => updateSeq q (·.pop)) _ _ _
      obtain ⟨z, its, k3, r3, hl3, e3⟩ := I3.lstM hqq
      cases r3
      refine wpAny_bind (wpAny_updateSeq e3 rfl ?_)
      have I4 := I3.lset (f := (·.push Value.none)) (its' := [Value.none]) (ys := [.non]) (t' := s3.toks) hqq e3 (by simp) (.cons rfl .nil) (by rw [List.length_singleton, sizeLine_eq]; decide)
      obtain ⟨z4, its4, k4, r4, hl4, e4⟩ := I4.lstM upd_same
      obtain ⟨u4, rfl, ru4⟩ := r4.one
      refine wpAny_updateSeq e4 rfl ?_ (by show 1 ≤ sizeLine; rw [sizeLine_eq]; decide) (by show 0 ≤ sizeLine + 1; exact Nat.zero_le _)
      refine wpAny_pure ⟨plainId_quiet PySem.F.plain_extend_loop _, go _ ?_⟩
      have I5 := I4.lset (f := (·.pop)) (its := [u4]) (its' := []) (ys := []) (t' := s3.toks) upd_same e4 (by rfl) .nil (Nat.zero_le _)
      rw [upd_upd] at I5
      have hH : upd H' q (.lst []) = H' := by
        funext b
        by_cases hb : b = q
        · rw [hb, upd_same, hqq]
        · rw [upd_ne hb]
      rw [hH] at I5
      exact I5
end
end L2

/-! bool(an instance) by its own __len__ -/
namespace K9
open PySem PyProof.Rows
theorem meets_bool (prog : Program) (w : World) (a : Addr) : MeetsIn prog w (Builtin.«bool.__new__» ⟨[.type "bool", .ref a], []⟩) (fun A R s => wpAny (model prog w) A.in1 (truthy (.ref a)) (fun b s' => R (.ok (.ret (.bool b))) s') (fun e s' => R (.error e) s') s) := by
  intro A R s hs
  obtain ⟨hp, g, d, tk, os⟩ := s
  have f1 := F.conv_sub_bool
  repeat (any_goals (first | (with_reducible refine wpAny_mono hs (fun b s' hb => ?_) fun e s' he => he) | wp_step))
  all_goals exact hb
end K9
namespace L2
open PySem PySem.Spec PyProof.Rows
section
variable {X : Cx} {pins : List (Addr × Obj)} {σ : St} {H : Hp} {s : Shared} {a : Addr}
variable {C fl : Addr} {fdL : FuncData} {psL : List Str} {spL : Sp} {k : Nat} {A1 : Around}
theorem truth_I {Q : VK} {dx : Addr} {fs : List (Str × V)} (sb : Sub X (k + 1) A1) (FL : FnOk X.prog X.w X.K X.mg X.base CX0 k fl fdL psL spL) (hB : PySem.W.findIn X.K (.ref C) "__bool__" = some none) (hs : PySem.W.findIn X.K (.ref C) "__len__" = some (some (.ref fl))) (hf : PySem.W.isFn X.K (.ref fl) = true) (hb : Binds X.K fdL psL [])
    (I : Inv X pins σ H s) (ha : H a = some (.ins C dx fs)) (hsp : spL [.ref a] H (fun v H' => ∃ n : Nat, v = .int n ∧ n ≤ 1000000 ∧ Q (.bl (n != 0)) H') E0) {E : Value → Shared → Prop} :
    wpAny (model X.prog X.w) A1 (truthy (.ref a)) (fun b s' => ∃ H', Inv X pins σ H' s' ∧ Q (.bl b) H') E s := by
  obtain ⟨mA, J, _⟩ := ins_get I.hok ha
  obtain ⟨od, J, _⟩ := J.look
  have Xk := I.kIn
  unfold truthy
  refine wpAny_bind (m := callSpecial? (.ref a) (Str.ofString "__bool__")) (wpAny_bind (wpAny_bind (J.type.here ((PySem.W.looks_findIn Xk hB).here (wpAny_pure ?_)))))
  refine wpAny_bind (wpAny_bind (J.type.here ((PySem.W.looks_findIn Xk hs).here ?_)))
  show wpAny _ _ (if (some (Value.ref fl)).isNone = true then _ else _) _ _ _
  rw [if_neg (by simp)]
  refine wpAny_bind (wpAny_runValue (codeAny_builtin entry_len ?_))
  rw [Around.under_plainId plain_len _]
  unfold Builtin.«len»
  refine wpAny_bind (m := oneArg "len" _) (wpAny_pure ?_)
  have e0 : Env0 X.prog X.w X.K X.mg X.base A1.in1 X.stack s H := by
    have e := I.env0
    exact ⟨by rw [sb.in1.fr]; exact e.frames, e.mod, e.bs, e.bsz, e.funs, e.frf, e.hok, e.bare⟩
  have hl := FL.len _ _ _ _ hsp
  have r2 : Vals [V.ref a] [Value.ref a] := .cons rfl .nil
  refine wpAny_bind (m := callSpecial? (.ref a) (Str.ofString "__len__")) (PySem.W.special_fn (name := "__len__") (args := []) I.kIn J hs (beq_iff_eq.mp hf) ?_)
  refine wpAny_call (codeAny_mono (FL.run A1.in1 X.stack s H ⟨[.ref a], []⟩ [.ref a] [.ref a] _ E0 sb.in1.room e0 (by
    have := hb s [.ref a] I.kIn (by simpa using hl)
    simpa using this) r2 hsp) fun r s' hq => ?_)
  cases r with
  | error e => exact False.elim hq
  | ok fl =>
    cases fl with
    | next => exact False.elim hq
    | brk => exact False.elim hq
    | cont => exact False.elim hq
    | ret u =>
      obtain ⟨v, H', I', rv, n, rfl, hn, qq⟩ := I.after hq
      obtain ⟨t, rfl⟩ := rv
      refine wpAny_bind (wpAny_holding (wpAny_pure ?_))
      refine wpAny_bind (wpAny_letGo ?_)
      show wpAny _ _ (if (n : Int) < 0 then _ else _) _ _ _
      rw [if_neg (by omega)]
      show wpAny _ _ (if (n : Int) ≥ 2 ^ 63 then _ else _) _ _ _
      rw [if_neg (by omega)]
      refine wpAny_bind (wpAny_mkInt (wpAny_pure ?_))
      show wpAny _ _ (pure ((n : Int) != 0)) _ _ _
      refine wpAny_pure ⟨H', I'.tok _, ?_⟩
      rw [show ((n : Int) != 0) = (n != 0) by cases n <;> rfl]
      exact qq
/-- bool(x), x of the class at C, by its own __len__ -/
theorem call_boolI (FL : FnOk X.prog X.w X.K X.mg X.base CX0 k fl fdL psL spL) (hr : Room (k + 1 + 1 + 1) X.A) (hB : PySem.W.findIn X.K (.ref C) "__bool__" = some none) (hs : PySem.W.findIn X.K (.ref C) "__len__" = some (some (.ref fl))) (hf : PySem.W.isFn X.K (.ref fl) = true) (hb : Binds X.K fdL psL []) :
    CallR X (.type "bool") (fun xs H Q => ∃ a dx fs, xs = [.ref a] ∧ H a = some (.ins C dx fs) ∧ spL [.ref a] H (fun v H' => ∃ n : Nat, v = .int n ∧ n ≤ 1000000 ∧ Q (.bl (n != 0)) H') E0) := by
  intro pins s σ H xs us Q I rv h
  obtain ⟨a, dx, fs, rfl, ha, hsp⟩ := h
  obtain rfl := Vals.ref1 rv
  have sb : Sub X (k + 1 + 1 + 1) X.A := ⟨hr, rfl⟩
  refine callType_newIn F.called_bool F.newNe_bool (F.typeCall_bool_1 _) (F.newCall_bool_1 _) (fun obj => F.args_object_init_2 obj _) F.entry_bool_new (K9.meets_bool _ _ a) ?_
  refine wpAny_mono (truth_I (Q := Q) sb.in1.in1 FL hB hs hf hb I ha hsp) (fun b s' ⟨H', I', q⟩ => ?_) fun _ _ z => z
  exact ⟨PySem.typeIs_bool _ _, .bl b, H', I', rfl, q⟩
end
end L2

/-! x != y, x an instance of a class with an own == and no own != -/
namespace L2
open PySem PySem.Spec PyProof.Rows Builtin
section
variable {prog : Program} {w : World} {A : Around} {E : Value → Shared → Prop} {s : Shared} {K : PySem.W.Frag} {x C L f : Addr} {h₀ : Heap} {m : Str → Option Value} {ox : Obj} {od : Option Obj} {b tb : Value}
theorem ne_body {Q : Fin → Shared → Prop} (X : K.In s.heap) (I : PySem.W.InstAt s.heap x ox C od) (hs : PySem.W.findIn K (.ref C) "__eq__" = some (some (.ref f))) (hf : PySem.W.isFn K (.ref f) = true) (hu : A.units < cLine)
    (h : wpAny (model prog w) A (call (.ref f) [.ref x, b]) (fun v s' => ∃ r, v = .bool r ∧ Q (.done (.ret (.bool (!r)))) s') E s) : wpAny (model prog w) A (Builtin.«object.__ne__» ⟨[.ref x, b], []⟩) Q E s := by
  unfold Builtin.«object.__ne__»
  repeat (first
    | with_reducible refine wpAny_cRoomFor hu ?_
    | (refine wpAny_bind (m := callSpecialIfBound? (.ref x) (Str.ofString "__eq__") [b])
        (PySem.W.ifBound_K X I hs hf (wpAny_mono h (fun v s' hr => by
          obtain ⟨r, rfl, hq⟩ := hr
          repeat (first | exact hq | exact wpAny_pure hq | exact wpAny_truthy_bool hq | (refine wpAny_bind (m := truthy (.bool _)) (wpAny_truthy_bool ?_)) | wp_step)) fun _ _ e => e)))
    | wp_step)
theorem ne_slot : Slot "object" "__ne__" "object.__ne__" := F.cmp_object.ne
theorem ne_try {Q : Option Value → Shared → Prop} (X : K.In s.heap) (I : PySem.W.InstAt s.heap x ox C od) (hs : PySem.W.findIn K (.ref C) "__eq__" = some (some (.ref f))) (hf : PySem.W.isFn K (.ref f) = true)
    (hn : PySem.W.findIn K (.ref C) "__ne__" = some (some (.builtin "object.__ne__"))) (hm : PySem.W.mroIn K C (.type "object") = some true) (hu : A.units + 1 < cLine)
    (h : wpAny (model prog w) A.in1 (call (.ref f) [.ref x, b]) (fun v s' => ∃ r, v = .bool r ∧ Q (some (.bool (!r))) s') E s) : wpAny (model prog w) A (tryCompare (.ref x) "__ne__" b) Q E s := by
  have sub : PySem.W.Looks (model prog w) s.heap (isInstance (.ref x) (.type "object")) true := I.type.andThen (PySem.W.looks_mroIn X hm)
  have call_ : wpAny (model prog w) A (call (.builtin "object.__ne__") ([.ref x] ++ [b])) (fun v s' => ∃ r, v = .bool r ∧ Q (some (.bool (!(!r)))) s' ∨ ∃ r, v = .bool (!r) ∧ Q (some (.bool (!r))) s') E s := by
    refine wpAny_call (codeAny_call_builtin ne_slot.plain F.cmpEntry_ne (PySem.W.check_slot F.cmpKind_ne F.cmpSplit_ne sub (F.cmpArgs_ne _ _) (ne_body (A := A.in1) X I hs hf hu (wpAny_mono h (fun v s' hv => ?_) fun _ _ e => e))))
    obtain ⟨r, rfl, hq⟩ := hv
    exact ⟨r, rfl, ⟨r, .inr ⟨r, rfl, hq⟩⟩⟩
  have special : wpAny (model prog w) A (callSpecialIfBound? (.ref x) "__ne__" [b]) (fun v s' => ∃ r, v = some (.bool (!r)) ∧ Q (some (.bool (!r))) s') E s := by
    simp only [callSpecialIfBound?, bindSpecialIfBound?]
    refine wpAny_holding (wpAny_bind (wpAny_bind (wpAny_bind (I.type.here ((PySem.W.looks_findIn X hn).here ?_)))))
    refine wpAny_bind (wpAny_askSetting (wpAny_ite ?_))
    have fin : wpAny (model prog w) A (call (.builtin "object.__ne__") ([.ref x] ++ [b]) >>= fun v => pure (some v)) (fun v s' => ∃ r, v = some (.bool (!r)) ∧ Q (some (.bool (!r))) s') E s :=
      wpAny_bind (wpAny_mono call_ (fun v s' h' => wpAny_pure (by
        obtain ⟨r, h' | ⟨r', e, q⟩⟩ := h'
        · exact ⟨!r, by rw [h'.1, Bool.not_not], h'.2⟩
        · exact ⟨r', by rw [e], q⟩)) fun _ _ h' => h')
    simp only [ne_slot.bind]
    split
    · exact wpAny_bind (wpAny_pure (wpAny_pure fin))
    · exact wpAny_tryCatch (wpAny_bind (wpAny_pure (wpAny_pure fin)))
  unfold tryCompare
  refine wpAny_bind (wpAny_mono special (fun v s' h' => ?_) fun _ _ e => e)
  obtain ⟨r, rfl, hq⟩ := h'
  exact wpAny_pure hq
theorem ne_K {Q : Value → Shared → Prop} (hu : A.units + 1 < cLine) (Fx : PyProof.Rows.Fr h₀ L s.heap m) (X₀ : K.In h₀) (I : PySem.W.InstAt s.heap x ox C od) (hb : PySem.W.Looks (model prog w) s.heap (typeOf b) tb) (hn : PySem.W.notFirst K C tb = true)
    (hs : PySem.W.findIn K (.ref C) "__eq__" = some (some (.ref f))) (hf : PySem.W.isFn K (.ref f) = true) (hne : PySem.W.findIn K (.ref C) "__ne__" = some (some (.builtin "object.__ne__"))) (hm : PySem.W.mroIn K C (.type "object") = some true)
    (h : wpAny (model prog w) A.in1 (call (.ref f) [.ref x, b]) (fun v s' => ∃ r, v = .bool r ∧ Q (.bool (!r)) s') E s) : wpAny (model prog w) A (richCompare .NotEq (.ref x) b) Q E s := by
  have X := X₀.keeps Fx.keep
  have one : wpAny (model prog w) A (tryCompare (.ref x) "__ne__" b) (fun r s' => ∃ v, r = some v ∧ Q v s') E s := ne_try X I hs hf hne hm hu (wpAny_mono h (fun v s' hv => let ⟨r, e, q⟩ := hv; ⟨r, e, _, rfl, q⟩) fun _ _ e => e)
  unfold richCompare
  simp only [oneThing_ref, cmpInfo_NotEq]
  refine wpAny_holding (wpAny_bind (wpAny_cRoomFor (Nat.lt_of_succ_lt hu) ?_))
  refine wpAny_bind (I.type.here (wpAny_bind (hb.here ?_)))
  split
  · rename_i q
    have e : PySem.W.subIn K tb (.ref C) = some false := by
      rcases Bool.or_eq_true_iff.mp hn with e | e
      · rw [beq_iff_eq.mp e] at q; simp at q
      · exact beq_iff_eq.mp e
    refine wpAny_bind ((PySem.W.looks_subIn X e).here ?_)
    simp only [Bool.false_eq_true, if_false]
    refine wpAny_bind (wpAny_mono one (fun r s' z => ?_) fun _ _ e => e)
    obtain ⟨v, rfl, hq⟩ := z
    exact wpAny_pure hq
  · refine wpAny_bind (wpAny_pure ?_)
    simp only [Bool.false_eq_true, if_false]
    refine wpAny_bind (wpAny_mono one (fun r s' z => ?_) fun _ _ e => e)
    obtain ⟨v, rfl, hq⟩ := z
    exact wpAny_pure hq
end
section
variable {X : Cx} {CX : CXT} {k : Nat} {f C : Addr} {fd : FuncData} {ps : List Str} {sp : Sp}
def rNeOwn (K : PySem.W.Frag) (C : Addr) (sp : Sp) (E : XK) : R2 := fun x y H Q => ∃ (a dx : Addr) (fs : List (Str × V)) (t : Value), x = .ref a ∧ H a = some (.ins C dx fs) ∧ TyX K H y t ∧ PySem.W.notFirst K C t = true ∧ sp [.ref a, y] H (fun v H' => ∃ b, v = .bl b ∧ Q (.bl (!b)) H') E
theorem op_neOwn {E : XK} (F : FnOk X.prog X.w X.K X.mg X.base CX k f fd ps sp) (hr : Room (k + 1) X.A) (hs : PySem.W.findIn X.K (.ref C) "__eq__" = some (some (.ref f))) (hf : PySem.W.isFn X.K (.ref f) = true)
    (hne : PySem.W.findIn X.K (.ref C) "__ne__" = some (some (.builtin "object.__ne__"))) (hm : PySem.W.mroIn X.K C (.type "object") = some true) (hb : Binds X.K fd ps []) (hx : Passes CX X E) : OpR X (compareOp .NotEq) (rNeOwn X.K C sp E) := by
  intro pins s σ H x y v u Q I rx ry hq
  obtain ⟨a, dx, fs, t, rfl, ha, ty, hn, q⟩ := hq
  cases rx
  obtain ⟨mA, J, _⟩ := ins_get I.hok ha
  obtain ⟨od, J, _⟩ := J.look
  obtain ⟨P, Z, pz, _⟩ := kit_of I ry ty
  obtain ⟨m, hF⟩ := I.fr
  show wpAny (model X.prog X.w) X.A (richCompare .NotEq (.ref a) u) (EP X pins σ Q) X.xe s
  have hu1 : X.A.units + 1 < cLine := by have := hr.un; omega
  refine ne_K hu1 hF I.ok.mod.kin J (Z.ty _ _ I.kIn pz) hn hs hf hne hm ?_
  have r2 : Vals [V.ref a, y] [Value.ref a, u] := .cons rfl (.cons ry .nil)
  have hl : [Value.ref a, u].length = ps.length := by rw [← r2.length]; exact F.len _ _ _ _ q
  have b := hb s [Value.ref a, u] I.kIn (by rw [List.append_nil]; exact hl)
  rw [List.append_nil] at b
  refine wpAny_call (codeAny_mono (F.run X.A.in1 X.stack s H ⟨[.ref a, u], []⟩ [.ref a, u] [.ref a, y] _ E hr.in1 I.env0.in1 b r2 q) fun r s' hq => ?_)
  cases r with
  | error e => exact hx pins σ H s e s' I hq
  | ok fl =>
    cases fl with
    | ret w =>
      obtain ⟨z, H', I', rz, c, ez, q'⟩ := I.after hq
      subst ez
      cases rz
      exact ⟨c, rfl, .bl (!c), H', I', rfl, q'⟩
    | next => exact False.elim hq
    | brk => exact False.elim hq
    | cont => exact False.elim hq
end
end L2

namespace K5
open PySem L2
abbrev sHolds : Stmt := top 31
abbrev nHolds : List Str := ["_law_rule", "_law_parts_here", "_law_things", "_law_thing"]
/-- what is known of the class of rules: its methods -/
structure RuleD (P : Program) (w : World) (K : PySem.W.Frag) (mg : Str → Option Value) (base : Heap) (CR : Addr) : Prop where
  len : ∃ f fd, FnOk P w K mg base CX0 1 f fd ["self"] (spRLen K CR) ∧ PySem.W.findIn K (.ref CR) "__len__" = some (some (.ref f)) ∧ PySem.W.isFn K (.ref f) = true ∧ Binds K fd ["self"] []
  noB : PySem.W.findIn K (.ref CR) "__bool__" = some none
  inn : ∃ f fd, FnOk P w K mg base CX0 1 f fd ["self", "x"] (spRIn K CR) ∧ InO K CR f ∧ Binds K fd ["self", "x"] []
  eq : ∃ f fd, FnOk P w K mg base CX0 1 f fd ["self", "other"] (spREq K CR) ∧ PySem.W.findIn K (.ref CR) "__eq__" = some (some (.ref f)) ∧ PySem.W.isFn K (.ref f) = true ∧ Binds K fd ["self", "other"] []
  ne : PySem.W.findIn K (.ref CR) "__ne__" = some (some (.builtin "object.__ne__"))
  wi : ∃ f fd, FnOk P w K mg base CX0 1 f fd ["self", "other"] (spRWi K CR) ∧ Meth K CR "within" f ∧ Binds K fd ["self", "other"] []
  or_ : ∃ f fd, FnOk P w K mg base CX0 8 f fd ["self", "other"] (spROp K CR (· ++ ·) (· ++ ·)) ∧ OpO K CR f .BitOr "__or__" ∧ Binds K fd ["self", "other"] []
  and_ : ∃ f fd, FnOk P w K mg base CX0 8 f fd ["self", "other"] (spROp K CR bothF bothF) ∧ OpO K CR f .BitAnd "__and__" ∧ Binds K fd ["self", "other"] []
  sub_ : ∃ f fd, FnOk P w K mg base CX0 8 f fd ["self", "other"] (spROp K CR lessF lessF) ∧ OpO K CR f .Sub "__sub__" ∧ Binds K fd ["self", "other"] []
def things19 : List PyData := [.str "left", .str "doubled", .str "swapped", .str "word", .str "number", .str "sign", .str "written", .str "", .none, .int 1, .list [.str "left"], lkP ("a", "b"), lkP ("b", "a"), lkP (";", ","), lkP ("a", "="), lkP ("0", "999999999"), .list [.str "a", .str "b"], .tuple [.str "a"], .tuple [.str "left"]]
theorem things_fair : Fair things19 := by
  have h : things19.all fairB = true := by decide +kernel
  exact fun d hd => fair_of (List.all_eq_true.mp h d hd)
theorem in_false {ks : List Str} {ls : List (Str × Str)} {d : PyData} (h : textTup d = false) : inP ks ls d = false := by
  unfold inP
  refine List.any_eq_false.mpr fun e he => ?_
  have z : PyData.eqv e d = false := by
    rcases List.mem_append.mp he with he | he
    · obtain ⟨y, _, rfl⟩ := List.mem_map.mp he
      cases d <;> first | (cases h; done) | (rw [PyData.eqv]; all_goals simp)
    · obtain ⟨y, _, rfl⟩ := List.mem_map.mp he
      unfold lkP
      cases d <;> first | (cases h; done) | (rw [PyData.eqv]; all_goals simp)
  rw [z]
  exact Bool.false_ne_true
theorem in_text {ks : List Str} {ls : List (Str × Str)} (d : PyData) : (textTup d && inP ks ls d) = inP ks ls d := by
  cases h : textTup d with
  | true => rfl
  | false => rw [in_false h]; rfl
theorem all_in {ks : List Str} {ls : List (Str × Str)} (o : RuleOk ks ls) : (paD ks ls).all (inP ks ls) = true := List.all_eq_true.mpr fun d hd => List.any_eq_true.mpr ⟨d, hd, eqv_self (o.one d hd)⟩
theorem FRu_wi (k l p : V) : (FRu k l p).lookup ("within" : Str) = none := by kernel_rfl
def spHolds (K : PySem.W.Frag) (CR : Addr) : Sp := fun vs H Q _ => ∃ (x a : Addr) (us : List V) (ks : List Str) (ls : List (Str × Str)), vs = [.ref x, .ref a] ∧ RuleV K CR H x ks ls ∧ RuleG ks ls ∧ H a = some (.lst us) ∧ DpAll K H us (paD ks ls) ∧ ∀ H', Same H H' → Q (.bl true) H'
section
variable {P : Program} {w : World} {K : PySem.W.Frag} {mg : Str → Option Value} {base : Heap} {CR : Addr}
theorem scHolds : FnScope nHolds ["_law_rule", "_law_parts_here"] (defScope sHolds) := ⟨rfl, rfl, rfl, by decide +kernel, rfl, by decide +kernel, by decide +kernel⟩
theorem ok_holds {f : Addr} {fd : FuncData} (F : Fun K "_law_holds" "_law_holds" sHolds f fd) (T : Bare mg) (RC : RuleC K mg CR) (RD : RuleD P w K mg base CR) : FnOk P w K mg base CX0 5 f fd ["_law_rule", "_law_parts_here"] (spHolds K CR) := by
  refine F.ok scHolds (fun vs H Q E h => ?_) (fun cdv A outer s H vs Q E hr h => ?_)
  · obtain ⟨x, a, us, ks, ls, rfl, _⟩ := h
    rfl
  · obtain ⟨x, a, us, ks, ls, rfl, hR, G, ha, hus, q⟩ := h
    obtain ⟨fL, fdL, FL, hsL, hfL, bL⟩ := RD.len
    obtain ⟨fI, fdI, FI, oI, bI⟩ := RD.inn
    obtain ⟨fW, fdW, FW, mW, bW⟩ := RD.wi
    have hr4 : Room 4 _ := hr
    have hr2 : Room 2 _ := hr.mono (by decide)
    have hr1 : Room 1 _ := hr.mono (by decide)
    have ok := G.ok
    have n := ok.n
    refine ⟨_, (C8.pss_cut (ps_set (i := 2) scHolds.nd rfl (.inl rfl) (pe_lst (pa_cons pe_str (pa_cons pe_str (pa_cons pe_str (pa_cons pe_str (pa_cons pe_str (pa_cons pe_str (pa_cons pe_str (pa_cons pe_str (pa_cons pe_non (pa_cons pe_int (pa_cons (pe_lst (pa_cons pe_str pa_nil)) (pa_cons (pe_tup (pa_cons pe_str (pa_cons pe_str pa_nil))) (pa_cons (pe_tup (pa_cons pe_str (pa_cons pe_str pa_nil))) (pa_cons (pe_tup (pa_cons pe_str (pa_cons pe_str pa_nil))) (pa_cons (pe_tup (pa_cons pe_str (pa_cons pe_str pa_nil))) (pa_cons (pe_tup (pa_cons pe_str (pa_cons (pe_op op_mulS pe_str pe_int) pa_nil))) (pa_cons (pe_lst (pa_cons pe_str (pa_cons pe_str pa_nil))) (pa_cons (pe_tup (pa_cons pe_str pa_nil)) (pa_cons (pe_tup (pa_cons pe_str pa_nil)) pa_nil)))))))))))))))))))))
        (C8.pss_cut (ps_for PassesOwn.never rfl (pi_list (pv 2)) (pg_name (i := 3) scHolds.nd rfl (.inl rfl))
        (pss_one (ps_if (pt_cmpR op_ne (pe_cmpR (op_inO (E := fun _ _ _ => False) FI hr1 oI bI (fun σ => fun _ _ _ _ _ _ h => h.elim)) (pv 3) (pv 0) (by rfl)) (pe_cmpR (op_inA (Room.units5 hr)) (pv 3) (pv 1) (by rfl)) (nomark _)) (pss_one (ps_ret pe_bl)) pss_nil)))
        (pss_one (ps_ret (pe_and (pe_cmpR op_eq (pe_callB (call_lenI FL hr2 hsL hfL bL) (by rfl) T.len PySem.boot_len (pa_cons (pv 0) pa_nil)) (pe_callB call_len_seq (by rfl) T.len PySem.boot_len (pa_cons (pv 1) pa_nil)) (nomark _)) (pe_and (pe_cmpR op_isAny (pe_meth (E := fun _ _ _ => False) (pv 0) RC.cl mW FW hr1 bW .nil pass0 (pa_cons (pv 0) pa_nil)) pe_bl (nomark _)) (pe_one (pe_cmpR op_eq (pe_cmpR op_gt (pe_callB (call_lenI FL hr2 hsL hfL bL) (by rfl) T.len PySem.boot_len (pa_cons (pv 0) pa_nil)) pe_int (nomark _)) (pe_callTy (call_boolI FL hr4 RD.noB hsL hfL bL) (by rfl) T.bool (by decide +kernel) (pa_cons (pv 0) pa_nil)) (nomark _))))))))), ?_⟩
    refine ⟨fun σ H' => ∃ T us2, σ = [some (.ref x), some (.ref a), some (.ref T), none] ∧ Same H H' ∧ H' T = some (.lst us2) ∧ DpAll K H' us2 things19, lst_new (K := K) (ds := things19) (by unfold things19; repeat (first | exact gs_nil | exact g_str _ | exact g_non | exact g_bl _ | exact g_nine | exact g_int _ | refine gs_cons ?_ ?_ | refine g_tup ?_ (by decide) | refine g_lst ?_ (by decide))) (by decide) fun T us2 H' h1 h2 h3 s => ⟨T, us2, rfl, s, h2, h3⟩, ?_⟩
    rintro σ H1 ⟨T0, us2, rfl, s1, hT, hus2⟩
    refine ⟨fun σ H' => (∃ z, σ = [some (.ref x), some (.ref a), some (.ref T0), z]) ∧ Same H1 H', ?_, ?_⟩
    · refine ⟨_, rfl, T0, rfl, ⟨_, SqL.of hT⟩, for_list (K := K) (a := T0) (xs := us2) (fun i σ H' => (∃ z, σ = [some (.ref x), some (.ref a), some (.ref T0), z]) ∧ Same H1 H') ⟨⟨_, rfl⟩, Same.refl H1⟩ (fun i σ H' _ h => SqL.of (h.2 _ _ hT)) (fun i u σ H2 hu h => ?_) (fun σ H2 h => h)⟩
      obtain ⟨⟨z, rfl⟩, s2⟩ := h
      obtain ⟨d, hd, hdu⟩ := DpAll.at2 hus2 hu
      have md := List.mem_of_getElem? hd
      have sd := (things_fair d md).shaped
      have s02 := s1.trans s2
      obtain ⟨dx, k, l, p, hx, hk, hl, hp⟩ := hR.same s02
      refine ⟨_, rfl, _, rfl, x, dx, _, rfl, hx, x, u, d, ks, ls, rfl, hR.same s02, ok, dp_same s2 _ hdu, sd, fun H3 s3 => ⟨_, rfl, ?_⟩⟩
      refine ⟨_, rfl, _, rfl, d, _, dp_same (s2.trans s3) _ hdu, .inl (.lst (SqL.of (s3 _ _ (s02 _ _ ha))) (dpAll_same (s02.trans s3) _ hus)), sd, ok.p, rfl, _, rfl, ?_⟩
      rw [in_text]
      have e : (!decide (V.bl (inP ks ls d) = V.bl (false != (paD ks ls).any fun z => PyData.eqv z d))) = false := by
        rw [Bool.false_bne]
        show (!decide (V.bl (inP ks ls d) = V.bl (inP ks ls d))) = false
        rw [decide_eq_true rfl]
        rfl
      exact iteF' e ⟨⟨_, rfl⟩, s2.trans s3⟩
    rintro σ H2 ⟨⟨z, rfl⟩, s2⟩
    have s02 := s1.trans s2
    have hR2 := hR.same s02
    obtain ⟨dx, k, l, p, hx, hk, hl, hp⟩ := id hR2
    have lus : us.length = (paD ks ls).length := DpAll.len hus
    refine ⟨_, rfl, x, dx, _, rfl, hx, x, ks, ls, rfl, hR2, _, rfl, by omega, _, rfl, a, us, rfl, .inl (SqL.of (s02 _ _ ha)), rfl, ?_⟩
    have e1 : decide (V.int ((paD ks ls).length : Nat) = V.int (us.length : Nat)) = true := by rw [lus]; exact decide_eq_true rfl
    refine ⟨_, rfl, iteT' e1 ?_⟩
    refine ⟨_, rfl, x, dx, _, rfl, hx, FRu_wi _ _ _, _, rfl, x, x, ks, ks, ls, ls, rfl, hR2, ok, hR2, ok, fun H3 s3 => ⟨true, rfl, ?_⟩⟩
    rw [all_in ok]
    refine ⟨_, rfl, iteT' (decide_eq_true rfl) ?_⟩
    have hR3 := hR2.same s3
    obtain ⟨dx', k', l', p', hx', _⟩ := id hR3
    refine ⟨_, rfl, x, dx', _, rfl, hx', x, ks, ls, rfl, hR3, _, rfl, by omega, _, _, rfl, rfl, _, rfl, x, dx', _, rfl, hx', x, ks, ls, rfl, hR3, _, rfl, by omega, rfl, ?_⟩
    have e2 : decide (V.bl (decide ((0 : Int) < ((paD ks ls).length : Nat))) = V.bl ((paD ks ls).length != 0)) = true := by
      refine decide_eq_true (congrArg V.bl ?_)
      cases h : (paD ks ls).length with
      | zero => rfl
      | succ n => simp
    rw [e2]
    exact q _ (s02.trans s3)
end
end K5

namespace K5
open PySem L2
abbrev sMadeL : Stmt := top 28
abbrev nMadeL : List Str := ["_law_kinds_here", "_law_given", "_law_rest", "e"]
abbrev pMadeL : List Str := ["_law_kinds_here", "_law_given"]
theorem cut_to (xs : List V) (k : Nat) : cutV xs none (some (k : Int)) = xs.take k := by
  unfold cutV
  rw [HT.sIx_none, HT.sIx_nat, List.drop_zero, Nat.sub_zero]
  by_cases h : k ≤ xs.length
  · rw [Nat.min_eq_left h]
  · rw [Nat.min_eq_right (by omega), List.take_length, List.take_of_length_le (by omega)]
theorem cut_from (xs : List V) (k : Nat) : cutV xs (some (k : Int)) none = xs.drop k := by
  unfold cutV
  rw [HT.sIx_none, HT.sIx_nat]
  by_cases h : k ≤ xs.length
  · rw [Nat.min_eq_left h, List.take_of_length_le (by rw [List.length_drop]; omega)]
  · rw [Nat.min_eq_right (by omega), List.drop_length, List.drop_of_length_le (by omega)]
    exact List.take_nil
def rLenS (K : PySem.W.Frag) : List V → Hp → VK → Prop := fun xs H Q => ∃ p ys, xs = [V.ref p] ∧ (SqL K H p ys ∨ SqT K H p ys) ∧ Q (.int (ys.length : Nat)) H
theorem call_lenS {X : Cx} : CallR X (.builtin "len") (rLenS X.K) := call_len_seq
def handAt (b : List Stmt) (i j : Nat) : List Stmt := match b.getD i (.Pass ⟨0, 0, 0, 0⟩) with
  | .Try _ hds _ _ _ => (match hds.getD j (.ExceptHandler none none [] ⟨0, 0, 0, 0⟩) with
    | .ExceptHandler _ _ hs _ => hs)
  | _ => []
def tHandM (K : PySem.W.Frag) (a : Addr) (cls : Value) (d : Option Addr) (CX : Addr) : TS := tRet (tTup (tCons (tXf a cls d CX "worth" (tVar 3)) tNil))
structure MadeLP (K : PySem.W.Frag) (CR : Addr) (vs : List V) (H : Hp) (Q : VK) : Prop where
  ex : ∃ (a : Addr) (lk : V) (us : List V) (dk dl : List PyData), vs = [.ref a, lk] ∧ H a = some (.lst us) ∧ DpAll K H us dk ∧ dk.length ≤ 6 ∧ SeqD K H lk dl ∧ dl.length < 64 ∧ (∀ d ∈ dl, ∀ ds, d = .tuple ds → ∀ e ∈ ds, partE e) ∧
  (∀ ks0 ls0 x ls H', dk = kiD ks0 → (∀ z ∈ ks0, z ∈ words6) → dl = loD ls0 → (∀ d ∈ dl, lookD d = true) → LooksOf ls0 ls → H x = none → Same H H' → RuleV K CR H' x (kinds6 ks0) ls → Q (.ref x) H') ∧
  (∀ d t H', badPart dk dl = some d → Same H H' → Dp K H' (.ref t) (.tuple [d]) → Q (.ref t) H')
def spMadeL (K : PySem.W.Frag) (CR : Addr) : Sp := fun vs H Q _ => MadeLP K CR vs H Q
section
variable {P : Program} {w : World} {K : PySem.W.Frag} {mg : Str → Option Value} {base : Heap} {CR CX fX : Addr}
theorem scMadeL : FnScope nMadeL pMadeL (defScope sMadeL) := ⟨rfl, rfl, rfl, by decide +kernel, rfl, by decide +kernel, by decide +kernel⟩
theorem hand_m {f : Addr} {cdv : Value} {A : Around} {outer : List Env} {s : Shared} {H : Hp} {E : XK} {a : Addr} {oe : Obj} {cls : Value} {d : Option Addr} {pn : List (Addr × Obj)} (XC : XfC K CX) (TX : K9E.ErrTxt P K mg CX fX) (hz : Zc cls d oe) (hf : ∃ vs, oe.data = .fields vs) :
    PSs ((cxOf CX0 P w K mg base nMadeL "_law_made" (defScope sMadeL) f cdv A outer s H E).nox.suite a ((a, oe) :: pn)) (handAt (defBody sMadeL) 1 0) (tHandM K a cls d CX) := (pss_one (ps_ret (pe_tup (pa_cons (pe_xf XC TX.noN hz hf (pv 3)) pa_nil))))
theorem ok_madeL {f : Addr} {fd : FuncData} (F : Fun K "_law_made" "_law_made" sMadeL f fd) (T : Bare mg) (RC : RuleC K mg CR) (MR : MkR P w K mg base CR CX) (XC : XfC K CX) (TX : K9E.ErrTxt P K mg CX fX) : FnOk P w K mg base CX0 7 f fd pMadeL (spMadeL K CR) := by
  refine F.ok scMadeL (fun vs H Q E h => ?_) (fun cdv A outer s0 H vs Q E hr h => ?_)
  · obtain ⟨a, lk, us, dk, dl, rfl, _⟩ := h
    rfl
  · obtain ⟨a, lk, us, dk, dl, rfl, ha, hus, l6, hlk, l64, pe, q0, qe⟩ := h
    obtain ⟨fI, fdI, u, v, M, FI, SB, _⟩ := MR.ex
    have hr6 : Room 6 _ := hr
    refine ⟨_, (C8.pss_cut (ps_set (i := 2) scMadeL.nd rfl (.inl rfl) (pe_slice sl_list (pe_op op_cat (pv 0) (pe_op op_rep (pe_lst (pa_cons pe_non pa_nil)) pe_int)) po_none (po_some pe_int)))
        (pss_one (ps_try_as (i := 3) rfl rfl scMadeL.nd rfl rfl ⟨rfl, by decide, .inl TX.gC⟩ takes0 (fun W pn xe tk _ => (pss_cons (ps_if (pt_cmpR op_eq (pe_callB (show CallR _ _ (rLenS K) from call_lenS) (by rfl) T.len PySem.boot_len (pa_cons (pv 0) pa_nil)) pe_int (nomark _)) (pss_one (ps_ret (pe_makeX0 M FI hr6 (by rfl) RC.gC SB (fun σ => passAt tk σ) (pk_cons (pv 1) pk_nil)))) pss_nil) (pss_cons (ps_if (pt_cmpR op_eq (pe_callB (show CallR _ _ (rLenS K) from call_lenS) (by rfl) T.len PySem.boot_len (pa_cons (pv 0) pa_nil)) pe_int (nomark _)) (pss_one (ps_ret (pe_makeX M FI hr6 (by rfl) RC.gC SB (fun σ => passAt tk σ) (pa_cons (pe_ix (show IxR _ (rIxL K) from ix_list) (pv 2) pe_int (fun _ _ => rfl)) pa_nil) (pk_cons (pv 1) pk_nil)))) pss_nil) (pss_cons (ps_if (pt_cmpR op_eq (pe_callB (show CallR _ _ (rLenS K) from call_lenS) (by rfl) T.len PySem.boot_len (pa_cons (pv 0) pa_nil)) pe_int (nomark _)) (pss_one (ps_ret (pe_makeX M FI hr6 (by rfl) RC.gC SB (fun σ => passAt tk σ) (pa_cons (pe_ix (show IxR _ (rIxL K) from ix_list) (pv 2) pe_int (fun _ _ => rfl)) (pa_cons (pe_ix (show IxR _ (rIxL K) from ix_list) (pv 2) pe_int (fun _ _ => rfl)) pa_nil)) (pk_cons (pv 1) pk_nil)))) pss_nil) (pss_cons (ps_if (pt_cmpR op_eq (pe_callB (show CallR _ _ (rLenS K) from call_lenS) (by rfl) T.len PySem.boot_len (pa_cons (pv 0) pa_nil)) pe_int (nomark _)) (pss_one (ps_ret (pe_makeX M FI hr6 (by rfl) RC.gC SB (fun σ => passAt tk σ) (pa_cons (pe_ix (show IxR _ (rIxL K) from ix_list) (pv 2) pe_int (fun _ _ => rfl)) (pa_cons (pe_ix (show IxR _ (rIxL K) from ix_list) (pv 2) pe_int (fun _ _ => rfl)) (pa_cons (pe_ix (show IxR _ (rIxL K) from ix_list) (pv 2) pe_int (fun _ _ => rfl)) pa_nil))) (pk_cons (pv 1) pk_nil)))) pss_nil) (pss_cons (ps_if (pt_cmpR op_eq (pe_callB (show CallR _ _ (rLenS K) from call_lenS) (by rfl) T.len PySem.boot_len (pa_cons (pv 0) pa_nil)) pe_int (nomark _)) (pss_one (ps_ret (pe_makeX M FI hr6 (by rfl) RC.gC SB (fun σ => passAt tk σ) (pa_cons (pe_ix (show IxR _ (rIxL K) from ix_list) (pv 2) pe_int (fun _ _ => rfl)) (pa_cons (pe_ix (show IxR _ (rIxL K) from ix_list) (pv 2) pe_int (fun _ _ => rfl)) (pa_cons (pe_ix (show IxR _ (rIxL K) from ix_list) (pv 2) pe_int (fun _ _ => rfl)) (pa_cons (pe_ix (show IxR _ (rIxL K) from ix_list) (pv 2) pe_int (fun _ _ => rfl)) pa_nil)))) (pk_cons (pv 1) pk_nil)))) pss_nil) (pss_cons (ps_if (pt_cmpR op_eq (pe_callB (show CallR _ _ (rLenS K) from call_lenS) (by rfl) T.len PySem.boot_len (pa_cons (pv 0) pa_nil)) pe_int (nomark _)) (pss_one (ps_ret (pe_makeX M FI hr6 (by rfl) RC.gC SB (fun σ => passAt tk σ) (pa_cons (pe_ix (show IxR _ (rIxL K) from ix_list) (pv 2) pe_int (fun _ _ => rfl)) (pa_cons (pe_ix (show IxR _ (rIxL K) from ix_list) (pv 2) pe_int (fun _ _ => rfl)) (pa_cons (pe_ix (show IxR _ (rIxL K) from ix_list) (pv 2) pe_int (fun _ _ => rfl)) (pa_cons (pe_ix (show IxR _ (rIxL K) from ix_list) (pv 2) pe_int (fun _ _ => rfl)) (pa_cons (pe_ix (show IxR _ (rIxL K) from ix_list) (pv 2) pe_int (fun _ _ => rfl)) pa_nil))))) (pk_cons (pv 1) pk_nil)))) pss_nil) (pss_one (ps_ret (pe_makeX M FI hr6 (by rfl) RC.gC SB (fun σ => passAt tk σ) (pa_cons (pe_ix (show IxR _ (rIxL K) from ix_list) (pv 2) pe_int (fun _ _ => rfl)) (pa_cons (pe_ix (show IxR _ (rIxL K) from ix_list) (pv 2) pe_int (fun _ _ => rfl)) (pa_cons (pe_ix (show IxR _ (rIxL K) from ix_list) (pv 2) pe_int (fun _ _ => rfl)) (pa_cons (pe_ix (show IxR _ (rIxL K) from ix_list) (pv 2) pe_int (fun _ _ => rfl)) (pa_cons (pe_ix (show IxR _ (rIxL K) from ix_list) (pv 2) pe_int (fun _ _ => rfl)) (pa_cons (pe_ix (show IxR _ (rIxL K) from ix_list) (pv 2) pe_int (fun _ _ => rfl)) pa_nil)))))) (pk_cons (pv 1) pk_nil))))))))))) (fun a oe cls d pn hz hf => hand_m XC TX hz hf)))), ?_⟩
    have lus : us.length ≤ 6 := by rw [DpAll.len hus]; exact l6
    -- six of them
    refine ⟨fun σ H' => ∃ R, σ = [some (.ref a), some lk, some (.ref R), none] ∧ Same H H' ∧ H' R = some (.lst ((us ++ [V.non, .non, .non, .non, .non, .non]).take 6)), ?_, ?_⟩
    · refine ⟨_, rfl, by show 1 ≤ sizeLine; decide, fun N hN => ⟨N, 6, [.non], rfl, rfl, upd_same, by decide, by decide, by show 6 ≤ sizeLine; decide, fun B hB => ?_⟩⟩
      have s1 := Same.new (o := .lst [.non]) (Same.refl H) hN
      have s2 := Same.new (o := .lst (List.replicate (6 : Int).toNat [V.non]).flatten) s1 hB
      refine ⟨a, B, us, _, rfl, rfl, s2 _ _ ha, upd_same, by show us.length + 6 ≤ sizeLine; exact line_ge (by omega), fun C hC => ?_⟩
      have s3 := Same.new (o := .lst (us ++ (List.replicate (6 : Int).toNat [V.non]).flatten)) s2 hC
      refine ⟨6, rfl, C, _, rfl, SqL.of upd_same, fun R hR => ⟨R, rfl, Same.new s3 hR, ?_⟩⟩
      rw [upd_same]
      exact congrArg (fun z => some (HO.lst z)) (cut_to _ 6)
    rintro σ H1 ⟨R, rfl, s1, hR⟩
    have ha1 := s1 _ _ ha
    have hA := SqL.of (K := K) ha1
    have hus1 := dpAll_same s1 _ hus
    have hlk1 : SeqD K H1 lk dl := hlk.elim (fun h => .inl (dp_same s1 _ h)) fun h => .inr (dp_same s1 _ h)
    have k100 : dk.length ≤ 100 := by omega
    have QG : ∀ (x : Addr) (ks0 : List Str) (ls0 ls : List (Str × Str)) (H' : Hp), dk = kiD ks0 → (∀ z ∈ ks0, z ∈ words6) → dl = loD ls0 → (∀ d ∈ dl, lookD d = true) → LooksOf ls0 ls → H1 x = none → Same H1 H' → RuleV K CR H' x (kinds6 ks0) ls → Q (.ref x) H' := fun x ks0 ls0 ls H' e1 e2 e3 e3' e4 e5 e6 e7 => q0 ks0 ls0 x ls H' e1 e2 e3 e3' e4 (s1.free e5) (s1.trans e6) e7
    match us, lus, hus1, hR, hA with
    | [], _, hus1, hR, hA =>
      refine ⟨_, rfl, a, _, rfl, .inl hA, rfl, _, rfl, iteT' (show decide (V.int ((0 : Nat) : Int) = V.int 0) = true by decide) ?_⟩
      refine ⟨_, rfl, lk, rfl, madeQ hus1 hlk1 l64 k100 pe QG fun d hd y e H' he s' hy hx => ⟨true, TX.te, fun _ a' ha' => ?_, fun z => nomatch z⟩⟩
      refine ⟨_, rfl, rfl, rfl, e, _, _, rfl, hx, rfl, by show 1 ≤ sizeLine; decide, fun t ht => ?_⟩
      have st := Same.new (o := .tup [y]) (Same.refl H') ht
      exact qe d t _ hd ((s1.trans s').trans st) (.tup (SqT.of upd_same) (.cons (dp_same st _ hy) .nil))
    | [u0], _, hus1, hR, hA =>
      refine ⟨_, rfl, a, _, rfl, .inl hA, rfl, _, rfl, iteF' (show decide (V.int ((1 : Nat) : Int) = V.int 0) = false by decide) ?_⟩
      refine ⟨_, rfl, a, _, rfl, .inl hA, rfl, _, rfl, iteT' (show decide (V.int ((1 : Nat) : Int) = V.int 1) = true by decide) ?_⟩
      refine ⟨_, rfl, R, _, 0, u0, rfl, rfl, SqL.of hR, rfl, _, rfl, lk, rfl, madeQ hus1 hlk1 l64 k100 pe QG fun d hd y e H' he s' hy hx => ⟨true, TX.te, fun _ a' ha' => ?_, fun z => nomatch z⟩⟩
      refine ⟨_, rfl, rfl, rfl, e, _, _, rfl, hx, rfl, by show 1 ≤ sizeLine; decide, fun t ht => ?_⟩
      have st := Same.new (o := .tup [y]) (Same.refl H') ht
      exact qe d t _ hd ((s1.trans s').trans st) (.tup (SqT.of upd_same) (.cons (dp_same st _ hy) .nil))
    | [u0, u1], _, hus1, hR, hA =>
      refine ⟨_, rfl, a, _, rfl, .inl hA, rfl, _, rfl, iteF' (show decide (V.int ((2 : Nat) : Int) = V.int 0) = false by decide) ?_⟩
      refine ⟨_, rfl, a, _, rfl, .inl hA, rfl, _, rfl, iteF' (show decide (V.int ((2 : Nat) : Int) = V.int 1) = false by decide) ?_⟩
      refine ⟨_, rfl, a, _, rfl, .inl hA, rfl, _, rfl, iteT' (show decide (V.int ((2 : Nat) : Int) = V.int 2) = true by decide) ?_⟩
      refine ⟨_, rfl, R, _, 0, u0, rfl, rfl, SqL.of hR, rfl, _, rfl, R, _, 1, u1, rfl, rfl, SqL.of hR, rfl, _, rfl, lk, rfl, madeQ hus1 hlk1 l64 k100 pe QG fun d hd y e H' he s' hy hx => ⟨true, TX.te, fun _ a' ha' => ?_, fun z => nomatch z⟩⟩
      refine ⟨_, rfl, rfl, rfl, e, _, _, rfl, hx, rfl, by show 1 ≤ sizeLine; decide, fun t ht => ?_⟩
      have st := Same.new (o := .tup [y]) (Same.refl H') ht
      exact qe d t _ hd ((s1.trans s').trans st) (.tup (SqT.of upd_same) (.cons (dp_same st _ hy) .nil))
    | [u0, u1, u2], _, hus1, hR, hA =>
      refine ⟨_, rfl, a, _, rfl, .inl hA, rfl, _, rfl, iteF' (show decide (V.int ((3 : Nat) : Int) = V.int 0) = false by decide) ?_⟩
      refine ⟨_, rfl, a, _, rfl, .inl hA, rfl, _, rfl, iteF' (show decide (V.int ((3 : Nat) : Int) = V.int 1) = false by decide) ?_⟩
      refine ⟨_, rfl, a, _, rfl, .inl hA, rfl, _, rfl, iteF' (show decide (V.int ((3 : Nat) : Int) = V.int 2) = false by decide) ?_⟩
      refine ⟨_, rfl, a, _, rfl, .inl hA, rfl, _, rfl, iteT' (show decide (V.int ((3 : Nat) : Int) = V.int 3) = true by decide) ?_⟩
      refine ⟨_, rfl, R, _, 0, u0, rfl, rfl, SqL.of hR, rfl, _, rfl, R, _, 1, u1, rfl, rfl, SqL.of hR, rfl, _, rfl, R, _, 2, u2, rfl, rfl, SqL.of hR, rfl, _, rfl, lk, rfl, madeQ hus1 hlk1 l64 k100 pe QG fun d hd y e H' he s' hy hx => ⟨true, TX.te, fun _ a' ha' => ?_, fun z => nomatch z⟩⟩
      refine ⟨_, rfl, rfl, rfl, e, _, _, rfl, hx, rfl, by show 1 ≤ sizeLine; decide, fun t ht => ?_⟩
      have st := Same.new (o := .tup [y]) (Same.refl H') ht
      exact qe d t _ hd ((s1.trans s').trans st) (.tup (SqT.of upd_same) (.cons (dp_same st _ hy) .nil))
    | [u0, u1, u2, u3], _, hus1, hR, hA =>
      refine ⟨_, rfl, a, _, rfl, .inl hA, rfl, _, rfl, iteF' (show decide (V.int ((4 : Nat) : Int) = V.int 0) = false by decide) ?_⟩
      refine ⟨_, rfl, a, _, rfl, .inl hA, rfl, _, rfl, iteF' (show decide (V.int ((4 : Nat) : Int) = V.int 1) = false by decide) ?_⟩
      refine ⟨_, rfl, a, _, rfl, .inl hA, rfl, _, rfl, iteF' (show decide (V.int ((4 : Nat) : Int) = V.int 2) = false by decide) ?_⟩
      refine ⟨_, rfl, a, _, rfl, .inl hA, rfl, _, rfl, iteF' (show decide (V.int ((4 : Nat) : Int) = V.int 3) = false by decide) ?_⟩
      refine ⟨_, rfl, a, _, rfl, .inl hA, rfl, _, rfl, iteT' (show decide (V.int ((4 : Nat) : Int) = V.int 4) = true by decide) ?_⟩
      refine ⟨_, rfl, R, _, 0, u0, rfl, rfl, SqL.of hR, rfl, _, rfl, R, _, 1, u1, rfl, rfl, SqL.of hR, rfl, _, rfl, R, _, 2, u2, rfl, rfl, SqL.of hR, rfl, _, rfl, R, _, 3, u3, rfl, rfl, SqL.of hR, rfl, _, rfl, lk, rfl, madeQ hus1 hlk1 l64 k100 pe QG fun d hd y e H' he s' hy hx => ⟨true, TX.te, fun _ a' ha' => ?_, fun z => nomatch z⟩⟩
      refine ⟨_, rfl, rfl, rfl, e, _, _, rfl, hx, rfl, by show 1 ≤ sizeLine; decide, fun t ht => ?_⟩
      have st := Same.new (o := .tup [y]) (Same.refl H') ht
      exact qe d t _ hd ((s1.trans s').trans st) (.tup (SqT.of upd_same) (.cons (dp_same st _ hy) .nil))
    | [u0, u1, u2, u3, u4], _, hus1, hR, hA =>
      refine ⟨_, rfl, a, _, rfl, .inl hA, rfl, _, rfl, iteF' (show decide (V.int ((5 : Nat) : Int) = V.int 0) = false by decide) ?_⟩
      refine ⟨_, rfl, a, _, rfl, .inl hA, rfl, _, rfl, iteF' (show decide (V.int ((5 : Nat) : Int) = V.int 1) = false by decide) ?_⟩
      refine ⟨_, rfl, a, _, rfl, .inl hA, rfl, _, rfl, iteF' (show decide (V.int ((5 : Nat) : Int) = V.int 2) = false by decide) ?_⟩
      refine ⟨_, rfl, a, _, rfl, .inl hA, rfl, _, rfl, iteF' (show decide (V.int ((5 : Nat) : Int) = V.int 3) = false by decide) ?_⟩
      refine ⟨_, rfl, a, _, rfl, .inl hA, rfl, _, rfl, iteF' (show decide (V.int ((5 : Nat) : Int) = V.int 4) = false by decide) ?_⟩
      refine ⟨_, rfl, a, _, rfl, .inl hA, rfl, _, rfl, iteT' (show decide (V.int ((5 : Nat) : Int) = V.int 5) = true by decide) ?_⟩
      refine ⟨_, rfl, R, _, 0, u0, rfl, rfl, SqL.of hR, rfl, _, rfl, R, _, 1, u1, rfl, rfl, SqL.of hR, rfl, _, rfl, R, _, 2, u2, rfl, rfl, SqL.of hR, rfl, _, rfl, R, _, 3, u3, rfl, rfl, SqL.of hR, rfl, _, rfl, R, _, 4, u4, rfl, rfl, SqL.of hR, rfl, _, rfl, lk, rfl, madeQ hus1 hlk1 l64 k100 pe QG fun d hd y e H' he s' hy hx => ⟨true, TX.te, fun _ a' ha' => ?_, fun z => nomatch z⟩⟩
      refine ⟨_, rfl, rfl, rfl, e, _, _, rfl, hx, rfl, by show 1 ≤ sizeLine; decide, fun t ht => ?_⟩
      have st := Same.new (o := .tup [y]) (Same.refl H') ht
      exact qe d t _ hd ((s1.trans s').trans st) (.tup (SqT.of upd_same) (.cons (dp_same st _ hy) .nil))
    | [u0, u1, u2, u3, u4, u5], _, hus1, hR, hA =>
      refine ⟨_, rfl, a, _, rfl, .inl hA, rfl, _, rfl, iteF' (show decide (V.int ((6 : Nat) : Int) = V.int 0) = false by decide) ?_⟩
      refine ⟨_, rfl, a, _, rfl, .inl hA, rfl, _, rfl, iteF' (show decide (V.int ((6 : Nat) : Int) = V.int 1) = false by decide) ?_⟩
      refine ⟨_, rfl, a, _, rfl, .inl hA, rfl, _, rfl, iteF' (show decide (V.int ((6 : Nat) : Int) = V.int 2) = false by decide) ?_⟩
      refine ⟨_, rfl, a, _, rfl, .inl hA, rfl, _, rfl, iteF' (show decide (V.int ((6 : Nat) : Int) = V.int 3) = false by decide) ?_⟩
      refine ⟨_, rfl, a, _, rfl, .inl hA, rfl, _, rfl, iteF' (show decide (V.int ((6 : Nat) : Int) = V.int 4) = false by decide) ?_⟩
      refine ⟨_, rfl, a, _, rfl, .inl hA, rfl, _, rfl, iteF' (show decide (V.int ((6 : Nat) : Int) = V.int 5) = false by decide) ?_⟩
      refine ⟨_, rfl, R, _, 0, u0, rfl, rfl, SqL.of hR, rfl, _, rfl, R, _, 1, u1, rfl, rfl, SqL.of hR, rfl, _, rfl, R, _, 2, u2, rfl, rfl, SqL.of hR, rfl, _, rfl, R, _, 3, u3, rfl, rfl, SqL.of hR, rfl, _, rfl, R, _, 4, u4, rfl, rfl, SqL.of hR, rfl, _, rfl, R, _, 5, u5, rfl, rfl, SqL.of hR, rfl, _, rfl, lk, rfl, madeQ hus1 hlk1 l64 k100 pe QG fun d hd y e H' he s' hy hx => ⟨true, TX.te, fun _ a' ha' => ?_, fun z => nomatch z⟩⟩
      refine ⟨_, rfl, rfl, rfl, e, _, _, rfl, hx, rfl, by show 1 ≤ sizeLine; decide, fun t ht => ?_⟩
      have st := Same.new (o := .tup [y]) (Same.refl H') ht
      exact qe d t _ hd ((s1.trans s').trans st) (.tup (SqT.of upd_same) (.cons (dp_same st _ hy) .nil))
    | _ :: _ :: _ :: _ :: _ :: _ :: _ :: _, l, _, _, _ => exact absurd l (by simp)
end
end K5

namespace K5
open PySem L2
theorem eqvAll_iff : ∀ {ds es : List PyData}, (∀ d ∈ ds, ∀ e ∈ es, (PyData.eqv d e = true ↔ d = e)) → (PyData.eqvAll ds es = true ↔ ds = es)
  | [], [], _ => by rw [PyData.eqvAll]; simp
  | [], _ :: _, _ => by rw [PyData.eqvAll] <;> simp
  | _ :: _, [], _ => by rw [PyData.eqvAll] <;> simp
  | d :: ds, e :: es, h => by
    rw [PyData.eqvAll, Bool.and_eq_true, h d List.mem_cons_self e List.mem_cons_self, eqvAll_iff fun x hx y hy => h x (List.mem_cons_of_mem _ hx) y (List.mem_cons_of_mem _ hy), List.cons.injEq]
def partD (d : PyData) : Prop := (∃ z, d = .str z) ∨ ∃ p, d = lkP p
theorem lkP_inj {p q : Str × Str} (e : lkP p = lkP q) : p = q := by
  unfold lkP at e
  simp only [PyData.tuple.injEq, List.cons.injEq, PyData.str.injEq, and_true] at e
  exact Prod.ext e.1 e.2
theorem part_iff {d e : PyData} (hd : partD d) (he : partD e) : PyData.eqv d e = true ↔ d = e := by
  rcases hd with ⟨a, rfl⟩ | ⟨p, rfl⟩
  · rcases he with ⟨b, rfl⟩ | ⟨q, rfl⟩
    · rw [eqv_str, decide_eq_true_iff, PyData.str.injEq]
    · rw [eqv_sl]
      exact ⟨fun h => absurd h Bool.false_ne_true, fun h => by unfold lkP at h; cases h⟩
  · rcases he with ⟨b, rfl⟩ | ⟨q, rfl⟩
    · rw [eqv_ls]
      exact ⟨fun h => absurd h Bool.false_ne_true, fun h => by unfold lkP at h; cases h⟩
    · rw [eqv_look, decide_eq_true_iff]
      exact ⟨fun h => by rw [h], lkP_inj⟩
theorem ki_part {ks : List Str} : ∀ d ∈ kiD ks, partD d := fun d hd => by
  obtain ⟨z, _, rfl⟩ := List.mem_map.mp hd
  exact .inl ⟨z, rfl⟩
theorem lo_partD {ls : List (Str × Str)} : ∀ d ∈ loD ls, partD d := fun d hd => by
  obtain ⟨z, _, rfl⟩ := List.mem_map.mp hd
  exact .inr ⟨z, rfl⟩
theorem pa_part {ks : List Str} {ls : List (Str × Str)} : ∀ d ∈ paD ks ls, partD d := fun d hd => (List.mem_append.mp hd).elim (ki_part d) (lo_partD d)
theorem pa_inj {k1 k2 : List Str} {l1 l2 : List (Str × Str)} (h : paD k1 l1 = paD k2 l2) : k1 = k2 ∧ l1 = l2 := by
  have a := congrArg (List.filter isStr) h
  have b := congrArg (List.filter isTup) h
  unfold paD at a b
  rw [List.filter_append, List.filter_append, (ki_strs k1).1, (ki_strs k2).1, (lo_tups l1).1, (lo_tups l2).1, List.append_nil, List.append_nil] at a
  rw [List.filter_append, List.filter_append, (ki_strs k1).2, (ki_strs k2).2, (lo_tups l1).2, (lo_tups l2).2, List.nil_append, List.nil_append] at b
  exact ⟨ki_inj a, lo_inj b⟩
theorem eq_ki (a b : List Str) : PyData.eqv (.tuple (kiD a)) (.tuple (kiD b)) = decide (a = b) := by
  rw [Bool.eq_iff_iff, decide_eq_true_iff, PyData.eqv, eqvAll_iff fun d hd e he => part_iff (ki_part d hd) (ki_part e he)]
  exact ⟨ki_inj, fun h => by rw [h]⟩
theorem eq_lo (a b : List (Str × Str)) : PyData.eqv (.tuple (loD a)) (.tuple (loD b)) = decide (a = b) := by
  rw [Bool.eq_iff_iff, decide_eq_true_iff, PyData.eqv, eqvAll_iff fun d hd e he => part_iff (lo_partD d hd) (lo_partD e he)]
  exact ⟨lo_inj, fun h => by rw [h]⟩
theorem eq_pa (k1 k2 : List Str) (l1 l2 : List (Str × Str)) : PyData.eqv (.list (paD k1 l1)) (.list (paD k2 l2)) = (decide (k1 = k2) && decide (l1 = l2)) := by
  rw [Bool.eq_iff_iff, Bool.and_eq_true, decide_eq_true_iff, decide_eq_true_iff, PyData.eqv, eqvAll_iff fun d hd e he => part_iff (pa_part d hd) (pa_part e he)]
  exact ⟨pa_inj, fun h => by rw [h.1, h.2]⟩
theorem eqv_nil : ∀ ds : List PyData, PyData.eqv (.list ds) (.list []) = decide (ds = [])
  | [] => by rw [PyData.eqv, PyData.eqvAll]; rfl
  | d :: ds => by rw [PyData.eqv, PyData.eqvAll]; rfl
theorem all_less {α : Type} [DecidableEq α] (a b : List α) : (a.all fun z => decide (z ∈ b)) = decide (lessF a b = []) := by
  unfold lessF
  rw [Bool.eq_iff_iff, List.all_eq_true, decide_eq_true_iff, List.filter_eq_nil_iff]
  refine ⟨fun h x hx => by rw [h x hx]; simp, fun h x hx => ?_⟩
  cases c : decide (x ∈ b) with
  | true => rfl
  | false => exact absurd (by rw [c]; rfl) (h x hx)
theorem within_less (k1 k2 : List Str) (l1 l2 : List (Str × Str)) : (paD k1 l1).all (inP k2 l2) = PyData.eqv (.list (paD (lessF k1 k2) (lessF l1 l2))) (.list []) := by
  rw [eqv_nil]
  have a : (kiD k1).all (inP k2 l2) = k1.all fun z => decide (z ∈ k2) := by
    unfold kiD
    rw [List.all_map]
    congr 1
    funext z
    exact pa_any_k k2 l2 z
  have b : (loD l1).all (inP k2 l2) = l1.all fun z => decide (z ∈ l2) := by
    unfold loD
    rw [List.all_map]
    congr 1
    funext z
    exact (pa_any_l k2 l2 z).trans (decide_eq_decide.mpr Iff.rfl)
  show (kiD k1 ++ loD l1).all (inP k2 l2) = _
  rw [List.all_append, a, b]
  have e := all_less k1 k2
  have e2 := all_less l1 l2
  rw [show (k1.all fun z => decide (z ∈ k2)) = _ from e, show (l1.all fun z => decide (z ∈ l2)) = decide (lessF l1 l2 = []) from Eq.trans (by congr 1; funext z; exact decide_eq_decide.mpr Iff.rfl) e2, ← Bool.decide_and]
  refine decide_eq_decide.mpr ⟨fun h => ?_, fun h => ?_⟩
  · unfold paD
    rw [h.1, h.2]
    rfl
  · have z := List.append_eq_nil_iff.mp h
    exact ⟨List.map_eq_nil_iff.mp z.1, List.map_eq_nil_iff.mp z.2⟩
/-! rules out of rules -/
theorem k6_sub {ks : List Str} (h : kinds6 ks = ks) (p : Str → Bool) : kinds6 (ks.filter p) = ks.filter p := by
  have e : kinds6 (ks.filter p) = (kinds6 ks).filter p := by
    unfold kinds6
    rw [List.filter_filter]
    refine List.filter_congr fun z hz => ?_
    cases c : p z <;> simp [List.mem_filter, c]
  rw [e, h]
theorem looks_sub {ls : List (Str × Str)} (h : LooksOf ls ls) (p : Str × Str → Bool) : LooksOf (ls.filter p) (ls.filter p) := ⟨h.nd.sublist List.filter_sublist, List.Pairwise.sublist (List.filter_sublist.map pairL) h.srt, fun _ => Iff.rfl⟩
theorem RuleG.both {k1 k2 : List Str} {l1 l2 : List (Str × Str)} (G : RuleG k1 l1) : RuleG (bothF k1 k2) (bothF l1 l2) := ⟨k6_sub G.k _, looks_sub G.l _, fun p hp => G.m p (List.mem_filter.mp hp).1⟩
theorem RuleG.less {k1 k2 : List Str} {l1 l2 : List (Str × Str)} (G : RuleG k1 l1) : RuleG (lessF k1 k2) (lessF l1 l2) := ⟨k6_sub G.k _, looks_sub G.l _, fun p hp => G.m p (List.mem_filter.mp hp).1⟩
theorem RuleG.or_ {k1 k2 : List Str} {l1 l2 ls : List (Str × Str)} (G : RuleG k1 l1) (G2 : RuleG k2 l2) (h : LooksOf (l1 ++ l2) ls) : RuleG (kinds6 (k1 ++ k2)) ls := h.good fun p hp => (List.mem_append.mp hp).elim (G.m p) (G2.m p)
/-! the first part that is none -/
theorem find_mid {α : Type} {p : α → Bool} {a b : List α} {x : α} (h : ∀ y ∈ a, p y = false) (hx : p x = true) : (a ++ x :: b).find? p = some x := by
  rw [List.find?_append, find_no h]
  show (x :: b).find? p = some x
  rw [List.find?_cons, hx]
theorem bad_kind {a b : List Str} {d : PyData} {dl : List PyData} (h : ∀ z ∈ a, z ∈ words6) (hd : inD words6 d = false) : badPart (kiD a ++ d :: kiD b) dl = some d := by
  unfold badPart
  rw [find_mid (fun y hy => ?_) (by rw [hd]; rfl)]
  · rfl
  · obtain ⟨z, hz, rfl⟩ := List.mem_map.mp hy
    show (!decide (z ∈ words6)) = false
    rw [decide_eq_true (h z hz)]
    rfl
theorem bad_look {ks : List Str} {a b : List (Str × Str)} {d : PyData} (hk : ∀ z ∈ ks, z ∈ words6) (h : ∀ z ∈ a, z ∈ looks10) (hd : lookD d = false) : badPart (kiD ks) (loD a ++ d :: loD b) = some d := by
  unfold badPart
  rw [find_no fun y hy => ?_, find_mid (fun y hy => ?_) (by rw [hd]; rfl)]
  · rfl
  · obtain ⟨p, hp, rfl⟩ := List.mem_map.mp hy
    rw [l10_look p (h p hp)]
    rfl
  · obtain ⟨z, hz, rfl⟩ := List.mem_map.mp hy
    show (!decide (z ∈ words6)) = false
    rw [decide_eq_true (hk z hz)]
    rfl
/-! what stays where a list changes -/
theorem rule_but {K : PySem.W.Frag} {CR : Addr} {H H' : Hp} {D x : Addr} {L : List V} {ks : List Str} {ls : List (Str × Str)} (hD : H D = some (.lst L)) (k : But D H H') (h : RuleV K CR H x ks ls) : RuleV K CR H' x ks ls := by
  obtain ⟨dx, kk, l, p, h1, h2, h3, h4⟩ := h
  have t : ∀ {a : Addr} {xs : List V}, SqT K H a xs → SqT K H' a xs := fun h => keep_sqt (p := D) hD (fun b o n e => k b o n e) h
  have hk : Dp K H' kk (.tuple (kiD ks)) := by
    cases h2 with
    | tup a b =>
      rw [txts_of b] at a
      exact .tup (t a) (of_txts ks)
  have hl : Dp K H' l (.tuple (loD ls)) := by
    cases h3 with
    | tup a b => exact .tup (t a) (looks_but hD k b)
  have hp : Dp K H' p (.tuple (paD ks ls)) := by
    cases h4 with
    | tup a b => exact .tup (t a) (parts_but hD k b)
  exact ⟨dx, kk, l, p, k _ _ (fun e => by rw [e, hD] at h1; cases h1) h1, hk, hl, hp⟩
where
  parts_but {K : PySem.W.Frag} {H H' : Hp} {D : Addr} {L : List V} {ls : List (Str × Str)} (hD : H D = some (.lst L)) (k : But D H H') : ∀ {ks : List Str} {us : List V}, DpAll K H us (paD ks ls) → DpAll K H' us (paD ks ls)
    | [], _, h => looks_but hD k h
    | _ :: _, _, h => by
      cases h with
      | cons h1 h2 =>
        cases h1
        exact .cons (.str _) (parts_but hD k h2)
theorem pa_but {K : PySem.W.Frag} {H H' : Hp} {D : Addr} {L : List V} {ks : List Str} {ls : List (Str × Str)} {us : List V} (hD : H D = some (.lst L)) (k : But D H H') (h : DpAll K H us (paD ks ls)) : DpAll K H' us (paD ks ls) := rule_but.parts_but hD k h
end K5

namespace K5
open PySem L2
abbrev sOff : Stmt := top 29
def spOff (K : PySem.W.Frag) (CR : Addr) : Sp := fun vs H Q _ => ∃ (x : Addr) (ks : List Str) (ls : List (Str × Str)), vs = [.ref x] ∧ RuleV K CR H x ks ls ∧ RuleOk ks ls ∧
  ∀ (D : Addr) (us : List V) (H' : Hp), H D = none → H' D = some (.lst us) → DpAll K H' us (paD ks ls) → Same H H' → Q (.ref D) H'
section
variable {P : Program} {w : World} {K : PySem.W.Frag} {mg : Str → Option Value} {base : Heap} {CR : Addr}
theorem scOff : FnScope ["_law_rule"] ["_law_rule"] (defScope sOff) := ⟨rfl, rfl, rfl, by decide +kernel, rfl, by decide +kernel, by decide +kernel⟩
theorem ok_off {f : Addr} {fd : FuncData} (F : Fun K "_law_read_off" "_law_read_off" sOff f fd) (T : Bare mg) (RC : RuleC K mg CR) : FnOk P w K mg base CX0 1 f fd ["_law_rule"] (spOff K CR) := by
  refine F.ok scOff (fun vs H Q E h => ?_) (fun cdv A outer s0 H vs Q E hr h => ?_)
  · obtain ⟨x, ks, ls, rfl, _⟩ := h
    rfl
  · obtain ⟨x, ks, ls, rfl, ⟨dx, k, l, p, hx, hk, hl, hp⟩, ok, q⟩ := h
    refine ⟨_, (C8.pss_cut (ps_if (PW.pt (pw_or (pt_not (pt_val (pe_callB call_isi (by rfl) T.isi (by decide +kernel) (pa_cons (pe_fld (pv 0) rfl) (pa_cons (pe_bltn (v := .ty "tuple") (by rfl) T.tuple (by decide +kernel) rfl) pa_nil))))) (pw_or1 (pt_not (pt_val (pe_callB call_isi (by rfl) T.isi (by decide +kernel) (pa_cons (pe_fld (pv 0) rfl) (pa_cons (pe_bltn (v := .ty "tuple") (by rfl) T.tuple (by decide +kernel) rfl) pa_nil)))))))) (pss_one (ps_ret pe_non)) pss_nil)
        (pss_one (ps_ret (pe_op op_cat (pe_callTy call_list_of (by rfl) T.list (by decide +kernel) (pa_cons (pe_fld (pv 0) rfl) pa_nil)) (pe_callTy call_list_of (by rfl) T.list (by decide +kernel) (pa_cons (pe_fld (pv 0) rfl) pa_nil)))))), ?_⟩
    refine ⟨fun σ H' => σ = [some (.ref x)] ∧ H' = H, ?_, ?_⟩
    · refine ⟨_, rfl, x, CR, dx, _, _, rfl, hx, RC.cl, RC.ki, fu_ki _ _ _, k, .ty "tuple", _, .type "tuple", true, rfl, .ty "tuple", dp_ty hk, kit_tup hk, _, rfl, ?_⟩
      exact iteF ⟨_, rfl, x, CR, dx, _, _, rfl, hx, RC.cl, RC.lo, fu_lo _ _ _, l, .ty "tuple", _, .type "tuple", true, rfl, .ty "tuple", dp_ty hl, kit_tup hl, _, rfl, iteF ⟨rfl, rfl⟩⟩
    rintro σ H0 ⟨rfl, rfl⟩
    have n := ok.n
    cases hk with
    | @tup a xs _ h1 h2 =>
      cases hl with
      | @tup b ys _ g1 g2 =>
        have lx := DpAll.len h2
        have ly := DpAll.len g2
        have ln : xs.length + ys.length ≤ 200 := by
          unfold paD at n
          rw [List.length_append] at n
          omega
        refine ⟨_, rfl, x, CR, dx, _, _, rfl, hx, RC.cl, RC.ki, fu_ki _ _ _, a, xs, rfl, .inr h1, fun A hA => ?_⟩
        have sA := Same.new (o := .lst xs) (Same.refl H0) hA
        refine ⟨_, rfl, x, CR, dx, _, _, rfl, sA _ _ hx, RC.cl, RC.lo, fu_lo _ _ _, b, ys, rfl, .inr (SqT.ext g1 sA), fun B hB => ?_⟩
        have sB := Same.new (o := .lst ys) (Same.refl (upd H0 A (.lst xs))) hB
        refine ⟨A, B, xs, ys, rfl, rfl, sB _ _ upd_same, upd_same, line_ge (by omega), fun G hG => ?_⟩
        have sG := Same.new (o := .lst (xs ++ ys)) (Same.refl (upd (upd H0 A (.lst xs)) B (.lst ys))) hG
        have ss := sA.trans (sB.trans sG)
        exact q G _ _ ((sA.trans sB).free hG) upd_same (DpAll.app (dpAll_same ss _ h2) (dpAll_same ss _ g2)) ss
end
end K5

namespace K5
open PySem L2
/-- how the class and a list compare; every() -/
structure RuleE (P : Program) (w : World) (K : PySem.W.Frag) (mg : Str → Option Value) (base : Heap) (CR : Addr) : Prop where
  nC : PySem.W.notFirst K CR (.ref CR) = true
  nL : PySem.W.notFirst K CR (.type "list") = true
  kL : PySem.W.kitOne K (.type "list") (.ref CR) = some false
  ev : ∃ mc p f fd, FnOk P w K mg base CX0 7 f fd [] (spREvery K CR) ∧ ClX.CRead K CR mc ∧ SMet K CR mc "every" p f ∧ Binds K fd [] []
section
variable {P : Program} {w : World} {K : PySem.W.Frag} {mg : Str → Option Value} {base : Heap} {CR : Addr}
/-- the law makes a good rule -/
theorem madeG {H : Hp} {Q : VK} {a : Addr} {lk : V} {us : List V} {ks : List Str} {ls0 : List (Str × Str)} (ha : H a = some (.lst us)) (hus : DpAll K H us (kiD ks)) (hk : ∀ z ∈ ks, z ∈ words6) (l6 : ks.length ≤ 6) (hl : SeqD K H lk (loD ls0)) (h10 : ∀ p ∈ ls0, p ∈ looks10) (l64 : ls0.length < 64)
    (q : ∀ x ls H', LooksOf ls0 ls → H x = none → Same H H' → RuleV K CR H' x (kinds6 ks) ls → Q (.ref x) H') : MadeLP K CR [.ref a, lk] H Q := by
  refine ⟨a, lk, us, kiD ks, loD ls0, rfl, ha, hus, by rw [kiD, List.length_map]; exact l6, hl, by rw [loD, List.length_map]; exact l64, lo_part h10, fun ks1 ls1 x ls H' e1 _ e2 _ lo hx s r => ?_, fun d t H' e => ?_⟩
  · cases ki_inj e1
    cases lo_inj e2
    exact q x ls H' lo hx s r
  · rw [bad_none hk h10] at e
    cases e
/-- the law is told what is no part -/
theorem madeB {H : Hp} {Q : VK} {a : Addr} {lk : V} {us : List V} {dk dl : List PyData} {d : PyData} (ha : H a = some (.lst us)) (hus : DpAll K H us dk) (l6 : dk.length ≤ 6) (hl : SeqD K H lk dl) (l64 : dl.length < 64) (pe : ∀ d ∈ dl, ∀ ds, d = .tuple ds → ∀ e ∈ ds, partE e) (bad : badPart dk dl = some d)
    (q : ∀ t H', Same H H' → Dp K H' (.ref t) (.tuple [d]) → Q (.ref t) H') : MadeLP K CR [.ref a, lk] H Q := by
  refine ⟨a, lk, us, dk, dl, rfl, ha, hus, l6, hl, l64, pe, fun ks1 ls1 x ls H' e1 hw e2 al lo hx s r => ?_, fun d' t H' e s h => ?_⟩
  · exfalso
    have no : badPart dk dl = none := by
      unfold badPart
      rw [find_no fun d hd => ?_, find_no fun d hd => ?_]
      · rfl
      · rw [al d hd]
        rfl
      · subst e1
        obtain ⟨z, hz, rfl⟩ := List.mem_map.mp hd
        show (!decide (z ∈ words6)) = false
        rw [decide_eq_true (hw z hz)]
        rfl
    rw [no] at bad
    cases bad
  · rw [bad] at e
    cases e
    exact q t H' s h
theorem eq_rules {H : Hp} {Q : VK} {E : XK} {x y : Addr} {k1 k2 : List Str} {l1 l2 : List (Str × Str)} (RC : RuleC K mg CR) (RE : RuleE P w K mg base CR) (hx : RuleV K CR H x k1 l1) (hy : RuleV K CR H y k2 l2) (G1 : RuleG k1 l1) (G2 : RuleG k2 l2) (q : Q (.bl (decide (k1 = k2) && decide (l1 = l2))) H) :
    rEqOwn K CR (spREq K CR) E (.ref x) (.ref y) H Q := by
  have ty := rule_ty RC hy
  obtain ⟨dx, k, l, p, h1, _⟩ := id hx
  refine ⟨x, dx, _, .ref CR, rfl, h1, ty, RE.nC, x, .ref y, k1, l1, rfl, hx, G1.ok, .inl ⟨y, k2, l2, rfl, hy, G2.ok, ?_⟩⟩
  rw [eq_ki, eq_lo]
  exact ⟨_, rfl, q⟩
theorem ne_rules {H : Hp} {Q : VK} {E : XK} {x y : Addr} {k1 k2 : List Str} {l1 l2 : List (Str × Str)} (RC : RuleC K mg CR) (RE : RuleE P w K mg base CR) (hx : RuleV K CR H x k1 l1) (hy : RuleV K CR H y k2 l2) (G1 : RuleG k1 l1) (G2 : RuleG k2 l2) (q : Q (.bl (!(decide (k1 = k2) && decide (l1 = l2)))) H) :
    rNeOwn K CR (spREq K CR) E (.ref x) (.ref y) H Q := by
  have ty := rule_ty RC hy
  obtain ⟨dx, k, l, p, h1, _⟩ := id hx
  refine ⟨x, dx, _, .ref CR, rfl, h1, ty, RE.nC, x, .ref y, k1, l1, rfl, hx, G1.ok, .inl ⟨y, k2, l2, rfl, hy, G2.ok, ?_⟩⟩
  rw [eq_ki, eq_lo]
  exact ⟨_, rfl, q⟩
/-- a rule is no list -/
theorem eq_list {H : Hp} {Q : VK} {E : XK} {x a : Addr} {ks : List Str} {ls : List (Str × Str)} {us : List V} (RE : RuleE P w K mg base CR) (hx : RuleV K CR H x ks ls) (G : RuleG ks ls) (ha : H a = some (.lst us)) (q : Q (.bl false) H) : rEqOwn K CR (spREq K CR) E (.ref x) (.ref a) H Q := by
  obtain ⟨dx, k, l, p, h1, _⟩ := id hx
  exact ⟨x, dx, _, .type "list", rfl, h1, sql_ty (SqL.of ha), RE.nL, x, .ref a, ks, ls, rfl, hx, G.ok, .inr ⟨_, sql_ty (SqL.of ha), RE.kL, _, rfl, q⟩⟩
/-- two rules under an own operator -/
theorem op_rules {H : Hp} {Q : VK} {E : XK} {x y : Addr} {k1 k2 : List Str} {l1 l2 : List (Str × Str)} {fk : List Str → List Str → List Str} {fl : List (Str × Str) → List (Str × Str) → List (Str × Str)} (hx : RuleV K CR H x k1 l1) (hy : RuleV K CR H y k2 l2) (G1 : RuleG k1 l1) (G2 : RuleG k2 l2)
    (q : ∀ z ls H', LooksOf (fl l1 l2) ls → H z = none → Same H H' → RuleV K CR H' z (kinds6 (fk k1 k2)) ls → Q (.ref z) H') : rOpO CR (spROp K CR fk fl) E (.ref x) (.ref y) H Q := by
  obtain ⟨dx, k, l, p, h1, _⟩ := id hx
  obtain ⟨dy, k', l', p', h2, _⟩ := id hy
  exact ⟨x, y, dx, dy, _, _, rfl, rfl, h1, h2, x, y, k1, k2, l1, l2, rfl, hx, G1, hy, G2, q⟩
end
/-- what is kept of a rule that was made: the pair of it and of its parts -/
def Entry (K : PySem.W.Frag) (CR : Addr) (Z : Hp) (t : V) : Prop := ∃ (tt x a : Addr) (us : List V) (ks : List Str) (ls : List (Str × Str)), t = .ref tt ∧ SqT K Z tt [.ref x, .ref a] ∧ RuleV K CR Z x ks ls ∧ RuleG ks ls ∧ Z a = some (.lst us) ∧ DpAll K Z us (paD ks ls)
theorem Entry.same {K : PySem.W.Frag} {CR : Addr} {Z Z' : Hp} {t : V} (h : Entry K CR Z t) (s : Same Z Z') : Entry K CR Z' t := by
  obtain ⟨tt, x, a, us, ks, ls, e, h1, h2, G, h3, h4⟩ := h
  exact ⟨tt, x, a, us, ks, ls, e, SqT.ext h1 s, h2.same s, G, s _ _ h3, dpAll_same s _ h4⟩
/-- the heap without one object -/
def hid (p : Addr) (H : Hp) : Hp := fun b => if b = p then none else H b
theorem hid_at {p b : Addr} {H : Hp} (h : b ≠ p) : hid p H b = H b := if_neg h
theorem hid_self {p : Addr} {H : Hp} : hid p H p = none := if_pos rfl
theorem hid_but (p : Addr) (H : Hp) : But p H (hid p H) := fun b o n e => by rw [hid_at n]; exact e
theorem hid_same (p : Addr) (H : Hp) : Same (hid p H) H := fun b o e => by
  unfold hid at e
  split at e
  · cases e
  · exact e
theorem same_hid {p : Addr} {Z H : Hp} (s : Same Z H) (hz : Z p = none) : Same Z (hid p H) := fun b o e => by
  have n : b ≠ p := fun z => by rw [z, hz] at e; cases e
  rw [hid_at n]
  exact s _ _ e
theorem shownL {ds : List PyData} (f : Fair ds) (l : ds.length ≤ 200) : ShownOk (.list ds) := f.listOk l
/-- what is shown of lists of parts is of fair size -/
theorem told_ok {a b c : List PyData} (fa : Fair a) (fb : Fair b) (fc : Fair c) (la : a.length ≤ 20) (lb : b.length ≤ 20) (lc : c.length ≤ 20) : ShownOk (.list [.list a, .list b, .list c]) := by
  have one : ∀ {ds : List PyData}, Fair ds → ds.length ≤ 20 → (PyData.list ds).showable = true ∧ (PyData.list ds).hasDict = false ∧ (PyData.list ds).depth ≤ 11 ∧ (PyData.list ds).shown.length ≤ 90000 := fun f l => by
    have o := f.listOk (Nat.le_trans l (by decide))
    refine ⟨o.s, o.n, ?_, list_len f (Nat.le_trans l (by decide))⟩
    rw [PyData.depth]
    have := f.all.dep
    omega
  obtain ⟨a1, a2, a3, a4⟩ := one fa la
  obtain ⟨b1, b2, b3, b4⟩ := one fb lb
  obtain ⟨c1, c2, c3, c4⟩ := one fc lc
  refine ⟨?_, ?_, ?_, ?_⟩
  · rw [PyData.showable, PyData.showableAll, PyData.showableAll, PyData.showableAll, PyData.showableAll, a1, b1, c1]; rfl
  · rw [PyData.hasDict, PyData.hasDictAll, PyData.hasDictAll, PyData.hasDictAll, PyData.hasDictAll, a2, b2, c2]; rfl
  · rw [PyData.depth, PyData.depthAll, PyData.depthAll, PyData.depthAll, PyData.depthAll]
    omega
  · have z := listText_len_le (PyData.shownAll [.list a, .list b, .list c])
    rw [PyData.shown]
    rw [PyData.shownAll, PyData.shownAll, PyData.shownAll, PyData.shownAll] at z ⊢
    simp only [List.map_cons, List.map_nil, List.sum_cons, List.sum_nil, List.length_cons, List.length_nil] at z
    exact line_ge (by omega)
theorem shaped2 {a b : List PyData} (fa : Fair a) (fb : Fair b) : SeqAt.shaped (.list [.list a, .list b]) = true := by
  have x := fa.all
  have y := fb.all
  unfold SeqAt.shaped
  rw [PyData.canLay0, PyData.canLayAll0, PyData.canLayAll0, PyData.canLayAll0, PyData.canLay0, PyData.canLay0, x.lay, y.lay, PyData.depth, PyData.depthAll, PyData.depthAll, PyData.depthAll, PyData.depth, PyData.depth]
  have := x.dep
  have := y.dep
  exact decide_eq_true (by omega)
theorem pair_ok {d : PyData} (f : Fair1 d) : ShownOk (.tuple [d]) := Fair.tupOk (fun x hx => by rw [List.mem_singleton.mp hx]; exact f) (by show 1 ≤ 200; decide)
end K5

namespace K5
open PySem L2
abbrev sLaw : Stmt := top 32
abbrev nLaw : List Str := ["_law_script", "_law_made_here", "_law_place", "_law_pool_here", "_law_kinds_here", "_law_given", "_law_copies", "_law_rule", "_law_parts_here", "_law_spots", "_law_strange", "_law_bad_kinds", "_law_bad_looks", "_law_first", "_law_second", "_law_others", "_law_due", "_law_told"]
def spLaw (K : PySem.W.Frag) : Sp := fun vs H Q _ => ∃ (a : Addr) (ns : List Int), vs = [.ref a] ∧ SqL K H a (ns.map V.int) ∧ ns.length ≤ 63 ∧ ∀ H', Q (.bl true) H'
abbrev sl (a m : Addr) (z po ki gi co ru pa sp st bk bl fi se ot du to : Option V) : St := [some (.ref a), some (.ref m), z, po, ki, gi, co, ru, pa, sp, st, bk, bl, fi, se, ot, du, to]
section
variable {P : Program} {w : World} {K : PySem.W.Frag} {mg : Str → Option Value} {base : Heap} {CR : Addr}
theorem scLaw : FnScope nLaw ["_law_script"] (defScope sLaw) := ⟨rfl, rfl, rfl, by decide +kernel, rfl, by decide +kernel, by decide +kernel⟩
theorem ok_law {f : Addr} {fd : FuncData} (F : Fun K "law" "law" sLaw f fd) (T : Bare mg) (RC : RuleC K mg CR) (RD : RuleD P w K mg base CR) (RE : RuleE P w K mg base CR)
    (GPo : Fn P w K mg base 1 "_law_pool" ["_law_script", "_law_place"] (spPool K)) (GPi : Fn P w K mg base 1 "_law_pick" ["_law_pool_here", "_law_many"] spPick) (GK : Fn P w K mg base 3 "_law_kinds" ["_law_pool_here"] spKinds) (GL : Fn P w K mg base 3 "_law_looks" ["_law_pool_here"] (spLooks K))
    (GO : Fn P w K mg base 3 "_law_odd" ["_law_pool_here", "_law_is_look"] (spOdd K)) (GPa : Fn P w K mg base 1 "_law_parts" ["_law_words_drawn", "_law_looks_drawn"] (spParts K)) (GM : Fn P w K mg base 7 "_law_made" pMadeL (spMadeL K CR))
    (GR : Fn P w K mg base 1 "_law_read_off" ["_law_rule"] (spOff K CR)) (GT : Fn P w K mg base 2 "_law_together" ["_law_first", "_law_second"] (spTog K)) (GH : Fn P w K mg base 5 "_law_holds" ["_law_rule", "_law_parts_here"] (spHolds K CR)) :
    FnG P w K mg base 9 f fd ["_law_script"] (spLaw K) := by
  refine F.okG scLaw (fun vs H Q E h => ?_) (fun cdv A outer s H vs Q hgu hr h => ?_)
  · obtain ⟨a, ns, rfl, _⟩ := h
    rfl
  · obtain ⟨a, ns, rfl, hS, hl, q⟩ := h
    have hr8 : Room 8 _ := hr
    have hr7 : Room 7 _ := hr.mono (by decide)
    have hr5 : Room 5 _ := hr.mono (by decide)
    have hr3 : Room 3 _ := hr.mono (by decide)
    have hr2 : Room 2 _ := hr.mono (by decide)
    have hr1 : Room 1 _ := hr.mono (by decide)
    obtain ⟨fE, fdE, FE, hsE, hfE, bE⟩ := RD.eq
    obtain ⟨fW, fdW, FW, mW, bW⟩ := RD.wi
    obtain ⟨fO, fdO, FO, oO, bO⟩ := RD.or_
    obtain ⟨fA, fdA, FA, oA, bA⟩ := RD.and_
    obtain ⟨fS, fdS, FS, oS, bS⟩ := RD.sub_
    obtain ⟨mc, pV, fV, fdV, FV, cV, mV, bV⟩ := RE.ev
    refine ⟨_, (C8.pss_cut (ps_set (i := 1) scLaw.nd rfl (.inl rfl) (pe_lst pa_nil))
        (C8.pss_cut (ps_for PassesOwn.never rfl (pi_range1 (by rfl) T.range (pa_cons pe_int pa_nil)) (pg_name (i := 2) scLaw.nd rfl (.inl rfl))
        (C8.pss_cut (ps_set (i := 3) scLaw.nd rfl (.inl rfl) (pe_fn GPo hr1 rfl (pa_cons (pv 0) (pa_cons (pv 2) pa_nil))))
        (C8.pss_cut (ps_par (i := 4) (j := 5) (by rfl) scLaw.nd rfl rfl (by decide) rfl rfl (pa_cons (pe_fn GK hr3 rfl (pa_cons (pv 3) pa_nil)) (pa_cons (pe_fn GL hr3 rfl (pa_cons (pv 3) pa_nil)) pa_nil)) (by rfl))
        (C8.pss_cut (ps_set (i := 6) scLaw.nd rfl (.inl rfl) (pe_lst (pa_cons (pe_callTy call_list_of (by rfl) T.list (by decide +kernel) (pa_cons (pv 4) pa_nil)) (pa_cons (pe_callTy call_list_of (by rfl) T.list (by decide +kernel) (pa_cons (pv 5) pa_nil)) pa_nil))))
        (C8.pss_cut (ps_set (i := 7) scLaw.nd rfl (.inl rfl) (pe_fn GM hr7 rfl (pa_cons (pv 4) (pa_cons (pv 5) pa_nil))))
        (C8.pss_cut (ps_set (i := 8) scLaw.nd rfl (.inl rfl) (pe_fn GPa hr1 rfl (pa_cons (pe_ix ix_list (pv 6) pe_int (fun _ _ => rfl)) (pa_cons (pe_ix ix_list (pv 6) pe_int (fun _ _ => rfl)) pa_nil))))
        (C8.pss_cut (ps_if (PW.pt (pw_or (pt_not (pt_val (pe_callB call_isi (by rfl) T.isi (by decide +kernel) (pa_cons (pv 7) (pa_cons (pe_glob (v := .ref CR) (by rfl) RC.gC rfl) pa_nil))))) (pw_or (pt_cmpR op_ne (pe_callB (call_reprD hgu hr.units) (by rfl) T.repr (by decide +kernel) (pa_cons (pe_fn GR hr1 rfl (pa_cons (pv 7) pa_nil)) pa_nil)) (pe_callB (call_reprD hgu hr.units) (by rfl) T.repr (by decide +kernel) (pa_cons (pv 8) pa_nil)) (nomark _)) (pw_or1 (pt_cmpR (op_neD hr.units) (pe_lst (pa_cons (pv 4) (pa_cons (pv 5) pa_nil))) (pv 6) (nomark _)))))) (pss_one (ps_ret pe_bl)) pss_nil)
        (C8.pss_cut (ps_if (PW.pt (pw_or (pt_cmpR (op_neOwn (E := fun _ _ _ => False) FE hr2 hsE hfE RD.ne RC.hm bE pass0) (pe_fn GM hr7 rfl (pa_cons (pv 4) (pa_cons (pe_callTy call_tuple_of (by rfl) T.tuple (by decide +kernel) (pa_cons (pv 5) pa_nil)) pa_nil))) (pv 7) (nomark _)) (pw_or1 (pt_cmpR (op_neOwn (E := fun _ _ _ => False) FE hr2 hsE hfE RD.ne RC.hm bE pass0) (pe_fn GM hr7 rfl (pa_cons (pe_revL (pv 4)) (pa_cons (pe_op op_cat (pe_revL (pv 5)) (pv 5)) pa_nil))) (pv 7) (nomark _))))) (pss_one (ps_ret pe_bl)) pss_nil)
        (C8.pss_cut (ps_set (i := 9) scLaw.nd rfl (.inl rfl) (pe_lst (pa_cons (pe_fn GPi hr1 rfl (pa_cons (pv 3) (pa_cons (pe_op op_add (pe_callB call_len_seq (by rfl) T.len PySem.boot_len (pa_cons (pv 4) pa_nil)) pe_int) pa_nil))) (pa_cons (pe_fn GPi hr1 rfl (pa_cons (pv 3) (pa_cons (pe_op op_add (pe_callB call_len_seq (by rfl) T.len PySem.boot_len (pa_cons (pv 5) pa_nil)) pe_int) pa_nil))) pa_nil))))
        (C8.pss_cut (ps_set (i := 10) scLaw.nd rfl (.inl rfl) (pe_lst (pa_cons (pe_fn GO hr3 rfl (pa_cons (pv 3) (pa_cons pe_bl pa_nil))) (pa_cons (pe_fn GO hr3 rfl (pa_cons (pv 3) (pa_cons pe_bl pa_nil))) pa_nil))))
        (C8.pss_cut (ps_set (i := 11) scLaw.nd rfl (.inl rfl) (pe_slice sl_list (pe_op op_cat (pe_op op_cat (pe_slice sl_list (pv 4) po_none (po_some (pe_ix ix_list (pv 9) pe_int (fun _ _ => rfl)))) (pe_lst (pa_cons (pe_ix ix_list (pv 10) pe_int (fun _ _ => rfl)) pa_nil))) (pe_slice sl_list (pv 4) (po_some (pe_ix ix_list (pv 9) pe_int (fun _ _ => rfl))) po_none)) po_none (po_some pe_int)))
        (C8.pss_cut (ps_set (i := 12) scLaw.nd rfl (.inl rfl) (pe_op op_cat (pe_op op_cat (pe_slice sl_list (pv 5) po_none (po_some (pe_ix ix_list (pv 9) pe_int (fun _ _ => rfl)))) (pe_lst (pa_cons (pe_ix ix_list (pv 10) pe_int (fun _ _ => rfl)) pa_nil))) (pe_slice sl_list (pv 5) (po_some (pe_ix ix_list (pv 9) pe_int (fun _ _ => rfl))) po_none)))
        (C8.pss_cut (ps_if (pt_cmpR op_ne (pe_callB (call_reprD hgu hr.units) (by rfl) T.repr (by decide +kernel) (pa_cons (pe_fn GM hr7 rfl (pa_cons (pv 11) (pa_cons (pv 12) pa_nil))) pa_nil)) (pe_callB (call_reprD hgu hr.units) (by rfl) T.repr (by decide +kernel) (pa_cons (pe_tup (pa_cons (pe_ix ix_list (pv 10) pe_int (fun _ _ => rfl)) pa_nil)) pa_nil)) (nomark _)) (pss_one (ps_ret pe_bl)) pss_nil)
        (C8.pss_cut (ps_if (PW.pt (pw_or (pt_cmpR op_ne (pe_callB (call_reprD hgu hr.units) (by rfl) T.repr (by decide +kernel) (pa_cons (pe_fn GM hr7 rfl (pa_cons (pv 4) (pa_cons (pv 12) pa_nil))) pa_nil)) (pe_callB (call_reprD hgu hr.units) (by rfl) T.repr (by decide +kernel) (pa_cons (pe_tup (pa_cons (pe_ix ix_list (pv 10) pe_int (fun _ _ => rfl)) pa_nil)) pa_nil)) (nomark _)) (pw_or1 (pt_cmpR op_ne (pe_callB (call_reprD hgu hr.units) (by rfl) T.repr (by decide +kernel) (pa_cons (pe_fn GM hr7 rfl (pa_cons (pv 11) (pa_cons (pv 5) pa_nil))) pa_nil)) (pe_callB (call_reprD hgu hr.units) (by rfl) T.repr (by decide +kernel) (pa_cons (pe_tup (pa_cons (pe_ix ix_list (pv 10) pe_int (fun _ _ => rfl)) pa_nil)) pa_nil)) (nomark _))))) (pss_one (ps_ret pe_bl)) pss_nil)
        (C8.pss_cut (ps_expr (pe_bm PySem.F.plainAttrs_list PySem.F.slot_list_append PySem.F.type_list_append mt_append (pv 5) (pa_cons (pe_tup (pa_cons pe_str (pa_cons pe_str pa_nil))) pa_nil)))
        (pss_one (ps_expr (pe_bm PySem.F.plainAttrs_list PySem.F.slot_list_append PySem.F.type_list_append mt_append (pv 1) (pa_cons (pe_tup (pa_cons (pv 7) (pa_cons (pv 8) pa_nil))) pa_nil)))))))))))))))))))
        (C8.pss_cut (ps_for PassesOwn.never rfl (pi_list (pv 1)) (pg_tup (by rfl) (pgs_cons (pg_name (i := 13) scLaw.nd rfl (.inl rfl)) (pgs_cons (pg_name (i := 8) scLaw.nd rfl (.inl rfl)) pgs_nil)))
        (C8.pss_cut (ps_for PassesOwn.never rfl (pi_list (pv 1)) (pg_tup (by rfl) (pgs_cons (pg_name (i := 14) scLaw.nd rfl (.inl rfl)) (pgs_cons (pg_name (i := 15) scLaw.nd rfl (.inl rfl)) pgs_nil)))
        (C8.pss_cut (ps_set (i := 16) scLaw.nd rfl (.inl rfl) (pe_fn GT hr2 rfl (pa_cons (pv 8) (pa_cons (pv 15) pa_nil))))
        (C8.pss_cut (ps_set (i := 17) scLaw.nd rfl (.inl rfl) (pe_lst (pa_cons (pe_fn GR hr1 rfl (pa_cons (pe_op (op_own (E := fun _ _ _ => False) FO hr8 oO bO (fun _ => fun _ _ _ _ _ _ h => h.elim)) (pv 13) (pv 14)) pa_nil)) (pa_cons (pe_fn GR hr1 rfl (pa_cons (pe_op (op_own (E := fun _ _ _ => False) FA hr8 oA bA (fun _ => fun _ _ _ _ _ _ h => h.elim)) (pv 13) (pv 14)) pa_nil)) (pa_cons (pe_fn GR hr1 rfl (pa_cons (pe_op (op_own (E := fun _ _ _ => False) FS hr8 oS bS (fun _ => fun _ _ _ _ _ _ h => h.elim)) (pv 13) (pv 14)) pa_nil)) pa_nil)))))
        (C8.pss_cut (ps_if (PW.pt (pw_or (pt_cmpR op_ne (pe_callB (call_reprD hgu hr.units) (by rfl) T.repr (by decide +kernel) (pa_cons (pv 17) pa_nil)) (pe_callB (call_reprD hgu hr.units) (by rfl) T.repr (by decide +kernel) (pa_cons (pv 16) pa_nil)) (nomark _)) (pw_or1 (pt_cmpR op_ne (pe_cmpR (op_eqOwn (E := fun _ _ _ => False) FE hr1 hsE hfE bE pass0) (pv 13) (pv 14) (nomark _)) (pe_cmpR (op_eqD hr.units) (pv 8) (pv 15) (nomark _)) (nomark _))))) (pss_one (ps_ret pe_bl)) pss_nil)
        (pss_one (ps_if (PW.pt (pw_or (pt_cmpR op_ne (pe_callB (call_reprD hgu hr.units) (by rfl) T.repr (by decide +kernel) (pa_cons (pe_meth (E := fun _ _ _ => False) (pv 13) RC.cl mW FW hr1 bW .nil pass0 (pa_cons (pv 14) pa_nil)) pa_nil)) (pe_callB (call_reprD hgu hr.units) (by rfl) T.repr (by decide +kernel) (pa_cons (pe_cmpR (op_eqD hr.units) (pe_ix ix_list (pv 16) pe_int (fun _ _ => rfl)) (pe_lst pa_nil) (nomark _)) pa_nil)) (nomark _)) (pw_or1 (pt_cmpR (op_neOwn (E := fun _ _ _ => False) FE hr2 hsE hfE RD.ne RC.hm bE pass0) (pe_op (op_own (E := fun _ _ _ => False) FO hr8 oO bO (fun _ => fun _ _ _ _ _ _ h => h.elim)) (pv 13) (pv 14)) (pe_op (op_own (E := fun _ _ _ => False) FO hr8 oO bO (fun _ => fun _ _ _ _ _ _ h => h.elim)) (pv 14) (pv 13)) (nomark _))))) (pss_one (ps_ret pe_bl)) pss_nil))))))
        (pss_one (ps_if (PW.pt (pw_or (pt_not (pt_val (pe_fn GH hr5 rfl (pa_cons (pv 13) (pa_cons (pv 8) pa_nil))))) (pw_or (pt_cmpR op_ne (pe_callB (call_reprD hgu hr.units) (by rfl) T.repr (by decide +kernel) (pa_cons (pe_fn GR hr1 rfl (pa_cons (pv 13) pa_nil)) pa_nil)) (pe_callB (call_reprD hgu hr.units) (by rfl) T.repr (by decide +kernel) (pa_cons (pv 8) pa_nil)) (nomark _)) (pw_or1 (pt_cmpR (op_eqOwn (E := fun _ _ _ => False) FE hr1 hsE hfE bE pass0) (pv 13) (pv 8) (nomark _)))))) (pss_one (ps_ret pe_bl)) pss_nil))))
        (pss_one (ps_ret (pe_cmpR (op_eqD hr.units) (pe_fn GR hr1 rfl (pa_cons (pe_static (E := fun _ _ _ _ => False) (pe_glob (v := .ref CR) (by rfl) RC.gC rfl) cV mV FV hr7 bV (fun _ => fun _ _ _ _ _ _ h => h.elim)) pa_nil)) (pe_lst (pa_cons pe_str (pa_cons pe_str (pa_cons pe_str (pa_cons pe_str (pa_cons pe_str (pa_cons pe_str pa_nil))))))) (nomark _))))))), ?_⟩
    have FairK : ∀ {ks : List Str} {ls : List (Str × Str)}, RuleG ks ls → Fair (paD ks ls) := fun G => pa_fair G.w G.m
    -- nothing is made yet
    refine ⟨fun σ H' => ∃ m, σ = sl a m none none none none none none none none none none none none none none none none ∧ Same H H' ∧ H m = none ∧ H' m = some (.lst []), ⟨by show 0 ≤ sizeLine; decide, fun m hm => ⟨m, rfl, Same.new (Same.refl H) hm, hm, upd_same⟩⟩, ?_⟩
    rintro σ H0 ⟨m, rfl, s0, hm0', hm⟩
    -- three rules are made
    refine ⟨fun σ H' => (∃ z po ki gi co ru pa sp st bk bl, σ = sl a m z po ki gi co ru pa sp st bk bl none none none none none) ∧ ∃ (Z : Hp) (ts : List V), H' m = some (.lst ts) ∧ ts.length ≤ 3 ∧ Same Z H' ∧ Z m = none ∧ ∀ t ∈ ts, Entry K CR Z t, ?_, ?_⟩
    · refine ⟨3, rfl, by decide, by decide, for_range (lo := 0) (n := 3) (fun i σ H' => (∃ z po ki gi co ru pa sp st bk bl, σ = sl a m z po ki gi co ru pa sp st bk bl none none none none none) ∧ Same H H' ∧ ∃ (Z : Hp) (ts : List V), H' m = some (.lst ts) ∧ ts.length ≤ i ∧ Same Z H' ∧ Z m = none ∧ ∀ t ∈ ts, Entry K CR Z t) ⟨⟨_, _, _, _, _, _, _, _, _, _, _, rfl⟩, s0, fun _ => none, [], hm, Nat.le_refl _, (fun _ _ e => nomatch e), rfl, fun _ h => nomatch h⟩ (fun i σ H1 hi h => ?_) (fun σ H1 h => ⟨h.1, h.2.2⟩)⟩
      obtain ⟨⟨z, po, ki, gi, co, ru, pa, sp, st, bk, bl, rfl⟩, s1, Z, ts, hm1, lts, sZ, zm, en⟩ := h
      -- the pool
      refine ⟨fun σ H' => ∃ (z : Option V) (p : Addr), σ = sl a m z (some (.ref p)) ki gi co ru pa sp st bk bl none none none none none ∧ Same H1 H' ∧ H1 p = none ∧ Pool H' p 0, ⟨_, rfl, _, rfl, a, ns, _, rfl, s1.seq hS, hl, by omega, by omega, fun p H2 hp s2 hP => ⟨_, p, rfl, s2, hp, hP⟩⟩, ?_⟩
      rintro σ H2 ⟨z', p, rfl, s2, hp1, hP2⟩
      -- words and looks
      refine ⟨fun σ H' => ∃ (kA gA : Addr) (ks0 : List Str) (gs : List V) (ls0 : List (Str × Str)), σ = sl a m z' (some (.ref p)) (some (.ref kA)) (some (.ref gA)) co ru pa sp st bk bl none none none none none ∧ (kA ≠ p ∧ gA ≠ p ∧ H2 kA = none ∧ H2 gA = none) ∧ H' kA = some (.lst (ks0.map V.str)) ∧ (∀ z ∈ ks0, z ∈ words6) ∧ ks0.length ≤ 5 ∧ H' gA = some (.lst gs) ∧ DpAll K H' gs (loD ls0) ∧ (∀ p ∈ ls0, p ∈ looks10) ∧ ls0.length ≤ 3 ∧ Keep p H2 H' ∧ Pool H' p 12, ?_, ?_⟩
      · refine ⟨_, rfl, p, 0, rfl, hP2, by omega, fun kA ks0 H3 hk0 hk hw l5 k3 p3 => ⟨_, rfl, p, 6, rfl, p3, by omega, fun gA gs ls0 H4 hg0 hg hgs h10 l3 k4 p4 => ?_⟩⟩
        have nk := pool_ne hP2 hk0
        have ng := pool_ne p3 hg0
        exact ⟨_, _, rfl, kA, gA, ks0, gs, ls0, rfl, ⟨nk, ng, hk0, k3.free ng hg0⟩, k4 _ _ nk hk, hw, l5, hg, hgs, h10, l3, k3.trans k4, p4.mono (by omega)⟩
      rintro σ H4 ⟨kA, gA, ks0, gs, ls0, rfl, ⟨nk, ng, hk2, hg2⟩, hk, hw, l5, hg, hgs, h10, l3, k4, hP4⟩
      have s14 : Same H1 H4 := k4.same s2 hp1
      have lgs : gs.length = ls0.length := by rw [DpAll.len hgs, loD, List.length_map]
      -- their copies
      refine ⟨fun σ H' => ∃ (c1 c2 C : Addr), σ = sl a m z' (some (.ref p)) (some (.ref kA)) (some (.ref gA)) (some (.ref C)) ru pa sp st bk bl none none none none none ∧ Same H4 H' ∧ H' C = some (.lst [.ref c1, .ref c2]) ∧ H' c1 = some (.lst (ks0.map V.str)) ∧ H' c2 = some (.lst gs), ?_, ?_⟩
      · refine ⟨_, rfl, kA, _, rfl, .inl (SqL.of hk), fun c1 hc1 => ?_⟩
        have sa := Same.new (o := .lst (ks0.map V.str)) (Same.refl H4) hc1
        refine ⟨_, rfl, gA, _, rfl, .inl (SqL.of (sa _ _ hg)), fun c2 hc2 => ⟨by show 2 ≤ sizeLine; decide, fun C hC => ?_⟩⟩
        have sb := Same.new (o := .lst gs) (Same.refl _) hc2
        have sc := Same.new (o := .lst [.ref c1, .ref c2]) (Same.refl _) hC
        exact ⟨c1, c2, C, rfl, sa.trans (sb.trans sc), upd_same, (sb.trans sc) _ _ upd_same, sc _ _ upd_same⟩
      rintro σ H5 ⟨c1, c2, C, rfl, s5, hC, hc1, hc2⟩
      have hk5 := s5 _ _ hk
      have hg5 := s5 _ _ hg
      have hgs5 := dpAll_same s5 _ hgs
      -- the rule
      refine ⟨fun σ H' => ∃ (x : Addr) (ls : List (Str × Str)), σ = sl a m z' (some (.ref p)) (some (.ref kA)) (some (.ref gA)) (some (.ref C)) (some (.ref x)) pa sp st bk bl none none none none none ∧ Same H5 H' ∧ RuleV K CR H' x (kinds6 ks0) ls ∧ LooksOf ls0 ls, ?_, ?_⟩
      · exact ⟨_, rfl, _, rfl, madeG hk5 (of_txts ks0) hw (by omega) (.inl (.lst (SqL.of hg5) hgs5)) h10 (by omega) fun x ls H' lo _ s r => ⟨x, ls, rfl, s, r, lo⟩⟩
      rintro σ H6 ⟨x, ls, rfl, s6, hR, lo⟩
      have G : RuleG (kinds6 ks0) ls := lo.good h10
      have ok := G.ok
      -- its parts
      refine ⟨fun σ H' => ∃ (A : Addr) (us : List V), σ = sl a m z' (some (.ref p)) (some (.ref kA)) (some (.ref gA)) (some (.ref C)) (some (.ref x)) (some (.ref A)) sp st bk bl none none none none none ∧ H6 A = none ∧ Same H6 H' ∧ H' A = some (.lst us) ∧ DpAll K H' us (paD (kinds6 ks0) ls), ?_, ?_⟩
      · refine ⟨_, rfl, C, _, 0, .ref c1, rfl, rfl, SqL.of (s6 _ _ hC), rfl, _, rfl, C, _, 1, .ref c2, rfl, rfl, SqL.of (s6 _ _ hC), rfl, c1, c2, ks0.map V.str, gs, ks0, ls0, rfl, SqL.of (s6 _ _ hc1), of_txts ks0, SqL.of (s6 _ _ hc2), dpAll_same s6 _ hgs5, h10, by omega, fun A us ls' H' hA0 hA hus lo' s => ?_⟩
        rw [lo'.one lo fun _ => Iff.rfl] at hus
        exact ⟨A, us, rfl, hA0, s, hA, hus⟩
      rintro σ H7 ⟨A, us, rfl, hA0, s7, hA, hus⟩
      have hR7 := hR.same s7
      have oP := shownL (FairK G) ok.n
      have fK : Fair (kiD ks0) := ki_fair hw
      have fL : Fair (loD ls0) := lo_fair h10
      -- it is as it should be
      refine ⟨fun σ H' => σ = sl a m z' (some (.ref p)) (some (.ref kA)) (some (.ref gA)) (some (.ref C)) (some (.ref x)) (some (.ref A)) (sp) (st) (bk) (bl) none none none none none ∧ Same H7 H', ?_, ?_⟩
      · refine ⟨_, rfl, .ref x, .ref CR, .ref CR, .ref CR, true, rfl, .own CR, rule_ty RC hR7, kit_self K CR, true, rfl, iteF ?_⟩
        refine ⟨_, rfl, x, kinds6 ks0, ls, rfl, hR7, ok, fun D vs H8 hD0 hD hvs s8 => ?_⟩
        refine ⟨.ref D, .list (paD (kinds6 ks0) ls), rfl, .lst (SqL.of hD) hvs, oP.s, oP.n, oP.dp, oP.l, _, rfl, .ref A, .list (paD (kinds6 ks0) ls), rfl, .lst (SqL.of (s8 _ _ hA)) (dpAll_same s8 _ hus), oP.s, oP.n, oP.dp, oP.l, rfl, _, rfl, iteF' (by rw [decide_eq_true rfl]; rfl) ?_⟩
        refine ⟨_, rfl, _, rfl, by show 2 ≤ sizeLine; decide, fun N hN => ?_⟩
        have s9 := Same.new (o := .lst [.ref kA, .ref gA]) (Same.refl H8) hN
        have s59 := s6.trans (s7.trans (s8.trans s9))
        have gs9 := dpAll_same s59 _ hgs5
        have sh := shaped2 fK fL
        refine ⟨_, rfl, .list [.list (kiD ks0), .list (loD ls0)], .list [.list (kiD ks0), .list (loD ls0)], .lst (SqL.of upd_same) (.cons (.lst (SqL.of (s59 _ _ hk5)) (of_txts ks0)) (.cons (.lst (SqL.of (s59 _ _ hg5)) gs9) .nil)), .lst (SqL.of (s59 _ _ hC)) (.cons (.lst (SqL.of (s59 _ _ hc1)) (of_txts ks0)) (.cons (.lst (SqL.of (s59 _ _ hc2)) gs9) .nil)), sh, sh, _, rfl, iteF' (by rw [eqv_self sh]; rfl) ⟨rfl, s8.trans s9⟩⟩
      rintro σ H8 ⟨rfl, s8⟩
      have s58 := s6.trans (s7.trans s8)
      have hk8 := s58 _ _ hk5
      have hg8 := s58 _ _ hg5
      have hgs8 := dpAll_same s58 _ hgs5
      have hR8 := hR7.same s8
      -- made of a tuple, turned about, twice over: the same
      refine ⟨fun σ H' => σ = sl a m z' (some (.ref p)) (some (.ref kA)) (some (.ref gA)) (some (.ref C)) (some (.ref x)) (some (.ref A)) (sp) (st) (bk) (bl) none none none none none ∧ Same H8 H', ?_, ?_⟩
      · refine ⟨_, rfl, _, rfl, gA, gs, rfl, .inl ⟨SqL.of hg8, fun t ht => ?_⟩⟩
        have st1 := Same.new (o := .tup gs) (Same.refl H8) ht
        refine madeG (st1 _ _ hk8) (of_txts ks0) hw (by omega) (.inr (.tup (SqT.of upd_same) (dpAll_same st1 _ hgs8))) h10 (by omega) fun x2 ls2 H9 lo2 _ s9 r2 => ?_
        have e2 : ls2 = ls := lo2.one lo fun _ => Iff.rfl
        subst e2
        have s89 := st1.trans s9
        refine ⟨_, rfl, ne_rules RC RE r2 (hR8.same s89) G G ⟨_, rfl, iteF' (by simp) ?_⟩⟩
        have hk9 := s89 _ _ hk8
        have hg9 := s89 _ _ hg8
        have hgs9 := dpAll_same s89 _ hgs8
        refine ⟨_, rfl, kA, _, rfl, SqL.of hk9, fun r1 hr1 => ?_⟩
        have sa := Same.new (o := .lst (ks0.map V.str).reverse) (Same.refl H9) hr1
        refine ⟨_, rfl, gA, gs, rfl, SqL.of (sa _ _ hg9), fun r3 hr3 => ?_⟩
        have sb := Same.new (o := .lst gs.reverse) sa hr3
        refine ⟨_, rfl, r3, gA, _, _, rfl, rfl, upd_same, sb _ _ hg9, by rw [List.length_reverse]; exact line_ge (by omega), fun cc hcc => ?_⟩
        have sc := Same.new (o := .lst (gs.reverse ++ gs)) sb hcc
        have hr1' : upd (upd (upd H9 r1 (.lst (ks0.map V.str).reverse)) r3 (.lst gs.reverse)) cc (.lst (gs.reverse ++ gs)) r1 = some (.lst (ks0.map V.str).reverse) := (Same.new (Same.new (Same.refl _) hr3) hcc) _ _ upd_same
        have hgsc := dpAll_same sc _ hgs9
        have hboth : DpAll K (upd (upd (upd H9 r1 (.lst (ks0.map V.str).reverse)) r3 (.lst gs.reverse)) cc (.lst (gs.reverse ++ gs))) (gs.reverse ++ gs) (loD (ls0.reverse ++ ls0)) := by
          rw [← lo_app, show loD ls0.reverse = (loD ls0).reverse from List.map_reverse ..]
          exact DpAll.app (DpAll.rev hgsc) hgsc
        have hrev : DpAll K (upd (upd (upd H9 r1 (.lst (ks0.map V.str).reverse)) r3 (.lst gs.reverse)) cc (.lst (gs.reverse ++ gs))) (ks0.map V.str).reverse (kiD ks0.reverse) := by
          rw [← List.map_reverse]
          exact of_txts _
        refine madeG hr1' hrev (fun z hz => hw z (List.mem_reverse.mp hz)) (by rw [List.length_reverse]; omega) (.inl (.lst (SqL.of upd_same) hboth)) (fun q hq => h10 q ((List.mem_append.mp hq).elim List.mem_reverse.mp id)) (by rw [List.length_append, List.length_reverse]; omega) fun x3 ls3 H10 lo3 _ s10 r10 => ?_
        have e3 : ls3 = ls2 := lo3.one lo fun q => by rw [List.mem_append, List.mem_reverse, or_self]
        subst e3
        rw [show kinds6 ks0.reverse = kinds6 ks0 from k6_congr fun z _ => List.mem_reverse] at r10
        exact ⟨_, rfl, ne_rules RC RE r10 (hR8.same (s89.trans (sc.trans s10))) G G ⟨_, rfl, iteF' (by simp) ⟨rfl, s89.trans (sc.trans s10)⟩⟩⟩
      rintro σ H9 ⟨rfl, s9⟩
      have s49 : Same H4 H9 := s5.trans (s58.trans s9)
      have hk9 := s9 _ _ hk8
      have hg9 := s9 _ _ hg8
      have hgs9 := dpAll_same s9 _ hgs8
      have hR9 := hR8.same s9
      have hP9 := hP4.same s49
      have nA : A ≠ p := pool_ne (hP4.same (s5.trans s6)) hA0
      have hA9 := (s8.trans s9) _ _ hA
      have hus9 := dpAll_same (s8.trans s9) _ hus
      -- two spots
      refine ⟨fun σ H' => ∃ (S : Addr) (r1 r2 : Nat), σ = sl a m z' (some (.ref p)) (some (.ref kA)) (some (.ref gA)) (some (.ref C)) (some (.ref x)) (some (.ref A)) (some (.ref S)) (st) (bk) (bl) none none none none none ∧ S ≠ p ∧ H' S = some (.lst [.int (r1 : Int), .int (r2 : Int)]) ∧ r1 ≤ ks0.length ∧ r2 ≤ ls0.length ∧ Keep p H9 H' ∧ Pool H' p 14, ?_, ?_⟩
      · refine ⟨_, rfl, _, rfl, kA, _, rfl, .inl (SqL.of hk9), _, _, rfl, rfl, p, 12, _, rfl, hP9, by omega, by rw [List.length_map]; omega, by rw [List.length_map]; omega, fun r1 Ha a0 a1 ka pa => ?_⟩
        refine ⟨_, rfl, _, rfl, gA, _, rfl, .inl (SqL.of (ka _ _ ng hg9)), _, _, rfl, rfl, p, 13, _, rfl, pa, by omega, by omega, by omega, fun r2 Hb b0 b1 kb pb => ⟨by show 2 ≤ sizeLine; decide, fun S hS => ?_⟩⟩
        rw [List.length_map] at a1
        refine ⟨S, r1.toNat, r2.toNat, rfl, pool_ne pb hS, ?_, by omega, by omega, (ka.trans kb).new hS, pb.new hS⟩
        rw [upd_same, Int.toNat_of_nonneg a0, Int.toNat_of_nonneg b0]
      rintro σ H10 ⟨S, r1, r2, rfl, nS, hS, l1, l2, k10, hP10⟩
      -- two strange things
      refine ⟨fun σ H' => ∃ (T : Addr) (v1 v2 : V) (d1 d2 : PyData), σ = sl a m z' (some (.ref p)) (some (.ref kA)) (some (.ref gA)) (some (.ref C)) (some (.ref x)) (some (.ref A)) (some (.ref S)) (some (.ref T)) (bk) (bl) none none none none none ∧ H' T = some (.lst [v1, v2]) ∧ Dp K H' v1 d1 ∧ Dp K H' v2 d2 ∧ OddK d1 ∧ OddL d2 ∧ Keep p H10 H', ?_, ?_⟩
      · refine ⟨_, rfl, p, 14, false, rfl, hP10, by omega, fun v1 d1 Ha _ hd1 hv1 ka pa => ⟨_, rfl, p, 15, true, rfl, pa, by omega, fun v2 d2 Hb hd2 _ hv2 kb pb => ⟨by show 2 ≤ sizeLine; decide, fun T hT => ?_⟩⟩⟩
        have o1 := oddK_of (hd1 rfl)
        have o2 := oddL_of (hd2 rfl)
        have sT := Same.new (o := .lst [v1, v2]) (Same.refl Hb) hT
        exact ⟨T, v1, v2, d1, d2, rfl, upd_same, dp_same sT _ (odd_keep o1.o pa kb hv1), dp_same sT _ hv2, o1, o2, (ka.trans kb).new hT⟩
      rintro σ H11 ⟨T, v1, v2, d1, d2, rfl, hT, hv1, hv2, o1, o2, k11⟩
      have k911 := k10.trans k11
      obtain ⟨LP, hp9⟩ := pool_lst hP9
      have hk11 := k911 _ _ nk hk9
      have hg11 := k911 _ _ ng hg9
      have hS11 := k11 _ _ nS hS
      have hA11 := k911 _ _ nA hA9
      have hgs11 : DpAll K H11 gs (loD ls0) := looks_but hp9 (fun b o n e => k911 b o n e) hgs9
      have hR11 : RuleV K CR H11 x (kinds6 ks0) ls := rule_but hp9 (fun b o n e => k911 b o n e) hR9
      have hus11 : DpAll K H11 us (paD (kinds6 ks0) ls) := pa_but hp9 (fun b o n e => k911 b o n e) hus9
      have s1_11 : Same H1 H11 := k911.same (s14.trans s49) hp1
      -- words with one that is none
      refine ⟨fun σ H' => ∃ (B : Addr) (ws : List V), σ = sl a m z' (some (.ref p)) (some (.ref kA)) (some (.ref gA)) (some (.ref C)) (some (.ref x)) (some (.ref A)) (some (.ref S)) (some (.ref T)) (some (.ref B)) (bl) none none none none none ∧ Same H11 H' ∧ H' B = some (.lst ws) ∧ DpAll K H' ws (kiD (ks0.take r1) ++ d1 :: kiD (ks0.drop r1)), ?_, ?_⟩
      · refine ⟨_, rfl, _, rfl, S, _, 0, .int (r1 : Int), rfl, rfl, SqL.of hS11, rfl, (r1 : Int), rfl, kA, _, rfl, SqL.of hk11, fun q1 h1 => ?_⟩
        have sa := Same.new (o := .lst (cutV (ks0.map V.str) none (some (r1 : Int)))) (Same.refl H11) h1
        refine ⟨_, rfl, T, _, 0, v1, rfl, rfl, SqL.of (sa _ _ hT), rfl, by show 1 ≤ sizeLine; decide, fun q2 h2 => ?_⟩
        have sb := Same.new (o := .lst [v1]) (Same.refl _) h2
        refine ⟨q1, q2, _, _, rfl, rfl, sb _ _ upd_same, upd_same, ?_, fun q3 h3 => ?_⟩
        · rw [cut_to]
          have := List.length_take_le r1 (ks0.map V.str)
          have := List.length_map (as := ks0) V.str
          exact line_ge (by simp only [List.length_take, List.length_map, List.length_cons, List.length_nil]; omega)
        have sc := Same.new (o := .lst (cutV (ks0.map V.str) none (some (r1 : Int)) ++ [v1])) (Same.refl _) h3
        have s3 := sa.trans (sb.trans sc)
        refine ⟨_, rfl, _, rfl, S, _, 0, .int (r1 : Int), rfl, rfl, SqL.of (s3 _ _ hS11), rfl, (r1 : Int), rfl, kA, _, rfl, SqL.of (s3 _ _ hk11), fun q4 h4 => ?_⟩
        have sd := Same.new (o := .lst (cutV (ks0.map V.str) (some (r1 : Int)) none)) (Same.refl _) h4
        refine ⟨q3, q4, _, _, rfl, rfl, sd _ _ upd_same, upd_same, ?_, fun q5 h5 => ?_⟩
        · rw [cut_to, cut_from]
          exact line_ge (by simp only [List.length_append, List.length_take, List.length_drop, List.length_map, List.length_cons, List.length_nil]; omega)
        have se := Same.new (o := .lst (cutV (ks0.map V.str) none (some (r1 : Int)) ++ [v1] ++ cutV (ks0.map V.str) (some (r1 : Int)) none)) (Same.refl _) h5
        refine ⟨6, rfl, q5, _, rfl, SqL.of upd_same, fun q6 h6 => ⟨q6, _, rfl, ?_, upd_same, ?_⟩⟩
        · exact Same.new (s3.trans (sd.trans se)) h6
        · have sf := Same.new (o := .lst (cutV (cutV (ks0.map V.str) none (some (r1 : Int)) ++ [v1] ++ cutV (ks0.map V.str) (some (r1 : Int)) none) none (some 6))) (s3.trans (sd.trans se)) h6
          have e : cutV (cutV (ks0.map V.str) none (some (r1 : Int)) ++ [v1] ++ cutV (ks0.map V.str) (some (r1 : Int)) none) none (some 6) = (ks0.take r1).map V.str ++ v1 :: (ks0.drop r1).map V.str := by
            have z := cut_to (cutV (ks0.map V.str) none (some (r1 : Int)) ++ [v1] ++ cutV (ks0.map V.str) (some (r1 : Int)) none) 6
            refine z.trans ?_
            rw [cut_to, cut_from, List.take_of_length_le, List.append_assoc, List.singleton_append, List.map_take, List.map_drop]
            simp only [List.length_append, List.length_take, List.length_drop, List.length_map, List.length_cons, List.length_nil]
            omega
          rw [e] at sf ⊢
          exact DpAll.app (of_txts _) (.cons (dp_same sf _ hv1) (of_txts _))
      rintro σ H12 ⟨B, ws, rfl, s12, hB, hws⟩
      have hk12 := s12 _ _ hk11
      have hg12 := s12 _ _ hg11
      have hS12 := s12 _ _ hS11
      have hT12 := s12 _ _ hT
      have hgs12 := dpAll_same s12 _ hgs11
      have hv2' := dp_same s12 _ hv2
      -- looks with one that is none
      refine ⟨fun σ H' => ∃ (B2 : Addr) (ws2 : List V), σ = sl a m z' (some (.ref p)) (some (.ref kA)) (some (.ref gA)) (some (.ref C)) (some (.ref x)) (some (.ref A)) (some (.ref S)) (some (.ref T)) (some (.ref B)) (some (.ref B2)) none none none none none ∧ Same H12 H' ∧ H' B2 = some (.lst ws2) ∧ DpAll K H' ws2 (loD (ls0.take r2) ++ d2 :: loD (ls0.drop r2)), ?_, ?_⟩
      · refine ⟨_, rfl, _, rfl, S, _, 1, .int (r2 : Int), rfl, rfl, SqL.of hS12, rfl, (r2 : Int), rfl, gA, _, rfl, SqL.of hg12, fun q1 h1 => ?_⟩
        have sa := Same.new (o := .lst (cutV gs none (some (r2 : Int)))) (Same.refl H12) h1
        refine ⟨_, rfl, T, _, 1, v2, rfl, rfl, SqL.of (sa _ _ hT12), rfl, by show 1 ≤ sizeLine; decide, fun q2 h2 => ?_⟩
        have sb := Same.new (o := .lst [v2]) (Same.refl _) h2
        refine ⟨q1, q2, _, _, rfl, rfl, sb _ _ upd_same, upd_same, ?_, fun q3 h3 => ?_⟩
        · rw [cut_to]
          exact line_ge (by simp only [List.length_take, List.length_cons, List.length_nil]; omega)
        have sc := Same.new (o := .lst (cutV gs none (some (r2 : Int)) ++ [v2])) (Same.refl _) h3
        have s3 := sa.trans (sb.trans sc)
        refine ⟨_, rfl, _, rfl, S, _, 1, .int (r2 : Int), rfl, rfl, SqL.of (s3 _ _ hS12), rfl, (r2 : Int), rfl, gA, _, rfl, SqL.of (s3 _ _ hg12), fun q4 h4 => ?_⟩
        have sd := Same.new (o := .lst (cutV gs (some (r2 : Int)) none)) (Same.refl _) h4
        refine ⟨q3, q4, _, _, rfl, rfl, sd _ _ upd_same, upd_same, ?_, fun q5 h5 => ⟨q5, _, rfl, Same.new (s3.trans sd) h5, upd_same, ?_⟩⟩
        · rw [cut_to, cut_from]
          exact line_ge (by simp only [List.length_append, List.length_take, List.length_drop, List.length_cons, List.length_nil]; omega)
        have se := Same.new (o := .lst (cutV gs none (some (r2 : Int)) ++ [v2] ++ cutV gs (some (r2 : Int)) none)) (s3.trans sd) h5
        rw [cut_to, cut_from, List.append_assoc, List.singleton_append] at se ⊢
        have hgse := dpAll_same se _ hgs12
        have a := DpAll.take r2 hgse
        have b := DpAll.drop r2 hgse
        rw [loD, ← List.map_take] at a
        rw [loD, ← List.map_drop] at b
        exact DpAll.app a (.cons (dp_same se _ hv2') b)
      rintro σ H13 ⟨B2, ws2, rfl, s13, hB2, hws2⟩
      have s1113 := s12.trans s13
      have hk13 := s1113 _ _ hk11
      have hg13 := s1113 _ _ hg11
      have hT13 := s1113 _ _ hT
      have hB13 := s13 _ _ hB
      have hgs13 := dpAll_same s1113 _ hgs11
      have hws13 := dpAll_same s13 _ hws
      have v1' := dp_same s1113 _ hv1
      have v2' := dp_same s1113 _ hv2
      have p1 := pair_ok o1.f
      have p2 := pair_ok o2.f
      have lB : (kiD (ks0.take r1) ++ d1 :: kiD (ks0.drop r1)).length ≤ 6 := by
        unfold kiD
        simp only [List.length_append, List.length_map, List.length_cons, List.length_take, List.length_drop]
        omega
      have lB2 : (loD (ls0.take r2) ++ d2 :: loD (ls0.drop r2)).length < 64 := by
        unfold loD
        simp only [List.length_append, List.length_map, List.length_cons, List.length_take, List.length_drop]
        omega
      have pe2 : ∀ d ∈ loD (ls0.take r2) ++ d2 :: loD (ls0.drop r2), ∀ ds, d = .tuple ds → ∀ e ∈ ds, partE e := fun d hd => by
        rcases List.mem_append.mp hd with hd | hd
        · exact lo_part (fun p hp => h10 p (List.mem_of_mem_take hp)) d hd
        · rcases List.mem_cons.mp hd with rfl | hd
          · exact o2.p
          · exact lo_part (fun p hp => h10 p (List.mem_of_mem_drop hp)) d hd
      have bk1 : ∀ dl, badPart (kiD (ks0.take r1) ++ d1 :: kiD (ks0.drop r1)) dl = some d1 := fun dl => bad_kind (fun z hz => hw z (List.mem_of_mem_take hz)) o1.no
      have bk2 : badPart (kiD ks0) (loD (ls0.take r2) ++ d2 :: loD (ls0.drop r2)) = some d2 := bad_look hw (fun z hz => h10 z (List.mem_of_mem_take hz)) o2.no
      have SG : SeqD K H13 (.ref gA) (loD ls0) := .inl (.lst (SqL.of hg13) hgs13)
      have SB : SeqD K H13 (.ref B2) (loD (ls0.take r2) ++ d2 :: loD (ls0.drop r2)) := .inl (.lst (SqL.of hB2) hws2)
      have sd_same : ∀ {H H' : Hp} {v : V} {ds : List PyData}, Same H H' → SeqD K H v ds → SeqD K H' v ds := fun s h => h.elim (fun h => .inl (dp_same s _ h)) fun h => .inr (dp_same s _ h)
      -- wrong words and wrong looks
      refine ⟨fun σ H' => σ = sl a m z' (some (.ref p)) (some (.ref kA)) (some (.ref gA)) (some (.ref C)) (some (.ref x)) (some (.ref A)) (some (.ref S)) (some (.ref T)) (some (.ref B)) (some (.ref B2)) none none none none none ∧ Same H13 H', ?_, ?_⟩
      · refine ⟨_, rfl, _, rfl, madeB hB13 hws13 lB SB lB2 pe2 (bk1 _) fun t Ha sa ht => ⟨.ref t, .tuple [d1], rfl, ht, p1.s, p1.n, p1.dp, p1.l, _, rfl, T, _, 0, v1, rfl, rfl, SqL.of (sa _ _ hT13), rfl, by show 1 ≤ sizeLine; decide, fun t2 ht2 => ?_⟩⟩
        have sb := Same.new (o := .tup [v1]) sa ht2
        exact ⟨.ref t2, .tuple [d1], rfl, .tup (SqT.of upd_same) (.cons (dp_same sb _ v1') .nil), p1.s, p1.n, p1.dp, p1.l, rfl, _, rfl, iteF' (by rw [decide_eq_true rfl]; rfl) ⟨rfl, sb⟩⟩
      rintro σ H14 ⟨rfl, s14'⟩
      -- one of them
      refine ⟨fun σ H' => σ = sl a m z' (some (.ref p)) (some (.ref kA)) (some (.ref gA)) (some (.ref C)) (some (.ref x)) (some (.ref A)) (some (.ref S)) (some (.ref T)) (some (.ref B)) (some (.ref B2)) none none none none none ∧ Same H14 H', ?_, ?_⟩
      · refine ⟨_, rfl, _, rfl, madeB (s14' _ _ hk13) (of_txts ks0) (by rw [kiD, List.length_map]; omega) (sd_same s14' SB) lB2 pe2 bk2 fun t Ha sa ht => ⟨.ref t, .tuple [d2], rfl, ht, p2.s, p2.n, p2.dp, p2.l, _, rfl, T, _, 1, v2, rfl, rfl, SqL.of (sa _ _ (s14' _ _ hT13)), rfl, by show 1 ≤ sizeLine; decide, fun t2 ht2 => ?_⟩⟩
        have sb := Same.new (o := .tup [v2]) sa ht2
        have s1b := s14'.trans sb
        refine ⟨.ref t2, .tuple [d2], rfl, .tup (SqT.of upd_same) (.cons (dp_same s1b _ v2') .nil), p2.s, p2.n, p2.dp, p2.l, rfl, _, rfl, iteF' (by rw [decide_eq_true rfl]; rfl) ?_⟩
        refine ⟨_, rfl, _, rfl, madeB (s1b _ _ hB13) (dpAll_same s1b _ hws13) lB (sd_same s1b SG) (by rw [loD, List.length_map]; omega) (lo_part h10) (bk1 _) fun t3 Hc sc ht3 => ⟨.ref t3, .tuple [d1], rfl, ht3, p1.s, p1.n, p1.dp, p1.l, _, rfl, T, _, 0, v1, rfl, rfl, SqL.of (sc _ _ (s1b _ _ hT13)), rfl, by show 1 ≤ sizeLine; decide, fun t4 ht4 => ?_⟩⟩
        have se := Same.new (o := .tup [v1]) sc ht4
        exact ⟨.ref t4, .tuple [d1], rfl, .tup (SqT.of upd_same) (.cons (dp_same (s1b.trans se) _ v1') .nil), p1.s, p1.n, p1.dp, p1.l, rfl, _, rfl, iteF' (by rw [decide_eq_true rfl]; rfl) ⟨rfl, sb.trans se⟩⟩
      rintro σ H15 ⟨rfl, s15⟩
      have s1115 := s1113.trans (s14'.trans s15)
      have hg15 := s1115 _ _ hg11
      have s1_15 := s1_11.trans s1115
      have hg1 : H1 gA = none := s2.free hg2
      -- the given looks change
      refine ⟨fun σ H' => σ = sl a m z' (some (.ref p)) (some (.ref kA)) (some (.ref gA)) (some (.ref C)) (some (.ref x)) (some (.ref A)) (some (.ref S)) (some (.ref T)) (some (.ref B)) (some (.ref B2)) none none none none none ∧ But gA H15 H', ?_, ?_⟩
      · refine ⟨_, rfl, .inl ⟨rfl, _, SqL.of hg15⟩, by show 2 ≤ sizeLine; decide, fun t ht => ?_⟩
        have st1 := Same.new (o := .tup [.str "q", .str "r"]) (Same.refl H15) ht
        refine ⟨gA, gs, .ref t, rfl, rfl, st1 _ _ hg15, Nat.lt_of_lt_of_le (show gs.length < 1000 by omega) (by decide), rfl, fun b o n e => ?_⟩
        rw [upd_ne n]
        exact st1 _ _ e
      rintro σ H16 ⟨rfl, b16⟩
      have s1_16 : Same H1 H16 := fun b o e => b16 b o (ne_of_none e hg1) (s1_15 _ _ e)
      have nAg : A ≠ gA := fun e => by
        rw [e] at hA0
        rw [s6 _ _ hg5] at hA0
        cases hA0
      have hA16 := b16 _ _ nAg (s1115 _ _ hA11)
      have hR16 : RuleV K CR H16 x (kinds6 ks0) ls := rule_but hg15 b16 (hR11.same s1115)
      have hus16 : DpAll K H16 us (paD (kinds6 ks0) ls) := pa_but hg15 b16 (dpAll_same s1115 _ hus11)
      have hm16 := s1_16 _ _ hm1
      have nAm : A ≠ m := fun e => by
        rw [e] at hA0
        rw [((s14.trans s5).trans s6) _ _ hm1] at hA0
        cases hA0
      -- kept
      refine ⟨_, rfl, .inl ⟨rfl, _, SqL.of hm16⟩, _, rfl, _, rfl, by show 2 ≤ sizeLine; decide, fun t ht => ?_⟩
      have st1 := Same.new (o := .tup [.ref x, .ref A]) (Same.refl H16) ht
      have hm17 := st1 _ _ hm16
      refine ⟨m, ts, .ref t, rfl, rfl, hm17, Nat.lt_of_lt_of_le (show ts.length < 1000 by omega) (by decide), ⟨_, _, _, _, _, _, _, _, _, _, _, rfl⟩, Same.put ((s1.trans s1_16).trans st1) hm0', hid m (upd H16 t (.tup [.ref x, .ref A])), ts ++ [.ref t], upd_same, by rw [List.length_append, List.length_singleton]; omega, fun b o e => ?_, hid_self, fun y hy => ?_⟩
      · have n : b ≠ m := fun z => by rw [z, hid_self] at e; cases e
        rw [upd_ne n]
        rw [hid_at n] at e
        exact e
      · rcases List.mem_append.mp hy with hy | hy
        · exact (en y hy).same (same_hid ((sZ.trans s1_16).trans st1) zm)
        · rw [List.mem_singleton.mp hy]
          have nt : t ≠ m := (ne_of_none hm16 ht).symm
          exact ⟨t, x, A, us, kinds6 ks0, ls, rfl, SqT.of (by rw [hid_at nt]; exact upd_same), rule_but hm17 (hid_but m _) (hR16.same st1), G, by rw [hid_at nAm]; exact st1 _ _ hA16, pa_but hm17 (hid_but m _) (dpAll_same st1 _ hus16)⟩
    rintro σ H1 ⟨⟨z, po, ki, gi, co, ru, pa, sp, st, bk, bl, rfl⟩, Z, ts, hm1, lts, sZ, zm, en⟩
    -- each with each
    refine ⟨fun _ _ => True, ?_, fun σ H2 _ => ?_⟩
    · refine ⟨_, rfl, m, rfl, ⟨ts, SqL.of hm1⟩, for_list (K := K) (a := m) (xs := ts) (fun i σ H' => (∃ z po ki gi co ru pa sp st bk bl fi se ot du to, σ = sl a m z po ki gi co ru pa sp st bk bl fi se ot du to) ∧ Same H1 H') ⟨⟨_, _, _, _, _, _, _, _, _, _, _, _, _, _, _, _, rfl⟩, Same.refl H1⟩ (fun i σ H' _ h => SqL.of (h.2 _ _ hm1)) (fun i t σ H2 hi h => ?_) (fun σ H2 h => trivial)⟩
      obtain ⟨⟨z, po, ki, gi, co, ru, pa, sp, st, bk, bl, fi, se, ot, du, to, rfl⟩, s2⟩ := h
      obtain ⟨tt, x, A, us, k1, l1, rfl, hT, hR, G, hA, hus⟩ := (en t (List.mem_of_getElem? hi)).same (sZ.trans s2)
      refine ⟨tt, _, rfl, hT, rfl, _, _, rfl, _, _, rfl, rfl, ?_⟩
      refine ⟨fun σ H' => (∃ se ot du to, σ = sl a m z po ki gi co ru (some (.ref A)) sp st bk bl (some (.ref x)) se ot du to) ∧ Same H2 H', ?_, ?_⟩
      · refine ⟨_, rfl, m, rfl, ⟨ts, SqL.of (s2 _ _ hm1)⟩, for_list (K := K) (a := m) (xs := ts) (fun i σ H' => (∃ se ot du to, σ = sl a m z po ki gi co ru (some (.ref A)) sp st bk bl (some (.ref x)) se ot du to) ∧ Same H2 H') ⟨⟨_, _, _, _, rfl⟩, Same.refl H2⟩ (fun i σ H' _ h => SqL.of (h.2 _ _ (s2 _ _ hm1))) (fun j t2 σ H3 hj h => ?_) (fun σ H3 h => h)⟩
        obtain ⟨⟨se, ot, du, to, rfl⟩, s3⟩ := h
        obtain ⟨tt2, x2, A2, us2, k2, l2, rfl, hT2, hR2, G2, hA2, hus2⟩ := (en t2 (List.mem_of_getElem? hj)).same ((sZ.trans s2).trans s3)
        have hR3 := hR.same s3
        have hA3 := s3 _ _ hA
        have hus3 := dpAll_same s3 _ hus
        refine ⟨tt2, _, rfl, hT2, rfl, _, _, rfl, _, _, rfl, rfl, ?_⟩
        -- what is due
        refine ⟨fun σ H' => ∃ (D : Addr) (xs : List V) (lO : List (Str × Str)), σ = sl a m z po ki gi co ru (some (.ref A)) sp st bk bl (some (.ref x)) (some (.ref x2)) (some (.ref A2)) (some (.ref D)) to ∧ Same H3 H' ∧ H' D = some (.lst xs) ∧ DpAll K H' xs [.list (paD (kinds6 (k1 ++ k2)) lO), .list (paD (bothF k1 k2) (bothF l1 l2)), .list (paD (lessF k1 k2) (lessF l1 l2))] ∧ LooksOf (l1 ++ l2) lO, ⟨_, rfl, _, rfl, A, A2, us, us2, k1, k2, l1, l2, rfl, hA3, hA2, hus3, hus2, G, G2, fun D xs lO H' _ hD hxs lo s => ⟨D, xs, lO, rfl, s, hD, hxs, lo⟩⟩, ?_⟩
        rintro σ H4 ⟨D, xs, lO, rfl, s4, hD, hxs, lO'⟩
        have GO' : RuleG (kinds6 (k1 ++ k2)) lO := G.or_ G2 lO'
        have GB : RuleG (bothF k1 k2) (bothF l1 l2) := G.both
        have GL' : RuleG (lessF k1 k2) (lessF l1 l2) := G.less
        have hR4 := hR3.same s4
        have hR24 := hR2.same s4
        -- what is told
        refine ⟨fun σ H' => ∃ (L : Addr) (ys : List V), σ = sl a m z po ki gi co ru (some (.ref A)) sp st bk bl (some (.ref x)) (some (.ref x2)) (some (.ref A2)) (some (.ref D)) (some (.ref L)) ∧ Same H4 H' ∧ H' L = some (.lst ys) ∧ DpAll K H' ys [.list (paD (kinds6 (k1 ++ k2)) lO), .list (paD (bothF k1 k2) (bothF l1 l2)), .list (paD (lessF k1 k2) (lessF l1 l2))], ?_, ?_⟩
        · refine ⟨_, rfl, _, rfl, op_rules hR4 hR24 G G2 fun w1 m1 Ha lo1 _ sa r1 => ?_⟩
          have e1 : m1 = lO := lo1.one lO' fun _ => Iff.rfl
          subst e1
          refine ⟨w1, _, _, rfl, r1, GO'.ok, fun D1 u1 Hb _ hD1 hu1 sb => ?_⟩
          have sab := sa.trans sb
          refine ⟨_, rfl, _, rfl, op_rules (hR4.same sab) (hR24.same sab) G G2 fun w2 m2 Hc lo2 _ sc r2 => ?_⟩
          have e2 : m2 = bothF l1 l2 := lo2.one GB.l fun _ => Iff.rfl
          subst e2
          rw [GB.k] at r2
          refine ⟨w2, _, _, rfl, r2, GB.ok, fun D2 u2 Hd _ hD2 hu2 sd => ?_⟩
          have scd := sc.trans sd
          have sad := sab.trans scd
          refine ⟨_, rfl, _, rfl, op_rules (hR4.same sad) (hR24.same sad) G G2 fun w3 m3 He lo3 _ se' r3 => ?_⟩
          have e3 : m3 = lessF l1 l2 := lo3.one GL'.l fun _ => Iff.rfl
          subst e3
          rw [GL'.k] at r3
          refine ⟨w3, _, _, rfl, r3, GL'.ok, fun D3 u3 Hf _ hD3 hu3 sf => ⟨by show 3 ≤ sizeLine; decide, fun L hL => ?_⟩⟩
          have sef := se'.trans sf
          have sL := Same.new (o := .lst [.ref D1, .ref D2, .ref D3]) (Same.refl Hf) hL
          have sbf := scd.trans sef
          exact ⟨L, _, rfl, (sad.trans sef).trans sL, upd_same, .cons (.lst (SqL.of ((sbf.trans sL) _ _ hD1)) (dpAll_same (sbf.trans sL) _ hu1)) (.cons (.lst (SqL.of ((sef.trans sL) _ _ hD2)) (dpAll_same (sef.trans sL) _ hu2)) (.cons (.lst (SqL.of (sL _ _ hD3)) (dpAll_same sL _ hu3)) .nil))⟩
        rintro σ H5 ⟨L, ys, rfl, s5, hL, hys⟩
        have s35 := s4.trans s5
        have ln20 : ∀ {ks : List Str} {ls : List (Str × Str)}, RuleG ks ls → (paD ks ls).length ≤ 20 := fun g => by
          rw [pa_len]
          have := g.lk
          have := g.ll
          omega
        have tok := told_ok (FairK GO') (FairK GB) (FairK GL') (ln20 GO') (ln20 GB) (ln20 GL')
        have hR5 := hR3.same s35
        have hR25 := hR2.same s35
        have shp : ∀ {ks : List Str} {ls : List (Str × Str)}, RuleG ks ls → SeqAt.shaped (.list (paD ks ls)) = true := fun g => fair_shaped (FairK g)
        -- the same
        refine ⟨fun σ H' => σ = sl a m z po ki gi co ru (some (.ref A)) sp st bk bl (some (.ref x)) (some (.ref x2)) (some (.ref A2)) (some (.ref D)) (some (.ref L)) ∧ H' = H5, ?_, ?_⟩
        · refine ⟨_, rfl, .ref L, _, rfl, .lst (SqL.of hL) hys, tok.s, tok.n, tok.dp, tok.l, _, rfl, .ref D, _, rfl, .lst (SqL.of (s5 _ _ hD)) (dpAll_same s5 _ hxs), tok.s, tok.n, tok.dp, tok.l, rfl, _, rfl, iteF' (by rw [decide_eq_true rfl]; rfl) ?_⟩
          refine ⟨_, rfl, _, rfl, eq_rules RC RE hR5 hR25 G G2 ⟨_, rfl, _, rfl, .list (paD k1 l1), .list (paD k2 l2), .lst (SqL.of (s35 _ _ hA3)) (dpAll_same s35 _ hus3), .lst (SqL.of (s35 _ _ hA2)) (dpAll_same s35 _ hus2), shp G, shp G2, rfl, _, rfl, iteF' (by rw [eq_pa, decide_eq_true rfl]; rfl) ⟨rfl, rfl⟩⟩⟩
        rintro σ H5' ⟨rfl, rfl⟩
        obtain ⟨dx, kk, ll, pp, hx5, _⟩ := id hR5
        obtain ⟨v0, rest, ey⟩ : ∃ v0 rest, xs = v0 :: rest := by
          cases hxs with
          | cons _ _ => exact ⟨_, _, rfl⟩
        have hxs5 := dpAll_same s5 _ hxs
        obtain ⟨v3, h3, hv3⟩ := DpAll.at (k := 2) hxs5 rfl
        have bo := bool_ok ((paD k1 l1).all (inP k2 l2))
        refine ⟨_, rfl, x, dx, _, rfl, hx5, FRu_wi _ _ _, _, rfl, x, x2, k1, k2, l1, l2, rfl, hR5, G.ok, hR25, G2.ok, fun H6 s6 => ⟨.bl _, .bool _, rfl, .bl _, bo.s, bo.n, bo.dp, bo.l, ?_⟩⟩
        refine ⟨_, rfl, D, xs, 2, v3, rfl, rfl, SqL.of (s6 _ _ (s5 _ _ hD)), atI_nat h3, by show 0 ≤ sizeLine; decide, fun N hN => ?_⟩
        have s7 := Same.new (o := .lst []) s6 hN
        have hR7 := hR5.same s7
        have hR27 := hR25.same s7
        have bo2 := bool_ok (PyData.eqv (.list (paD (lessF k1 k2) (lessF l1 l2))) (.list []))
        refine ⟨_, .list [], dp_same s7 _ hv3, .lst (SqL.of upd_same) .nil, shp GL', by decide +kernel, .bl _, .bool _, rfl, .bl _, bo2.s, bo2.n, bo2.dp, bo2.l, rfl, _, rfl, iteF' (by rw [within_less, decide_eq_true rfl]; rfl) ?_⟩
        refine ⟨_, rfl, _, rfl, op_rules hR7 hR27 G G2 fun w1 m1 Ha lo1 _ sa r1 => ⟨_, rfl, _, rfl, op_rules (hR27.same sa) (hR7.same sa) G2 G fun w2 m2 Hb lo2 _ sb r2 => ?_⟩⟩
        have e1 : m1 = lO := lo1.one lO' fun _ => Iff.rfl
        have e2 : m2 = lO := lo2.one lO' fun q => by rw [List.mem_append, List.mem_append, or_comm]
        subst e1
        subst e2
        have r1 : RuleV K CR Ha w1 (kinds6 (k1 ++ k2)) m2 := r1
        have r2 : RuleV K CR Hb w2 (kinds6 (k2 ++ k1)) m2 := r2
        rw [show kinds6 (k2 ++ k1) = kinds6 (k1 ++ k2) from k6_congr fun q _ => by rw [List.mem_append, List.mem_append, or_comm]] at r2
        exact ne_rules RC RE (r1.same sb) r2 GO' GO' ⟨_, rfl, iteF' (by simp) ⟨⟨_, _, _, _, rfl⟩, s3.trans (s35.trans (s7.trans (sa.trans sb)))⟩⟩
      rintro σ H3 ⟨⟨se, ot, du, to, rfl⟩, s3⟩
      -- what it holds
      have oP := shownL (FairK G) G.ok.n
      have hR3 := hR.same s3
      have hA3 := s3 _ _ hA
      have hus3 := dpAll_same s3 _ hus
      refine ⟨_, rfl, _, rfl, x, A, us, k1, l1, rfl, hR3, G, hA3, hus3, fun H4 s4 => ⟨true, rfl, iteF ?_⟩⟩
      refine ⟨_, rfl, x, k1, l1, rfl, hR3.same s4, G.ok, fun D vs H5 _ hD hvs s5 => ?_⟩
      have s45 := s4.trans s5
      refine ⟨.ref D, .list (paD k1 l1), rfl, .lst (SqL.of hD) hvs, oP.s, oP.n, oP.dp, oP.l, _, rfl, .ref A, .list (paD k1 l1), rfl, .lst (SqL.of (s45 _ _ hA3)) (dpAll_same s45 _ hus3), oP.s, oP.n, oP.dp, oP.l, rfl, _, rfl, iteF' (by rw [decide_eq_true rfl]; rfl) ?_⟩
      exact ⟨_, rfl, _, rfl, eq_list RE (hR3.same s45) G (s45 _ _ hA3) ⟨_, rfl, iteF ⟨⟨_, _, _, _, _, _, _, _, _, _, _, _, _, _, _, _, rfl⟩, s2.trans (s3.trans s45)⟩⟩⟩
    -- every()
    refine ⟨rfl, rfl, fun x H3 _ s3 r => ?_⟩
    have GE : RuleG words6 [] := ⟨by decide +kernel, ⟨List.nodup_nil, List.Pairwise.nil, fun _ => Iff.rfl⟩, fun _ h => nomatch h⟩
    refine ⟨x, words6, [], rfl, r, GE.ok, fun D us H4 _ hD hus s4 => ?_⟩
    refine lst_new (K := K) (ds := kiD words6) (by unfold kiD words6; repeat (first | exact gs_nil | exact g_str _ | exact g_non | exact g_bl _ | exact g_nine | exact g_int _ | refine gs_cons ?_ ?_ | refine g_tup ?_ (by decide) | refine g_lst ?_ (by decide))) (by decide) fun N vs H5 _ hN hvs s5 => ?_
    have e : paD words6 [] = kiD words6 := List.append_nil _
    rw [e] at hus
    have sh : SeqAt.shaped (.list (kiD words6)) = true := fair_shaped (ki_fair GE.w)
    refine ⟨.list (kiD words6), .list (kiD words6), .lst (SqL.of (s5 _ _ hD)) (dpAll_same s5 _ hus), .lst (SqL.of hN) hvs, sh, sh, ?_⟩
    rw [eqv_self sh]
    exact q H5
end
end K5

namespace K5
open PySem L2
/-- a def of the written part, under its own name -/
def Held (K : PySem.W.Frag) (mg : Str → Option Value) (x : Str) (st : Stmt) (f : Addr) (fd : FuncData) : Prop := Fun K x x st f fd ∧ mg x = some (.ref f)
def noArg : Arg := { arg := "", annotation := none, pos := ⟨0, 0, 0, 0⟩ }
theorem init_binds {K : PySem.W.Frag} {f : Addr} {fd : FuncData} {dv : V} (F : FunD K "__init__" "SlipRule.__init__" (defArgs sRInit) (defBody sRInit) (defScope sRInit) [] [(("looks" : Str), dv)] f fd) : StarBinds fd pRInit "looks" ∧ ∃ u, RelV dv u ∧ StarBinds0 K fd pRInit u :=
  FunD.starBinds (params := defArgs sRInit) (p := (defArgs sRInit).args.headD noArg) (q := (defArgs sRInit).kwonlyargs.headD noArg) (r := (defArgs sRInit).vararg.getD noArg) (dv := dv) F rfl (by decide +kernel)
/-- what the written part says of the class of rules and of constants -/
structure Rest (P : Program) (w : World) (K : PySem.W.Frag) (mg : Str → Option Value) (CR CX fX aS aW aLk pEv fInit fMOr fMAnd fMSub fMEq fMIn fMLen fMWi fMEv : Addr) : Prop where
  Z : K5S.Mod K mg aS
  RC : RuleC K mg CR
  TX : K9E.ErrTxt P K mg CX fX
  XC : XfC K CX
  WC : WordsC K mg aW
  M : Mk K CR fInit
  dl : ∀ H, Dp K H (.ref aLk) (.tuple [])
  noB : PySem.W.findIn K (.ref CR) "__bool__" = some none
  ne : PySem.W.findIn K (.ref CR) "__ne__" = some (some (.builtin "object.__ne__"))
  nC : PySem.W.notFirst K CR (.ref CR) = true
  nL : PySem.W.notFirst K CR (.type "list") = true
  kL : PySem.W.kitOne K (.type "list") (.ref CR) = some false
  sf : PySem.W.selfFirst K CR = true
  cr : ClX.CRead K CR (.type "type")
  sm : SMet K CR (.type "type") "every" pEv fMEv
  mMOr : Meth K CR "__or__" fMOr
  mMAnd : Meth K CR "__and__" fMAnd
  mMSub : Meth K CR "__sub__" fMSub
  mMEq : Meth K CR "__eq__" fMEq
  mMIn : Meth K CR "__contains__" fMIn
  mMLen : Meth K CR "__len__" fMLen
  mMWi : Meth K CR "within" fMWi
theorem all_of {P : Program} {w : World} {K : PySem.W.Frag} {mg : Str → Option Value} {base : Heap} {CR CX fX aS aW aLk pEv fInit fMOr fMAnd fMSub fMEq fMIn fMLen fMWi fMEv : Addr} {fOneOf fCons fIsW fIsN fIsS fSort fLook fMadeR fPool fPick fOf fKinds fLooks fOdd fParts fMadeL fOff fTog fHolds fLaw : Addr} {dOneOf dCons dIsW dIsN dIsS dSort dLook dMadeR dPool dPick dOf dKinds dLooks dOdd dParts dMadeL dOff dTog dHolds dMOr dMAnd dMSub dMEq dMIn dMLen dMWi dMEv dInit dLaw : FuncData} (R : Rest P w K mg CR CX fX aS aW aLk pEv fInit fMOr fMAnd fMSub fMEq fMIn fMLen fMWi fMEv)
    (hOneOf : Held K mg "is_one_of" sOneOf fOneOf dOneOf) (hCons : Held K mg "consists_of" K5S.sConsists fCons dCons) (hIsW : Held K mg "is_word" K5S.sIsWord fIsW dIsW) (hIsN : Held K mg "is_numeral" K5S.sIsNumeral fIsN dIsN) (hIsS : Held K mg "is_sign" K5S.sIsSign fIsS dIsS) (hSort : Held K mg "sort_of" K5S.sSortOf fSort dSort) (hLook : Held K mg "is_look" sLook fLook dLook) (hMadeR : Held K mg "made_rule" sMade fMadeR dMadeR) (hPool : Held K mg "_law_pool" sPool fPool dPool) (hPick : Held K mg "_law_pick" sPick fPick dPick) (hOf : Held K mg "_law_of" sOf fOf dOf) (hKinds : Held K mg "_law_kinds" sKinds fKinds dKinds) (hLooks : Held K mg "_law_looks" sLooks fLooks dLooks) (hOdd : Held K mg "_law_odd" sOdd fOdd dOdd) (hParts : Held K mg "_law_parts" sParts fParts dParts) (hMadeL : Held K mg "_law_made" sMadeL fMadeL dMadeL) (hOff : Held K mg "_law_read_off" sOff fOff dOff) (hTog : Held K mg "_law_together" sTog fTog dTog) (hHolds : Held K mg "_law_holds" sHolds fHolds dHolds)
    (hMOr : Fun K "__or__" "SlipRule.__or__" sROr fMOr dMOr) (hMAnd : Fun K "__and__" "SlipRule.__and__" sRAnd fMAnd dMAnd) (hMSub : Fun K "__sub__" "SlipRule.__sub__" sRSub fMSub dMSub) (hMEq : Fun K "__eq__" "SlipRule.__eq__" sREq fMEq dMEq) (hMIn : Fun K "__contains__" "SlipRule.__contains__" sRIn fMIn dMIn) (hMLen : Fun K "__len__" "SlipRule.__len__" sRLen fMLen dMLen) (hMWi : Fun K "within" "SlipRule.within" sRWi fMWi dMWi) (hMEv : Fun K "every" "SlipRule.every" sREvery fMEv dMEv) (hInit : FunD K "__init__" "SlipRule.__init__" (defArgs sRInit) (defBody sRInit) (defScope sRInit) [] [(("looks" : Str), .ref aLk)] fInit dInit) (hLaw : Fun K "law" "law" sLaw fLaw dLaw)
    (bOneOf : Binds K dOneOf ["thing", "words"] []) (bCons : Binds K dCons ["thing", "characters"] []) (bIsW : Binds K dIsW ["thing"] []) (bIsN : Binds K dIsN ["thing"] []) (bIsS : Binds K dIsS ["thing"] []) (bSort : Binds K dSort ["thing"] []) (bLook : Binds K dLook ["thing"] []) (bMadeR : Binds K dMadeR ["kinds", "looks"] []) (bPool : Binds K dPool ["_law_script", "_law_place"] []) (bPick : Binds K dPick ["_law_pool_here", "_law_many"] []) (bOf : Binds K dOf ["_law_pool_here", "_law_some"] []) (bKinds : Binds K dKinds ["_law_pool_here"] []) (bLooks : Binds K dLooks ["_law_pool_here"] []) (bOdd : Binds K dOdd ["_law_pool_here", "_law_is_look"] []) (bParts : Binds K dParts ["_law_words_drawn", "_law_looks_drawn"] []) (bMadeL : Binds K dMadeL ["_law_kinds_here", "_law_given"] []) (bOff : Binds K dOff ["_law_rule"] []) (bTog : Binds K dTog ["_law_first", "_law_second"] []) (bHolds : Binds K dHolds ["_law_rule", "_law_parts_here"] []) (bMOr : Binds K dMOr ["self", "other"] []) (bMAnd : Binds K dMAnd ["self", "other"] []) (bMSub : Binds K dMSub ["self", "other"] []) (bMEq : Binds K dMEq ["self", "other"] []) (bMIn : Binds K dMIn ["self", "x"] []) (bMLen : Binds K dMLen ["self"] []) (bMWi : Binds K dMWi ["self", "other"] []) (bMEv : Binds K dMEv [] []) : FnG P w K mg base 9 fLaw dLaw ["_law_script"] (spLaw K) := by
  have Z := R.Z
  have T0 : Bare mg := R.Z.toBare
  have RC := R.RC
  have GOneOf : FnOk P w K mg base CX0 1 fOneOf dOneOf ["thing", "words"] (spOneOf K) := ok_oneOf hOneOf.1 T0
  have GIsW : FnOk P w K mg base CX0 2 fIsW dIsW ["thing"] (K5S.spWord K) := K5S.ok_word hIsW.1 Z hCons.1 bCons hCons.2
  have GIsN : FnOk P w K mg base CX0 2 fIsN dIsN ["thing"] (K5S.spNum K) := K5S.ok_num hIsN.1 Z hCons.1 bCons hCons.2
  have GIsS : FnOk P w K mg base CX0 2 fIsS dIsS ["thing"] (K5S.spSign K) := K5S.ok_sign hIsS.1 Z hOneOf.1 bOneOf hOneOf.2
  have GSort : FnOk P w K mg base CX0 3 fSort dSort ["thing"] (K5S.spSort K) := K5S.ok_sort hSort.1 hIsS.1.kp GIsS bIsS hIsS.2 hIsW.1.kp GIsW bIsW hIsW.2 hIsN.1.kp GIsN bIsN hIsN.2
  have GLook : FnOk P w K mg base CX0 4 fLook dLook ["thing"] (spLook K) := ok_look hLook.1 T0 ⟨fSort, dSort, hSort.1.kp, GSort, bSort, hSort.2⟩
  have GInit : FnB P w K mg base (L2.CX P w) 5 fInit dInit pRInit (spRInit K CR CX) := ok_rinit hInit T0 RC R.TX R.WC ⟨fOneOf, dOneOf, hOneOf.1.kp, GOneOf, bOneOf, hOneOf.2⟩ ⟨fLook, dLook, hLook.1.kp, GLook, bLook, hLook.2⟩
  have SB := init_binds hInit
  obtain ⟨SB1, u0, ru0, SB0⟩ := SB
  have MR : MkR P w K mg base CR CX := ⟨fInit, dInit, u0, _, R.M, GInit, SB1, SB0, ru0, R.dl⟩
  have GMadeR : FnOk P w K mg base CX0 7 fMadeR dMadeR ["kinds", "looks"] (spMade K CR) := ok_made hMadeR.1 T0 RC MR
  have GMOr : FnOk P w K mg base CX0 8 fMOr dMOr ["self", "other"] (spROp K CR (· ++ ·) (· ++ ·)) := ok_ror hMOr T0 RC ⟨fMadeR, dMadeR, hMadeR.1.kp, GMadeR, bMadeR, hMadeR.2⟩
  have GMAnd : FnOk P w K mg base CX0 8 fMAnd dMAnd ["self", "other"] (spROp K CR bothF bothF) := ok_rand hMAnd T0 RC ⟨fMadeR, dMadeR, hMadeR.1.kp, GMadeR, bMadeR, hMadeR.2⟩
  have GMSub : FnOk P w K mg base CX0 8 fMSub dMSub ["self", "other"] (spROp K CR lessF lessF) := ok_rsub hMSub T0 RC ⟨fMadeR, dMadeR, hMadeR.1.kp, GMadeR, bMadeR, hMadeR.2⟩
  have GMEq : FnOk P w K mg base CX0 1 fMEq dMEq ["self", "other"] (spREq K CR) := ok_req hMEq T0 RC
  have GMIn : FnOk P w K mg base CX0 1 fMIn dMIn ["self", "x"] (spRIn K CR) := ok_rin hMIn T0 RC
  have GMLen : FnOk P w K mg base CX0 1 fMLen dMLen ["self"] (spRLen K CR) := ok_rlen hMLen T0 RC
  have GMWi : FnOk P w K mg base CX0 1 fMWi dMWi ["self", "other"] (spRWi K CR) := ok_rwi hMWi T0 RC
  have GMEv : FnOk P w K mg base CX0 7 fMEv dMEv [] (spREvery K CR) := ok_revery hMEv T0 RC MR
  have RD : RuleD P w K mg base CR := ⟨⟨fMLen, dMLen, GMLen, R.mMLen.at_, R.mMLen.fn, bMLen⟩, R.noB, ⟨fMIn, dMIn, GMIn, ⟨R.mMIn.at_, R.mMIn.fn⟩, bMIn⟩, ⟨fMEq, dMEq, GMEq, R.mMEq.at_, R.mMEq.fn, bMEq⟩, R.ne, ⟨fMWi, dMWi, GMWi, R.mMWi, bMWi⟩, ⟨fMOr, dMOr, GMOr, ⟨by decide +kernel, R.sf, R.mMOr.at_, R.mMOr.fn⟩, bMOr⟩, ⟨fMAnd, dMAnd, GMAnd, ⟨by decide +kernel, R.sf, R.mMAnd.at_, R.mMAnd.fn⟩, bMAnd⟩, ⟨fMSub, dMSub, GMSub, ⟨by decide +kernel, R.sf, R.mMSub.at_, R.mMSub.fn⟩, bMSub⟩⟩
  have RE : RuleE P w K mg base CR := ⟨R.nC, R.nL, R.kL, _, pEv, fMEv, dMEv, GMEv, R.cr, R.sm, bMEv⟩
  have GPool : FnOk P w K mg base CX0 1 fPool dPool ["_law_script", "_law_place"] (spPool K) := ok_pool hPool.1 T0
  have GPick : FnOk P w K mg base CX0 1 fPick dPick ["_law_pool_here", "_law_many"] spPick := ok_pick hPick.1 T0
  have GOf : FnOk P w K mg base CX0 2 fOf dOf ["_law_pool_here", "_law_some"] spOf := ok_of hOf.1 T0 ⟨fPick, dPick, hPick.1.kp, GPick, bPick, hPick.2⟩
  have GKinds : FnOk P w K mg base CX0 3 fKinds dKinds ["_law_pool_here"] spKinds := ok_kinds hKinds.1 T0 ⟨fPick, dPick, hPick.1.kp, GPick, bPick, hPick.2⟩ ⟨fOf, dOf, hOf.1.kp, GOf, bOf, hOf.2⟩
  have GLooks : FnOk P w K mg base CX0 3 fLooks dLooks ["_law_pool_here"] (spLooks K) := ok_looks hLooks.1 T0 ⟨fPick, dPick, hPick.1.kp, GPick, bPick, hPick.2⟩ ⟨fOf, dOf, hOf.1.kp, GOf, bOf, hOf.2⟩
  have GOdd : FnOk P w K mg base CX0 3 fOdd dOdd ["_law_pool_here", "_law_is_look"] (spOdd K) := ok_odd hOdd.1 T0 ⟨fOf, dOf, hOf.1.kp, GOf, bOf, hOf.2⟩
  have GParts : FnOk P w K mg base CX0 1 fParts dParts ["_law_words_drawn", "_law_looks_drawn"] (spParts K) := ok_parts hParts.1 T0 R.WC
  have GMadeL : FnOk P w K mg base CX0 7 fMadeL dMadeL ["_law_kinds_here", "_law_given"] (spMadeL K CR) := ok_madeL hMadeL.1 T0 RC MR R.XC R.TX
  have GOff : FnOk P w K mg base CX0 1 fOff dOff ["_law_rule"] (spOff K CR) := ok_off hOff.1 T0 RC
  have GTog : FnOk P w K mg base CX0 2 fTog dTog ["_law_first", "_law_second"] (spTog K) := ok_tog hTog.1 T0 ⟨fParts, dParts, hParts.1.kp, GParts, bParts, hParts.2⟩
  have GHolds : FnOk P w K mg base CX0 5 fHolds dHolds ["_law_rule", "_law_parts_here"] (spHolds K CR) := ok_holds hHolds.1 T0 RC RD
  exact ok_law hLaw T0 RC RD RE ⟨fPool, dPool, hPool.1.kp, GPool, bPool, hPool.2⟩ ⟨fPick, dPick, hPick.1.kp, GPick, bPick, hPick.2⟩ ⟨fKinds, dKinds, hKinds.1.kp, GKinds, bKinds, hKinds.2⟩ ⟨fLooks, dLooks, hLooks.1.kp, GLooks, bLooks, hLooks.2⟩ ⟨fOdd, dOdd, hOdd.1.kp, GOdd, bOdd, hOdd.2⟩ ⟨fParts, dParts, hParts.1.kp, GParts, bParts, hParts.2⟩ ⟨fMadeL, dMadeL, hMadeL.1.kp, GMadeL, bMadeL, hMadeL.2⟩ ⟨fOff, dOff, hOff.1.kp, GOff, bOff, hOff.2⟩ ⟨fTog, dTog, hTog.1.kp, GTog, bTog, hTog.2⟩ ⟨fHolds, dHolds, hHolds.1.kp, GHolds, bHolds, hHolds.2⟩
end K5

/-! the end of a law row for a promise that asks that no repr is under way -/
namespace L2
open PySem PySem.Spec PyProof.Rows
section
variable {P : Program} {w : World} {K : PySem.W.Frag} {mg mb : Str → Option Value} {k : Nat} {fa a : Addr} {fd : FuncData} {x : Str} {sp : Sp} {s : Shared} {vs : List Value} {ns : List Int}
/-- what the caller asks of the end -/
abbrev AskedK (s : Shared) : Result → Shared → Prop := fun r s' => r = .ok (.ret (.bool true)) ∧ OldK s.heap s'.heap ∧ s'.os = s.os ∧ AllBare s'.gens
theorem endG_of {H : Hp} (KX : K.In s.heap) (hns : s.heap.Ns mainGlobals mg) (hb : s.heap.Ns builtinsNs mb) (hbb : ∀ x : Str, x ≠ "__name__" → mb x = bootBuiltins x) (hlim : s.heap.NoLimit) (hg : s.gens = #[])
    (hobj : s.heap.get? a = some { cls := .type "list", data := .seq vs.toArray }) (hroom : Room k callerA)
    (F : ∀ base : Heap, K.In base → base.Ns mainGlobals mg → FnG P w K mg base k fa fd [x] sp) (hbind : ∀ (s : Shared) (u : Value), BindsTo s fd ⟨[u], []⟩ [(x, u)])
    (hO : Only H) (hok : HOk P w H s.heap) (one : ∀ b, H b ≠ none → b = a) (free : H a ≠ none → K.lookup a = none)
    (hsp : sp [.ref a] H (fun v _ => v = .bl true) E0) : codeAny (model P w) callerA (.call (.ref fa) ⟨[.ref a], []⟩) (AskedK s) s := by
  have base_of : ∀ {b : Addr} {o : Obj}, s.heap.get? b = some o → H b = none → (hidT s.heap H).get? b = some o := fun e n => hidT_get e n
  have apart : ∀ {b : Addr}, b ≠ a → H b = none := fun {b} hba => Classical.byContradiction fun z => hba (one b z)
  have notDict : ∀ {b : Addr} {o : Obj} {es : Array DictEntry} {ep : Nat}, s.heap.get? b = some o → o.data = .dict es ep → H b = none := by
    intro b o es ep e d
    refine apart fun z => ?_
    rw [z, hobj] at e
    cases e
    cases d
  have keepNs : ∀ {b : Addr} {m : Str → Option Value}, s.heap.Ns b m → (hidT s.heap H).Ns b m := by
    rintro b m ⟨o, es, ep, e, d, r⟩
    exact ⟨o, es, ep, base_of e (notDict e d), d, r⟩
  have inBase : K.In (hidT s.heap H) := by
    intro b o e
    refine base_of (KX b o e) (Classical.byContradiction fun z => ?_)
    have hba := one b z
    subst hba
    rw [free z] at e
    cases e
  have md : Mod K mg (hidT s.heap H) := by
    refine ⟨inBase, keepNs hns, ⟨mb, keepNs hb, hbb⟩, ?_⟩
    obtain ⟨mc, h1, h2⟩ := hlim
    exact ⟨mc, keepNs h1, h2⟩
  have env0 : Env0 P w K mg (hidT s.heap H) callerA [] s H := by
    refine ⟨rfl, md, fun b o e => of_hidT e, Nat.le_of_eq (hidT_size _ _), trivial, ?_, hok, .of_eq hg⟩
    intro b hb
    exact absurd (show b ∈ ([] : List Addr) from hb) (by simp)
  refine codeAny_mono ((F _ inBase (keepNs hns)).go callerA [] s H ⟨[.ref a], []⟩ [.ref a] [.ref a] _ rfl hroom env0 (hbind s (.ref a)) (.cons rfl .nil) hsp) ?_
  rintro (er | (_ | _ | _ | u)) s' h
  · exact h.elim
  · exact h.elim
  · exact h.elim
  · exact h.elim
  · obtain ⟨v, H', os, bare, un, hok', rv, q⟩ := h
    have q' : v = .bl true := q
    subst q'
    obtain rfl : u = Value.bool true := rv
    refine ⟨rfl, OldK.of_keep ?_, os, bare⟩
    intro b o e
    rcases hO b with z | ⟨ob, xs, z⟩
    · exact un.keep b o e z (by intro y; exact absurd (show b ∈ ([] : List Addr) from y) (by simp)) (by simp)
    · obtain ⟨e1, _⟩ := hok b _ z
      obtain ⟨e2, _⟩ := hok' b _ (un.frzs b ob _ z)
      rw [e] at e1
      cases e1
      exact e2
theorem law_callG (KX : K.In s.heap) (hns : s.heap.Ns mainGlobals mg) (hb : s.heap.Ns builtinsNs mb) (hbb : ∀ x : Str, x ≠ "__name__" → mb x = bootBuiltins x) (hlim : s.heap.NoLimit) (hg : s.gens = #[])
    (hobj : s.heap.get? a = some { cls := .type "list", data := .seq vs.toArray }) (hi : IntsAre vs ns) (hl : ns.length ≤ sizeLine) (hroom : Room k callerA)
    (F : ∀ base : Heap, K.In base → base.Ns mainGlobals mg → FnG P w K mg base k fa fd [x] sp) (hbind : ∀ (s : Shared) (u : Value), BindsTo s fd ⟨[u], []⟩ [(x, u)])
    (hsp : ∀ H : Hp, Only H → SqL K H a (ns.map V.int) → sp [.ref a] H (fun v _ => v = .bl true) E0) : codeAny (model P w) callerA (.call (.ref fa) ⟨[.ref a], []⟩) (AskedK s) s := by
  have rv := vals_ints hi
  have lenV := hi.length
  cases hk : K.lookup a with
  | some o =>
    have e := KX a o hk
    rw [hobj] at e
    cases e
    have sq : SqL K (fun _ => none) a (ns.map V.int) := .inr ⟨_, vs.toArray, _, hk, rfl, rfl, rfl, by rw [List.size_toArray, lenV]; exact hl, by simpa using rv⟩
    have only : Only (fun _ => none) := fun _ => .inl rfl
    have hok : HOk P w (fun _ => none) s.heap := by
      intro b u z
      have z' : (none : Option HO) = some u := z
      cases z'
    exact endG_of KX hns hb hbb hlim hg hobj hroom F hbind only hok (fun b z => absurd rfl z) (fun z => absurd rfl z) (hsp _ only sq)
  | none =>
    let O : Obj := { cls := .type "list", data := .seq vs.toArray }
    let H : Hp := fun b => if b = a then some (.frz O (.lst (ns.map V.int))) else none
    have atA : H a = some (.frz O (.lst (ns.map V.int))) := if_pos rfl
    have off : ∀ b, b ≠ a → H b = none := fun b n => if_neg n
    have only : Only H := by
      intro b
      by_cases n : b = a
      · exact .inr ⟨O, ns.map V.int, by rw [n]; exact atA⟩
      · exact .inl (off b n)
    have hok : HOk P w H s.heap := by
      intro b u z
      by_cases n : b = a
      · subst n
        rw [atA] at z
        cases z
        exact ⟨hobj, by rw [List.length_map]; exact hl, vs, _, rv, hobj⟩
      · rw [off b n] at z
        cases z
    have one : ∀ b, H b ≠ none → b = a := fun b z => Classical.byContradiction fun n => z (off b n)
    exact endG_of KX hns hb hbb hlim hg hobj hroom F hbind only hok one (fun _ => hk) (hsp _ only (.inl (.inr ⟨O, atA⟩)))
end
/-- the goal that k_head leaves, from the law's promise -/
theorem walk_ofG {l : PySem.W.OpenLaw} {n k : Nat} {q : Program} {loose : List Str} {XP : (Str → Option Value) → Heap → Prop} {YP : World → Heap → Prop} {d : DefRec} {K : Params → PySem.W.Frag} {sp : World → Sp} {x : Str}
    (hn : l.most = some n) (hn2 : n ≤ sizeLine) (hdf : d.params.defaults = []) (hr : Room k callerA) (hY : ∀ (w : World) (h : Heap), YP w h → (K w.params).In h)
    (F : ∀ (w : World) (mg : Str → Option Value) (fa : Addr) (h : Heap), (K w.params).In h → h.Ns mainGlobals mg → mg d.name = some (.ref fa) →
      ∃ fd : FuncData, (∀ (s : Shared) (u : Value), BindsTo s fd ⟨[u], []⟩ [(x, u)]) ∧ ∀ base : Heap, (K w.params).In base → base.Ns mainGlobals mg → FnG l.prog w (K w.params) mg base k fa fd [x] (sp w))
    (hsp : ∀ (w : World) (H : Hp) (a : Addr) (ns : List Int), ns.length ≤ n → Only H → SqL (K w.params) H a (ns.map V.int) → sp w [.ref a] H (fun v _ => v = .bl true) E0) :
    PySem.W.WalkO q loose XP YP l.row.toRowW d [] (fun f vs => PySem.call f vs) := by
  refine Att.attach_call hn hdf ?_
  intro w s₀ s₁ mg mb fa o pm cd doc a vs ns G Y ho hd hcd hmg hobj hints hlen hg
  have KX := hY w _ Y
  obtain ⟨fd, hb, hF⟩ := F w mg fa _ KX G.T.g hmg
  exact law_callG KX G.T.g G.T.b G.T.builtins G.T.nolimit hg hobj hints (Nat.le_trans hlen hn2) hr hF hb (fun H hO hS => hsp w H a ns hlen hO hS)
end L2

namespace K5
open PySem L2
section
variable {K : PySem.W.Frag} {h : Heap} {mg : Str → Option Value}
/-- a def that stands at the top, as the written part shows it -/
theorem held {x : Str} {st : Stmt} {f : Addr} {oc : Value} {od an : Option Addr} {osl : Array (Option Value)} {kV doc pm cdv ct : Value} (X : K.In h) (G : h.Ns mainGlobals mg) (a : PySem.W.nsIn K mainGlobals x = some (some (.ref f)))
    (l : K.lookup f = some ⟨oc, od, .func (PySem.W.fnOf x x (defArgs st) (defBody st) (defScope st) .none kV doc pm an cdv ct), osl⟩) (c : PySem.W.codeIn K cdv x = true) (k : PySem.W.keepIn K (.ref f) = true) : Held K mg x st f (PySem.W.fnOf x x (defArgs st) (defBody st) (defScope st) .none kV doc pm an cdv ct) :=
  ⟨fun_mk l c k, PySem.W.mg_of X G a⟩

/-- a list is no instance of an own class -/
theorem kit_no {C : Addr} {t : String} (hd : PySem.W.hasDictIn K C = true) (ht : PySem.W.typeIn K (.ref C) = some (.type "type")) (hs : PySem.W.subIn K (.type t) (.ref C) = some false) : PySem.W.kitOne K (.type t) (.ref C) = some false := by
  obtain ⟨cd, hc, _⟩ := PySem.W.any_some hd
  have e : ((PySem.W.clsIn K C).isSome && PySem.W.typeIn K (.ref C) == some (.type "type")) = true := by rw [hc, ht]; rfl
  unfold PySem.W.kitOne
  rw [if_neg (fun q => by cases eq_of_beq q)]
  show (if ((PySem.W.clsIn K C).isSome && PySem.W.typeIn K (.ref C) == some (.type "type")) = true then PySem.W.subIn K (.type t) (.ref C) else none) = some false
  rw [if_pos e]
  exact hs


theorem signs_vals {its : Array Value} {t1 t2 t3 t4 t5 : Tok} (e : its = #[.str "=" t1, .str ";" t2, .str "," t3, .str "[" t4, .str "]" t5]) : its.size ≤ sizeLine ∧ Vals (K5S.signs.map V.str) its.toList := by
  subst e
  exact ⟨by show 5 ≤ sizeLine; decide, .cons ⟨_, rfl⟩ (.cons ⟨_, rfl⟩ (.cons ⟨_, rfl⟩ (.cons ⟨_, rfl⟩ (.cons ⟨_, rfl⟩ .nil))))⟩
theorem words_vals {its : Array Value} {t1 t2 t3 t4 t5 t6 : Tok} (e : its = #[.str "left" t1, .str "doubled" t2, .str "swapped" t3, .str "word" t4, .str "number" t5, .str "sign" t6]) : its.size ≤ sizeLine ∧ Vals (words6.map V.str) its.toList := by
  subst e
  exact ⟨by show 6 ≤ sizeLine; decide, .cons ⟨_, rfl⟩ (.cons ⟨_, rfl⟩ (.cons ⟨_, rfl⟩ (.cons ⟨_, rfl⟩ (.cons ⟨_, rfl⟩ (.cons ⟨_, rfl⟩ .nil)))))⟩
theorem empty_dp {a : Addr} {dd : Option Addr} {its : Array Value} {n : Nat} {sl : Array (Option Value)} (l : K.lookup a = some ⟨.type "tuple", dd, .seq its n, sl⟩) (e : its = #[]) (H : Hp) : Dp K H (.ref a) (.tuple []) := by
  subst e
  exact .tup (.inr ⟨_, _, n, l, rfl, rfl, Nat.zero_le _, .nil⟩) .nil
end
theorem all_mk {P : Program} {w : World} {K : PySem.W.Frag} {h : Heap} {mg : Str → Option Value} {fa CR CX CS fX aS aW aLk aKW pEv : Addr} (X : K.In h) (G : h.Ns mainGlobals mg) (hfa : mg "law" = some (.ref fa))
    {nmX qX : Str} {NX : Addr} {bsX : List Value} {snX : List Str} {subX : List Value} {abX : Bool} {colX : Option Bool} {ddX : Option Addr} {m0X m1X m2X m3X m5X : Option Value} {oIX pmIX ctIX : Value} {odIX anIX : Option Addr} {slIX : Array (Option Value)} {docIX : Value} {cdaX ccX : Addr} {cclX : Value} {cddX : Option Addr} {vsX : Array Value} {ccsX : Array (Option Value)} {fileX : Str} {tfX : Tok} {clX : Value} {cldX : Option Addr} {cslX : Array (Option Value)}
    {g1 g2 g3 g4 g5 h1 h2 h3 h4 h5 h6 tL tD tM : Tok} {dS dW dLk : Option Addr} {iS iW iLk : Array Value} {nS nW nLk : Nat} {slS slW slLk : Array (Option Value)} {rstEv : List Value}
    {fOneOf fCons fIsW fIsN fIsS fSort fLook fMadeR fPool fPick fOf fKinds fLooks fOdd fParts fMadeL fOff fTog fHolds fMOr fMAnd fMSub fMEq fMIn fMLen fMWi fMEv fInit fLaw : Addr} {odOneOf anOneOf odCons anCons odIsW anIsW odIsN anIsN odIsS anIsS odSort anSort odLook anLook odMadeR anMadeR odPool anPool odPick anPick odOf anOf odKinds anKinds odLooks anLooks odOdd anOdd odParts anParts odMadeL anMadeL odOff anOff odTog anTog odHolds anHolds odMOr anMOr odMAnd anMAnd odMSub anMSub odMEq anMEq odMIn anMIn odMLen anMLen odMWi anMWi odMEv anMEv odInit anInit odLaw anLaw : Option Addr} {slOneOf slCons slIsW slIsN slIsS slSort slLook slMadeR slPool slPick slOf slKinds slLooks slOdd slParts slMadeL slOff slTog slHolds slMOr slMAnd slMSub slMEq slMIn slMLen slMWi slMEv slInit slLaw : Array (Option Value)}
    {ocOneOf kVOneOf dcOneOf pmOneOf cdOneOf ctOneOf ocCons kVCons dcCons pmCons cdCons ctCons ocIsW kVIsW dcIsW pmIsW cdIsW ctIsW ocIsN kVIsN dcIsN pmIsN cdIsN ctIsN ocIsS kVIsS dcIsS pmIsS cdIsS ctIsS ocSort kVSort dcSort pmSort cdSort ctSort ocLook kVLook dcLook pmLook cdLook ctLook ocMadeR kVMadeR dcMadeR pmMadeR cdMadeR ctMadeR ocPool kVPool dcPool pmPool cdPool ctPool ocPick kVPick dcPick pmPick cdPick ctPick ocOf kVOf dcOf pmOf cdOf ctOf ocKinds kVKinds dcKinds pmKinds cdKinds ctKinds ocLooks kVLooks dcLooks pmLooks cdLooks ctLooks ocOdd kVOdd dcOdd pmOdd cdOdd ctOdd ocParts kVParts dcParts pmParts cdParts ctParts ocMadeL kVMadeL dcMadeL pmMadeL cdMadeL ctMadeL ocOff kVOff dcOff pmOff cdOff ctOff ocTog kVTog dcTog pmTog cdTog ctTog ocHolds kVHolds dcHolds pmHolds cdHolds ctHolds ocMOr kVMOr dcMOr pmMOr cdMOr ctMOr ocMAnd kVMAnd dcMAnd pmMAnd cdMAnd ctMAnd ocMSub kVMSub dcMSub pmMSub cdMSub ctMSub ocMEq kVMEq dcMEq pmMEq cdMEq ctMEq ocMIn kVMIn dcMIn pmMIn cdMIn ctMIn ocMLen kVMLen dcMLen pmMLen cdMLen ctMLen ocMWi kVMWi dcMWi pmMWi cdMWi ctMWi ocMEv kVMEv dcMEv pmMEv cdMEv ctMEv ocInit dcInit pmInit cdInit ctInit ocLaw kVLaw dcLaw pmLaw cdLaw ctLaw : Value}
    (aSE : PySem.W.nsIn K mainGlobals "SettingsError" = some (some (.ref CS)))
    (tp : PySem.W.nsIn K PySem.cStatics "thirdparty.any" = some none)
    (su : PySem.W.nsIn K mainGlobals "super" = some none)
    (topp : (P.main.scope.names.lookup ("super" : Str)).isSome = false)
    (agX : PySem.W.nsIn K mainGlobals "BadRule" = some (some (.ref CX)))
    (xLX : K.lookup CX = some (excClassObj nmX qX CX NX bsX [.ref CS, .type "ValueError", .type "Exception", .type "BaseException", .type "object"] true snX subX abX colX ddX m0X m1X m2X m3X m5X "ValueError.__new__"))
    (saX : PySem.W.findIn K (.ref CX) "__setattr__" = some (some (.builtin "object.__setattr__")))
    (gaX : PySem.W.findIn K (.ref CX) "__getattribute__" = some (some (.builtin "BaseException.__getattribute__")))
    (ggX : PySem.W.findIn K (.ref CX) "__getattr__" = some none)
    (nb0X : PySem.W.findIn K (.ref CX) "worth" = some none)
    (iCX : PySem.W.findIn K (.ref CX) "__init__" = some (some (.ref fX)))
    (tIX : PySem.W.typeIn K (.ref fX) = some (.type "function"))
    (kCX : PySem.W.keepIn K (.ref CX) = true)
    (eCX : PySem.W.subIn K (.ref CX) (.type "BaseException") = some true)
    (vCX : PySem.W.subIn K (.ref CX) (.type "ValueError") = some true)
    (tCX : PySem.W.typeIn K (.ref CX) = some (.type "type"))
    (hCX : PySem.W.hasDictIn K CX = true)
    (sCX : PySem.W.subIn K (.ref CX) (.ref CX) = some true)
    (mCX : PySem.W.mroIn K CX (.ref CX) = some true)
    (supX : PySem.W.ks_superIn K CX CX "__init__" = some (some (.builtin "ValueError.__init__")))
    (lIX : K.lookup fX = some ⟨oIX, odIX, .func (PySem.W.ksFn "__init__" "BadRule.__init__" (K9E.eA ⟨9, 17, 9, 21⟩ ⟨9, 23, 9, 28⟩) (K9E.eB "a part of a slip rule that is none" 0 ⟨10, 8, 10, 13⟩ ⟨10, 8, 10, 15⟩ ⟨10, 8, 10, 24⟩ ⟨10, 25, 10, 61⟩ ⟨10, 8, 10, 62⟩ ⟨10, 8, 10, 62⟩ ⟨11, 8, 11, 12⟩ ⟨11, 8, 11, 18⟩ ⟨11, 21, 11, 26⟩ ⟨11, 8, 11, 26⟩) K9E.eS .none .none docIX pmIX anIX (.ref cdaX) ctIX ccX), slIX⟩)
    (cIX : PySem.W.codeIn K (.ref cdaX) "BadRule.__init__" = true)
    (lDX : K.lookup cdaX = some ⟨cclX, cddX, .fields vsX, ccsX⟩)
    (vfX : vsX[2]? = some (.str fileX tfX))
    (pfX : ((P.main.file : Str) == fileX) = true)
    (lcX : K.lookup ccX = some ⟨clX, cldX, .cell (some (.ref CX)), cslX⟩)
    (aCc : PySem.W.nsIn K mainGlobals "SlipRule" = some (some (.ref CR)))
    (pgC : PySem.W.plainGet K CR Str.empty = true)
    (hdC : PySem.W.hasDictIn K CR = true)
    (poC : PySem.W.plainOver K CR = true)
    (osaC : PySem.W.findIn K (.ref CR) "__setattr__" = some (some (.builtin "object.__setattr__")))
    (mkC : PySem.W.makesIn K CR = true)
    (kpC : PySem.W.keepIn K (.ref CR) = true)
    (ohaC : PySem.W.findIn K (.ref CR) "__class__" = some (some (.builtin "object.__class__")))
    (ohmC : PySem.W.mroIn K CR (.type "object") = some true)
    (nC0 : PySem.W.findIn K (.ref CR) "kinds" = some none)
    (nC1 : PySem.W.findIn K (.ref CR) "looks" = some none)
    (nC2 : PySem.W.findIn K (.ref CR) "parts" = some none)
    (hn : PySem.W.specialIn K (.builtin "object.__class__") "__get__" = some (some (.builtin "getset_descriptor.__get__")))
    (htk : PySem.W.takesIn K (.builtin "object.__class__") = some true)
    (noB : PySem.W.findIn K (.ref CR) "__bool__" = some none)
    (neC : PySem.W.findIn K (.ref CR) "__ne__" = some (some (.builtin "object.__ne__")))
    (nfC : PySem.W.notFirst K CR (.ref CR) = true)
    (nfL : PySem.W.notFirst K CR (.type "list") = true)
    (tyC : PySem.W.typeIn K (.ref CR) = some (.type "type"))
    (sbL : PySem.W.subIn K (.type "list") (.ref CR) = some false)
    (sfC : PySem.W.selfFirst K CR = true)
    (rdC : PySem.W.readsIn K CR (.type "type") = true)
    (gaC : PySem.W.specialIn K (.ref CR) "__getattribute__" = some (some (.builtin "type.__getattribute__")))
    (atEv : PySem.W.findCls K (.ref CR) (.type "type") "every" = some (.get (.builtin "staticmethod.__get__") (.ref pEv) .none (.ref CR)))
    (rcEv : PySem.W.recIn K pEv "staticmethod" = some (.ref fMEv :: rstEv))
    (iInit : PySem.W.findIn K (.ref CR) "__init__" = some (some (.ref fInit)))
    (jInit : PySem.W.isFn K (.ref fInit) = true)
    (lInit : K.lookup fInit = some ⟨ocInit, odInit, .func (PySem.W.fnOf "__init__" "SlipRule.__init__" (defArgs sRInit) (defBody sRInit) (defScope sRInit) .none (.ref aKW) dcInit pmInit anInit cdInit ctInit), slInit⟩)
    (cInit : PySem.W.codeIn K cdInit "SlipRule.__init__" = true)
    (kInit : PySem.W.keepIn K (.ref fInit) = true)
    (w1 : PySem.W.nsIn K aKW "looks" = some (some (.ref aLk)))
    (lLk : K.lookup aLk = some ⟨.type "tuple", dLk, .seq iLk nLk, slLk⟩)
    (vLk : iLk = #[])
    (iMOr : PySem.W.findIn K (.ref CR) "__or__" = some (some (.ref fMOr)))
    (jMOr : PySem.W.isFn K (.ref fMOr) = true)
    (lMOr : K.lookup fMOr = some ⟨ocMOr, odMOr, .func (PySem.W.fnOf "__or__" "SlipRule.__or__" (defArgs sROr) (defBody sROr) (defScope sROr) .none kVMOr dcMOr pmMOr anMOr cdMOr ctMOr), slMOr⟩)
    (cMOr : PySem.W.codeIn K cdMOr "SlipRule.__or__" = true)
    (kMOr : PySem.W.keepIn K (.ref fMOr) = true)
    (iMAnd : PySem.W.findIn K (.ref CR) "__and__" = some (some (.ref fMAnd)))
    (jMAnd : PySem.W.isFn K (.ref fMAnd) = true)
    (lMAnd : K.lookup fMAnd = some ⟨ocMAnd, odMAnd, .func (PySem.W.fnOf "__and__" "SlipRule.__and__" (defArgs sRAnd) (defBody sRAnd) (defScope sRAnd) .none kVMAnd dcMAnd pmMAnd anMAnd cdMAnd ctMAnd), slMAnd⟩)
    (cMAnd : PySem.W.codeIn K cdMAnd "SlipRule.__and__" = true)
    (kMAnd : PySem.W.keepIn K (.ref fMAnd) = true)
    (iMSub : PySem.W.findIn K (.ref CR) "__sub__" = some (some (.ref fMSub)))
    (jMSub : PySem.W.isFn K (.ref fMSub) = true)
    (lMSub : K.lookup fMSub = some ⟨ocMSub, odMSub, .func (PySem.W.fnOf "__sub__" "SlipRule.__sub__" (defArgs sRSub) (defBody sRSub) (defScope sRSub) .none kVMSub dcMSub pmMSub anMSub cdMSub ctMSub), slMSub⟩)
    (cMSub : PySem.W.codeIn K cdMSub "SlipRule.__sub__" = true)
    (kMSub : PySem.W.keepIn K (.ref fMSub) = true)
    (iMEq : PySem.W.findIn K (.ref CR) "__eq__" = some (some (.ref fMEq)))
    (jMEq : PySem.W.isFn K (.ref fMEq) = true)
    (lMEq : K.lookup fMEq = some ⟨ocMEq, odMEq, .func (PySem.W.fnOf "__eq__" "SlipRule.__eq__" (defArgs sREq) (defBody sREq) (defScope sREq) .none kVMEq dcMEq pmMEq anMEq cdMEq ctMEq), slMEq⟩)
    (cMEq : PySem.W.codeIn K cdMEq "SlipRule.__eq__" = true)
    (kMEq : PySem.W.keepIn K (.ref fMEq) = true)
    (iMIn : PySem.W.findIn K (.ref CR) "__contains__" = some (some (.ref fMIn)))
    (jMIn : PySem.W.isFn K (.ref fMIn) = true)
    (lMIn : K.lookup fMIn = some ⟨ocMIn, odMIn, .func (PySem.W.fnOf "__contains__" "SlipRule.__contains__" (defArgs sRIn) (defBody sRIn) (defScope sRIn) .none kVMIn dcMIn pmMIn anMIn cdMIn ctMIn), slMIn⟩)
    (cMIn : PySem.W.codeIn K cdMIn "SlipRule.__contains__" = true)
    (kMIn : PySem.W.keepIn K (.ref fMIn) = true)
    (iMLen : PySem.W.findIn K (.ref CR) "__len__" = some (some (.ref fMLen)))
    (jMLen : PySem.W.isFn K (.ref fMLen) = true)
    (lMLen : K.lookup fMLen = some ⟨ocMLen, odMLen, .func (PySem.W.fnOf "__len__" "SlipRule.__len__" (defArgs sRLen) (defBody sRLen) (defScope sRLen) .none kVMLen dcMLen pmMLen anMLen cdMLen ctMLen), slMLen⟩)
    (cMLen : PySem.W.codeIn K cdMLen "SlipRule.__len__" = true)
    (kMLen : PySem.W.keepIn K (.ref fMLen) = true)
    (iMWi : PySem.W.findIn K (.ref CR) "within" = some (some (.ref fMWi)))
    (jMWi : PySem.W.isFn K (.ref fMWi) = true)
    (lMWi : K.lookup fMWi = some ⟨ocMWi, odMWi, .func (PySem.W.fnOf "within" "SlipRule.within" (defArgs sRWi) (defBody sRWi) (defScope sRWi) .none kVMWi dcMWi pmMWi anMWi cdMWi ctMWi), slMWi⟩)
    (cMWi : PySem.W.codeIn K cdMWi "SlipRule.within" = true)
    (kMWi : PySem.W.keepIn K (.ref fMWi) = true)
    (lMEv : K.lookup fMEv = some ⟨ocMEv, odMEv, .func (PySem.W.fnOf "every" "SlipRule.every" (defArgs sREvery) (defBody sREvery) (defScope sREvery) .none kVMEv dcMEv pmMEv anMEv cdMEv ctMEv), slMEv⟩)
    (cMEv : PySem.W.codeIn K cdMEv "SlipRule.every" = true)
    (kMEv : PySem.W.keepIn K (.ref fMEv) = true)
    (gL : PySem.W.nsIn K mainGlobals "LETTERS" = some (some (.str K5S.cLetters tL)))
    (gDi : PySem.W.nsIn K mainGlobals "DIGITS" = some (some (.str K5S.cDigits tD)))
    (gM : PySem.W.nsIn K mainGlobals "LONGEST" = some (some (.int 12 tM)))
    (gG : PySem.W.nsIn K mainGlobals "SIGNS" = some (some (.ref aS)))
    (lS : K.lookup aS = some ⟨.type "tuple", dS, .seq iS nS, slS⟩)
    (vS : iS = #[.str "=" g1, .str ";" g2, .str "," g3, .str "[" g4, .str "]" g5])
    (gW : PySem.W.nsIn K mainGlobals "WORDS" = some (some (.ref aW)))
    (lW : K.lookup aW = some ⟨.type "tuple", dW, .seq iW nW, slW⟩)
    (vW : iW = #[.str "left" h1, .str "doubled" h2, .str "swapped" h3, .str "word" h4, .str "number" h5, .str "sign" h6])
    (zint : PySem.W.nsIn K mainGlobals "int" = some none)
    (zlen : PySem.W.nsIn K mainGlobals "len" = some none)
    (zsum : PySem.W.nsIn K mainGlobals "sum" = some none)
    (zabs : PySem.W.nsIn K mainGlobals "abs" = some none)
    (zrange : PySem.W.nsIn K mainGlobals "range" = some none)
    (zstr : PySem.W.nsIn K mainGlobals "str" = some none)
    (zall : PySem.W.nsIn K mainGlobals "all" = some none)
    (zisi : PySem.W.nsIn K mainGlobals "isinstance" = some none)
    (zrepr : PySem.W.nsIn K mainGlobals "repr" = some none)
    (zlist : PySem.W.nsIn K mainGlobals "list" = some none)
    (ztuple : PySem.W.nsIn K mainGlobals "tuple" = some none)
    (zset : PySem.W.nsIn K mainGlobals "set" = some none)
    (zdict : PySem.W.nsIn K mainGlobals "dict" = some none)
    (zbool : PySem.W.nsIn K mainGlobals "bool" = some none)
    (zsorted : PySem.W.nsIn K mainGlobals "sorted" = some none)
    (aOneOf : PySem.W.nsIn K mainGlobals "is_one_of" = some (some (.ref fOneOf)))
    (lOneOf : K.lookup fOneOf = some ⟨ocOneOf, odOneOf, .func (PySem.W.fnOf "is_one_of" "is_one_of" (defArgs sOneOf) (defBody sOneOf) (defScope sOneOf) .none kVOneOf dcOneOf pmOneOf anOneOf cdOneOf ctOneOf), slOneOf⟩)
    (cOneOf : PySem.W.codeIn K cdOneOf "is_one_of" = true)
    (kOneOf : PySem.W.keepIn K (.ref fOneOf) = true)
    (aCons : PySem.W.nsIn K mainGlobals "consists_of" = some (some (.ref fCons)))
    (lCons : K.lookup fCons = some ⟨ocCons, odCons, .func (PySem.W.fnOf "consists_of" "consists_of" (defArgs K5S.sConsists) (defBody K5S.sConsists) (defScope K5S.sConsists) .none kVCons dcCons pmCons anCons cdCons ctCons), slCons⟩)
    (cCons : PySem.W.codeIn K cdCons "consists_of" = true)
    (kCons : PySem.W.keepIn K (.ref fCons) = true)
    (aIsW : PySem.W.nsIn K mainGlobals "is_word" = some (some (.ref fIsW)))
    (lIsW : K.lookup fIsW = some ⟨ocIsW, odIsW, .func (PySem.W.fnOf "is_word" "is_word" (defArgs K5S.sIsWord) (defBody K5S.sIsWord) (defScope K5S.sIsWord) .none kVIsW dcIsW pmIsW anIsW cdIsW ctIsW), slIsW⟩)
    (cIsW : PySem.W.codeIn K cdIsW "is_word" = true)
    (kIsW : PySem.W.keepIn K (.ref fIsW) = true)
    (aIsN : PySem.W.nsIn K mainGlobals "is_numeral" = some (some (.ref fIsN)))
    (lIsN : K.lookup fIsN = some ⟨ocIsN, odIsN, .func (PySem.W.fnOf "is_numeral" "is_numeral" (defArgs K5S.sIsNumeral) (defBody K5S.sIsNumeral) (defScope K5S.sIsNumeral) .none kVIsN dcIsN pmIsN anIsN cdIsN ctIsN), slIsN⟩)
    (cIsN : PySem.W.codeIn K cdIsN "is_numeral" = true)
    (kIsN : PySem.W.keepIn K (.ref fIsN) = true)
    (aIsS : PySem.W.nsIn K mainGlobals "is_sign" = some (some (.ref fIsS)))
    (lIsS : K.lookup fIsS = some ⟨ocIsS, odIsS, .func (PySem.W.fnOf "is_sign" "is_sign" (defArgs K5S.sIsSign) (defBody K5S.sIsSign) (defScope K5S.sIsSign) .none kVIsS dcIsS pmIsS anIsS cdIsS ctIsS), slIsS⟩)
    (cIsS : PySem.W.codeIn K cdIsS "is_sign" = true)
    (kIsS : PySem.W.keepIn K (.ref fIsS) = true)
    (aSort : PySem.W.nsIn K mainGlobals "sort_of" = some (some (.ref fSort)))
    (lSort : K.lookup fSort = some ⟨ocSort, odSort, .func (PySem.W.fnOf "sort_of" "sort_of" (defArgs K5S.sSortOf) (defBody K5S.sSortOf) (defScope K5S.sSortOf) .none kVSort dcSort pmSort anSort cdSort ctSort), slSort⟩)
    (cSort : PySem.W.codeIn K cdSort "sort_of" = true)
    (kSort : PySem.W.keepIn K (.ref fSort) = true)
    (aLook : PySem.W.nsIn K mainGlobals "is_look" = some (some (.ref fLook)))
    (lLook : K.lookup fLook = some ⟨ocLook, odLook, .func (PySem.W.fnOf "is_look" "is_look" (defArgs sLook) (defBody sLook) (defScope sLook) .none kVLook dcLook pmLook anLook cdLook ctLook), slLook⟩)
    (cLook : PySem.W.codeIn K cdLook "is_look" = true)
    (kLook : PySem.W.keepIn K (.ref fLook) = true)
    (aMadeR : PySem.W.nsIn K mainGlobals "made_rule" = some (some (.ref fMadeR)))
    (lMadeR : K.lookup fMadeR = some ⟨ocMadeR, odMadeR, .func (PySem.W.fnOf "made_rule" "made_rule" (defArgs sMade) (defBody sMade) (defScope sMade) .none kVMadeR dcMadeR pmMadeR anMadeR cdMadeR ctMadeR), slMadeR⟩)
    (cMadeR : PySem.W.codeIn K cdMadeR "made_rule" = true)
    (kMadeR : PySem.W.keepIn K (.ref fMadeR) = true)
    (aPool : PySem.W.nsIn K mainGlobals "_law_pool" = some (some (.ref fPool)))
    (lPool : K.lookup fPool = some ⟨ocPool, odPool, .func (PySem.W.fnOf "_law_pool" "_law_pool" (defArgs sPool) (defBody sPool) (defScope sPool) .none kVPool dcPool pmPool anPool cdPool ctPool), slPool⟩)
    (cPool : PySem.W.codeIn K cdPool "_law_pool" = true)
    (kPool : PySem.W.keepIn K (.ref fPool) = true)
    (aPick : PySem.W.nsIn K mainGlobals "_law_pick" = some (some (.ref fPick)))
    (lPick : K.lookup fPick = some ⟨ocPick, odPick, .func (PySem.W.fnOf "_law_pick" "_law_pick" (defArgs sPick) (defBody sPick) (defScope sPick) .none kVPick dcPick pmPick anPick cdPick ctPick), slPick⟩)
    (cPick : PySem.W.codeIn K cdPick "_law_pick" = true)
    (kPick : PySem.W.keepIn K (.ref fPick) = true)
    (aOf : PySem.W.nsIn K mainGlobals "_law_of" = some (some (.ref fOf)))
    (lOf : K.lookup fOf = some ⟨ocOf, odOf, .func (PySem.W.fnOf "_law_of" "_law_of" (defArgs sOf) (defBody sOf) (defScope sOf) .none kVOf dcOf pmOf anOf cdOf ctOf), slOf⟩)
    (cOf : PySem.W.codeIn K cdOf "_law_of" = true)
    (kOf : PySem.W.keepIn K (.ref fOf) = true)
    (aKinds : PySem.W.nsIn K mainGlobals "_law_kinds" = some (some (.ref fKinds)))
    (lKinds : K.lookup fKinds = some ⟨ocKinds, odKinds, .func (PySem.W.fnOf "_law_kinds" "_law_kinds" (defArgs sKinds) (defBody sKinds) (defScope sKinds) .none kVKinds dcKinds pmKinds anKinds cdKinds ctKinds), slKinds⟩)
    (cKinds : PySem.W.codeIn K cdKinds "_law_kinds" = true)
    (kKinds : PySem.W.keepIn K (.ref fKinds) = true)
    (aLooks : PySem.W.nsIn K mainGlobals "_law_looks" = some (some (.ref fLooks)))
    (lLooks : K.lookup fLooks = some ⟨ocLooks, odLooks, .func (PySem.W.fnOf "_law_looks" "_law_looks" (defArgs sLooks) (defBody sLooks) (defScope sLooks) .none kVLooks dcLooks pmLooks anLooks cdLooks ctLooks), slLooks⟩)
    (cLooks : PySem.W.codeIn K cdLooks "_law_looks" = true)
    (kLooks : PySem.W.keepIn K (.ref fLooks) = true)
    (aOdd : PySem.W.nsIn K mainGlobals "_law_odd" = some (some (.ref fOdd)))
    (lOdd : K.lookup fOdd = some ⟨ocOdd, odOdd, .func (PySem.W.fnOf "_law_odd" "_law_odd" (defArgs sOdd) (defBody sOdd) (defScope sOdd) .none kVOdd dcOdd pmOdd anOdd cdOdd ctOdd), slOdd⟩)
    (cOdd : PySem.W.codeIn K cdOdd "_law_odd" = true)
    (kOdd : PySem.W.keepIn K (.ref fOdd) = true)
    (aParts : PySem.W.nsIn K mainGlobals "_law_parts" = some (some (.ref fParts)))
    (lParts : K.lookup fParts = some ⟨ocParts, odParts, .func (PySem.W.fnOf "_law_parts" "_law_parts" (defArgs sParts) (defBody sParts) (defScope sParts) .none kVParts dcParts pmParts anParts cdParts ctParts), slParts⟩)
    (cParts : PySem.W.codeIn K cdParts "_law_parts" = true)
    (kParts : PySem.W.keepIn K (.ref fParts) = true)
    (aMadeL : PySem.W.nsIn K mainGlobals "_law_made" = some (some (.ref fMadeL)))
    (lMadeL : K.lookup fMadeL = some ⟨ocMadeL, odMadeL, .func (PySem.W.fnOf "_law_made" "_law_made" (defArgs sMadeL) (defBody sMadeL) (defScope sMadeL) .none kVMadeL dcMadeL pmMadeL anMadeL cdMadeL ctMadeL), slMadeL⟩)
    (cMadeL : PySem.W.codeIn K cdMadeL "_law_made" = true)
    (kMadeL : PySem.W.keepIn K (.ref fMadeL) = true)
    (aOff : PySem.W.nsIn K mainGlobals "_law_read_off" = some (some (.ref fOff)))
    (lOff : K.lookup fOff = some ⟨ocOff, odOff, .func (PySem.W.fnOf "_law_read_off" "_law_read_off" (defArgs sOff) (defBody sOff) (defScope sOff) .none kVOff dcOff pmOff anOff cdOff ctOff), slOff⟩)
    (cOff : PySem.W.codeIn K cdOff "_law_read_off" = true)
    (kOff : PySem.W.keepIn K (.ref fOff) = true)
    (aTog : PySem.W.nsIn K mainGlobals "_law_together" = some (some (.ref fTog)))
    (lTog : K.lookup fTog = some ⟨ocTog, odTog, .func (PySem.W.fnOf "_law_together" "_law_together" (defArgs sTog) (defBody sTog) (defScope sTog) .none kVTog dcTog pmTog anTog cdTog ctTog), slTog⟩)
    (cTog : PySem.W.codeIn K cdTog "_law_together" = true)
    (kTog : PySem.W.keepIn K (.ref fTog) = true)
    (aHolds : PySem.W.nsIn K mainGlobals "_law_holds" = some (some (.ref fHolds)))
    (lHolds : K.lookup fHolds = some ⟨ocHolds, odHolds, .func (PySem.W.fnOf "_law_holds" "_law_holds" (defArgs sHolds) (defBody sHolds) (defScope sHolds) .none kVHolds dcHolds pmHolds anHolds cdHolds ctHolds), slHolds⟩)
    (cHolds : PySem.W.codeIn K cdHolds "_law_holds" = true)
    (kHolds : PySem.W.keepIn K (.ref fHolds) = true)
    (aLaw : PySem.W.nsIn K mainGlobals "law" = some (some (.ref fLaw)))
    (lLaw : K.lookup fLaw = some ⟨ocLaw, odLaw, .func (PySem.W.fnOf "law" "law" (defArgs sLaw) (defBody sLaw) (defScope sLaw) .none kVLaw dcLaw pmLaw anLaw cdLaw ctLaw), slLaw⟩)
    (cLaw : PySem.W.codeIn K cdLaw "law" = true)
    (kLaw : PySem.W.keepIn K (.ref fLaw) = true) :
    ∃ fd : FuncData, (∀ (s : Shared) (v : Value), BindsTo s fd ⟨[v], []⟩ [("_law_script", v)]) ∧ ∀ base : Heap, K.In base → base.Ns mainGlobals mg → FnG P w K mg base 9 fa fd ["_law_script"] (spLaw K) := by
  have e := hfa.symm.trans (PySem.W.mg_of X G aLaw)
  cases e
  have M0 : Bare mg := { int := PySem.W.mg_none_of X G zint, len := PySem.W.mg_none_of X G zlen, sum := PySem.W.mg_none_of X G zsum, abs := PySem.W.mg_none_of X G zabs, range := PySem.W.mg_none_of X G zrange, str := PySem.W.mg_none_of X G zstr, all := PySem.W.mg_none_of X G zall, isi := PySem.W.mg_none_of X G zisi, repr := PySem.W.mg_none_of X G zrepr, list := PySem.W.mg_none_of X G zlist, tuple := PySem.W.mg_none_of X G ztuple, set := PySem.W.mg_none_of X G zset, dict := PySem.W.mg_none_of X G zdict, bool := PySem.W.mg_none_of X G zbool }
  have Z : K5S.Mod K mg aS := { M0 with letters := ⟨_, PySem.W.mg_of X G gL⟩, digits := ⟨_, PySem.W.mg_of X G gDi⟩, longest := ⟨_, PySem.W.mg_of X G gM⟩, sgn := PySem.W.mg_of X G gG, tup := ⟨_, iS, nS, lS, rfl, rfl, (signs_vals vS).1, (signs_vals vS).2⟩ }
  have TX : K9E.ErrTxt P K mg CX fX :=
    { gC := PySem.W.mg_of X G agX, cls := ⟨nmX, qX, NX, bsX, _, snX, subX, abX, colX, ddX, m0X, m1X, m2X, m3X, m5X, xLX, by rfl⟩, sa := saX, noN := nb0X, iC := iCX, tC := tIX, kC := kCX, exC := eCX, vaC := vCX, tyC := tCX, te := PySem.W.exm_ref eCX hCX tCX sCX, sub := mCX, sup := supX, tp := tp, su := PySem.W.mg_none_of X G su, top := topp,
      fn := ⟨_, _, _, _, _, cdaX, ccX, _, _, _, _, _, _, _, _, _, _, _, _, _, _, _, _, lIX, cIX, ⟨_, _, vsX, _, fileX, tfX, lDX, vfX, pfX⟩, fun env => ⟨_, rfl⟩, _, _, _, lcX⟩ }
  have WC : WordsC K mg aW := ⟨PySem.W.mg_of X G gW, PySem.W.mg_none_of X G zsorted, ⟨_, iW, nW, lW, rfl, rfl, (words_vals vW).1, (words_vals vW).2⟩⟩
  have RC : RuleC K mg CR := ⟨⟨pgC, hdC, poC, osaC⟩, nC0, nC1, nC2, PySem.W.mg_of X G aCc, ohaC, hn, htk, ohmC⟩
  have R : Rest P w K mg CR CX fX aS aW aLk pEv fInit fMOr fMAnd fMSub fMEq fMIn fMLen fMWi fMEv := ⟨Z, RC, TX, ⟨gaX, ggX, eCX, hCX⟩, WC, ⟨mkC, iInit, jInit, kpC⟩, empty_dp lLk vLk, noB, neC, nfC, nfL, kit_no hdC tyC sbL, sfC, ⟨rdC, gaC⟩, ⟨atEv, ⟨rstEv, rcEv⟩, kMEv⟩, ⟨iMOr, jMOr, kMOr⟩, ⟨iMAnd, jMAnd, kMAnd⟩, ⟨iMSub, jMSub, kMSub⟩, ⟨iMEq, jMEq, kMEq⟩, ⟨iMIn, jMIn, kMIn⟩, ⟨iMLen, jMLen, kMLen⟩, ⟨iMWi, jMWi, kMWi⟩⟩
  have hInit : FunD K "__init__" "SlipRule.__init__" (defArgs sRInit) (defBody sRInit) (defScope sRInit) [] [(("looks" : Str), .ref aLk)] fInit (PySem.W.fnOf "__init__" "SlipRule.__init__" (defArgs sRInit) (defBody sRInit) (defScope sRInit) .none (.ref aKW) dcInit pmInit anInit cdInit ctInit) :=
    ⟨⟨_, _, _, _, _, _, _, _, _, _, rfl, lInit, cInit, .inl ⟨rfl, rfl⟩, .inr ⟨aKW, rfl, fun x hx => by
      rw [List.mem_singleton.mp hx]
      exact ⟨_, w1, rfl⟩⟩⟩, kInit⟩
  have hOneOf := held (st := sOneOf) X G aOneOf lOneOf cOneOf kOneOf
  have bOneOf := hOneOf.1.binds (ps := ["thing", "words"]) fun _ _ _ _ _ _ us hl => match us, hl with | [_, _], _ => rfl
  have hCons := held (st := K5S.sConsists) X G aCons lCons cCons kCons
  have bCons := hCons.1.binds (ps := ["thing", "characters"]) fun _ _ _ _ _ _ us hl => match us, hl with | [_, _], _ => rfl
  have hIsW := held (st := K5S.sIsWord) X G aIsW lIsW cIsW kIsW
  have bIsW := hIsW.1.binds (ps := ["thing"]) fun _ _ _ _ _ _ us hl => match us, hl with | [_], _ => rfl
  have hIsN := held (st := K5S.sIsNumeral) X G aIsN lIsN cIsN kIsN
  have bIsN := hIsN.1.binds (ps := ["thing"]) fun _ _ _ _ _ _ us hl => match us, hl with | [_], _ => rfl
  have hIsS := held (st := K5S.sIsSign) X G aIsS lIsS cIsS kIsS
  have bIsS := hIsS.1.binds (ps := ["thing"]) fun _ _ _ _ _ _ us hl => match us, hl with | [_], _ => rfl
  have hSort := held (st := K5S.sSortOf) X G aSort lSort cSort kSort
  have bSort := hSort.1.binds (ps := ["thing"]) fun _ _ _ _ _ _ us hl => match us, hl with | [_], _ => rfl
  have hLook := held (st := sLook) X G aLook lLook cLook kLook
  have bLook := hLook.1.binds (ps := ["thing"]) fun _ _ _ _ _ _ us hl => match us, hl with | [_], _ => rfl
  have hMadeR := held (st := sMade) X G aMadeR lMadeR cMadeR kMadeR
  have bMadeR := hMadeR.1.binds (ps := ["kinds", "looks"]) fun _ _ _ _ _ _ us hl => match us, hl with | [_, _], _ => rfl
  have hPool := held (st := sPool) X G aPool lPool cPool kPool
  have bPool := hPool.1.binds (ps := ["_law_script", "_law_place"]) fun _ _ _ _ _ _ us hl => match us, hl with | [_, _], _ => rfl
  have hPick := held (st := sPick) X G aPick lPick cPick kPick
  have bPick := hPick.1.binds (ps := ["_law_pool_here", "_law_many"]) fun _ _ _ _ _ _ us hl => match us, hl with | [_, _], _ => rfl
  have hOf := held (st := sOf) X G aOf lOf cOf kOf
  have bOf := hOf.1.binds (ps := ["_law_pool_here", "_law_some"]) fun _ _ _ _ _ _ us hl => match us, hl with | [_, _], _ => rfl
  have hKinds := held (st := sKinds) X G aKinds lKinds cKinds kKinds
  have bKinds := hKinds.1.binds (ps := ["_law_pool_here"]) fun _ _ _ _ _ _ us hl => match us, hl with | [_], _ => rfl
  have hLooks := held (st := sLooks) X G aLooks lLooks cLooks kLooks
  have bLooks := hLooks.1.binds (ps := ["_law_pool_here"]) fun _ _ _ _ _ _ us hl => match us, hl with | [_], _ => rfl
  have hOdd := held (st := sOdd) X G aOdd lOdd cOdd kOdd
  have bOdd := hOdd.1.binds (ps := ["_law_pool_here", "_law_is_look"]) fun _ _ _ _ _ _ us hl => match us, hl with | [_, _], _ => rfl
  have hParts := held (st := sParts) X G aParts lParts cParts kParts
  have bParts := hParts.1.binds (ps := ["_law_words_drawn", "_law_looks_drawn"]) fun _ _ _ _ _ _ us hl => match us, hl with | [_, _], _ => rfl
  have hMadeL := held (st := sMadeL) X G aMadeL lMadeL cMadeL kMadeL
  have bMadeL := hMadeL.1.binds (ps := ["_law_kinds_here", "_law_given"]) fun _ _ _ _ _ _ us hl => match us, hl with | [_, _], _ => rfl
  have hOff := held (st := sOff) X G aOff lOff cOff kOff
  have bOff := hOff.1.binds (ps := ["_law_rule"]) fun _ _ _ _ _ _ us hl => match us, hl with | [_], _ => rfl
  have hTog := held (st := sTog) X G aTog lTog cTog kTog
  have bTog := hTog.1.binds (ps := ["_law_first", "_law_second"]) fun _ _ _ _ _ _ us hl => match us, hl with | [_, _], _ => rfl
  have hHolds := held (st := sHolds) X G aHolds lHolds cHolds kHolds
  have bHolds := hHolds.1.binds (ps := ["_law_rule", "_law_parts_here"]) fun _ _ _ _ _ _ us hl => match us, hl with | [_, _], _ => rfl
  have hMOr := fun_mk (st := sROr) lMOr cMOr kMOr
  have bMOr := hMOr.binds (ps := ["self", "other"]) fun _ _ _ _ _ _ us hl => match us, hl with | [_, _], _ => rfl
  have hMAnd := fun_mk (st := sRAnd) lMAnd cMAnd kMAnd
  have bMAnd := hMAnd.binds (ps := ["self", "other"]) fun _ _ _ _ _ _ us hl => match us, hl with | [_, _], _ => rfl
  have hMSub := fun_mk (st := sRSub) lMSub cMSub kMSub
  have bMSub := hMSub.binds (ps := ["self", "other"]) fun _ _ _ _ _ _ us hl => match us, hl with | [_, _], _ => rfl
  have hMEq := fun_mk (st := sREq) lMEq cMEq kMEq
  have bMEq := hMEq.binds (ps := ["self", "other"]) fun _ _ _ _ _ _ us hl => match us, hl with | [_, _], _ => rfl
  have hMIn := fun_mk (st := sRIn) lMIn cMIn kMIn
  have bMIn := hMIn.binds (ps := ["self", "x"]) fun _ _ _ _ _ _ us hl => match us, hl with | [_, _], _ => rfl
  have hMLen := fun_mk (st := sRLen) lMLen cMLen kMLen
  have bMLen := hMLen.binds (ps := ["self"]) fun _ _ _ _ _ _ us hl => match us, hl with | [_], _ => rfl
  have hMWi := fun_mk (st := sRWi) lMWi cMWi kMWi
  have bMWi := hMWi.binds (ps := ["self", "other"]) fun _ _ _ _ _ _ us hl => match us, hl with | [_, _], _ => rfl
  have hMEv := fun_mk (st := sREvery) lMEv cMEv kMEv
  have bMEv := hMEv.binds (ps := []) fun _ _ _ _ _ _ us hl => match us, hl with | [], _ => rfl
  exact ⟨PySem.W.fnOf "law" "law" (defArgs sLaw) (defBody sLaw) (defScope sLaw) .none kVLaw dcLaw pmLaw anLaw cdLaw ctLaw, fun s v => .of_eq rfl, fun base _ _ => all_of R hOneOf hCons hIsW hIsN hIsS hSort hLook hMadeR hPool hPick hOf hKinds hLooks hOdd hParts hMadeL hOff hTog hHolds hMOr hMAnd hMSub hMEq hMIn hMLen hMWi hMEv hInit (fun_mk (st := sLaw) lLaw cLaw kLaw) bOneOf bCons bIsW bIsN bIsS bSort bLook bMadeR bPool bPick bOf bKinds bLooks bOdd bParts bMadeL bOff bTog bHolds bMOr bMAnd bMSub bMEq bMIn bMLen bMWi bMEv⟩
theorem walk {l : PySem.W.OpenLaw} {q : Program} {loose : List Str} {XP : (Str → Option Value) → Heap → Prop} {YP : World → Heap → Prop} {d : DefRec} {K : Params → PySem.W.Frag} (hn : l.most = some 63) (hdf : d.params.defaults = [])
    (hY : ∀ (w : World) (h : Heap), YP w h → (K w.params).In h)
    (F : ∀ (w : World) (mg : Str → Option Value) (fa : Addr) (h : Heap), (K w.params).In h → h.Ns mainGlobals mg → mg d.name = some (.ref fa) →
      ∃ fd : FuncData, (∀ (s : Shared) (u : Value), BindsTo s fd ⟨[u], []⟩ [("_law_script", u)]) ∧ ∀ base : Heap, (K w.params).In base → base.Ns mainGlobals mg → FnG l.prog w (K w.params) mg base 9 fa fd ["_law_script"] (spLaw (K w.params))) :
    PySem.W.WalkO q loose XP YP l.row.toRowW d [] (fun f vs => PySem.call f vs) :=
  L2.walk_ofG (n := 63) (k := 9) (x := "_law_script") (sp := fun w => spLaw (K w.params)) hn (by decide) hdf ⟨rfl, by decide, by decide⟩ hY F fun _ _ a ns hl _ hS => ⟨a, ns, rfl, hS, hl, fun _ => rfl⟩
end K5

open PySem PySem.W PyProof.Rows in
set_option maxRecDepth 100000 in
set_option maxHeartbeats 0 in
theorem PySem.Challenge.cw_slipreach_k09_rules_as_sets_holds : PySem.Challenge.rw_slipreach_k09_rules_as_sets.Holds := by
  w_on
  o_law
  k_head
  (case hw => w_witness2)
  k_fill
  refine K5.walk (l := PySem.Challenge.rw_slipreach_k09_rules_as_sets) rfl rfl (fun w h Y => kIn_of Y) ?F
  case F =>
    intro w mg fa h KX G hmg
    refine' K5.all_mk KX G hmg ?aSE ?tp ?su ?topp ?agX ?xLX ?saX ?gaX ?ggX ?nb0X ?iCX ?tIX ?kCX ?eCX ?vCX ?tCX ?hCX ?sCX ?mCX ?supX ?lIX ?cIX ?lDX ?vfX ?pfX ?lcX ?aCc ?pgC ?hdC ?poC ?osaC ?mkC ?kpC ?ohaC ?ohmC ?nC0 ?nC1 ?nC2 ?hn ?htk ?noB ?neC ?nfC ?nfL ?tyC ?sbL ?sfC ?rdC ?gaC ?atEv ?rcEv ?iInit ?jInit ?lInit ?cInit ?kInit ?w1 ?lLk ?vLk ?iMOr ?jMOr ?lMOr ?cMOr ?kMOr ?iMAnd ?jMAnd ?lMAnd ?cMAnd ?kMAnd ?iMSub ?jMSub ?lMSub ?cMSub ?kMSub ?iMEq ?jMEq ?lMEq ?cMEq ?kMEq ?iMIn ?jMIn ?lMIn ?cMIn ?kMIn ?iMLen ?jMLen ?lMLen ?cMLen ?kMLen ?iMWi ?jMWi ?lMWi ?cMWi ?kMWi ?lMEv ?cMEv ?kMEv ?gL ?gDi ?gM ?gG ?lS ?vS ?gW ?lW ?vW ?zint ?zlen ?zsum ?zabs ?zrange ?zstr ?zall ?zisi ?zrepr ?zlist ?ztuple ?zset ?zdict ?zbool ?zsorted ?aOneOf ?lOneOf ?cOneOf ?kOneOf ?aCons ?lCons ?cCons ?kCons ?aIsW ?lIsW ?cIsW ?kIsW ?aIsN ?lIsN ?cIsN ?kIsN ?aIsS ?lIsS ?cIsS ?kIsS ?aSort ?lSort ?cSort ?kSort ?aLook ?lLook ?cLook ?kLook ?aMadeR ?lMadeR ?cMadeR ?kMadeR ?aPool ?lPool ?cPool ?kPool ?aPick ?lPick ?cPick ?kPick ?aOf ?lOf ?cOf ?kOf ?aKinds ?lKinds ?cKinds ?kKinds ?aLooks ?lLooks ?cLooks ?kLooks ?aOdd ?lOdd ?cOdd ?kOdd ?aParts ?lParts ?cParts ?kParts ?aMadeL ?lMadeL ?cMadeL ?kMadeL ?aOff ?lOff ?cOff ?kOff ?aTog ?lTog ?cTog ?kTog ?aHolds ?lHolds ?cHolds ?kHolds ?aLaw ?lLaw ?cLaw ?kLaw
    (case aSE => k_is)
    (case tp => k_is)
    (case su => k_is)
    (case topp => first | rfl | decide +kernel)
    (case agX => k_is)
    (case xLX => k_is)
    (case saX => k_is)
    (case gaX => k_is)
    (case ggX => k_is)
    (case nb0X => k_is)
    (case iCX => k_is)
    (case tIX => k_is)
    (case kCX => k_is)
    (case eCX => k_is)
    (case vCX => k_is)
    (case tCX => k_is)
    (case hCX => k_is)
    (case sCX => first | rfl | k_is)
    (case mCX => k_is)
    (case supX => ks_is)
    (case lIX => k_is)
    (case cIX => k_is)
    (case lDX => k_is)
    (case vfX => first | rfl | decide +kernel)
    (case pfX => first | rfl | decide +kernel)
    (case lcX => k_is)
    (case aCc => k_is)
    (case pgC => k_is)
    (case hdC => k_is)
    (case poC => k_is)
    (case osaC => k_is)
    (case mkC => k_is)
    (case kpC => k_is)
    (case ohaC => k_is)
    (case ohmC => k_is)
    (case nC0 => k_is)
    (case nC1 => k_is)
    (case nC2 => k_is)
    (case hn => k_is)
    (case htk => k_is)
    (case noB => k_is)
    (case neC => k_is)
    (case nfC => k_is)
    (case nfL => k_is)
    (case tyC => k_is)
    (case sbL => k_is)
    (case sfC => k_is)
    (case rdC => k_is)
    (case gaC => k_is)
    (case atEv => k_is)
    (case rcEv => k_is)
    (case iInit => k_is)
    (case jInit => k_is)
    (case lInit => k_is)
    (case cInit => k_is)
    (case kInit => k_is)
    (case w1 => k_is)
    (case lLk => k_is)
    (case vLk => rfl)
    (case iMOr => k_is)
    (case jMOr => k_is)
    (case lMOr => k_is)
    (case cMOr => k_is)
    (case kMOr => k_is)
    (case iMAnd => k_is)
    (case jMAnd => k_is)
    (case lMAnd => k_is)
    (case cMAnd => k_is)
    (case kMAnd => k_is)
    (case iMSub => k_is)
    (case jMSub => k_is)
    (case lMSub => k_is)
    (case cMSub => k_is)
    (case kMSub => k_is)
    (case iMEq => k_is)
    (case jMEq => k_is)
    (case lMEq => k_is)
    (case cMEq => k_is)
    (case kMEq => k_is)
    (case iMIn => k_is)
    (case jMIn => k_is)
    (case lMIn => k_is)
    (case cMIn => k_is)
    (case kMIn => k_is)
    (case iMLen => k_is)
    (case jMLen => k_is)
    (case lMLen => k_is)
    (case cMLen => k_is)
    (case kMLen => k_is)
    (case iMWi => k_is)
    (case jMWi => k_is)
    (case lMWi => k_is)
    (case cMWi => k_is)
    (case kMWi => k_is)
    (case lMEv => k_is)
    (case cMEv => k_is)
    (case kMEv => k_is)
    (case gL => k_is)
    (case gDi => k_is)
    (case gM => k_is)
    (case gG => k_is)
    (case lS => k_is)
    (case vS => rfl)
    (case gW => k_is)
    (case lW => k_is)
    (case vW => rfl)
    (case zint => k_is)
    (case zlen => k_is)
    (case zsum => k_is)
    (case zabs => k_is)
    (case zrange => k_is)
    (case zstr => k_is)
    (case zall => k_is)
    (case zisi => k_is)
    (case zrepr => k_is)
    (case zlist => k_is)
    (case ztuple => k_is)
    (case zset => k_is)
    (case zdict => k_is)
    (case zbool => k_is)
    (case zsorted => k_is)
    (case aOneOf => k_is)
    (case lOneOf => k_is)
    (case cOneOf => k_is)
    (case kOneOf => k_is)
    (case aCons => k_is)
    (case lCons => k_is)
    (case cCons => k_is)
    (case kCons => k_is)
    (case aIsW => k_is)
    (case lIsW => k_is)
    (case cIsW => k_is)
    (case kIsW => k_is)
    (case aIsN => k_is)
    (case lIsN => k_is)
    (case cIsN => k_is)
    (case kIsN => k_is)
    (case aIsS => k_is)
    (case lIsS => k_is)
    (case cIsS => k_is)
    (case kIsS => k_is)
    (case aSort => k_is)
    (case lSort => k_is)
    (case cSort => k_is)
    (case kSort => k_is)
    (case aLook => k_is)
    (case lLook => k_is)
    (case cLook => k_is)
    (case kLook => k_is)
    (case aMadeR => k_is)
    (case lMadeR => k_is)
    (case cMadeR => k_is)
    (case kMadeR => k_is)
    (case aPool => k_is)
    (case lPool => k_is)
    (case cPool => k_is)
    (case kPool => k_is)
    (case aPick => k_is)
    (case lPick => k_is)
    (case cPick => k_is)
    (case kPick => k_is)
    (case aOf => k_is)
    (case lOf => k_is)
    (case cOf => k_is)
    (case kOf => k_is)
    (case aKinds => k_is)
    (case lKinds => k_is)
    (case cKinds => k_is)
    (case kKinds => k_is)
    (case aLooks => k_is)
    (case lLooks => k_is)
    (case cLooks => k_is)
    (case kLooks => k_is)
    (case aOdd => k_is)
    (case lOdd => k_is)
    (case cOdd => k_is)
    (case kOdd => k_is)
    (case aParts => k_is)
    (case lParts => k_is)
    (case cParts => k_is)
    (case kParts => k_is)
    (case aMadeL => k_is)
    (case lMadeL => k_is)
    (case cMadeL => k_is)
    (case kMadeL => k_is)
    (case aOff => k_is)
    (case lOff => k_is)
    (case cOff => k_is)
    (case kOff => k_is)
    (case aTog => k_is)
    (case lTog => k_is)
    (case cTog => k_is)
    (case kTog => k_is)
    (case aHolds => k_is)
    (case lHolds => k_is)
    (case cHolds => k_is)
    (case kHolds => k_is)
    (case aLaw => k_is)
    (case lLaw => k_is)
    (case cLaw => k_is)
    (case kLaw => k_is)

