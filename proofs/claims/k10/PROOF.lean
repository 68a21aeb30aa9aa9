import PyProof.Rows.All
import Wide.All
import OpenK.AllK
import Wide.FinOn
import HandS.ForMost
import HandS.IsInst
import HandS.Wide
import PySem.Challenge.RW_slipreach_k10_slips_of_a_file_in_order
import HandS.Codes
import HandS.Star
import HandS.OwnEq
import HandS.ForExc
import PyProof.ReprRoads
import PyProof.ReprText
import HandS.Walk
import HandS.Style
import HandS.Conv
import PyProof.ReprLen
import PyProof.EqAt
import PyProof.EqKinds
import PyProof.TupleCall
import HandS.Base
import HandS.Call
import HandS.List
import HandS.Set
import HandS.Strs
import KE.KDictLaws
import HandS.StrMore
import HandS.Text
import HandS.Steps
import HandS.CallLocal
import HandS.ClsMeth
import OpenK.KMeth
import OpenK.KOps
import KE.KExcSuper
import HandS.ExcField
import HandS.ExcIs
import PyProof.P3In
import HandS.MakeKwOnly
import HandS.Defaults
import HandS.TupSets
import HandS.Keys
import KE.KDictKeyed
import PyProof.Rows.FactsT3
import HandS.TupAny
import HandS.DictComp
import HandS.More
import HandS.GenList
import HandS.Exc
import PyProof.StrOps2
import HandS.Comp
set_option Elab.async false
set_option linter.all false
set_option maxRecDepth 110000
set_option maxHeartbeats 8100000
namespace K5
open PySem L2
def top (i : Nat) : Stmt := PySem.Challenge.pw_slipreach_k10_slips_of_a_file_in_order.main.body.getD i (.Pass ⟨0, 0, 0, 0⟩)
abbrev sPool : Stmt := top 29
abbrev sPick : Stmt := top 30
/-- built-in names that the top has left alone -/
structure Bare (mg : Str → Option Value) : Prop where
  int : mg "int" = none
  len : mg "len" = none
  sum : mg "sum" = none
  abs : mg "abs" = none
  range : mg "range" = none
  str : mg "str" = none
  all : mg "all" = none
  isi : mg "isinstance" = none
  repr : mg "repr" = none
  list : mg "list" = none
  tuple : mg "tuple" = none
  set : mg "set" = none
  dict : mg "dict" = none
  bool : mg "bool" = none
/-- all but the object at p is as it was -/
def Keep (p : Addr) (H H' : Hp) : Prop := ∀ b o, b ≠ p → H b = some o → H' b = some o
theorem Keep.refl (p : Addr) (H : Hp) : Keep p H H := fun _ _ _ h => h
theorem Keep.trans {p : Addr} {H H1 H2 : Hp} (a : Keep p H H1) (b : Keep p H1 H2) : Keep p H H2 := fun c o n h => b c o n (a c o n h)
theorem Keep.new {p l : Addr} {H H1 : Hp} {o : HO} (a : Keep p H H1) (hl : H1 l = none) : Keep p H (upd H1 l o) := fun b u n h => by
  rw [upd_ne (ne_of_none (a b u n h) hl)]
  exact a b u n h
theorem Keep.own {p : Addr} {H H1 : Hp} {o : HO} (a : Keep p H H1) : Keep p H (upd H1 p o) := fun b u n h => by
  rw [upd_ne n]
  exact a b u n h
/-- at p a pool: what is left of a great cell, a start, how many were drawn (at most c) -/
def Pool (H : Hp) (p : Addr) (c : Nat) : Prop := ∃ g m k : Int, H p = some (.lst [.int g, .int m, .int k]) ∧ 0 ≤ g ∧ 0 ≤ m ∧ m ≤ 16140901064500000000 ∧ 0 ≤ k ∧ k ≤ (c : Int)
theorem Pool.new {H : Hp} {p l : Addr} {c : Nat} {o : HO} (a : Pool H p c) (hl : H l = none) : Pool (upd H l o) p c := by
  obtain ⟨g, m, k, h, r⟩ := a
  exact ⟨g, m, k, by rw [upd_ne (ne_of_none h hl)]; exact h, r⟩
theorem Pool.mono {H : Hp} {p : Addr} {c d : Nat} (a : Pool H p c) (h : c ≤ d) : Pool H p d := by
  obtain ⟨g, m, k, h1, h2, h3, h4, h5, h6⟩ := a
  exact ⟨g, m, k, h1, h2, h3, h4, h5, by omega⟩
theorem Pool.other {H : Hp} {p l : Addr} {c : Nat} {o : HO} (a : Pool H p c) (hl : p ≠ l) : Pool (upd H l o) p c := by
  obtain ⟨g, m, k, h, r⟩ := a
  exact ⟨g, m, k, by rw [upd_ne hl]; exact h, r⟩
/-- a number below many is drawn -/
def spPick : Sp := fun vs H Q _ => ∃ (p : Addr) (c : Nat) (n : Int), vs = [.ref p, .int n] ∧ Pool H p c ∧ c ≤ 1000000 ∧ 0 < n ∧ n < 1000000000001 ∧
  ∀ (r : Int) (H' : Hp), 0 ≤ r → r < n → Keep p H H' → Pool H' p (c + 1) → Q (.int r) H'
section
variable {P : Program} {w : World} {K : PySem.W.Frag} {mg : Str → Option Value} {base : Heap}
theorem scPick : FnScope ["_law_pool_here", "_law_many", "_law_found", "_law_mixed"] ["_law_pool_here", "_law_many"] (defScope sPick) := ⟨rfl, rfl, rfl, by decide +kernel, rfl, by decide +kernel, by decide +kernel⟩
theorem pow_bound {m k : Int} (h0 : 0 ≤ m) (h1 : m ≤ 16140901064500000000) (h2 : 0 ≤ k) (h3 : k ≤ 1000001) : (m + 1500450271 * k).natAbs < 2 ^ 64 := by omega
theorem pow_bound2 {a k : Int} (h0 : 0 ≤ a) (h1 : a < 2305843009213693921) (h2 : 0 ≤ k) (h3 : k ≤ 1000001) : (a + 28657 * k).natAbs < 2 ^ 64 := by omega
theorem ok_pick {f : Addr} {fd : FuncData} (F : Fun K "_law_pick" "_law_pick" sPick f fd) (T : Bare mg) : FnOk P w K mg base CX0 1 f fd ["_law_pool_here", "_law_many"] spPick := by
  refine F.ok scPick (fun vs H Q E h => ?_) (fun cdv A outer s H vs Q E hr h => ?_)
  · obtain ⟨p, c, n, rfl, _⟩ := h
    rfl
  · obtain ⟨p, c, n, rfl, ⟨g, m, k, hp, hg, hm, hm', hk, hk'⟩, hc, hn, hn', q⟩ := h
    refine ⟨_, pss_cons (ps_if (pt_cmpR op_gt (pe_ix ix_list (pv 0) pe_int (fun _ _ => rfl)) pe_int (nomark _))
        (pss_cons (ps_set (i := 2) scPick.nd rfl (.inl rfl) (pe_op op_mod (pe_callTy call_int1 (by rfl) T.int (by decide +kernel) (pa_cons (pe_ix ix_list (pv 0) pe_int (fun _ _ => rfl)) pa_nil)) (pv 1)))
          (pss_cons (ps_asg (pe_op op_fdivW (pe_ix ix_list (pv 0) pe_int (fun _ _ => rfl)) (pv 1)) (pg_sub (pv 0) pe_int set_list))
            (pss_one (ps_ret (pv 2))))) pss_nil)
      (pss_cons (ps_asg (pe_op op_add (pe_ix ix_list (pv 0) pe_int (fun _ _ => rfl)) pe_int) (pg_sub (pv 0) pe_int set_list))
      (pss_cons (ps_set (i := 3) scPick.nd rfl (.inl rfl) (pe_op op_mod (pe_callTy call_int1 (by rfl) T.int (by decide +kernel) (pa_cons
          (pe_op op_pow (pe_op op_add (pe_ix ix_list (pv 0) pe_int (fun _ _ => rfl)) (pe_op op_mul pe_int (pe_ix ix_list (pv 0) pe_int (fun _ _ => rfl)))) pe_int) pa_nil)) pe_int))
      (pss_cons (ps_set (i := 3) scPick.nd rfl (.inl rfl) (pe_op op_mod (pe_callTy call_int1 (by rfl) T.int (by decide +kernel) (pa_cons
          (pe_op op_pow (pe_op op_add (pv 3) (pe_op op_mul pe_int (pe_ix ix_list (pv 0) pe_int (fun _ _ => rfl)))) pe_int) pa_nil)) pe_int))
      (pss_one (ps_ret (pe_op op_mod (pe_callTy call_int1 (by rfl) T.int (by decide +kernel) (pa_cons (pe_op op_fdiv (pv 3) pe_int) pa_nil)) (pv 1))))))), ?_⟩
    refine ⟨_, rfl, p, _, _, _, rfl, rfl, SqL.of hp, atI_nat rfl, _, _, rfl, rfl, _, rfl, ?_⟩
    refine ite2 (fun h0 => ?_) (fun h0 => ?_)
    · refine ⟨_, rfl, p, _, _, _, rfl, rfl, SqL.of hp, atI_nat rfl, .inl ⟨_, rfl, _, rfl, _, _, rfl, rfl, hn, ?_⟩⟩
      refine ⟨_, rfl, p, _, _, _, rfl, rfl, SqL.of hp, atI_nat rfl, _, rfl, _, _, rfl, rfl, wide_div (b := 40) hn (by omega) (by decide) (by decide), _, rfl, p, _, _, _, rfl, rfl, hp, rfl, ?_⟩
      refine ⟨_, rfl, ?_⟩
      refine q _ _ (Int.emod_nonneg _ (by omega)) (Int.emod_lt_of_pos _ hn) (Keep.refl p H).own ⟨g / n, m, k, upd_same, Int.ediv_nonneg hg (by omega), hm, hm', hk, by omega⟩
    · have e1 : ∀ H' : Hp, H' p = some (.lst [.int g, .int m, .int (k + 1)]) → SqL K H' p [.int g, .int m, .int (k + 1)] := fun _ e => SqL.of e
      refine ⟨_, rfl, p, _, _, _, rfl, rfl, SqL.of hp, atI_nat rfl, _, _, rfl, rfl, _, rfl, p, _, _, _, rfl, rfl, hp, rfl, ?_⟩
      refine ⟨_, rfl, p, [.int g, .int m, .int (k + 1)], _, _, rfl, rfl, e1 _ upd_same, atI_nat rfl, _, rfl, p, [.int g, .int m, .int (k + 1)], _, _, rfl, rfl, e1 _ upd_same, atI_nat rfl, _, _, rfl, rfl, .inl (by decide), _, _, rfl, rfl, _, _, rfl, rfl, ⟨by decide, by decide, pow_bound hm hm' (by omega) (by omega)⟩, .inl ⟨_, rfl, _, _, rfl, rfl, (by show (0 : Int) < 2305843009213693921; decide), ?_⟩⟩
      refine ⟨_, rfl, _, rfl, p, [.int g, .int m, .int (k + 1)], _, _, rfl, rfl, e1 _ upd_same, atI_nat rfl, _, _, rfl, rfl, .inl (by decide), _, _, rfl, rfl, _, _, rfl, rfl, ⟨by decide, by decide, pow_bound2 (Int.emod_nonneg _ (by decide)) (Int.emod_lt_of_pos _ (by decide)) (by omega) (by omega)⟩, .inl ⟨_, rfl, _, _, rfl, rfl, (by show (0 : Int) < 2305843009213693951; decide), ?_⟩⟩
      refine ⟨_, rfl, _, _, rfl, rfl, ⟨by decide, by decide⟩, .inl ⟨_, rfl, _, rfl, _, _, rfl, rfl, hn, ?_⟩⟩
      exact q _ _ (Int.emod_nonneg _ (by omega)) (Int.emod_lt_of_pos _ hn) (Keep.refl p H).own ⟨g, m, k + 1, upd_same, hg, hm, hm', by omega, by omega⟩
end
end K5

namespace K5
open PySem L2
/-- a new pool for one place of the script -/
def spPool (K : PySem.W.Frag) : Sp := fun vs H Q _ => ∃ (a : Addr) (ns : List Int) (k : Int), vs = [.ref a, .int k] ∧ SqL K H a (ns.map V.int) ∧ ns.length ≤ 63 ∧ 0 ≤ k ∧ k ≤ 63 ∧
  ∀ (p : Addr) (H' : Hp), H p = none → Same H H' → Pool H' p 0 → Q (.ref p) H'
section
variable {P : Program} {w : World} {K : PySem.W.Frag} {mg : Str → Option Value} {base : Heap}
theorem Same.new {H H1 : Hp} {l : Addr} {o : HO} (a : Same H H1) (hl : H1 l = none) : Same H (upd H1 l o) := fun b u h => by
  rw [upd_ne (ne_of_none (a b u h) hl)]
  exact a b u h
theorem at_int {ns : List Int} {k : Int} (h0 : 0 ≤ k) (h1 : k < (ns.length : Int)) : ∃ z, atI (ns.map V.int) k = some (V.int z) := by
  have hk : k.toNat < ns.length := by omega
  refine ⟨ns[k.toNat], at_of (j := k.toNat) (by omega) ?_⟩
  rw [List.getElem?_map, List.getElem?_eq_getElem hk]
  rfl
theorem scPool : FnScope ["_law_script", "_law_place", "_law_cell", "_law_great"] ["_law_script", "_law_place"] (defScope sPool) := ⟨rfl, rfl, rfl, by decide +kernel, rfl, by decide +kernel, by decide +kernel⟩
theorem ok_pool {f : Addr} {fd : FuncData} (F : Fun K "_law_pool" "_law_pool" sPool f fd) (T : Bare mg) : FnOk P w K mg base CX0 1 f fd ["_law_script", "_law_place"] (spPool K) := by
  refine F.ok scPool (fun vs H Q E h => ?_) (fun cdv A outer s H vs Q E hr h => ?_)
  · obtain ⟨p, c, n, rfl, _⟩ := h
    rfl
  · obtain ⟨a, ns, k, rfl, hS, hl, hk, hk', q⟩ := h
    refine ⟨_, C8.pss_cut (ps_set (i := 2) scPool.nd rfl (.inl rfl) (pe_ifExp (pt_cmpR op_lt (pv 1) (pe_callB call_len_seq (by rfl) T.len PySem.boot_len (pa_cons (pv 0) pa_nil)) (nomark _))
          (pe_ix ix_list (pv 0) (pv 1) (fun _ _ => rfl))
          (pe_op op_mod (pe_callTy call_int1 (by rfl) T.int (by decide +kernel) (pa_cons (pe_callB (cr_sum rfl) (by rfl) T.sum (by decide +kernel) (pa_cons (pe_slice sl_list (pv 0) po_none (po_some pe_int)) pa_nil)) pa_nil)) pe_int)))
      (C8.pss_cut (ps_set (i := 3) scPool.nd rfl (.inl rfl) (pe_ifExp (pt_cmpR op_ge (pe_callB call_abs (by rfl) T.abs (by decide +kernel) (pa_cons (pv 2) pa_nil)) (pe_op op_pow pe_int pe_int) (nomark _))
          (pe_callB call_abs (by rfl) T.abs (by decide +kernel) (pa_cons (pv 2) pa_nil)) pe_int))
      (pss_one (ps_ret (pe_lst (pa_cons (pv 3) (pa_cons
          (pe_op op_add (pe_op op_add (pe_op op_add (pe_op op_mul (pe_op op_mod (pe_callTy call_int1 (by rfl) T.int (by decide +kernel) (pa_cons (pv 2) pa_nil)) pe_int) pe_int) (pe_op op_mul pe_int (pv 1))) (pe_op op_mul pe_int pe_int)) pe_int)
          (pa_cons pe_int pa_nil))))))), ?_⟩
    refine ⟨fun σ H' => ∃ z : Int, σ = [some (.ref a), some (.int k), some (.int z), none] ∧ Same H H', ?_, ?_⟩
    · refine ⟨_, rfl, _, rfl, a, _, rfl, .inl hS, _, _, rfl, rfl, _, rfl, ?_⟩
      refine ite2 (fun h0 => ?_) (fun h0 => ?_)
      · have h0 : k < ((ns.map V.int).length : Int) := of_decide_eq_true h0
        rw [List.length_map] at h0
        obtain ⟨z, hz⟩ := at_int hk h0
        exact ⟨_, rfl, _, rfl, a, _, _, _, rfl, rfl, hS, hz, z, rfl, Same.refl H⟩
      · refine ⟨_, rfl, _, rfl, a, _, rfl, hS, fun l hl => ?_⟩
        refine ⟨l, ns.take 1, rfl, SqL.of ?_, .inl ⟨_, rfl, _, _, rfl, rfl, (by show (0 : Int) < 1000003; decide), _, rfl, Same.new (Same.refl H) hl⟩⟩
        rw [upd_same]
        congr 2
        unfold cutV
        cases ns with
        | nil => rfl
        | cons z ns => simp [HT.sIx]
    · rintro σ H1 ⟨z, rfl, s1⟩
      refine ⟨fun σ H' => ∃ g : Int, 0 ≤ g ∧ σ = [some (.ref a), some (.int k), some (.int z), some (.int g)] ∧ H' = H1, ?_, ?_⟩
      · refine ⟨_, rfl, _, rfl, _, _, rfl, rfl, ⟨by decide, by decide, by decide⟩, _, _, rfl, rfl, _, rfl, ?_⟩
        refine ite2 (fun _ => ?_) (fun _ => ?_)
        · refine ⟨_, rfl, _, rfl, _, ?_, rfl, rfl⟩
          by_cases hz : z < 0
          · rw [if_pos hz]; omega
          · rw [if_neg hz]; omega
        · exact ⟨0, Int.le_refl 0, rfl, rfl⟩
      · rintro σ H2 ⟨g, hg, rfl, rfl⟩
        refine ⟨_, rfl, _, rfl, .inl ⟨_, rfl, _, _, rfl, rfl, (by show (0 : Int) < 2305843009213693951; decide), _, _, rfl, rfl, .inr (by decide), _, rfl, _, _, rfl, rfl, .inl (by decide), _, _, rfl, rfl, _, _, rfl, rfl, .inl (by decide), _, _, rfl, rfl, _, _, rfl, rfl, by show 3 ≤ sizeLine; decide, fun p hp => ?_⟩⟩
        refine q p _ (s1.free hp) (Same.new s1 hp) ⟨g, _, 0, upd_same, hg, ?_, ?_, by decide, by decide⟩
        · have h1 := Int.emod_nonneg z (show (2305843009213693951 : Int) ≠ 0 by decide)
          omega
        · have h1 := Int.emod_lt_of_pos z (show (0 : Int) < 2305843009213693951 by decide)
          omega
end
end K5

/-! rules that hold for every program: an own == with any answer; making and calling of instances in a try -/
namespace L2
open PySem PySem.Spec PyProof.Rows
/-- a def that may let errors out, called where none leaves -/
theorem passNo {X : Cx} {P : Program} {w : World} : Passes (L2.CX P w) X (fun _ _ _ => False) := fun _ _ _ _ _ _ _ h => by
  obtain ⟨a, B, H', cls, d, ea, fl, hok, ub, na, os, ag, he⟩ := h
  exact he.elim
section
variable {X : Cx} {CX : CXT} {k : Nat} {f C : Addr} {fd : FuncData} {ps : List Str} {sp : Sp} {x : Str} {p pos : Pos} {e : Expr} {es : List Expr} {t : TA}
theorem run_makeS {pins : List (Addr × Obj)} {σ : St} {H : Hp} {s : Shared} {Q : VK} {us : List Value} {vs : List V} {E : XK} (M : Mk X.K C f) (F : FnOk X.prog X.w X.K X.mg X.base CX k f fd ps sp) (hr : Room (k + 1) X.A) (hb : Binds X.K fd ps [])
    (hx : PassesAt CX X σ E) (I : Inv X pins σ H s) (r : Vals vs us)
    (h : ∀ x dx, H x = none → H dx = none → dx ≠ x → sp (.ref x :: vs) (upd (upd H dx (.own x)) x (.ins C dx [])) (fun v H2 => v = .non ∧ Q (.ref x) H2) E) :
    wpAny (model X.prog X.w) X.A (call (.ref C) us) (EP X pins σ Q) X.xe s := by
  have hq := h (s.heap.objs.size + 1) s.heap.objs.size (I.hok.fresh (Nat.le_succ _)) (I.hok.fresh (Nat.le_refl _)) (Nat.ne_of_lt (Nat.lt_succ_self _))
  have I2 := Inv.made (C := C) I
  have r2 : Vals (V.ref (s.heap.objs.size + 1) :: vs) (Value.ref (s.heap.objs.size + 1) :: us) := .cons rfl r
  have hl : (Value.ref (s.heap.objs.size + 1) :: us).length = ps.length := by
    have e := r2.length
    rw [F.len _ _ _ _ hq] at e
    exact e.symm
  have b := hb _ (Value.ref (s.heap.objs.size + 1) :: us) I2.kIn (by rw [List.append_nil]; exact hl)
  rw [List.append_nil] at b
  refine wpAny_call (make_map (f := f) I.kIn M.makes M.init (beq_iff_eq.mp M.fn) (codeAny_mono (F.run _ X.stack _ _ ⟨Value.ref (s.heap.objs.size + 1) :: us, []⟩ (Value.ref (s.heap.objs.size + 1) :: us) _ _ E (hr.make C us [])
    (I2.env0.make C us []) b r2 hq) fun r s' hq' => ?_))
  cases r with
  | error e => exact hx pins _ _ e s' I2 hq'
  | ok fl =>
    cases fl with
    | ret u =>
      obtain ⟨v, H', I3, rv, ev, q3⟩ := I2.after hq'
      subst ev
      exact ⟨rv, ⟨V.ref (s.heap.objs.size + 1), H', I3, rfl, q3⟩⟩
    | next => exact False.elim hq'
    | brk => exact False.elim hq'
    | cont => exact False.elim hq'
def tMakeS (C : Addr) (sp : Sp) (E : St → XK) (t : TA) : TE := fun σ H Q => t σ H fun vs H1 => ∀ x dx, H1 x = none → H1 dx = none → dx ≠ x →
  sp (.ref x :: vs) (upd (upd H1 dx (.own x)) x (.ins C dx [])) (fun v H2 => v = .non ∧ Q (.ref x) H2) (E σ)
/-- C(e, ..), made in a try; every parameter is given -/
theorem pe_makeS {E : St → XK} (M : Mk X.K C f) (F : FnOk X.prog X.w X.K X.mg X.base CX k f fd ps sp) (hr : Room (k + 1) X.A) (hg : Gl X x) (hm : X.mg x = some (.ref C)) (hb : Binds X.K fd ps []) (hx : ∀ σ, PassesAt CX X σ (E σ))
    (ha : PA X (e :: es) t) (hdb : (x == ("__debug__" : Str)) = false := by decide) (he : starEach (e :: es) X.env = (false, eval e X.env) :: starEach es X.env := by rfl) (hpl : (backTo pos (starEach es X.env)).any (·.1) = false := by rfl) :
    PE X (.Call (.Name x p) (e :: es) [] pos) (tMakeS C sp E t) := by
  refine ⟨fun pins s σ H Q I h => ?_⟩
  refine wpAny_Call_Name_kw (ld_glob I hg hm ?_ hdb)
  refine PySem.W.callWith_K (h₀ := X.base) I.ok.mod.kin M.kp (thn (ha.run pos pins s σ H _ I h) fun us s1 ⟨vs, H1, I1, r, q⟩ => ⟨I1.kIn, ?_⟩) he hpl
  exact run_makeS M F hr hb (hx σ) I1 r q
/-- o(e, ..), o an instance, called in a try -/
def tCallOS (C : Addr) (sp : Sp) (E : St → XK) (tf : TE) (t : TA) : TE := fun σ H Q => tf σ H fun y H1 => ∃ a, y = V.ref a ∧ t σ H1 fun vs H2 => (∃ dx fs, H2 a = some (.ins C dx fs)) ∧ sp (V.ref a :: vs) H2 Q (E σ)
theorem pe_callOS {E : St → XK} {fe : Expr} {tf : TE} {g : Addr} (hf : PE X fe tf) (c : StX.CallO X.K C g) (F : FnOk X.prog X.w X.K X.mg X.base CX k g fd ps sp) (hr : Room k X.A) (hb : Binds X.K fd ps []) (hx : ∀ σ, PassesAt CX X σ (E σ)) (ha : PA X (e :: es) t)
    (ht : eval (.Call fe (e :: es) [] pos) X.env = (do callWith pos (← eval fe X.env) [] (backTo pos (starEach (e :: es) X.env)) (backToKw pos (keywordEach [] X.env))) := by rfl)
    (he : starEach (e :: es) X.env = (false, eval e X.env) :: starEach es X.env := by rfl) (hpl : (backTo pos (starEach es X.env)).any (·.1) = false := by rfl) : PE X (.Call fe (e :: es) [] pos) (tCallOS C sp E tf t) := by
  refine ⟨fun pins s σ H Q I h => ?_⟩
  refine Call_ (thn (hf.run pins s σ H _ I h) fun u s1 ⟨y, H1, I1, ry, a, ey, q⟩ => ?_) ht
  subst ey
  obtain rfl : u = Value.ref a := ry
  refine StX.callO_with (thn (ha.run pos pins s1 σ H1 _ I1 q) fun us s2 ⟨vs, H2, I2, r, hi, q2⟩ => ?_) he hpl
  obtain ⟨ox, od, J, hd⟩ := StX.insC_at I2 (.inr hi)
  refine ⟨⟨C, ox, od, J, hd⟩, wpAny_call (PySem.W.kco_code I2.kIn J hd c.at_ c.fn c.fi ?_)⟩
  have r2 : Vals (V.ref a :: vs) (Value.ref a :: us) := .cons rfl r
  have hl : (Value.ref a :: us).length = ps.length := by rw [← r2.length]; exact F.len _ _ _ _ q2
  have b := hb s2 (Value.ref a :: us) I2.kIn (by rw [List.append_nil]; exact hl)
  rw [List.append_nil] at b
  refine codeAny_mono (F.run X.A X.stack s2 H2 ⟨Value.ref a :: us, []⟩ (Value.ref a :: us) (V.ref a :: vs) Q (E σ) hr I2.env0 b r2 q2) fun r s' hq => ?_
  cases r with
  | error e => exact hx σ pins H2 s2 e s' I2 hq
  | ok fl =>
    cases fl with
    | ret u => exact I2.after hq
    | next => exact False.elim hq
    | brk => exact False.elim hq
    | cont => exact False.elim hq
/-- x == y, x an instance with an own __eq__ that answers True or False -/
def rEqOwn (K : PySem.W.Frag) (C : Addr) (sp : Sp) (E : XK) : R2 := fun x y H Q => ∃ (a dx : Addr) (fs : List (Str × V)) (t : Value), x = .ref a ∧ H a = some (.ins C dx fs) ∧ TyX K H y t ∧ PySem.W.notFirst K C t = true ∧ sp [.ref a, y] H (fun v H' => ∃ b, v = .bl b ∧ Q (.bl b) H') E
theorem op_eqOwn {E : XK} (F : FnOk X.prog X.w X.K X.mg X.base CX k f fd ps sp) (hr : Room k X.A) (hs : PySem.W.findIn X.K (.ref C) "__eq__" = some (some (.ref f))) (hf : PySem.W.isFn X.K (.ref f) = true) (hb : Binds X.K fd ps []) (hx : Passes CX X E) : OpR X (compareOp .Eq) (rEqOwn X.K C sp E) := by
  intro pins s σ H x y v u Q I rx ry hq
  obtain ⟨a, dx, fs, t, rfl, ha, ty, hn, q⟩ := hq
  cases rx
  obtain ⟨mA, J, _⟩ := ins_get I.hok ha
  obtain ⟨od, J, _⟩ := J.look
  obtain ⟨P, Z, pz, _⟩ := kit_of I ry ty
  obtain ⟨m, hF⟩ := I.fr
  show wpAny (model X.prog X.w) X.A (richCompare .Eq (.ref a) u) (EP X pins σ Q) X.xe s
  refine PySem.W.cmp_K (op := .Eq) (tb := t) hr.units0 hF I.ok.mod.kin J (Z.ty _ _ I.kIn pz) hn hs hf ?_
  have r2 : Vals [V.ref a, y] [Value.ref a, u] := .cons rfl (.cons ry .nil)
  have hl : [Value.ref a, u].length = ps.length := by rw [← r2.length]; exact F.len _ _ _ _ q
  have b := hb s [Value.ref a, u] I.kIn (by rw [List.append_nil]; exact hl)
  rw [List.append_nil] at b
  refine wpAny_call (codeAny_mono (F.run X.A X.stack s H ⟨[.ref a, u], []⟩ [.ref a, u] [.ref a, y] _ E hr I.env0 b r2 q) fun r s' hq => ?_)
  cases r with
  | error e => exact hx pins σ H s e s' I hq
  | ok fl =>
    cases fl with
    | ret w =>
      obtain ⟨z, H', I', rz, c, ez, q'⟩ := I.after hq
      subst ez
      cases rz
      exact ⟨.bl c, H', I', rfl, q'⟩
    | next => exact False.elim hq
    | brk => exact False.elim hq
    | cont => exact False.elim hq
end
end L2

/-! promises of defs that ask that no repr is under way (at the law's call none is) -/
namespace L2
open PySem PySem.Spec PyProof.Rows
theorem deeper_guards (A : Around) (e : Env) : (A.deeper e).guards = A.guards := rfl
/-- as FnOk (no error leaves), where no repr is under way -/
structure FnG (P : Program) (w : World) (K : PySem.W.Frag) (mg : Str → Option Value) (base : Heap) (k : Nat) (f : Addr) (fd : FuncData) (ps : List Str) (sp : Sp) : Prop where
  gl : ∀ vs H Q E, sp vs H Q E → vs.length = ps.length
  go : ∀ (A : Around) (outer : List Env) (s : Shared) (H : Hp) (args : Args) (us : List Value) (vs : List V) (Q : VK), A.guards = some [] → Room k A → Env0 P w K mg base A outer s H →
    BindsTo s fd args (ps.zip us) → Vals vs us → sp vs H Q E0 → codeAny (model P w) A (.call (.ref f) args) (CR CX0 outer P w H s Q E0) s
section
variable {P : Program} {w : World} {K : PySem.W.Frag} {mg : Str → Option Value} {base : Heap}
theorem Fun.okG {x qual : Str} {st : Stmt} {f : Addr} {fd : FuncData} {N ps : List Str} {k : Nat} {sp : Sp} (F : Fun K x qual st f fd) (S : FnScope N ps (defScope st)) (hlen : ∀ vs H Q E, sp vs H Q E → vs.length = ps.length)
    (hb : ∀ (cdv : Value) (A : Around) (outer : List Env) (s : Shared) (H : Hp) (vs : List V) (Q : VK), (A.deeper (envOfC qual (defScope st) s.heap.objs.size f cdv)).guards = some [] →
      Room k (A.deeper (envOfC qual (defScope st) s.heap.objs.size f cdv)) → sp vs H Q E0 →
      ∃ t, PSs (cxOf CX0 P w K mg base N qual (defScope st) f cdv A outer s H E0).nox (defBody st) t ∧ t { nx := fun _ H' => Q .non H', rt := Q } (start N vs) H) : FnG P w K mg base (k + 1) f fd ps sp := by
  obtain ⟨oc, od, kV, doc, pm, an, cdv, ct, osl, rfl, lk, hcd⟩ := F.ex
  refine ⟨hlen, ?_⟩
  intro A outer s H args us vs Q hgu hroom env0 hbind hvals hsp
  have grown : ∀ b o, base.get? b = some o → s.heap.get? b = some o := fun b o e => (env0.bs b o e).1
  have inK : K.In s.heap := env0.mod.kin.keeps grown
  have noLim := env0.mod.nolimit.keeps grown
  refine codeAny_call_function hroom.depth (inK _ _ lk) rfl S.co S.gen rfl (PySem.W.codeRec_of inK hcd) (hbind _ _ _ _ ?_)
  refine wpAny_newFunctionEnv_cells S.kind ?_ ?_
  · rintro ⟨n, u⟩ hy
    have hp := S.par n (List.of_mem_zip hy).1
    cases hp with
    | inl q => exact Or.inl q
    | inr q => exact Or.inr ⟨q, PySem.W.cellsFrom_some _ _ _ (Or.inl q)⟩
  · intro env he s1 call
    subst he
    refine ⟨noLim.keeps call.toInCall.keep, codeAny_func ?_⟩
    obtain ⟨t, der, reading⟩ := hb cdv A outer s H vs Q hgu (hroom.deeper _) hsp
    have inv := inv_start (CX := CX0) (P := P) (w := w) (K := K) (mg := mg) (base := base) (E := E0) S hroom.hd env0 (hlen _ _ _ _ hsp) hvals call
    refine wpAny_mono (der.nox.run [] s1 (start N vs) H _ inv reading) ?_ ?_
    · rintro (_ | _ | _ | u) s' hs
      · obtain ⟨σ', H', J, q⟩ := hs
        exact ⟨V.non, H', J.os, J.bare, J.base, J.hok, rfl, q⟩
      · exact hs.elim fun _ z => z.elim fun _ z => z.2.elim
      · exact hs.elim fun _ z => z.elim fun _ z => z.2.elim
      · obtain ⟨v, σ', H', J, rv, q⟩ := hs
        exact ⟨v, H', J.os, J.bare, J.base, J.hok, rv, q⟩
    · exact fun e s' hs => hs
end
section
variable {X : Cx} {k : Nat} {f : Addr} {fd : FuncData} {ps : List Str} {sp : Sp} {x : Str} {p pos : Pos} {e : Expr} {es : List Expr} {t : TA}
theorem pe_callG (F : FnG X.prog X.w X.K X.mg X.base k f fd ps sp) (hgu : X.A.guards = some []) (hr : Room k X.A) (hg : Gl X x) (hm : X.mg x = some (.ref f)) (hk : PySem.W.keepIn X.K (.ref f) = true) (hb : Binds X.K fd ps []) (ha : PA X (e :: es) t)
    (hdb : (x == ("__debug__" : Str)) = false := by decide) (he : starEach (e :: es) X.env = (false, eval e X.env) :: starEach es X.env := by rfl) (hpl : (backTo pos (starEach es X.env)).any (·.1) = false := by rfl) :
    PE X (.Call (.Name x p) (e :: es) [] pos) (tCall sp [] E0 t) := by
  constructor
  intro pins s σ H Q I h
  refine wpAny_Call_Name_kw (ld_glob I hg hm ?_ hdb)
  refine PySem.W.callWith_K (h₀ := X.base) I.ok.mod.kin hk (thn (ha.run pos pins s σ H _ I h) ?_) he hpl
  rintro us s1 ⟨vs, H1, I1, r, q⟩
  refine ⟨I1.kIn, ?_⟩
  rw [List.append_nil] at q
  have hl : (us ++ []).length = ps.length := by rw [List.append_nil, ← r.length]; exact F.gl _ _ _ _ q
  have hbd := hb s1 us I1.kIn hl
  rw [List.append_nil] at hbd
  refine wpAny_call (codeAny_mono (F.go X.A X.stack s1 H1 ⟨us, []⟩ us vs Q hgu hr I1.env0 hbd r q) ?_)
  rintro (er | (_ | _ | _ | u)) s' hq
  · exact hq.elim
  · exact hq.elim
  · exact hq.elim
  · exact hq.elim
  · exact I1.after hq
end
end L2

/-! repr(data): what is shown of lists, tuples, texts, ints, bools and None at any depth -/
namespace L2
open PySem PySem.Spec PyProof.Rows
/-- the reading: d the data, shown as Python shows it -/
def rRepr (K : PySem.W.Frag) : List V → Hp → VK → Prop := fun xs H Q => ∃ (v : V) (d : PyData), xs = [v] ∧ Dp K H v d ∧ d.showable = true ∧ d.hasDict = false ∧ d.depth ≤ 60 ∧ d.shown.length ≤ sizeLine ∧ Q (.str d.shown) H
theorem call_reprD {X : Cx} (hgu : X.A.guards = some []) (hu : X.A.units + 64 < cLine) : CallR X (.builtin "repr") (rRepr X.K) := by
  intro pins s σ H xs us Q I r h
  obtain ⟨v, d, rfl, hd, hs, hnd, hdep, hsz, q⟩ := h
  obtain ⟨u, rfl, ru⟩ := vals1 r
  obtain ⟨as, hr⟩ := Dp.reads I d v u hd ru
  have fin : ∀ (s' : Shared) (t : Tok), Inv X pins σ H s' → EP X pins σ Q (.str d.shown t) s' := fun s' t J => ⟨.str d.shown, H, J, ⟨t, rfl⟩, q⟩
  have viaRef : ∀ a : Addr, u = .ref a → wpAny (model X.prog X.w) X.A (PySem.call (.builtin "repr") [u]) (EP X pins σ Q) X.xe s := fun a e => by
    subst e
    exact repr_of_reads' hr hs (fun z => by rw [hnd] at z; cases z) hgu (by omega) (fun _ _ e => e) (fun h' u tk k => fin _ _ (I.kept (t' := tk) k)) hsz
  cases hd with
  | non =>
    obtain rfl : u = .none := ru
    exact PySem.P.repr_of_none (fin _ _ (I.tok _))
  | bl b =>
    obtain rfl : u = .bool b := ru
    have e : (PyData.bool b).shown = (if b then "True" else "False" : Str) := PyData.shown_bool b
    rw [e] at fin
    cases b
    · exact PySem.P.repr_of_bool (fin _ _ (I.tok _))
    · exact PySem.P.repr_of_bool (fin _ _ (I.tok _))
  | int i =>
    obtain ⟨t, rfl⟩ := ru
    have hs' : i.natAbs.log2 < 1920 := by simpa [PyData.showable] using hs
    have e := PyData.shown_int i
    rw [e] at fin
    exact PySem.P.repr_of_int hs' (fin _ _ (I.tok _))
  | str x =>
    obtain ⟨t, rfl⟩ := ru
    have e := PyData.shown_str x
    rw [e] at fin hsz
    exact PySem.P.repr_of_str (fin _ _ (I.tok _)) hsz
  | lst _ _ => exact viaRef _ ru
  | tup _ _ => exact viaRef _ ru
end L2

namespace K5
open PySem L2
abbrev sOneOf : Stmt := top 10
theorem inV_strs (z : Str) (ws : List Str) : inV (.str z) (ws.map V.str) = decide (z ∈ ws) := by
  unfold inV
  induction ws with
  | nil => rfl
  | cons y ws ih =>
    rw [List.map_cons, List.any_cons, ih]
    show (y == z || _) = _
    by_cases h : y = z
    · subst h; simp
    · have h' : ¬ z = y := fun e => h e.symm
      have e : (y == z) = false := by simpa using h
      rw [e, Bool.false_or]
      simp [h']
theorem flat_strs (ws : List Str) : (ws.map V.str).all flatV = true := by
  rw [List.all_map]
  exact List.all_eq_true.mpr fun _ _ => rfl
theorem all_id_map {α : Type} (p : α → Bool) (l : List α) : (l.map p).all id = l.all p := by
  induction l with
  | nil => rfl
  | cons a l ih => rw [List.map_cons, List.all_cons, List.all_cons, ih]; rfl
theorem take_more {α β : Type} (f : α → β) {l : List α} {i : Nat} {c : α} (h : l[i]? = some c) : (l.take i).map f ++ [f c] = (l.take (i + 1)).map f := by
  rw [List.take_add_one, h, List.map_append]
  rfl
/-- a thing that may be a text -/
def Thing (K : PySem.W.Frag) (H : Hp) (v : V) (o : Option Str) : Prop := (∃ z, v = .str z ∧ o = some z) ∨ (o = none ∧ ∃ t, TyX K H v t ∧ PySem.W.kitOne K t (.type "str") = some false)
def spOneOf (K : PySem.W.Frag) : Sp := fun vs H Q _ => ∃ (v : V) (o : Option Str) (a : Addr) (ws : List Str), vs = [v, .ref a] ∧ Thing K H v o ∧ SqT K H a (ws.map V.str) ∧ Q (.bl (o.elim false fun z => decide (z ∈ ws))) H
theorem line_ge {n : Nat} (h : n ≤ 1000000) : n ≤ sizeLine := Nat.le_trans h (by decide)
theorem Same.put {H H1 : Hp} {l : Addr} {o : HO} (a : Same H H1) (hl : H l = none) : Same H (upd H1 l o) := fun b u h => by
  rw [upd_ne (ne_of_none h hl)]
  exact a b u h
theorem eq_strB (x y : Str) : decide (V.str x = V.str y) = decide (x = y) := by
  by_cases h : x = y
  · rw [h]; simp
  · have : ¬ V.str x = V.str y := fun z => h (V.str.inj z)
    rw [decide_eq_false h, decide_eq_false this]
theorem pool_ne {H' : Hp} {p D : Addr} {n : Nat} (a : Pool H' p n) (h : H' D = none) : D ≠ p := by
  obtain ⟨_, _, _, e, _⟩ := a
  exact Ne.symm (ne_of_none e h)
theorem Keep.free {p D : Addr} {H H1 : Hp} (k : Keep p H H1) (n : D ≠ p) (h : H1 D = none) : H D = none := by
  cases e : H D with
  | none => rfl
  | some o =>
    rw [k D o n e] at h
    cases h
theorem Same.keep {p : Addr} {H H1 : Hp} (s : Same H H1) : Keep p H H1 := fun b o _ e => s b o e
theorem Pool.same {H H1 : Hp} {p : Addr} {c : Nat} (a : Pool H p c) (s : Same H H1) : Pool H1 p c := by
  obtain ⟨g, m, k, h, r⟩ := a
  exact ⟨g, m, k, s _ _ h, r⟩
theorem Same.free {H H1 : Hp} {T' : Addr} (s : Same H H1) (h : H1 T' = none) : H T' = none := by
  cases e : H T' with
  | none => rfl
  | some o =>
    rw [s _ _ e] at h
    cases h
theorem Keep.same {p : Addr} {H H1 H2 : Hp} (k : Keep p H1 H2) (s : Same H H1) (hp : H p = none) : Same H H2 := fun b o e => k b o (ne_of_none e hp) (s b o e)
mutual
theorem dp_same {K : PySem.W.Frag} {H H' : Hp} (s : Same H H') : ∀ (d : PyData) {v : V}, Dp K H v d → Dp K H' v d
  | .none, _, h => by cases h; exact .non
  | .bool _, _, h => by cases h; exact .bl _
  | .int _, _, h => by cases h; exact .int _
  | .str _, _, h => by cases h; exact .str _
  | .list ds, _, h => by
    cases h with
    | lst h1 h2 => exact .lst (s.seq h1) (dpAll_same s ds h2)
  | .tuple ds, _, h => by
    cases h with
    | tup h1 h2 => exact .tup (SqT.ext h1 s) (dpAll_same s ds h2)
  | .dict _, _, h => by cases h
theorem dpAll_same {K : PySem.W.Frag} {H H' : Hp} (s : Same H H') : ∀ (ds : List PyData) {vs : List V}, DpAll K H vs ds → DpAll K H' vs ds
  | [], _, h => by cases h; exact .nil
  | d :: ds, _, h => by
    cases h with
    | cons h1 h2 => exact .cons (dp_same s d h1) (dpAll_same s ds h2)
end
theorem DpAll.len {K : PySem.W.Frag} {H : Hp} : ∀ {ds : List PyData} {vs : List V}, DpAll K H vs ds → vs.length = ds.length
  | [], _, h => by cases h; rfl
  | d :: ds, _, h => by
    cases h with
    | cons h1 h2 => rw [List.length_cons, List.length_cons, DpAll.len h2]
theorem DpAll.drop {K : PySem.W.Frag} {H : Hp} : ∀ {ds : List PyData} {vs : List V} (k : Nat), DpAll K H vs ds → DpAll K H (vs.drop k) (ds.drop k)
  | _, _, 0, h => h
  | [], _, k + 1, h => by cases h; exact .nil
  | d :: ds, _, k + 1, h => by
    cases h with
    | cons h1 h2 => exact DpAll.drop k h2
theorem DpAll.take {K : PySem.W.Frag} {H : Hp} : ∀ {ds : List PyData} {vs : List V} (k : Nat), DpAll K H vs ds → DpAll K H (vs.take k) (ds.take k)
  | _, _, 0, _ => .nil
  | [], _, k + 1, h => by cases h; exact .nil
  | d :: ds, _, k + 1, h => by
    cases h with
    | cons h1 h2 => exact .cons h1 (DpAll.take k h2)
theorem DpAll.app {K : PySem.W.Frag} {H : Hp} : ∀ {ds es : List PyData} {vs us : List V}, DpAll K H vs ds → DpAll K H us es → DpAll K H (vs ++ us) (ds ++ es)
  | [], _, _, _, h, h' => by cases h; exact h'
  | d :: ds, _, _, _, h, h' => by
    cases h with
    | cons h1 h2 => exact .cons h1 (DpAll.app h2 h')
theorem DpAll.rev {K : PySem.W.Frag} {H : Hp} : ∀ {ds : List PyData} {vs : List V}, DpAll K H vs ds → DpAll K H vs.reverse ds.reverse
  | [], _, h => by cases h; exact .nil
  | d :: ds, _, h => by
    cases h with
    | cons h1 h2 =>
      rw [List.reverse_cons, List.reverse_cons]
      exact DpAll.app (DpAll.rev h2) (.cons h1 .nil)
theorem DpAll.at {K : PySem.W.Frag} {H : Hp} : ∀ {ds : List PyData} {vs : List V} {k : Nat} {d : PyData}, DpAll K H vs ds → ds[k]? = some d → ∃ v, vs[k]? = some v ∧ Dp K H v d
  | [], _, _, _, _, e => by cases e
  | d :: ds, _, 0, _, h, e => by
    cases h with
    | cons h1 h2 => exact ⟨_, rfl, (Option.some.inj e) ▸ h1⟩
  | d :: ds, _, k + 1, _, h, e => by
    cases h with
    | cons h1 h2 => exact DpAll.at (ds := ds) (k := k) h2 e
/-- data that == and repr can be asked of -/
structure Fair1 (d : PyData) : Prop where
  lay : d.canLay0 = true
  dep : d.depth ≤ 10
  show_ : d.showable = true
  dict : d.hasDict = false
  len : d.shown.length ≤ 400
def Fair (ds : List PyData) : Prop := ∀ d ∈ ds, Fair1 d
theorem Fair1.shaped {d : PyData} (f : Fair1 d) : SeqAt.shaped d = true := by
  unfold SeqAt.shaped
  rw [f.lay, Bool.true_and]
  exact decide_eq_true (Nat.le_trans f.dep (by decide))
/-- all of many -/
structure FairL (ds : List PyData) : Prop where
  lay : PyData.canLayAll0 ds = true
  dep : PyData.depthAll ds ≤ 10
  show_ : PyData.showableAll ds = true
  dict : PyData.hasDictAll ds = false
  len : ((PyData.shownAll ds).map (·.length)).sum ≤ 400 * ds.length
  num : (PyData.shownAll ds).length = ds.length
theorem Fair.all : ∀ {ds : List PyData}, Fair ds → FairL ds
  | [], _ => ⟨rfl, by decide, rfl, rfl, by decide, rfl⟩
  | d :: ds, f => by
    have h := f d (List.mem_cons_self ..)
    have r := Fair.all (ds := ds) fun x hx => f x (List.mem_cons_of_mem _ hx)
    refine ⟨?_, ?_, ?_, ?_, ?_, ?_⟩
    · rw [PyData.canLayAll0, h.lay, r.lay]; rfl
    · rw [PyData.depthAll]; exact Nat.max_le.mpr ⟨h.dep, r.dep⟩
    · rw [PyData.showableAll, h.show_, r.show_]; rfl
    · rw [PyData.hasDictAll, h.dict, r.dict]; rfl
    · have a := h.len
      have b := r.len
      rw [PyData.shownAll, List.map_cons, List.sum_cons, List.length_cons]
      omega
    · rw [PyData.shownAll, List.length_cons, List.length_cons, r.num]
theorem fair_shaped {ds : List PyData} (f : Fair ds) : SeqAt.shaped (.list ds) = true := by
  have r := f.all
  unfold SeqAt.shaped
  rw [PyData.canLay0, r.lay, Bool.true_and, PyData.depth]
  exact decide_eq_true (by have := r.dep; omega)
theorem fair_shaped_t {ds : List PyData} (f : Fair ds) : SeqAt.shaped (.tuple ds) = true := by
  have r := f.all
  unfold SeqAt.shaped
  rw [PyData.canLay0, r.lay, Bool.true_and, PyData.depth]
  exact decide_eq_true (by have := r.dep; omega)
theorem Fair.sub {ds es : List PyData} (f : Fair ds) (h : ∀ d ∈ es, d ∈ ds) : Fair es := fun d hd => f d (h d hd)
/-- what repr asks of data -/
structure ShownOk (d : PyData) : Prop where
  s : d.showable = true
  n : d.hasDict = false
  dp : d.depth ≤ 60
  l : d.shown.length ≤ sizeLine
theorem Fair1.ok {d : PyData} (f : Fair1 d) : ShownOk d := ⟨f.show_, f.dict, Nat.le_trans f.dep (by decide), line_ge (Nat.le_trans f.len (by decide))⟩
theorem sum_le {xs : List PyData} {n : Nat} (h : xs.length ≤ n) (f : ((PyData.shownAll xs).map (·.length)).sum ≤ 400 * xs.length) : ((PyData.shownAll xs).map (·.length)).sum ≤ 400 * n := by
  have := Nat.mul_le_mul_left 400 h
  omega
theorem list_len {ds : List PyData} (f : Fair ds) (h : ds.length ≤ 200) : (PyData.list ds).shown.length ≤ 90000 := by
  have r := f.all
  have a := listText_len_le (PyData.shownAll ds)
  have b := sum_le h r.len
  rw [r.num] at a
  rw [PyData.shown]
  omega
theorem Fair.listOk {ds : List PyData} (f : Fair ds) (h : ds.length ≤ 200) : ShownOk (.list ds) := by
  have r := f.all
  refine ⟨by rw [PyData.showable]; exact r.show_, by rw [PyData.hasDict]; exact r.dict, by rw [PyData.depth]; have := r.dep; omega, line_ge (Nat.le_trans (list_len f h) (by decide))⟩
theorem Fair.tupOk {ds : List PyData} (f : Fair ds) (h : ds.length ≤ 200) : ShownOk (.tuple ds) := by
  have r := f.all
  refine ⟨by rw [PyData.showable]; exact r.show_, by rw [PyData.hasDict]; exact r.dict, by rw [PyData.depth]; have := r.dep; omega, ?_⟩
  have a := tupleText_len_le (PyData.shownAll ds)
  have b := sum_le h r.len
  rw [r.num] at a
  rw [PyData.shown]
  exact line_ge (by omega)
def fairB (d : PyData) : Bool := d.canLay0 && (decide (d.depth ≤ 10) && (d.showable && (!d.hasDict && decide (d.shown.length ≤ 400))))
theorem fair_of {d : PyData} (h : fairB d = true) : Fair1 d := by
  unfold fairB at h
  simp only [Bool.and_eq_true, Bool.not_eq_true', decide_eq_true_eq] at h
  exact ⟨h.1, h.2.1, h.2.2.1, h.2.2.2.1, h.2.2.2.2⟩
theorem ne_lst {H : Hp} {b kp : Addr} {o : HO} {L : List V} (h : H b = some o) (hk : H kp = some (.lst L)) (n : o ≠ .lst L) : b ≠ kp := fun e => n (by rw [e, hk] at h; exact (Option.some.inj h).symm)
theorem pool_lst {H : Hp} {p : Addr} {c : Nat} (h : Pool H p c) : ∃ L, H p = some (.lst L) := by
  obtain ⟨g, m, k, e, _⟩ := h
  exact ⟨_, e⟩
theorem bool_ok (b : Bool) : ShownOk (.bool b) := by
  cases b <;> exact (fair_of (by decide +kernel)).ok
theorem eqv_self {d : PyData} (h : SeqAt.shaped d = true) : PyData.eqv d d = true := by
  unfold SeqAt.shaped at h
  exact SeqAt.eqv_refl d (Bool.and_eq_true_iff.mp h).1
section
variable {P : Program} {w : World} {K : PySem.W.Frag} {mg : Str → Option Value} {base : Heap}
theorem scOneOf : FnScope ["thing", "words"] ["thing", "words"] (defScope sOneOf) := ⟨rfl, rfl, rfl, by decide +kernel, rfl, by decide +kernel, by decide +kernel⟩
theorem ok_oneOf {f : Addr} {fd : FuncData} (F : Fun K "is_one_of" "is_one_of" sOneOf f fd) (T : Bare mg) : FnOk P w K mg base CX0 1 f fd ["thing", "words"] (spOneOf K) := by
  refine F.ok scOneOf (fun vs H Q E h => ?_) (fun cdv A outer s H vs Q E hr h => ?_)
  · obtain ⟨v, o, a, ws, rfl, _⟩ := h
    rfl
  · obtain ⟨v, o, a, ws, rfl, hv, ht, q⟩ := h
    refine ⟨_, pss_one (ps_ret (pe_and (pe_callB call_isi (by rfl) T.isi (by decide +kernel) (pa_cons (pv 0) (pa_cons (pe_bltn (v := .ty "str") (by rfl) T.str (by decide +kernel) rfl) pa_nil)))
      (pe_one (pe_cmpR op_in_seq (pv 0) (pv 1) (by rfl))))), ?_⟩
    rcases hv with ⟨z, rfl, rfl⟩ | ⟨rfl, t, ty, kt⟩
    · refine ⟨_, rfl, .str z, .ty "str", .type "str", .type "str", true, rfl, .ty "str", .base (.str z), kit_ty (by decide +kernel), true, rfl, iteT ⟨_, rfl, _, rfl, a, _, rfl, .inr ht, rfl, flat_strs ws, ?_⟩⟩
      show Q (.bl (inV (.str z) (ws.map V.str))) H
      rw [inV_strs]
      exact q
    · exact ⟨_, rfl, v, .ty "str", t, .type "str", false, rfl, .ty "str", ty, kt, false, rfl, iteF q⟩
end
end K5

/-! len(set(xs)), xs a list or a tuple of texts -/
namespace K2S
open PySem PySem.Spec PyProof.Rows
/-- one more, if it is not there -/
def put1 (l : List Str) (x : Str) : List Str := if x ∈ l then l else l ++ [x]
/-- each once -/
def once (xs : List Str) : List Str := xs.foldl put1 []
theorem once_snoc (xs : List Str) (x : Str) : once (xs ++ [x]) = put1 (once xs) x := by
  unfold once
  rw [List.foldl_append]
  rfl
theorem mem_put1 {l : List Str} {x y : Str} : y ∈ put1 l x ↔ y ∈ l ∨ y = x := by
  unfold put1
  split
  · rename_i h
    exact ⟨.inl, fun z => z.elim id fun e => e ▸ h⟩
  · simp
theorem mem_fold {y : Str} : ∀ (xs l : List Str), y ∈ xs.foldl put1 l ↔ y ∈ l ∨ y ∈ xs
  | [], l => by simp
  | x :: xs, l => by
    rw [List.foldl_cons, mem_fold xs (put1 l x), mem_put1, List.mem_cons]
    exact or_assoc
theorem mem_once {y : Str} (xs : List Str) : y ∈ once xs ↔ y ∈ xs := by
  unfold once
  rw [mem_fold]
  simp
theorem take_succ_at {xs : List Str} {i : Nat} (h : i < xs.length) : xs.take (i + 1) = xs.take i ++ [xs.getD i Str.empty] := by
  rw [List.take_succ, List.getElem?_eq_getElem h]
  simp [List.getD_eq_getElem?_getD, List.getElem?_eq_getElem h]
theorem len_put1 (l : List Str) (x : Str) : (put1 l x).length = if x ∈ l then l.length else l.length + 1 := by
  unfold put1
  split
  · rfl
  · simp
theorem once_le (xs : List Str) : (once xs).length ≤ xs.length := by
  have key : ∀ (xs l : List Str), (xs.foldl put1 l).length ≤ l.length + xs.length := by
    intro xs
    induction xs with
    | nil => intro l; simp
    | cons x xs ih =>
      intro l
      have h1 := ih (put1 l x)
      have h2 : (put1 l x).length ≤ l.length + 1 := by
        rw [len_put1]
        split <;> omega
      rw [List.foldl_cons, List.length_cons]
      omega
  have h := key xs []
  simpa [once] using h
theorem fold_nodup : ∀ (xs l : List Str), l.Nodup → ((xs.foldl put1 l).length = l.length + xs.length ↔ (l ++ xs).Nodup)
  | [], l, hl => by simp [hl]
  | x :: xs, l, hl => by
    rw [List.foldl_cons]
    by_cases hx : x ∈ l
    · have e : put1 l x = l := if_pos hx
      rw [e]
      have hle : (xs.foldl put1 l).length ≤ l.length + xs.length := by
        have key : ∀ (xs l : List Str), (xs.foldl put1 l).length ≤ l.length + xs.length := by
          intro xs
          induction xs with
          | nil => intro l; simp
          | cons x xs ih =>
            intro l
            have h1 := ih (put1 l x)
            have h2 : (put1 l x).length ≤ l.length + 1 := by
              rw [len_put1]
              split <;> omega
            rw [List.foldl_cons, List.length_cons]
            omega
        exact key xs l
      constructor
      · intro h
        rw [List.length_cons] at h
        omega
      · intro h
        exact absurd rfl ((List.nodup_append.mp h).2.2 x hx x List.mem_cons_self)
    · have e : put1 l x = l ++ [x] := if_neg hx
      rw [e]
      have hn : (l ++ [x]).Nodup := by
        rw [List.nodup_append]
        refine ⟨hl, by simp, fun a ha b hb => ?_⟩
        rw [List.mem_singleton] at hb
        rintro rfl
        exact hx (hb ▸ ha)
      have ih := fold_nodup xs (l ++ [x]) hn
      rw [List.append_assoc, List.singleton_append, List.length_append, List.length_singleton] at ih
      rw [List.length_cons, show l.length + (xs.length + 1) = l.length + 1 + xs.length by omega]
      exact ih
theorem once_nodup (xs : List Str) : (once xs).length = xs.length ↔ xs.Nodup := by
  have h := fold_nodup xs [] List.nodup_nil
  simpa [once] using h
section
variable {prog : Program} {w : World} {A : Around} {R : Result → Shared → Prop} {I : Addr} {fp wr : List Addr} {G : Array GenState → Array GenState → Prop} {n : Nat} {P : Nat → Value → Prop} {St : Nat → Shared → Prop}
theorem loop_in (W : WalksS prog w A.in1 I fp wr G n P St) (S : Addr) (far : S ∉ fp) (xs : List Str) (hn : xs.length = n) (few : n + 1 < scanBound) (hval : ∀ i v, P i v → ∃ t, v = .str (xs.getD i Str.empty) t) :
    ∀ (k i : Nat) (s : Shared), n - i = k → i ≤ n → St i s → s.heap.SetOf (strKind prog w) S (fun y => decide (y ∈ xs.take i)) (once (xs.take i)).length →
      (∀ s', Moved (S :: wr) G s s' → s'.heap.SetOf (strKind prog w) S (fun y => decide (y ∈ xs)) (once xs).length → R (.ok (.ret .none)) s') → codeAny (model prog w) A (.builtin "set.update.loop" ⟨[.ref S, .ref I], []⟩) R s := by
  have off : S ∉ wr := fun z => far (W.sub _ z)
  have up : ∀ b ∈ wr, b ∈ S :: wr := fun b z => List.mem_cons_of_mem _ z
  intro k
  induction k with
  | zero =>
    intro i s hk hi hst hS done
    obtain rfl : i = n := by omega
    refine codeAny_builtin F.entry_set_update_loop ?_
    rw [Around.under_plainId F.plain_set_update_loop _]
    refine (wpAny_bind (W.done s _ _ hst fun s' hm => ?_) : wpAny _ A.in1 (pyNext (.ref I) >>= _) _ _ s)
    have e : xs.take i = xs := by rw [← hn, List.take_length]
    rw [e] at hS
    obtain ⟨o, es, ep, t, ho, more⟩ := hS
    show wpAny (model prog w) A.in1 (ret .none) _ _ s'
    exact wpAny_pure (done s' (hm.mono up) ⟨o, es, ep, t, hm.heap S _ off ho, more⟩)
  | succ k ih =>
    intro i s hk hi hst hS done
    have lt : i < n := by omega
    refine codeAny_builtin F.entry_set_update_loop ?_
    rw [Around.under_plainId F.plain_set_update_loop _]
    refine (wpAny_bind (W.item i s _ _ lt hst fun v s' hP hst' hm => ?_) : wpAny _ A.in1 (pyNext (.ref I) >>= _) _ _ s)
    obtain ⟨t, rfl⟩ := hval i v hP
    have here : s'.heap.SetOf (strKind prog w) S (fun y => decide (y ∈ xs.take i)) (once (xs.take i)).length := by
      obtain ⟨o, es, ep, tb, ho, more⟩ := hS
      exact ⟨o, es, ep, tb, hm.heap S _ off ho, more⟩
    refine (wpAny_bind (wpAny_holding ?_) : wpAny _ A.in1 (holding [Value.str (xs.getD i Str.empty) t] (setAdd S (.str (xs.getD i Str.empty) t)) >>= _) _ _ s')
    unfold setAdd
    have small : (once (xs.take i)).length + 1 < scanBound := by
      have h1 := once_le (xs.take i)
      have h2 : (xs.take i).length ≤ i := by rw [List.length_take]; omega
      omega
    refine wpAny_holding (wpAny_bind ((strKind prog w).pyHash (k := xs.getD i Str.empty) (strKind_is _ _ _ _) ?_))
    refine wpAny_setAddHashed_of (knd := strKind prog w) (s := { s' with toks := s'.toks + 1 }) (strKind_is _ _ _ _) rfl here small fun h' sb hS2 => ?_
    have hi' : i < xs.length := by omega
    have next : h'.SetOf (strKind prog w) S (fun y => decide (y ∈ xs.take (i + 1))) (once (xs.take (i + 1))).length := by
      refine SetOf_congr hS2 (fun y => ?_) ?_
      · rw [take_succ_at hi']
        by_cases c1 : y ∈ xs.take i
        · simp [c1]
        · by_cases c2 : y = xs.getD i Str.empty
          · simp [c1, c2]
          · have c3 : y ∉ xs.take i ++ [xs.getD i Str.empty] := by
              rw [List.mem_append, List.mem_singleton]
              rintro (z | z)
              · exact c1 z
              · exact c2 z
            rw [decide_eq_false c1, decide_eq_false c2, decide_eq_false c3]
            rfl
      · rw [take_succ_at hi', once_snoc, len_put1]
        by_cases c1 : xs.getD i Str.empty ∈ xs.take i
        · rw [if_pos ((mem_once _).mpr c1), if_pos (decide_eq_true c1)]
        · rw [if_neg (fun z => c1 ((mem_once _).mp z)), if_neg (fun z => c1 (of_decide_eq_true z))]
    refine wpAny_pure ⟨plainId_quiet F.plain_set_update_loop _, ih (i + 1) _ (by omega) lt (W.frame _ s' _ _ hst' (Nat.le_succ _) fun b hb o e => ?_) next fun s'' hm'' hS'' => ?_⟩
    · exact (sb.2 b fun z : b = S => far (z ▸ hb)).trans e
    · exact done s'' (Moved.trans W.gtrans ((hm.mono up).then_heap (Nat.le_succ _) fun b o hb e => (sb.2 b fun z : b = S => hb (z ▸ List.mem_cons_self)).trans e) hm'') hS''
end
/-- the object of a set without members -/
def emp (led : Bool) : Obj := { cls := .type "set", dict := none, data := .set #[] 0 (.fresh 0 0 led) }
section
variable {prog : Program} {w : World} {A : Around} {E : Value → Shared → Prop} {s : Shared}
/-- set(x), x an object of the built-in type T that is walked as W says -/
theorem set_by {T : String} {cx : Addr} {o it : Obj} {items : Array Value} {m : Nat} {xs : List Str} {St : Addr → Nat → Heap → Prop} {Q : Value → Shared → Prop}
    (hh : A.handled = none) (ho : s.heap.get? cx = some o) (hcls : o.cls = .type T) (hdat : o.data = .seq items m)
    (tA : isSubtype (.type T) (.type "set") = pure false) (tB : isSubtype (.type T) (.type "frozenset") = pure false) (tC : (Value.type T == Value.type "dict") = false)
    (hi : StrsAre items.toList xs) (few : xs.length + 1 < scanBound) (hfr : it.isFreed = false)
    (hit : ∀ (s1 : Shared) (Q' : Value → Shared → Prop) (E' : Value → Shared → Prop) (A' : Around), s1.heap.get? cx = some o → Q' (.ref s1.heap.objs.size) { s1 with heap := s1.heap.push it } → wpAny (model prog w) A' (pyIter (.ref cx)) Q' E' s1)
    (W : ∀ A' : Around, A'.handled = none → ∀ I, cx ≠ I → Walks prog w A' I [I, cx] [I] items.size (fun i v => items[i]? = some v) (St I))
    (hSt : ∀ (h : Heap) I, h.get? I = some it → h.get? cx = some o → St I 0 h)
    (h : ∀ (h' : Heap) (tk : Nat), h'.SetOf (strKind prog w) s.heap.objs.size (fun y => decide (y ∈ xs)) (once xs).length → (∀ b o, b < s.heap.objs.size → s.heap.get? b = some o → h'.get? b = some o) → Q (.ref s.heap.objs.size) { s with heap := h', toks := tk }) :
    wpAny (model prog w) A (call (.type "set") [.ref cx]) Q E s := by
  obtain ⟨cc, tl, mro⟩ := F.called_set.mro
  have made := F.called_set.made
  have sub := F.called_set.sub
  have z1 := F.called_set.notType
  have z2 := F.called_set.canCreate
  have z3 := F.typeCall_set_1 (.ref cx)
  refine wpAny_call (codeAny_of_tree ?_)
  show wpAny (model prog w) _ (callAny (.type "set") _) _ _ _
  refine wpAny_pure ⟨Code.quiet_builtin _ (by decide +kernel), codeAny_builtin (b := Builtin.«type.__call__») F.entry_type_call ?_⟩
  rw [Around.under_plain (weight_type_call_type "set" [.ref cx] []) rfl]
  repeat (any_goals (first | assumption | wp_step))
  have nS : ∀ led, (s.heap.push (emp led)).get? s.heap.objs.size = some (emp led) := fun led => Heap.get?_push_size _ rfl
  have old : ∀ led b q, s.heap.get? b = some q → (s.heap.push (emp led)).get? b = some q := fun led b q z => Heap.get?_push_of_some _ z
  refine codeAny_mono (code_set_new_1 (.ref cx) (E := E) (Q₁ := fun obj s₁ => ∃ led : Bool, obj = .ref s.heap.objs.size ∧ s₁ = { s with heap := s.heap.push (emp led) }) (fun led => ⟨led, rfl, rfl⟩)) fun r s₁ hr => ?_
  cases r
  case error e => exact hr
  case ok fl =>
    cases fl
    case ret obj =>
      obtain ⟨led, rfl, rfl⟩ := hr
      have tS : Shared.TypeIs { s with heap := s.heap.push (emp led) } (.ref s.heap.objs.size) "set" := ⟨_, nS led, rfl⟩
      have y1 := F.called_set.init.lookup
      have y2 := F.called_set.init.bind (.ref s.heap.objs.size)
      repeat (any_goals (first | assumption | wp_step))
      refine codeAny_mono (codeAny_call_builtin (R := wants (fun r s₂ => r = .none ∧ ∃ h' tk, s₂ = { s with heap := h', toks := tk } ∧ h'.SetOf (strKind prog w) s.heap.objs.size (fun y => decide (y ∈ xs)) (once xs).length ∧
        (∀ b o, b < s.heap.objs.size → s.heap.get? b = some o → h'.get? b = some o)) E) F.called_set.init.plain F.entry_set_init (check_set_init_1 tS ?_)) fun r₂ s₂ hr₂ => ?_
      · obtain ⟨ocls, odict, odata, oslots⟩ := o
        simp only at hcls hdat
        subst hcls hdat
        have hoc := old led cx _ ho
        unfold Builtin.«set.__init__» noKeywords Builtin.Frozenset.updateFrom
        generalize hPI : pyIter = PI
        wp_walk
        subst hPI
        refine hit _ _ _ _ hoc ?_
        refine wpAny_bind (wpAny_runValue ?_)
        have lt : cx < s.heap.objs.size := Heap.lt_size ho
        have sz : (s.heap.push (emp led)).objs.size = s.heap.objs.size + 1 := Heap.size_push _ _
        have neI : cx ≠ (s.heap.push (emp led)).objs.size := Nat.ne_of_lt (sz ▸ Nat.lt_succ_of_lt lt)
        have neS : s.heap.objs.size ≠ (s.heap.push (emp led)).objs.size := Nat.ne_of_lt (sz ▸ Nat.lt_succ_self _)
        have far : s.heap.objs.size ∉ [(s.heap.push (emp led)).objs.size, cx] := fun z => (List.mem_cons.mp z).elim neS fun z => Nat.ne_of_gt lt (List.mem_singleton.mp z)
        have hn : xs.length = items.size := (StrsAre.len_eq hi).symm.trans Array.length_toList
        have hh3 : A.in1.in1.in1.handled = none := by simp [hh]
        refine loop_in (W _ hh3 _ neI).toS s.heap.objs.size far xs hn (by omega) (fun i v hv => SS.strs_at hi i v (by rw [Array.getElem?_toList]; exact hv)) (items.size - 0) 0 _ (by omega) (Nat.zero_le _) (hSt _ _ (Heap.get?_push_size _ hfr) (Heap.get?_push_of_some _ hoc)) ?_ fun s' hm hS' => ?_
        · exact SetOf_congr ((setObjOf_fresh (knd := strKind prog w) led).setOf (Heap.get?_push_of_some it (nS led)) (by unfold scanBound; omega)) (fun y => by simp) rfl
        · obtain ⟨h', g', d', tk', os'⟩ := s'
          obtain rfl : g' = s.gens := hm.gens
          obtain rfl : d' = s.drawn := hm.drawn
          obtain rfl : os' = s.os := hm.os
          show wpAny (model prog w) _ _ _ _ _
          refine wpAny_pure ?_
          show wpAny (model prog w) _ (ret .none) _ _ _
          refine wpAny_pure ⟨rfl, h', tk', rfl, hS', fun b o hb e => ?_⟩
          exact hm.heap b o (fun z => (List.mem_cons.mp z).elim (fun z => Nat.ne_of_lt hb z) fun z => Nat.ne_of_lt (sz ▸ Nat.lt_succ_of_lt hb) (List.mem_singleton.mp z)) (Heap.get?_push_of_some _ (old led b o e))
      · cases r₂
        case error e => exact hr₂
        case ok fl₂ =>
          cases fl₂
          case ret r =>
            obtain ⟨rfl, h', tk, rfl, u1, u2⟩ := hr₂
            repeat (any_goals (first | assumption | wp_step))
            exact h _ _ u1 u2
          all_goals exact False.elim hr₂
    all_goals exact False.elim hr
end
end K2S

namespace K2S
open PySem PySem.Spec PyProof.Rows L2
section
variable {X : Cx}
/-- len(set(xs)), xs a list or a tuple of texts: how many there are of them -/
def tMany (K : PySem.W.Frag) (ta : TE) : TE := fun σ H Q => ta σ H fun x H1 => ∃ l, ∃ xs : List Str, x = .ref l ∧ (SqL K H1 l (xs.map V.str) ∨ SqT K H1 l (xs.map V.str)) ∧ xs.length < 64 ∧ Q (.int (once xs).length) H1
theorem pe_many {a : Expr} {ta : TE} {p p2 q pos : Pos} (hc : X.calm = true) (hg : Gl X "len") (hm : X.mg "len" = none) (hg2 : Gl X "set") (hm2 : X.mg "set" = none) (ha : PE X a ta)
    (na : starEach [a] X.env = (false, eval a X.env) :: starEach [] X.env := by rfl) : PE X (.Call (.Name "len" p) [.Call (.Name "set" p2) [a] [] q] [] pos) (tMany X.K ta) := by
  refine ⟨fun pins s σ H Q I h => Call_ (ld_blt I hg hm boot_len (callWith_builtin1 (args_cons (Call_ (ld_blt I hg2 hm2 boot_set (callWith_type1 (args_cons (thn (ha.run pins s σ H _ I h) fun v s1 ⟨x, H1, I1, r1, q1⟩ => args_nil ?_) na) na rfl))) rfl) rfl rfl))⟩
  obtain ⟨l, xs, rfl, hq, few, q1⟩ := q1
  cases r1
  have bound : xs.length + 1 < scanBound := by unfold scanBound; omega
  have fin : ∀ (h' : Heap) (tk : Nat), h'.SetOf (strKind X.prog X.w) s1.heap.objs.size (fun y => decide (y ∈ xs)) (once xs).length → (∀ b o, b < s1.heap.objs.size → s1.heap.get? b = some o → h'.get? b = some o) →
      wpAny (model X.prog X.w) X.A (spliced (backTo pos (starEach [] X.env))) (fun vs s₂ => wpAny (model X.prog X.w) X.A (call (.builtin "len") (Value.ref s1.heap.objs.size :: vs)) (EP X pins σ Q) X.xe s₂) X.xe { s1 with heap := h', toks := tk } := fun h' tk hS hk => by
    obtain ⟨o, es, ep, t, ho, hex, hd, _, _, _, hf, hn⟩ := hS
    have I2 : Inv X pins σ H1 { s1 with heap := h', toks := tk } := I1.kept fun b o e => hk b o (Heap.lt_size e) e
    have le := once_le xs
    exact args_nil (call_len_set ho hex hd hf (by rw [hn]; omega) ⟨.int (once xs).length, H1, I2.tok _, ⟨_, by rw [hn]⟩, q1⟩)
  rcases hq with hq | hq
  · obtain ⟨its, r, pl, hz⟩ := I1.list hq
    obtain ⟨o, ho, hcls, m, hd⟩ := pl.isList
    exact set_by (T := "list") (it := { cls := .type "list_iterator", data := .fields #[.ref l, .int 0 0] }) (St := fun I i h => h.IsListIter I l i ∧ h.IsList l its.toArray) (I1.ok.hd hc) ho hcls hd F.sub_list_set F.sub_list_frozenset (by decide) (by simpa using strsAre_of r) bound rfl
      (fun s1 Q' E' A' e k => wpAny_pyIter_list ⟨o, e, hcls, m, hd⟩ k) (fun A' hh I ne => Walks.list hh I l ne its.toArray) (fun h I e1 e2 => ⟨⟨_, e1, rfl, rfl⟩, ⟨o, e2, hcls, m, hd⟩⟩) fin
  · obtain ⟨its, r, pl, hz⟩ := I1.tuple hq
    obtain ⟨o, ho, hcls, m, hd⟩ := pl
    exact set_by (T := "tuple") (it := { cls := .type "tuple_iterator", data := .fields #[.ref l, .int 0 0] }) (St := fun I i h => h.IsTupleIter I l i ∧ h.IsTuple l its.toArray) (I1.ok.hd hc) ho hcls hd F.sub_tuple_set F.sub_tuple_frozenset (by decide) (by simpa using strsAre_of r) bound rfl
      (fun s1 Q' E' A' e k => wpAny_pyIter_tuple ⟨o, e, hcls, m, hd⟩ k) (fun A' hh I ne => Walks.tuple hh I l ne its.toArray) (fun h I e1 e2 => ⟨⟨_, e1, rfl, rfl⟩, ⟨o, e2, hcls, m, hd⟩⟩) fin
end
end K2S

/-! d.update(e), both dicts with texts or ints as keys -/
namespace K2U
open PySem PySem.Spec PyProof.Rows L2
section
variable {X : Cx} {pins : List (Addr × Obj)} {σ : L2.St} {H : Hp} {s : Shared} {a b : Addr} {A : Around} {E : Value → Shared → Prop}
theorem d_upd {kvs more : List (Key × V)} {Q : Value → Shared → Prop} (I : Inv X pins σ H s) (e : H a = some (.dK kvs)) (e2 : Rd H b (.dK more)) (ne : a ≠ b) (hl : kvs.length + more.length ≤ sizeLine)
    (h : ∀ (w' : Value) (s' : Shared), Inv X pins σ (upd H a (.dK (mergeK kvs more))) s' → w' = .none → Q w' s') : wpAny (model X.prog X.w) A (call (.builtin "dict.update") [.ref a, .ref b]) Q E s := by
  obtain ⟨_, hd, vs, rel, dd⟩ := dk_of I.hok e
  obtain ⟨_, hd2, ws, rel2, dd2⟩ := dk_rd I.hok e2
  refine call_meetsIn F.slot_dict_update dd.typeIs F.entry_dict_update (F.args_dict_update_2 _ _) (meets_dict_update (mixKind X.prog X.w) a b ne hd2) ⟨vs, ws, dd, dd2, by rw [← rel.length, ← rel2.length]; exact hl, fun h' dd' _ hs => ?_⟩
  have he : ∃ q, h'.get? a = some q := let ⟨q, _, _, hq, _⟩ := dd'; ⟨q, hq⟩
  exact h _ _ (d_write (t' := s.toks) I (by rw [e]; exact True.intro) hs he (dk_new (Nat.le_trans (length_mergeK more kvs) hl) hd (rel2.merge rel) dd')) rfl
end
def tDUpd (td ty : TE) : TE := fun σ H Q => td σ H fun x H1 => ∃ a, x = .ref a ∧ IsD H1 a ∧ ty σ H1 fun y H2 => ∃ (b : Addr) (kvs more : List (Key × V)), y = .ref b ∧ H2 a = some (.dK kvs) ∧ Rd H2 b (.dK more) ∧ a ≠ b ∧ kvs.length + more.length ≤ sizeLine ∧
  Q .non (upd H2 a (.dK (mergeK kvs more)))
section
variable {X : Cx} {o e : Expr} {td ty : TE} {apos cpos : Pos}
theorem pe_dupd (ho : PE X o td) (he : PE X e ty) (m : M1 X o "update" apos e cpos) : PE X (.Call (.Attribute o "update" apos) [e] [] cpos) (tDUpd td ty) := by
  refine ⟨fun pins s σ H Q I h => wpAny_Call_method m.base m.few m.line F.plainAttrs_dict F.slot_dict_update F.type_dict_update (thn (ho.run pins s σ H _ I h) fun u s1 ⟨x, H1, I1, rx, a, ex, d, q1⟩ => ?_)⟩
  subst ex
  obtain rfl : u = Value.ref a := rx
  obtain ⟨t1, t2, _⟩ := isD_at I1 d
  refine ⟨t1, t2, ?_⟩
  rw [m.trees]
  refine Calls.callWith_builtin rfl (Calls.evalArgs_plain (Calls.spliced_cons (thn (he.run pins s1 σ H1 _ I1 q1) fun iv s2 ⟨y, H2, I2, ry, b, kvs, more, ey, e1, e2, ne, hl, q2⟩ => Calls.spliced_nil ?_)))
  subst ey
  obtain rfl : iv = Value.ref b := ry
  exact d_upd I2 e1 e2 ne hl fun w' s3 I3 ew => by
    subst ew
    exact ⟨.non, _, I3, rfl, q2⟩
end
end K2U

namespace L2
open PySem PySem.Spec PyProof.Rows
/-- x is True, x is False, whatever x is -/
theorem op_isAny {X : Cx} : OpR X (compareOp .Is) (fun x y H Q => ∃ b : Bool, y = .bl b ∧ Q (.bl (decide (x = .bl b))) H) := by
  intro pins s σ H x y v u Q I rx ry h
  obtain ⟨b, rfl, q⟩ := h
  cases (show u = Value.bool b from ry)
  by_cases e : x = .bl b
  · subst e
    cases (show v = Value.bool b from rx)
    exact wpAny_is_self rfl ⟨.bl true, H, I, rfl, by simpa using q⟩
  · have ne : v ≠ Value.bool b := by
      rintro rfl
      cases x with
      | bl a =>
        have z : Value.bool b = Value.bool a := rx
        exact e (by rw [Value.bool.inj z])
      | int i => obtain ⟨t, z⟩ := rx; cases z
      | str i => obtain ⟨t, z⟩ := rx; cases z
      | byt i => obtain ⟨t, z⟩ := rx; cases z
      | flt i => obtain ⟨t, z⟩ := rx; cases z
      | non => cases rx
      | ref a => cases rx
      | ty n => cases rx
    exact wpAny_is_other (by cases x <;> first | (cases rx; rfl) | (obtain ⟨t, rfl⟩ := rx; rfl)) ne ⟨.bl false, H, I, rfl, by simpa [e] using q⟩
end L2

namespace K5S
open PySem L2 K5
abbrev sOneOf : Stmt := top 10
abbrev sConsists : Stmt := top 11
abbrev sIsWord : Stmt := top 12
abbrev sIsNumeral : Stmt := top 13
abbrev sIsSign : Stmt := top 15
abbrev sSortOf : Stmt := top 16
def cLetters : Str := "abcdefghijklmnopqrstuvwxyz"
def cDigits : Str := "0123456789"
def signs : List Str := ["=", ";", ",", "[", "]"]
/-- the constants of the module -/
structure Mod (K : PySem.W.Frag) (mg : Str → Option Value) (aS : Addr) : Prop extends K5.Bare mg where
  letters : ∃ t, mg "LETTERS" = some (.str cLetters t)
  digits : ∃ t, mg "DIGITS" = some (.str cDigits t)
  longest : ∃ t, mg "LONGEST" = some (.int 12 t)
  sgn : mg "SIGNS" = some (.ref aS)
  tup : ∃ (o : Obj) (its : Array Value) (n : Nat), K.lookup aS = some o ∧ o.cls = .type "tuple" ∧ o.data = .seq its n ∧ its.size ≤ sizeLine ∧ Vals (K5S.signs.map V.str) its.toList
theorem Mod.sq {K : PySem.W.Frag} {mg : Str → Option Value} {aS : Addr} (T : Mod K mg aS) (H : Hp) : SqT K H aS (K5S.signs.map V.str) := .inr T.tup
theorem inV_strs (z : Str) (ws : List Str) : inV (.str z) (ws.map V.str) = decide (z ∈ ws) := by
  unfold inV
  induction ws with
  | nil => rfl
  | cons y ws ih =>
    rw [List.map_cons, List.any_cons, ih]
    show (y == z || _) = _
    by_cases h : y = z
    · subst h; simp
    · have h' : ¬ z = y := fun e => h e.symm
      have e : (y == z) = false := by simpa using h
      rw [e, Bool.false_or]
      simp [h']
theorem flat_strs (ws : List Str) : (ws.map V.str).all flatV = true := by
  rw [List.all_map]
  exact List.all_eq_true.mpr fun _ _ => rfl
theorem all_id_map {α : Type} (p : α → Bool) (l : List α) : (l.map p).all id = l.all p := by
  induction l with
  | nil => rfl
  | cons a l ih => rw [List.map_cons, List.all_cons, List.all_cons, ih]; rfl
theorem take_more {α β : Type} (f : α → β) {l : List α} {i : Nat} {c : α} (h : l[i]? = some c) : (l.take i).map f ++ [f c] = (l.take (i + 1)).map f := by
  rw [List.take_add_one, h, List.map_append]
  rfl
theorem cps_at {z : Str} {i : Nat} {c : Nat} (h : z.cps[i]? = some c) : z.cps.toList[i]? = some c := by simpa using h
theorem str_len (z : Str) : z.cps.toList.length = z.length := by simp [Str.length]
/-- 1 to 12 of these signs -/
def inAll (z cs : Str) : Bool := decide (1 ≤ z.length) && decide (z.length ≤ 12) && z.cps.toList.all fun c => decide (c ∈ cs.cps.toList)
/-- a thing that may be a text -/
def Thing (K : PySem.W.Frag) (H : Hp) (v : V) (o : Option Str) : Prop := (∃ z, v = .str z ∧ o = some z ∧ z.length ≤ sizeLine) ∨ (o = none ∧ ∃ t, TyOf K H v t ∧ PySem.W.kitOne K t (.type "str") = some false)
theorem tyOf_same {K : PySem.W.Frag} {H H' : Hp} {v : V} {t : Value} (h : TyOf K H v t) (s : Same H H') : TyOf K H' v t := by
  cases h with
  | non => exact .non
  | bl b => exact .bl b
  | int i => exact .int i
  | str x => exact .str x
  | flt x => exact .flt x
  | lst e => exact .lst (s _ _ e)
  | frz e => exact .frz (s _ _ e)
  | tup e => exact .tup (s _ _ e)
  | dK e => exact .dK (s _ _ e)
  | dT e => exact .dT (s _ _ e)
  | ins e a b c d m => exact .ins (s _ _ e) a b c d m
theorem Thing.same {K : PySem.W.Frag} {H H' : Hp} {v : V} {o : Option Str} (h : Thing K H v o) (s : Same H H') : Thing K H' v o := by
  rcases h with h | ⟨e, t, h, k⟩
  · exact .inl h
  · exact .inr ⟨e, t, tyOf_same h s, k⟩
def spOneOf (K : PySem.W.Frag) : Sp := fun vs H Q _ => ∃ (v : V) (o : Option Str) (a : Addr) (ws : List Str), vs = [v, .ref a] ∧ Thing K H v o ∧ SqT K H a (ws.map V.str) ∧ Q (.bl (o.elim false fun z => decide (z ∈ ws))) H
def spConsists (K : PySem.W.Frag) : Sp := fun vs H Q _ => ∃ (v : V) (o : Option Str) (cs : Str), vs = [v, .str cs] ∧ Thing K H v o ∧ ∀ H', Same H H' → Q (.bl (o.elim false fun z => inAll z cs)) H'
def spWord (K : PySem.W.Frag) : Sp := fun vs H Q _ => ∃ (v : V) (o : Option Str), vs = [v] ∧ Thing K H v o ∧ ∀ H', Same H H' → Q (.bl (o.elim false fun z => inAll z cLetters)) H'
/-- a numeral -/
def numOk (z : Str) : Bool := inAll z cDigits && (decide (z = "0") || !decide ((⟨#[z.cps.toList.headD 0]⟩ : Str) = "0"))
def spNum (K : PySem.W.Frag) : Sp := fun vs H Q _ => ∃ (v : V) (o : Option Str), vs = [v] ∧ Thing K H v o ∧ ∀ H', Same H H' → Q (.bl (o.elim false numOk)) H'
def spSign (K : PySem.W.Frag) : Sp := fun vs H Q _ => ∃ (v : V) (o : Option Str), vs = [v] ∧ Thing K H v o ∧ Q (.bl (o.elim false fun z => decide (z ∈ signs))) H
def sortV (z : Str) : V := if z ∈ signs then .str z else if inAll z cLetters = true then .str "word" else if numOk z = true then .str "number" else .non
def spSort (K : PySem.W.Frag) : Sp := fun vs H Q _ => ∃ (v : V) (o : Option Str), vs = [v] ∧ Thing K H v o ∧ ∀ H', Same H H' → Q (o.elim .non sortV) H'
section
variable {P : Program} {w : World} {K : PySem.W.Frag} {mg : Str → Option Value} {base : Heap} {aS : Addr}
theorem scOneOf : FnScope ["thing", "words"] ["thing", "words"] (defScope sOneOf) := ⟨rfl, rfl, rfl, by decide +kernel, rfl, by decide +kernel, by decide +kernel⟩
theorem ok_oneOf {f : Addr} {fd : FuncData} (F : Fun K "is_one_of" "is_one_of" sOneOf f fd) (T : Mod K mg aS) : FnOk P w K mg base CX0 1 f fd ["thing", "words"] (spOneOf K) := by
  refine F.ok scOneOf (fun vs H Q E h => ?_) (fun cdv A outer s H vs Q E hr h => ?_)
  · obtain ⟨v, o, a, ws, rfl, _⟩ := h
    rfl
  · obtain ⟨v, o, a, ws, rfl, hv, ht, q⟩ := h
    refine ⟨_, pss_one (ps_ret (pe_and (pe_callB call_isi (by rfl) T.isi (by decide +kernel) (pa_cons (pv 0) (pa_cons (pe_bltn (v := .ty "str") (by rfl) T.str (by decide +kernel) rfl) pa_nil)))
      (pe_one (pe_cmpR op_in_seq (pv 0) (pv 1) (by rfl))))), ?_⟩
    rcases hv with ⟨z, rfl, rfl, _⟩ | ⟨rfl, t, ty, kt⟩
    · refine ⟨_, rfl, .str z, .ty "str", .type "str", .type "str", true, rfl, .ty "str", .base (.str z), kit_ty (by decide +kernel), true, rfl, iteT ⟨_, rfl, _, rfl, a, _, rfl, .inr ht, rfl, flat_strs ws, ?_⟩⟩
      show Q (.bl (inV (.str z) (ws.map V.str))) H
      rw [inV_strs]
      exact q
    · exact ⟨_, rfl, v, .ty "str", t, .type "str", false, rfl, .ty "str", .base ty, kt, false, rfl, iteF q⟩
theorem scConsists : FnScope ["thing", "characters", "character"] ["thing", "characters"] (defScope sConsists) := ⟨rfl, rfl, rfl, by decide +kernel, rfl, by decide +kernel, by decide +kernel⟩
theorem ok_consists {f : Addr} {fd : FuncData} (F : Fun K "consists_of" "consists_of" sConsists f fd) (T : Mod K mg aS) : FnOk P w K mg base CX0 1 f fd ["thing", "characters"] (spConsists K) := by
  obtain ⟨t, hL⟩ := T.longest
  refine F.ok scConsists (fun vs H Q E h => ?_) (fun cdv A outer s H vs Q E hr h => ?_)
  · obtain ⟨v, o, cs, rfl, _⟩ := h
    rfl
  · obtain ⟨v, o, cs, rfl, hv, q⟩ := h
    refine ⟨_, C8.pss_cut (ps_if (PW.pt (pw_or (pt_not (pt_val (pe_callB call_isi (by rfl) T.isi (by decide +kernel) (pa_cons (pv 0) (pa_cons (pe_bltn (v := .ty "str") (by rfl) T.str (by decide +kernel) rfl) pa_nil)))))
        (pw_or1 (pt_not (pt_chain op_le op_le pe_int (pe_callB call_len_str (by rfl) T.len PySem.boot_len (pa_cons (pv 0) pa_nil)) (pe_glob (v := .int 12) rfl hL ⟨_, rfl⟩))))))
        (pss_one (ps_ret pe_bl)) pss_nil)
      (pss_one (ps_ret (pe_callB (cr_all rfl) (by rfl) T.all (by decide +kernel) (pa_cons (pe_lc (own := [("character", 2)]) (g := gName 2) (tt := tYes) (by rfl) scConsists.nd (pi_str (pv 0))
        (blkOk_by (own := [("character", 2)]) (N := ["thing", "characters", "character"]) (sc := defScope sConsists) (by decide +kernel)) (fun _ _ _ _ _ => pg_name (i := 2) scConsists.nd rfl (Or.inl rfl))
        (fun _ _ _ _ _ => pts_nil) (fun _ _ _ _ _ => pe_cmpR op_in_sign (pv 2) (pv 1) rfl)) pa_nil)))), ?_⟩
    rcases hv with ⟨z, rfl, rfl, hz⟩ | ⟨rfl, t', ty, kt⟩
    case inr => exact ⟨fun _ _ => False, ⟨_, rfl, v, .ty "str", t', .type "str", false, rfl, .ty "str", .base ty, kt, false, rfl, iteT (iteT (q H (Same.refl H)))⟩, fun _ _ z => z.elim⟩
    replace q : ∀ H', Same H H' → Q (.bl (inAll z cs)) H' := q
    have hi : inAll z cs = (decide (1 ≤ z.length) && (decide (z.length ≤ 12) && z.cps.toList.all fun c => decide (c ∈ cs.cps.toList))) := Bool.and_assoc ..
    refine ⟨fun σ H' => σ = [some (.str z), some (.str cs), none] ∧ H' = H ∧ inAll z cs = z.cps.toList.all fun c => decide (c ∈ cs.cps.toList), ?_, ?_⟩
    · refine ⟨_, rfl, .str z, .ty "str", .type "str", .type "str", true, rfl, .ty "str", .base (.str z), kit_ty (by decide +kernel), true, rfl, ?_⟩
      refine iteF ?_
      refine ⟨_, rfl, z, rfl, hz, _, _, rfl, rfl, _, rfl, ?_⟩
      refine ite2 (fun h1 => ?_) (fun h1 => ?_)
      · have h1' : 1 ≤ z.length := by have := of_decide_eq_true h1; omega
        refine ⟨_, _, rfl, rfl, _, rfl, ?_⟩
        by_cases h2 : (z.length : Int) ≤ 12
        · show if (!decide ((z.length : Int) ≤ 12)) = true then _ else _
          refine iteNS h2 ?_
          have h2' : z.length ≤ 12 := by omega
          exact ⟨rfl, rfl, by rw [hi, decide_eq_true h1', decide_eq_true h2', Bool.true_and, Bool.true_and]⟩
        · show if (!decide ((z.length : Int) ≤ 12)) = true then _ else _
          rw [decide_eq_false h2]
          refine iteT ?_
          have h2' : ¬ z.length ≤ 12 := by omega
          have e := q H (Same.refl H)
          rw [hi, decide_eq_false h2', Bool.false_and, Bool.and_false] at e
          exact e
      · refine ⟨_, rfl, iteT ?_⟩
        have h1' : ¬ 1 ≤ z.length := fun h => h1 (decide_eq_true (by omega))
        have e := q H (Same.refl H)
        rw [hi, decide_eq_false h1', Bool.false_and] at e
        exact e
    · rintro σ H1 ⟨rfl, rfl, e⟩
      refine ⟨_, rfl, z, rfl, fun D hD => ?_⟩
      refine lc_it walk_str (fun i H' => Same H1 H' ∧ H' D = some (.lst ((z.cps.toList.take i).map fun c => V.bl (decide (c ∈ cs.cps.toList))))) ⟨Same.new (Same.refl H1) hD, upd_same⟩ (fun _ _ _ _ => trivial) ?_ ?_
      · rintro i x H2 H3 hi2 ⟨s2, h2⟩ ⟨rfl, c, hc, rfl⟩
        refine ⟨rfl, ?_⟩
        refine ⟨_, rfl, _, rfl, c, cs, rfl, rfl, _, h2, ?_, fun b o hb => ?_, ?_⟩
        · rw [List.length_map, List.length_take, str_len]
          have : i < z.length := hi2
          omega
        · rw [upd_ne (ne_of_none hb hD)]
          exact s2 b o hb
        · rw [upd_same, take_more _ (cps_at hc)]
      · rintro H2 ⟨s2, h2⟩
        refine ⟨D, z.cps.toList.map fun c => decide (c ∈ cs.cps.toList), rfl, SqL.of ?_, ?_⟩
        · rw [h2, List.map_map, List.take_of_length_le (by simp)]
          rfl
        · rw [all_id_map, ← e]
          exact q H2 s2
theorem scWord : FnScope ["thing"] ["thing"] (defScope sIsWord) := ⟨rfl, rfl, rfl, by decide +kernel, rfl, by decide +kernel, by decide +kernel⟩
theorem ok_word {f fC : Addr} {fd fdC : FuncData} (F : Fun K "is_word" "is_word" sIsWord f fd) (T : Mod K mg aS) (FC : Fun K "consists_of" "consists_of" sConsists fC fdC) (bC : Binds K fdC ["thing", "characters"] []) (mC : mg "consists_of" = some (.ref fC)) : FnOk P w K mg base CX0 2 f fd ["thing"] (spWord K) := by
  have GC : FnOk P w K mg base CX0 1 fC fdC ["thing", "characters"] (spConsists K) := ok_consists FC T
  obtain ⟨t, hL⟩ := T.letters
  refine F.ok scWord (fun vs H Q E h => ?_) (fun cdv A outer s H vs Q E hr h => ?_)
  · obtain ⟨v, o, rfl, _⟩ := h
    rfl
  · obtain ⟨v, o, rfl, hv, q⟩ := h
    refine ⟨_, pss_one (ps_ret (pe_call GC hr rfl mC FC.kp bC .nil pass0 (pa_cons (pv 0) (pa_cons (pe_glob (v := .str cLetters) rfl hL ⟨_, rfl⟩) pa_nil)))), ?_⟩
    exact ⟨_, rfl, v, o, cLetters, rfl, hv, q⟩
theorem scNum : FnScope ["thing"] ["thing"] (defScope sIsNumeral) := ⟨rfl, rfl, rfl, by decide +kernel, rfl, by decide +kernel, by decide +kernel⟩
theorem at_zero {z : Str} (h : 1 ≤ z.length) : atI z.cps.toList 0 = some (z.cps.toList.headD 0) := by
  refine atI_nat (j := 0) ?_
  rw [← str_len] at h
  cases e : z.cps.toList with
  | nil => rw [e] at h; exact absurd h (by decide)
  | cons c l => rfl
theorem ok_num {f fC : Addr} {fd fdC : FuncData} (F : Fun K "is_numeral" "is_numeral" sIsNumeral f fd) (T : Mod K mg aS) (FC : Fun K "consists_of" "consists_of" sConsists fC fdC) (bC : Binds K fdC ["thing", "characters"] []) (mC : mg "consists_of" = some (.ref fC)) : FnOk P w K mg base CX0 2 f fd ["thing"] (spNum K) := by
  have GC : FnOk P w K mg base CX0 1 fC fdC ["thing", "characters"] (spConsists K) := ok_consists FC T
  obtain ⟨t, hL⟩ := T.digits
  refine F.ok scNum (fun vs H Q E h => ?_) (fun cdv A outer s H vs Q E hr h => ?_)
  · obtain ⟨v, o, rfl, _⟩ := h
    rfl
  · obtain ⟨v, o, rfl, hv, q⟩ := h
    refine ⟨_, pss_one (ps_ret (pe_and (pe_call GC hr rfl mC FC.kp bC .nil pass0 (pa_cons (pv 0) (pa_cons (pe_glob (v := .str cDigits) rfl hL ⟨_, rfl⟩) pa_nil)))
      (pe_one (pe_or (pe_cmpR op_eq (pv 0) pe_str (nomark _)) (pe_one (pe_cmpR op_ne (pe_ix ix_str (pv 0) pe_int (fun _ _ => rfl)) pe_str (nomark _))))))), ?_⟩
    refine ⟨_, rfl, v, o, cDigits, rfl, hv, fun H1 s1 => ⟨_, rfl, ?_⟩⟩
    rcases hv with ⟨z, rfl, rfl, hz⟩ | ⟨rfl, t', ty, kt⟩
    case inr => exact iteF (q H1 s1)
    have e := q H1 s1
    show if inAll z cDigits = true then _ else _
    replace e : Q (.bl (numOk z)) H1 := e
    unfold numOk at e
    cases ha : inAll z cDigits with
    | false =>
      rw [ha, Bool.false_and] at e
      exact iteF e
    | true =>
      rw [ha, Bool.true_and] at e
      have h1 : 1 ≤ z.length := by
        unfold inAll at ha
        rw [Bool.and_eq_true, Bool.and_eq_true] at ha
        exact of_decide_eq_true ha.1.1
      refine iteT ⟨_, rfl, rfl, _, rfl, ?_⟩
      have ez : decide (V.str z = V.str (("0" : Str))) = decide (z = "0") := by
        by_cases h : z = "0"
        · rw [h]; simp
        · have h' : ¬ V.str z = V.str (("0" : Str)) := fun x => h (V.str.inj x)
          rw [decide_eq_false h, decide_eq_false h']
      show if decide (V.str z = V.str (("0" : Str))) = true then _ else _
      rw [ez]
      cases hz0 : decide (z = "0") with
      | true =>
        rw [hz0, Bool.true_or] at e
        exact iteT e
      | false =>
        rw [hz0, Bool.false_or] at e
        refine iteF ⟨_, rfl, z, _, _, rfl, rfl, hz, at_zero h1, rfl, ?_⟩
        have ey : decide (V.str ⟨#[z.cps.toList.headD 0]⟩ = V.str (("0" : Str))) = decide ((⟨#[z.cps.toList.headD 0]⟩ : Str) = "0") := by
          by_cases h : (⟨#[z.cps.toList.headD 0]⟩ : Str) = "0"
          · rw [h]; simp
          · have h' : ¬ V.str ⟨#[z.cps.toList.headD 0]⟩ = V.str (("0" : Str)) := fun x => h (V.str.inj x)
            rw [decide_eq_false h, decide_eq_false h']
        show Q (V.bl (!decide (V.str ⟨#[z.cps.toList.headD 0]⟩ = V.str (("0" : Str))))) H1
        rw [ey]
        exact e
theorem scSign : FnScope ["thing"] ["thing"] (defScope sIsSign) := ⟨rfl, rfl, rfl, by decide +kernel, rfl, by decide +kernel, by decide +kernel⟩
theorem ok_sign {f fC : Addr} {fd fdC : FuncData} (F : Fun K "is_sign" "is_sign" sIsSign f fd) (T : Mod K mg aS) (FC : Fun K "is_one_of" "is_one_of" sOneOf fC fdC) (bC : Binds K fdC ["thing", "words"] []) (mC : mg "is_one_of" = some (.ref fC)) : FnOk P w K mg base CX0 2 f fd ["thing"] (spSign K) := by
  have GC : FnOk P w K mg base CX0 1 fC fdC ["thing", "words"] (spOneOf K) := ok_oneOf FC T
  refine F.ok scSign (fun vs H Q E h => ?_) (fun cdv A outer s H vs Q E hr h => ?_)
  · obtain ⟨v, o, rfl, _⟩ := h
    rfl
  · obtain ⟨v, o, rfl, hv, q⟩ := h
    refine ⟨_, pss_one (ps_ret (pe_call GC hr rfl mC FC.kp bC .nil pass0 (pa_cons (pv 0) (pa_cons (pe_glob (v := .ref aS) rfl T.sgn rfl) pa_nil)))), ?_⟩
    exact ⟨_, rfl, v, o, aS, signs, rfl, hv, T.sq H, q⟩
theorem scSort : FnScope ["thing"] ["thing"] (defScope sSortOf) := ⟨rfl, rfl, rfl, by decide +kernel, rfl, by decide +kernel, by decide +kernel⟩
theorem ok_sort {f fS fW fN : Addr} {fd fdS fdW fdN : FuncData} (F : Fun K "sort_of" "sort_of" sSortOf f fd)
    (kS : PySem.W.keepIn K (.ref fS) = true) (GS : FnOk P w K mg base CX0 2 fS fdS ["thing"] (spSign K)) (bS : Binds K fdS ["thing"] []) (mS : mg "is_sign" = some (.ref fS))
    (kW : PySem.W.keepIn K (.ref fW) = true) (GW : FnOk P w K mg base CX0 2 fW fdW ["thing"] (spWord K)) (bW : Binds K fdW ["thing"] []) (mW : mg "is_word" = some (.ref fW))
    (kN : PySem.W.keepIn K (.ref fN) = true) (GN : FnOk P w K mg base CX0 2 fN fdN ["thing"] (spNum K)) (bN : Binds K fdN ["thing"] []) (mN : mg "is_numeral" = some (.ref fN)) : FnOk P w K mg base CX0 3 f fd ["thing"] (spSort K) := by
  refine F.ok scSort (fun vs H Q E h => ?_) (fun cdv A outer s H vs Q E hr h => ?_)
  · obtain ⟨v, o, rfl, _⟩ := h
    rfl
  · obtain ⟨v, o, rfl, hv, q⟩ := h
    refine ⟨_, pss_cons (ps_if (pt_val (pe_call GS hr rfl mS kS bS .nil pass0 (pa_cons (pv 0) pa_nil))) (pss_one (ps_ret (pv 0))) pss_nil)
      (pss_cons (ps_if (pt_val (pe_call GW hr rfl mW kW bW .nil pass0 (pa_cons (pv 0) pa_nil))) (pss_one (ps_ret pe_str)) pss_nil)
      (pss_cons (ps_if (pt_val (pe_call GN hr rfl mN kN bN .nil pass0 (pa_cons (pv 0) pa_nil))) (pss_one (ps_ret pe_str)) pss_nil)
      (pss_one (ps_ret pe_non)))), ?_⟩
    rcases id hv with ⟨z, rfl, rfl, hz⟩ | ⟨rfl, t', ty, kt⟩
    case inr => exact ⟨_, rfl, v, none, rfl, hv, _, rfl, iteF ⟨_, rfl, v, none, rfl, hv, fun H1 s1 => ⟨_, rfl, iteF ⟨_, rfl, v, none, rfl, hv.same s1, fun H2 s2 => ⟨_, rfl, iteF (q H2 (s1.trans s2))⟩⟩⟩⟩⟩
    replace q : ∀ H', Same H H' → Q (sortV z) H' := q
    refine ⟨_, rfl, .str z, some z, rfl, hv, _, rfl, ite2 (fun h1 => ⟨_, rfl, ?_⟩) (fun h1 => ?_)⟩
    · have e := q H (Same.refl H)
      unfold sortV at e
      rw [if_pos (of_decide_eq_true h1)] at e
      exact e
    · have h1 : ¬ z ∈ signs := fun x => h1 (decide_eq_true x)
      refine ⟨_, rfl, .str z, some z, rfl, hv, fun H1 s1 => ⟨_, rfl, ite2 (fun h2 => ?_) (fun h2 => ?_)⟩⟩
      · have e := q H1 s1
        unfold sortV at e
        rw [if_neg h1, if_pos (show inAll z cLetters = true from h2)] at e
        exact e
      · refine ⟨_, rfl, .str z, some z, rfl, hv.same s1, fun H2 s2 => ⟨_, rfl, ite2 (fun h3 => ?_) (fun h3 => ?_)⟩⟩
        all_goals
          have e := q H2 (s1.trans s2)
          unfold sortV at e
          rw [if_neg h1, if_neg (show ¬ inAll z cLetters = true from h2)] at e
        · rw [if_pos (show numOk z = true from h3)] at e
          exact e
        · rw [if_neg (show ¬ numOk z = true from h3)] at e
          exact e
end
end K5S

namespace K5S
open PySem L2 K5
theorem line_ge {n : Nat} (h : n ≤ 1000000) : n ≤ sizeLine := Nat.le_trans h (by decide)
def lt (c : Nat) : Bool := decide (97 ≤ c) && decide (c ≤ 122)
def dg (c : Nat) : Bool := decide (48 ≤ c) && decide (c ≤ 57)
def an (c : Nat) : Bool := lt c || dg c
def sg (c : Nat) : Bool := c == 61 || (c == 59 || (c == 44 || (c == 91 || c == 93)))
def bk (c : Nat) : Bool := c == 32 || c == 10
def S (r : List Nat) : Str := ⟨r.toArray⟩
theorem S_cps (r : List Nat) : (S r).cps.toList = r := by simp [S]
theorem S_len (r : List Nat) : (S r).length = r.length := by simp [S, Str.length]
theorem S_of (z : Str) : S z.cps.toList = z := by simp [S]
theorem S_inj {r t : List Nat} (h : S r = S t) : r = t := by rw [← S_cps r, h, S_cps]
theorem str_zero : ("0" : Str) = S [48] := by decide +kernel
theorem str_blank : (" " : Str) = S [32] := by decide +kernel
def lstS (ts : List (List Nat)) : List V := ts.map fun r => V.str (S r)
theorem lstS_add (ts : List (List Nat)) (r : List Nat) : lstS ts ++ [V.str (S r)] = lstS (ts ++ [r]) := by unfold lstS; rw [List.map_append]; rfl
theorem Same.put {H H1 : Hp} {l : Addr} {o : HO} (a : Same H H1) (hl : H l = none) : Same H (upd H1 l o) := fun b u h => by
  rw [upd_ne (ne_of_none h hl)]
  exact a b u h
theorem eq_strB (x y : Str) : decide (V.str x = V.str y) = decide (x = y) := by
  by_cases h : x = y
  · rw [h]; simp
  · have : ¬ V.str x = V.str y := fun z => h (V.str.inj z)
    rw [decide_eq_false h, decide_eq_false this]
theorem join_none : ∀ ys : List (List Nat), TL.joinL [] ys = ys.flatten
  | [] => rfl
  | [y] => by simp [TL.joinL]
  | y :: z :: r => by
    show y ++ ([] ++ TL.joinL [] (z :: r)) = _
    rw [join_none (z :: r)]
    simp
theorem glue (ys : List (List Nat)) : Txt.join (S []) (ys.map S) = S ys.flatten := by
  rw [← join_none]
  exact SX.join_S [] ys
theorem flat_ones (rs : List Nat) : (rs.map fun c => [c]).flatten = rs := by
  induction rs with
  | nil => rfl
  | cons c rs ih => simp [ih]
def onesV (rs : List Nat) : List V := rs.map fun c => V.str (S [c])
theorem onesV_add (rs : List Nat) (c : Nat) : onesV rs ++ [V.str (S [c])] = onesV (rs ++ [c]) := by unfold onesV; rw [List.map_append]; rfl
theorem onesV_eq (rs : List Nat) : onesV rs = ((rs.map fun c => [c]).map S).map V.str := by unfold onesV; rw [List.map_map, List.map_map]; rfl
theorem ones_sum (rs : List Nat) : (((rs.map fun c => [c]).map S).map (·.length)).sum = rs.length := by
  induction rs with
  | nil => rfl
  | cons c rs ih =>
    rw [List.map_cons, List.map_cons, List.map_cons, List.sum_cons, ih, S_len, List.length_cons]
    simp; omega
theorem at_sign {z : Str} {l : List Nat} (hz : z.cps.toList = l) {p : Nat → Bool} (hp : l.all p = true) {r : Int} (h0 : 0 ≤ r) (h1 : r < (l.length : Int)) : ∃ c, atI z.cps.toList r = some c ∧ p c = true := by
  have hr : r.toNat < l.length := by omega
  refine ⟨l[r.toNat], ?_, List.all_eq_true.mp hp _ (List.getElem_mem hr)⟩
  have e : atI l ((r.toNat : Nat) : Int) = some l[r.toNat] := atI_nat (List.getElem?_eq_getElem hr)
  rw [show ((r.toNat : Nat) : Int) = r by omega] at e
  rw [hz]
  exact e
theorem S_app (a b : List Nat) : S a ++ S b = S (a ++ b) := TL.ext_tl (by rw [TL.tl_append]; simp [S, TL.tl])
theorem str_none : ("" : Str) = S [] := by decide +kernel
theorem all_lt : ([97, 98, 99, 100, 101, 102, 103, 104, 105, 106, 107, 108, 109, 110, 111, 112, 113, 114, 115, 116, 117, 118, 119, 120, 121, 122] : List Nat).all lt = true := by decide
theorem all_dg : ([48, 49, 50, 51, 52, 53, 54, 55, 56, 57] : List Nat).all dg = true := by decide
def Ones (p D : Addr) (H2 : Hp) (c : Nat) (t : Nat → Bool) (i : Nat) (H' : Hp) : Prop := ∃ rs : List Nat, rs.length = i ∧ rs.all t = true ∧ H' D = some (.lst (onesV rs)) ∧ Keep p H2 H' ∧ Pool H' p (c + i)
theorem Ones.next {p D : Addr} {H2 H' H'' : Hp} {c i n : Nat} {t : Nat → Bool} (O : Ones p D H2 c t i H') (hD : H2 D = none) (hDp : D ≠ p) (hk : Keep p H' H'') (hp : Pool H'' p (c + i + 1)) {d : Nat} (hd : t d = true) (hi : i < n) (hn : n ≤ 1000) :
    ∃ acc, H'' D = some (.lst acc) ∧ acc.length < sizeLine ∧ Ones p D H2 c t (i + 1) (upd H'' D (.lst (acc ++ [V.str ⟨#[d]⟩]))) := by
  obtain ⟨rs, h1, h2, h3, h4, h5⟩ := O
  refine ⟨onesV rs, hk _ _ hDp h3, ?_, rs ++ [d], by simp [h1], by simp [h2, hd], ?_, ?_, ?_⟩
  · unfold onesV
    rw [List.length_map, h1]
    exact Nat.lt_of_lt_of_le hi (Nat.le_trans hn (by decide))
  · rw [upd_same]
    exact congrArg (fun x => some (HO.lst x)) (onesV_add rs d)
  · intro b o n e
    rw [upd_ne (ne_of_none e hD)]
    exact hk b o n (h4 b o n e)
  · exact hp.other (Ne.symm hDp)
theorem cps_lits : ("abcdefghijklmnopqrstuvwxyz" : Str).cps.toList = [97, 98, 99, 100, 101, 102, 103, 104, 105, 106, 107, 108, 109, 110, 111, 112, 113, 114, 115, 116, 117, 118, 119, 120, 121, 122] := by decide +kernel
theorem eq_noneB (r : List Nat) : decide (V.str (S r) = V.str ("" : Str)) = decide (r = []) := by
  rw [eq_strB, str_none]
  by_cases h : r = []
  · rw [h]; simp
  · rw [decide_eq_false h]
    exact decide_eq_false fun z => h (S_inj z)
theorem lst_short {ts : List (List Nat)} {n : Nat} (h : ts.length ≤ n) (hn : n ≤ 1000000) : (lstS ts).length < sizeLine := by
  unfold lstS
  rw [List.length_map]
  exact Nat.lt_of_le_of_lt (Nat.le_trans h hn) (by decide)
theorem pool_ne {H' : Hp} {p D : Addr} {n : Nat} (a : Pool H' p n) (h : H' D = none) : D ≠ p := by
  obtain ⟨_, _, _, e, _⟩ := a
  exact Ne.symm (ne_of_none e h)
theorem Keep.free {p D : Addr} {H H1 : Hp} (k : Keep p H H1) (n : D ≠ p) (h : H1 D = none) : H D = none := by
  cases e : H D with
  | none => rfl
  | some o =>
    rw [k D o n e] at h
    cases h
theorem Same.keep {p : Addr} {H H1 : Hp} (s : Same H H1) : Keep p H H1 := fun b o _ e => s b o e
theorem Pool.same {H H1 : Hp} {p : Addr} {c : Nat} (a : Pool H p c) (s : Same H H1) : Pool H1 p c := by
  obtain ⟨g, m, k, h, r⟩ := a
  exact ⟨g, m, k, s _ _ h, r⟩
theorem lst_at {rs : List (List Nat)} {i : Nat} {y : V} (h : (lstS rs)[i]? = some y) : ∃ r, rs[i]? = some r ∧ y = V.str (S r) := by
  unfold lstS at h
  rw [List.getElem?_map] at h
  cases e : rs[i]? with
  | none => rw [e] at h; cases h
  | some r => rw [e] at h; exact ⟨r, rfl, (Option.some.inj h).symm⟩
theorem Same.free {H H1 : Hp} {T' : Addr} (s : Same H H1) (h : H1 T' = none) : H T' = none := by
  cases e : H T' with
  | none => rfl
  | some o =>
    rw [s _ _ e] at h
    cases h
theorem Keep.same {p : Addr} {H H1 H2 : Hp} (k : Keep p H1 H2) (s : Same H H1) (hp : H p = none) : Same H H2 := fun b o e => k b o (ne_of_none e hp) (s b o e)
end K5S

namespace L2
open PySem PySem.Spec PyProof.Rows
/-- one way of walking or another -/
theorem pi_or {X : Cx} {tg l : Expr} {t1 t2 : TI} (h1 : PI X tg l t1) (h2 : PI X tg l t2) : PI X tg l (fun σ H R => t1 σ H R ∨ t2 σ H R) :=
  ⟨fun pins s σ H R I h => h.elim (h1.run pins s σ H R I) (h2.run pins s σ H R I)⟩
end L2
namespace K5
open PySem L2
/-- a def of the program that lets no error out, with all that its call asks -/
abbrev Fn (P : Program) (w : World) (K : PySem.W.Frag) (mg : Str → Option Value) (base : Heap) (n : Nat) (x : Str) (ps : List Str) (sp : Sp) : Prop :=
  ∃ f fd, PySem.W.keepIn K (.ref f) = true ∧ FnOk P w K mg base CX0 n f fd ps sp ∧ Binds K fd ps [] ∧ mg x = some (.ref f)
theorem pe_fn {X : Cx} {n : Nat} {x : Str} {ps : List Str} {sp : Sp} {p pos : Pos} {e : Expr} {es : List Expr} {t : TA} (F : Fn X.prog X.w X.K X.mg X.base n x ps sp) (hr : Room n X.A) (hg : Gl X x) (ha : PA X (e :: es) t)
    (hdb : (x == ("__debug__" : Str)) = false := by decide) (he : starEach (e :: es) X.env = (false, eval e X.env) :: starEach es X.env := by rfl) (hpl : (backTo pos (starEach es X.env)).any (·.1) = false := by rfl) :
    PE X (.Call (.Name x p) (e :: es) [] pos) (tCall sp [] (fun _ _ _ => False) t) := by
  obtain ⟨f, fd, k, G, b, m⟩ := F
  exact pe_call G hr hg m k b .nil pass0 ha hdb he hpl
/-- the text that data are -/
def strD : PyData → Option Str
  | .str z => some z
  | _ => none
def inD (ws : List Str) (d : PyData) : Bool := (strD d).elim false fun z => decide (z ∈ ws)
def isNone : PyData → Bool
  | .none => true
  | _ => false
/-- the members of a list or a tuple -/
def seqD : PyData → Option (List PyData)
  | .list ds => some ds
  | .tuple ds => some ds
  | _ => none
theorem dp_thing {K : PySem.W.Frag} {H : Hp} {v : V} {d : PyData} (h : Dp K H v d) : Thing K H v (strD d) := by
  cases h with
  | str x => exact .inl ⟨x, rfl, rfl⟩
  | non => exact .inr ⟨rfl, _, .base .non, kit_ty (by decide +kernel)⟩
  | bl b => exact .inr ⟨rfl, _, .base (.bl b), kit_ty (by decide +kernel)⟩
  | int i => exact .inr ⟨rfl, _, .base (.int i), kit_ty (by decide +kernel)⟩
  | lst h1 _ =>
    rcases h1 with (h1 | ⟨o, h1⟩) | ⟨o, its, n, h1, h2, _⟩
    · exact .inr ⟨rfl, _, .base (.lst h1), kit_ty (by decide +kernel)⟩
    · exact .inr ⟨rfl, _, .base (.frz h1), kit_ty (by decide +kernel)⟩
    · exact .inr ⟨rfl, _, .kList h1 h2, kit_ty (by decide +kernel)⟩
  | tup h1 _ =>
    rcases h1 with (h1 | ⟨o, h1⟩) | ⟨o, its, n, h1, h2, _⟩
    · exact .inr ⟨rfl, _, .base (.tup h1), kit_ty (by decide +kernel)⟩
    · exact .inr ⟨rfl, _, .fTuple h1, kit_ty (by decide +kernel)⟩
    · exact .inr ⟨rfl, _, .kTuple h1 h2, kit_ty (by decide +kernel)⟩
theorem sql_ty {K : PySem.W.Frag} {H : Hp} {a : Addr} {xs : List V} (h : SqL K H a xs) : TyX K H (.ref a) (.type "list") := by
  rcases h with (h1 | ⟨o, h1⟩) | ⟨o, its, n, h1, h2, _⟩
  · exact .base (.lst h1)
  · exact .base (.frz h1)
  · exact .kList h1 h2
theorem sqt_ty {K : PySem.W.Frag} {H : Hp} {a : Addr} {xs : List V} (h : SqT K H a xs) : TyX K H (.ref a) (.type "tuple") := by
  rcases h with (h1 | ⟨o, h1⟩) | ⟨o, its, n, h1, h2, _⟩
  · exact .base (.tup h1)
  · exact .fTuple h1
  · exact .kTuple h1 h2
/-- the class of data -/
def tyD : PyData → String
  | .none => "NoneType"
  | .bool _ => "bool"
  | .int _ => "int"
  | .str _ => "str"
  | .list _ => "list"
  | .tuple _ => "tuple"
  | .dict _ => "dict"
theorem dp_ty {K : PySem.W.Frag} {H : Hp} {v : V} {d : PyData} (h : Dp K H v d) : TyX K H v (.type (tyD d)) := by
  cases h with
  | str x => exact .base (.str x)
  | non => exact .base .non
  | bl b => exact .base (.bl b)
  | int i => exact .base (.int i)
  | lst h1 _ => exact sql_ty h1
  | tup h1 _ => exact sqt_ty h1
def isStr : PyData → Bool
  | .str _ => true
  | _ => false
def isTup : PyData → Bool
  | .tuple _ => true
  | _ => false
def isI : PyData → Bool
  | .int _ => true
  | .bool _ => true
  | _ => false
def isB : PyData → Bool
  | .bool _ => true
  | _ => false
theorem kit_str {K : PySem.W.Frag} {H : Hp} {v : V} {d : PyData} (h : Dp K H v d) : PySem.W.kitOne K (.type (tyD d)) (.type "str") = some (isStr d) := by
  cases h with
  | str x => exact kit_ty (show kitB "str" "str" = some true by decide +kernel)
  | non => exact kit_ty (show kitB "NoneType" "str" = some false by decide +kernel)
  | bl b => exact kit_ty (show kitB "bool" "str" = some false by decide +kernel)
  | int i => exact kit_ty (show kitB "int" "str" = some false by decide +kernel)
  | lst h1 _ => exact kit_ty (show kitB "list" "str" = some false by decide +kernel)
  | tup h1 _ => exact kit_ty (show kitB "tuple" "str" = some false by decide +kernel)
theorem kit_tup {K : PySem.W.Frag} {H : Hp} {v : V} {d : PyData} (h : Dp K H v d) : PySem.W.kitOne K (.type (tyD d)) (.type "tuple") = some (isTup d) := by
  cases h with
  | str x => exact kit_ty (show kitB "str" "tuple" = some false by decide +kernel)
  | non => exact kit_ty (show kitB "NoneType" "tuple" = some false by decide +kernel)
  | bl b => exact kit_ty (show kitB "bool" "tuple" = some false by decide +kernel)
  | int i => exact kit_ty (show kitB "int" "tuple" = some false by decide +kernel)
  | lst h1 _ => exact kit_ty (show kitB "list" "tuple" = some false by decide +kernel)
  | tup h1 _ => exact kit_ty (show kitB "tuple" "tuple" = some true by decide +kernel)
theorem kit_int {K : PySem.W.Frag} {H : Hp} {v : V} {d : PyData} (h : Dp K H v d) : PySem.W.kitOne K (.type (tyD d)) (.type "int") = some (isI d) := by
  cases h with
  | str x => exact kit_ty (show kitB "str" "int" = some false by decide +kernel)
  | non => exact kit_ty (show kitB "NoneType" "int" = some false by decide +kernel)
  | bl b => exact kit_ty (show kitB "bool" "int" = some true by decide +kernel)
  | int i => exact kit_ty (show kitB "int" "int" = some true by decide +kernel)
  | lst h1 _ => exact kit_ty (show kitB "list" "int" = some false by decide +kernel)
  | tup h1 _ => exact kit_ty (show kitB "tuple" "int" = some false by decide +kernel)
theorem kit_bool {K : PySem.W.Frag} {H : Hp} {v : V} {d : PyData} (h : Dp K H v d) : PySem.W.kitOne K (.type (tyD d)) (.type "bool") = some (isB d) := by
  cases h with
  | str x => exact kit_ty (show kitB "str" "bool" = some false by decide +kernel)
  | non => exact kit_ty (show kitB "NoneType" "bool" = some false by decide +kernel)
  | bl b => exact kit_ty (show kitB "bool" "bool" = some true by decide +kernel)
  | int i => exact kit_ty (show kitB "int" "bool" = some false by decide +kernel)
  | lst h1 _ => exact kit_ty (show kitB "list" "bool" = some false by decide +kernel)
  | tup h1 _ => exact kit_ty (show kitB "tuple" "bool" = some false by decide +kernel)
/-- data of texts alone are texts -/
theorem all_texts {K : PySem.W.Frag} {H : Hp} : ∀ {ds : List PyData} {vs : List V}, DpAll K H vs ds → (∀ d ∈ ds, isStr d = true) → vs = (ds.filterMap strD).map V.str ∧ (ds.filterMap strD).length = ds.length
  | [], _, h, _ => by
    cases h
    exact ⟨rfl, rfl⟩
  | d :: ds, _, h, e => by
    cases h with
    | cons h1 h2 =>
      obtain ⟨i1, i2⟩ := all_texts h2 fun x hx => e x (List.mem_cons_of_mem _ hx)
      have e := e d List.mem_cons_self
      cases h1 with
      | str x =>
        rw [i1]
        exact ⟨rfl, congrArg (· + 1) i2⟩
      | non => cases e
      | bl b => cases e
      | int i => cases e
      | lst _ _ => cases e
      | tup _ _ => cases e
theorem kit_seq {K : PySem.W.Frag} {t : String} {b1 b2 : Bool} (h1 : kitB t "tuple" = some b1) (h2 : kitB t "list" = some b2) : PySem.W.kitAny K (.type t) [.type "tuple", .type "list"] = some (b1 || b2) := by
  refine kitAny_cons (kit_ty h1) (fun e => ?_) (fun e => by rw [e]; rfl)
  rw [e, Bool.false_or]
  refine kitAny_cons (kit_ty h2) (fun e => ?_) (fun e => e)
  rw [e]
  rfl
/-- a list or a tuple, with its data -/
def RowD (K : PySem.W.Frag) (H : Hp) (a : Addr) (xs : List V) (d : PyData) (ds : List PyData) : Prop := (SqL K H a xs ∧ d = .list ds) ∨ (SqT K H a xs ∧ d = .tuple ds)
theorem seq_or {K : PySem.W.Frag} {H : Hp} {v : V} {d : PyData} (h : Dp K H v d) : (∃ a xs ds, v = .ref a ∧ DpAll K H xs ds ∧ RowD K H a xs d ds) ∨ (seqD d = none ∧ ∃ t, (∀ H', TyX K H' v (.type t)) ∧ kitB t "tuple" = some false ∧ kitB t "list" = some false) := by
  cases h with
  | str x => exact .inr ⟨rfl, _, fun _ => .base (.str x), by decide +kernel, by decide +kernel⟩
  | non => exact .inr ⟨rfl, _, fun _ => .base .non, by decide +kernel, by decide +kernel⟩
  | bl b => exact .inr ⟨rfl, _, fun _ => .base (.bl b), by decide +kernel, by decide +kernel⟩
  | int i => exact .inr ⟨rfl, _, fun _ => .base (.int i), by decide +kernel, by decide +kernel⟩
  | lst h1 h2 => exact .inl ⟨_, _, _, rfl, h2, .inl ⟨h1, rfl⟩⟩
  | tup h1 h2 => exact .inl ⟨_, _, _, rfl, h2, .inr ⟨h1, rfl⟩⟩
theorem RowD.seq {K : PySem.W.Frag} {H : Hp} {a : Addr} {xs : List V} {d : PyData} {ds : List PyData} (h : RowD K H a xs d ds) : seqD d = some ds := by
  rcases h with ⟨_, rfl⟩ | ⟨_, rfl⟩ <;> rfl
theorem RowD.ty {K : PySem.W.Frag} {H : Hp} {a : Addr} {xs : List V} {d : PyData} {ds : List PyData} (h : RowD K H a xs d ds) : ∃ t, TyX K H (.ref a) t ∧ PySem.W.kitAny K t [.type "tuple", .type "list"] = some true := by
  rcases h with ⟨h, _⟩ | ⟨h, _⟩
  · exact ⟨_, sql_ty h, kit_seq (b1 := false) (b2 := true) (by decide +kernel) (by decide +kernel)⟩
  · exact ⟨_, sqt_ty h, kit_seq (b1 := true) (b2 := false) (by decide +kernel) (by decide +kernel)⟩
theorem RowD.same {K : PySem.W.Frag} {H H' : Hp} {a : Addr} {xs : List V} {d : PyData} {ds : List PyData} (h : RowD K H a xs d ds) (s : Same H H') : RowD K H' a xs d ds := by
  rcases h with ⟨h, e⟩ | ⟨h, e⟩
  · exact .inl ⟨s.seq h, e⟩
  · exact .inr ⟨SqT.ext h s, e⟩
theorem RowD.len {K : PySem.W.Frag} {H : Hp} {a : Addr} {xs : List V} {d : PyData} {ds : List PyData} (h : RowD K H a xs d ds) : LenV K (.ref a) H xs.length := by
  rcases h with ⟨h, _⟩ | ⟨h, _⟩
  · exact .inl ⟨_, h, rfl⟩
  · exact .inr ⟨_, h, rfl⟩
theorem RowD.or {K : PySem.W.Frag} {H : Hp} {a : Addr} {xs : List V} {d : PyData} {ds : List PyData} (h : RowD K H a xs d ds) : SqL K H a xs ∨ SqT K H a xs := by
  rcases h with ⟨h, _⟩ | ⟨h, _⟩
  · exact .inl h
  · exact .inr h
theorem DpAll.at2 {K : PySem.W.Frag} {H : Hp} : ∀ {ds : List PyData} {vs : List V} {k : Nat} {v : V}, DpAll K H vs ds → vs[k]? = some v → ∃ d, ds[k]? = some d ∧ Dp K H v d
  | [], _, _, _, h, e => by
    cases h
    cases e
  | d :: ds, _, 0, _, h, e => by
    cases h with
    | cons h1 h2 => exact ⟨d, rfl, (Option.some.inj e) ▸ h1⟩
  | d :: ds, _, k + 1, _, h, e => by
    cases h with
    | cons h1 h2 => exact DpAll.at2 (ds := ds) (k := k) h2 e
/-- at a stands a tuple of texts of the written part -/
def TupW (K : PySem.W.Frag) (a : Addr) (ws : List Str) : Prop := ∃ (o : Obj) (its : Array Value) (n : Nat), K.lookup a = some o ∧ o.cls = .type "tuple" ∧ o.data = .seq its n ∧ its.size ≤ sizeLine ∧ Vals (ws.map V.str) its.toList
theorem TupW.sq {K : PySem.W.Frag} {a : Addr} {ws : List Str} (h : TupW K a ws) (H : Hp) : SqT K H a (ws.map V.str) := .inr h
/-! what the program says of data -/
def lenD : PyData → Bool
  | .str z => decide (z.length ≤ 400) && PyData.strOk z
  | _ => true
def fine (d : PyData) : Bool := lenD d && (seqD d).elim true fun ds => decide (ds.length ≤ 400) && ds.all lenD
theorem lenD_len {z : Str} (h : lenD (.str z) = true) : z.length ≤ 400 := of_decide_eq_true (Bool.and_eq_true_iff.mp h).1
theorem lenD_ok {z : Str} (h : lenD (.str z) = true) : PyData.strOk z = true := (Bool.and_eq_true_iff.mp h).2
theorem lenD_of {z : Str} (h : z.length ≤ 400) (k : PyData.strOk z = true) : lenD (.str z) = true := Bool.and_eq_true_iff.mpr ⟨decide_eq_true h, k⟩
theorem strOk_app (a b : Str) : PyData.strOk (a ++ b) = (PyData.strOk a && PyData.strOk b) := by
  unfold PyData.strOk
  rw [← Array.all_toList, ← Array.all_toList, ← Array.all_toList]
  have e : (a ++ b).cps.toList = a.cps.toList ++ b.cps.toList := TL.tl_append a b
  rw [e, List.all_append]
theorem fine_len {d : PyData} (h : fine d = true) : lenD d = true := (Bool.and_eq_true_iff.mp h).1
theorem fine_seq {d : PyData} {ds : List PyData} (h : fine d = true) (e : seqD d = some ds) : ds.length ≤ 400 ∧ ∀ x ∈ ds, lenD x = true := by
  have h := (Bool.and_eq_true_iff.mp h).2
  rw [e] at h
  have h := Bool.and_eq_true_iff.mp h
  exact ⟨of_decide_eq_true h.1, fun x hx => List.all_eq_true.mp h.2 x hx⟩
def cLetters : Str := "abcdefghijklmnopqrstuvwxyz"
def inAll (z cs : Str) : Bool := decide (1 ≤ z.length) && decide (z.length ≤ 12) && z.cps.toList.all fun c => decide (c ∈ cs.cps.toList)
def wordD (d : PyData) : Bool := (strD d).elim false fun z => inAll z cLetters
def pairB (z : Str) : Bool := decide ((Txt.partition z " ").2.1 = " ") && (inAll (Txt.partition z " ").1 cLetters && inAll (Txt.partition z " ").2.2 cLetters)
def pairD (d : PyData) : Bool := (strD d).elim false pairB
def itemD (d : PyData) : Bool := wordD d || pairD d
def intD : PyData → Bool
  | .int _ => true
  | _ => false
def numD : PyData → Bool
  | .int i => decide (0 ≤ i) && decide (i < 1000000000000)
  | _ => false
def listD : PyData → Bool
  | .tuple ds => ds.all itemD
  | _ => false
def valueD (d : PyData) : Bool := isNone d || (wordD d || (numD d || listD d))
def textsD (d : PyData) : List Str := ((seqD d).getD []).filterMap strD
def areW (m : Nat) (d : PyData) : Bool := (seqD d).elim false fun ds => decide (ds.length ≤ m) && (ds.all wordD && decide (ds.filterMap strD).Nodup)
def fitsK (k : Str) (ws : List Str) (d : PyData) : Bool := if k = "choice" then inD ws d else if k = "word" then wordD d else if k = "number" then numD d else listD d
def smallD : PyData → Bool
  | .int i => decide (i < 1000000000)
  | .tuple ds => decide (ds.length ≤ 8) && ds.all wordD
  | _ => true
theorem wordD_str {d : PyData} (h : wordD d = true) : isStr d = true := by
  cases d <;> first | rfl | cases h
def spL (K : PySem.W.Frag) (g : PyData → Bool) : Sp := fun vs H Q _ => ∃ (v : V) (d : PyData), vs = [v] ∧ Dp K H v d ∧ lenD d = true ∧ ∀ H', Same H H' → Q (.bl (g d)) H'
def spF (K : PySem.W.Frag) (g : PyData → Bool) : Sp := fun vs H Q _ => ∃ (v : V) (d : PyData), vs = [v] ∧ Dp K H v d ∧ fine d = true ∧ ∀ H', Same H H' → Q (.bl (g d)) H'
/-- the constants -/
structure Mod (mg : Str → Option Value) : Prop extends K5.Bare mg where
  letters : ∃ t, mg "LETTERS" = some (.str cLetters t)
  longest : ∃ t, mg "LONGEST" = some (.int 12 t)
  numbers : ∃ t, mg "NUMBERS" = some (.int 1000000000000 t)
theorem cps_at {z : Str} {i : Nat} {c : Nat} (h : z.cps[i]? = some c) : z.cps.toList[i]? = some c := by simpa using h
theorem str_len (z : Str) : z.cps.toList.length = z.length := by simp [Str.length]
end K5

namespace K5
open PySem L2 K5S
abbrev sLook : Stmt := top 23
def txtD : PyData → Option Str
  | .str z => some z
  | _ => none
/-- a part of a look, or of what is none: no tuple, no list -/
def partE : PyData → Prop
  | .str z => z.length ≤ sizeLine
  | .list _ => False
  | .tuple _ => False
  | .dict _ => False
  | _ => True
theorem thing_of {K : PySem.W.Frag} {H : Hp} {v : V} {d : PyData} (h : Dp K H v d) (e : partE d) : K5S.Thing K H v (txtD d) := by
  have kt := kit_str h
  cases h with
  | str x => exact .inl ⟨x, rfl, rfl, e⟩
  | non => exact .inr ⟨rfl, _, .non, kt⟩
  | bl b => exact .inr ⟨rfl, _, .bl b, kt⟩
  | int i => exact .inr ⟨rfl, _, .int i, kt⟩
  | lst h1 h2 => exact e.elim
  | tup h1 h2 => exact e.elim
def tokB (z : Str) : Bool := decide (sortV z ≠ .non)
def tokD (d : PyData) : Bool := (txtD d).elim false tokB
/-- a pair of unlike tokens -/
def lookD : PyData → Bool
  | .tuple [a, b] => tokD a && (tokD b && decide (txtD a ≠ txtD b))
  | _ => false
theorem sort_none {d : PyData} : decide ((txtD d).elim .non sortV = V.non) = !tokD d := by
  unfold tokD
  cases txtD d with
  | none => rfl
  | some z =>
    show decide (sortV z = V.non) = !decide (sortV z ≠ V.non)
    by_cases h : sortV z = V.non
    · rw [decide_eq_true h, decide_eq_false (fun n => n h)]; rfl
    · rw [decide_eq_false h, decide_eq_true h]; rfl
theorem tok_str {K : PySem.W.Frag} {H : Hp} {v : V} {d : PyData} (h : Dp K H v d) (t : tokD d = true) : ∃ z, d = .str z ∧ v = .str z := by
  cases h with
  | str x => exact ⟨x, rfl, rfl⟩
  | non => cases t
  | bl b => cases t
  | int i => cases t
  | lst h1 h2 => cases t
  | tup h1 h2 => cases t
theorem look_len {ds : List PyData} (h : ds.length ≠ 2) : lookD (.tuple ds) = false := by
  match ds, h with
  | [], _ => rfl
  | [_], _ => rfl
  | [_, _], h => exact absurd rfl h
  | _ :: _ :: _ :: _, _ => rfl
def spLook (K : PySem.W.Frag) : Sp := fun vs H Q _ => ∃ (v : V) (d : PyData), vs = [v] ∧ Dp K H v d ∧ (∀ ds, d = .tuple ds → ∀ e ∈ ds, partE e) ∧ ∀ H', Same H H' → Q (.bl (lookD d)) H'
section
variable {P : Program} {w : World} {K : PySem.W.Frag} {mg : Str → Option Value} {base : Heap} {aS : Addr}
theorem scLook : FnScope ["thing"] ["thing"] (defScope sLook) := ⟨rfl, rfl, rfl, by decide +kernel, rfl, by decide +kernel, by decide +kernel⟩
theorem ok_look {f : Addr} {fd : FuncData} (F : Fun K "is_look" "is_look" sLook f fd) (T : Bare mg) (GS : Fn P w K mg base 3 "sort_of" ["thing"] (spSort K)) : FnOk P w K mg base CX0 4 f fd ["thing"] (spLook K) := by
  refine F.ok scLook (fun vs H Q E h => ?_) (fun cdv A outer s0 H vs Q E hr h => ?_)
  · obtain ⟨v, d, rfl, _⟩ := h
    rfl
  · obtain ⟨v, d, rfl, hd, pe, q⟩ := h
    have hr3 : Room 3 _ := hr
    refine ⟨_, (C8.pss_cut (ps_if (PW.pt (pw_or (pt_not (pt_val (pe_callB call_isi (by rfl) T.isi (by decide +kernel) (pa_cons (pv 0) (pa_cons (pe_bltn (v := .ty "tuple") (by rfl) T.tuple (by decide +kernel) rfl) pa_nil))))) (pw_or1 (pt_cmpR op_ne (pe_callB call_len_seq (by rfl) T.len PySem.boot_len (pa_cons (pv 0) pa_nil)) pe_int (nomark _))))) (pss_one (ps_ret pe_bl)) pss_nil)
        (C8.pss_cut (ps_if (PW.pt (pw_or (pt_cmpR op_isN1 (pe_fn GS hr3 rfl (pa_cons (pe_ix (show IxR _ (rIxT K) from ix_tup) (pv 0) pe_int (fun _ _ => rfl)) pa_nil)) pe_non (nomark _)) (pw_or1 (pt_cmpR op_isN1 (pe_fn GS hr3 rfl (pa_cons (pe_ix (show IxR _ (rIxT K) from ix_tup) (pv 0) pe_int (fun _ _ => rfl)) pa_nil)) pe_non (nomark _))))) (pss_one (ps_ret pe_bl)) pss_nil)
        (pss_one (ps_ret (pe_cmpR op_ne (pe_ix (show IxR _ (rIxT K) from ix_tup) (pv 0) pe_int (fun _ _ => rfl)) (pe_ix (show IxR _ (rIxT K) from ix_tup) (pv 0) pe_int (fun _ _ => rfl)) (nomark _)))))), ?_⟩
    -- a tuple of two
    refine ⟨fun σ H' => ∃ a x y dx dy, σ = [some v] ∧ H' = H ∧ d = .tuple [dx, dy] ∧ v = .ref a ∧ SqT K H a [x, y] ∧ Dp K H x dx ∧ Dp K H y dy, ?_, ?_⟩
    · refine ⟨_, rfl, v, .ty "tuple", _, .type "tuple", isTup d, rfl, .ty "tuple", dp_ty hd, kit_tup hd, _, rfl, ?_⟩
      show if (!isTup d) = true then _ else _
      cases hd with
      | str x => exact iteT (iteT (q _ (Same.refl _)))
      | non => exact iteT (iteT (q _ (Same.refl _)))
      | bl b => exact iteT (iteT (q _ (Same.refl _)))
      | int i => exact iteT (iteT (q _ (Same.refl _)))
      | lst h1 h2 => exact iteT (iteT (q _ (Same.refl _)))
      | @tup a xs ds h1 h2 =>
        refine iteF ⟨_, rfl, a, xs, rfl, .inr h1, rfl, _, rfl, ?_⟩
        have le := DpAll.len h2
        show if (!decide (V.int (xs.length : Nat) = V.int 2)) = true then _ else _
        by_cases l2 : xs.length = 2
        · match xs, ds, l2, le, h1, h2 with
          | [x, y], [dx, dy], _, _, h1, h2 =>
            cases h2 with
            | cons a1 h2 =>
            cases h2 with
            | cons a2 h2 =>
            refine iteF ⟨a, x, y, dx, dy, rfl, rfl, rfl, rfl, h1, a1, a2⟩
        · rw [decide_eq_false (fun e => l2 (by have := V.int.inj e; omega))]
          have e := look_len (ds := ds) (by omega)
          rw [e] at q
          exact iteT (q _ (Same.refl _))
    rintro σ H0 ⟨a, x, y, dx, dy, rfl, rfl, rfl, rfl, ha, hx, hy⟩
    have px : partE dx := pe _ rfl dx List.mem_cons_self
    have py : partE dy := pe _ rfl dy (List.mem_cons_of_mem _ List.mem_cons_self)
    have q : ∀ H', Same H0 H' → Q (.bl (tokD dx && (tokD dy && decide (txtD dx ≠ txtD dy)))) H' := q
    -- of tokens
    refine ⟨fun σ H' => σ = [some (.ref a)] ∧ Same H0 H' ∧ tokD dx = true ∧ tokD dy = true, ?_, ?_⟩
    · refine ⟨_, rfl, a, _, 0, x, rfl, rfl, ha, rfl, x, txtD dx, rfl, thing_of hx px, fun H1 s1 => ⟨rfl, _, rfl, ?_⟩⟩
      rw [sort_none]
      cases t1 : tokD dx with
      | false =>
        rw [t1] at q
        exact iteT (iteT (q _ s1))
      | true =>
        refine iteF ⟨_, rfl, a, _, 1, y, rfl, rfl, SqT.ext ha s1, rfl, y, txtD dy, rfl, thing_of (dp_same s1 _ hy) py, fun H2 s2 => ⟨rfl, _, rfl, ?_⟩⟩
        rw [sort_none]
        cases t2 : tokD dy with
        | false =>
          rw [t1, t2] at q
          exact iteT (q _ (s1.trans s2))
        | true => exact iteF ⟨rfl, s1.trans s2, rfl, rfl⟩
    rintro σ H1 ⟨rfl, s1, t1, t2⟩
    obtain ⟨z1, rfl, rfl⟩ := tok_str hx t1
    obtain ⟨z2, rfl, rfl⟩ := tok_str hy t2
    have ha1 := SqT.ext ha s1
    refine ⟨_, rfl, a, _, 0, _, rfl, rfl, ha1, rfl, _, rfl, a, _, 1, _, rfl, rfl, ha1, rfl, rfl, ?_⟩
    have q := q _ s1
    rw [t1, t2] at q
    show Q (.bl (!decide (V.str z1 = V.str z2))) H1
    rw [eq_strB]
    have e : (!decide (z1 = z2)) = (true && (true && decide (txtD (.str z1) ≠ txtD (.str z2)))) := by
      show (!decide (z1 = z2)) = decide (some z1 ≠ some z2)
      by_cases h : z1 = z2
      · rw [decide_eq_true h, decide_eq_false (show ¬ (some z1 ≠ some z2) from fun n => n (by rw [h]))]; rfl
      · rw [decide_eq_false h, decide_eq_true (show some z1 ≠ some z2 from fun n => h (Option.some.inj n))]; rfl
    rw [e]
    exact q
end
end K5

/-! rules that hold for every program: a binary operator by an own method; `in` by an own __contains__ -/
namespace L2
open PySem PySem.Spec PyProof.Rows
section
variable {X : Cx} {CX : CXT} {k : Nat} {f C : Addr} {fd : FuncData} {ps : List Str} {sp : Sp}
/-- what a class must have that this operator of two of its instances is its own method m -/
structure OpO (K : PySem.W.Frag) (C f : Addr) (op : Operator) (m : Str) : Prop where
  dun : PySem.dunder op.info.2 = m
  first : PySem.W.selfFirst K C = true
  at_ : PySem.W.findIn K (.ref C) m = some (some (.ref f))
  fn : PySem.W.isFn K (.ref f) = true
/-- a def called with what is at hand -/
theorem run_own {pins : List (Addr × Obj)} {σ : St} {H : Hp} {s : Shared} {us : List Value} {vs : List V} {Q : VK} {E : XK} (F : FnOk X.prog X.w X.K X.mg X.base CX k f fd ps sp) (hr : Room k X.A) (hb : Binds X.K fd ps []) (hx : PassesAt CX X σ E) (I : Inv X pins σ H s) (r : Vals vs us) (q : sp vs H Q E) :
    codeAny (model X.prog X.w) X.A (.call (.ref f) ⟨us, []⟩) (fun r s' => match r with | .ok (.ret u) => EP X pins σ Q u s' | .ok _ => False | .error e => X.xe e s') s := by
  have hl : us.length = ps.length := by rw [← r.length]; exact F.len _ _ _ _ q
  have b := hb s us I.kIn (by rw [List.append_nil]; exact hl)
  rw [List.append_nil] at b
  refine codeAny_mono (F.run X.A X.stack s H ⟨us, []⟩ us vs Q E hr I.env0 b r q) fun r s' hq => ?_
  cases r with
  | error e => exact hx pins H s e s' I hq
  | ok fl =>
    cases fl with
    | ret u => exact I.after hq
    | next => exact False.elim hq
    | brk => exact False.elim hq
    | cont => exact False.elim hq
def rOpO (C : Addr) (sp : Sp) (E : XK) : R2 := fun x y H Q => ∃ (a b dx dy : Addr) (fs gs : List (Str × V)), x = .ref a ∧ y = .ref b ∧ H a = some (.ins C dx fs) ∧ H b = some (.ins C dy gs) ∧ sp [.ref a, .ref b] H Q E
theorem op_own {op : Operator} {m : Str} {E : XK} (F : FnOk X.prog X.w X.K X.mg X.base CX k f fd ps sp) (hr : Room k X.A) (c : OpO X.K C f op m) (hb : Binds X.K fd ps []) (hx : ∀ σ, PassesAt CX X σ E) : OpR X (binaryOp op) (rOpO C sp E) := by
  intro pins s σ H x y v u Q I rx ry h
  obtain ⟨a, b, dx, dy, fs, gs, rfl, rfl, ha, hb', q⟩ := h
  cases rx
  cases ry
  obtain ⟨mA, J, _⟩ := ins_get I.hok ha
  obtain ⟨od, J, _⟩ := J.look
  obtain ⟨mB, J2, _⟩ := ins_get I.hok hb'
  obtain ⟨od2, J2, _⟩ := J2.look
  obtain ⟨m', hF⟩ := I.fr
  refine PySem.W.binop_K (op := op) hF I.ok.mod.kin J J2.type c.first (by rw [c.dun]; exact c.at_) c.fn ?_
  refine wpAny_call (codeAny_mono (run_own (us := [.ref a, .ref b]) (vs := [.ref a, .ref b]) F hr hb (hx σ) I (.cons rfl (.cons rfl .nil)) q) fun r s' hq => ?_)
  cases r with
  | error e => exact hq
  | ok fl =>
    cases fl with
    | ret w =>
      obtain ⟨z, H', I', rz, q'⟩ := hq
      cases w with
      | notImplemented => exact absurd rz (by cases z <;> (intro q; first | (cases q; done) | (obtain ⟨_, q⟩ := q; cases q; done)))
      | _ => exact ⟨z, H', I', rz, q'⟩
    | next => exact False.elim hq
    | brk => exact False.elim hq
    | cont => exact False.elim hq
/-- what a class must have that `in` is its own -/
structure InO (K : PySem.W.Frag) (C f : Addr) : Prop where
  at_ : PySem.W.findIn K (.ref C) "__contains__" = some (some (.ref f))
  fn : PySem.W.isFn K (.ref f) = true
/-- x in o, by o's own __contains__, which answers a truth value -/
def rInO (C : Addr) (sp : Sp) (E : XK) : R2 := fun x y H Q => ∃ (a dx : Addr) (fs : List (Str × V)), y = .ref a ∧ H a = some (.ins C dx fs) ∧ sp [.ref a, x] H (fun z H' => ∃ b, z = .bl b ∧ Q (.bl b) H') E
theorem op_inO {E : XK} (F : FnOk X.prog X.w X.K X.mg X.base CX k f fd ps sp) (hr : Room k X.A) (c : InO X.K C f) (hb : Binds X.K fd ps []) (hx : ∀ σ, PassesAt CX X σ E) : OpR X (compareOp .In) (rInO C sp E) := by
  intro pins s σ H x y v u Q I rx ry h
  obtain ⟨a, dx, fs, rfl, ha, q⟩ := h
  cases ry
  obtain ⟨mA, J, _⟩ := ins_get I.hok ha
  obtain ⟨od, J, _⟩ := J.look
  obtain ⟨m', hF⟩ := I.fr
  refine PySem.W.in_K hF I.ok.mod.kin J c.at_ c.fn ?_
  refine wpAny_call (codeAny_mono (run_own (us := [.ref a, v]) (vs := [.ref a, x]) F hr hb (hx σ) I (.cons rfl (.cons rx .nil)) q) fun r s' hq => ?_)
  cases r with
  | error e => exact hq
  | ok fl =>
    cases fl with
    | ret w =>
      obtain ⟨z, H', I', rz, b, rfl, q'⟩ := hq
      cases rz
      exact wpAny_truthy_bool ⟨.bl b, H', I', rfl, q'⟩
    | next => exact False.elim hq
    | brk => exact False.elim hq
    | cont => exact False.elim hq
end
end L2

namespace K9E
open PySem PySem.W PySem.Calls PyProof.Rows PySem.HandSPX
/-! ### BadRule and its __init__, which says super().__init__(..) and stores one field -/
def eA (p1 p2 : Pos) : Arguments := { posonlyargs := [], args := [{ arg := "self", annotation := none, pos := p1 }, { arg := "worth", annotation := none, pos := p2 }], vararg := none, kwonlyargs := [], kw_defaults := [], kwarg := none, defaults := [] }
def eB (m : Str) (j : Nat) (o1 o2 o3 o4 o5 o6 q1 q2 q3 q4 : Pos) : List Stmt := [.Expr (.Call (.Attribute (.Call (.Name "super" o1) [] [] o2) "__init__" o3) [.Constant (.str m) j o4] [] o5) o6, .Assign [.Attribute (.Name "self" q1) "worth" q2] (.Name "worth" q3) q4]
def eS : Scope := { kind := .function, names := [(PySem.Str.ofString "self", .local), (PySem.Str.ofString "worth", .local), (PySem.Str.ofString "__class__", .free), (PySem.Str.ofString "super", .globalImplicit)], isGenerator := false, isCoroutine := false, more := [] }
/-- what the written part says of BadRule, at C, of its __init__, at fI, and of that one's cell and code -/
structure ErrTxt (prog : Program) (K : Frag) (mg : Str → Option Value) (C fI : Addr) : Prop where
  gC : mg "BadRule" = some (.ref C)
  cls : ∃ nm q N bs bm sn sub ab col dd k0 k1 k2 k3 k5, K.lookup C = some (excClassObj nm q C N bs bm true sn sub ab col dd k0 k1 k2 k3 k5 "ValueError.__new__") ∧ refsVE bm = true
  sa : findIn K (.ref C) "__setattr__" = some (some (.builtin "object.__setattr__"))
  noN : findIn K (.ref C) "worth" = some none
  iC : findIn K (.ref C) "__init__" = some (some (.ref fI))
  tC : typeIn K (.ref fI) = some (.type "function")
  kC : keepIn K (.ref C) = true
  exC : subIn K (.ref C) (.type "BaseException") = some true
  vaC : subIn K (.ref C) (.type "ValueError") = some true
  tyC : typeIn K (.ref C) = some (.type "type")
  te : exmOne K (.ref C) (.ref C) = some true
  sub : mroIn K C (.ref C) = some true
  sup : ks_superIn K C C "__init__" = some (some (.builtin "ValueError.__init__"))
  tp : nsIn K cStatics "thirdparty.any" = some none
  su : mg "super" = none
  top : (prog.main.scope.names.lookup ("super" : Str)).isSome = false
  fn : ∃ (oc : Value) (od : Option Addr) (doc pm : Value) (an : Option Addr) (cda cc : Addr) (ct : Value) (osl : Array (Option Value)) (m : Str) (j : Nat) (p1 p2 o1 o2 o3 o4 o5 o6 q1 q2 q3 q4 : Pos),
    K.lookup fI = some ⟨oc, od, .func (ksFn "__init__" "BadRule.__init__" (eA p1 p2) (eB m j o1 o2 o3 o4 o5 o6 q1 q2 q3 q4) eS .none .none doc pm an (.ref cda) ct cc), osl⟩ ∧ codeIn K (.ref cda) "BadRule.__init__" = true ∧
    (∃ (ccl : Value) (cdd : Option Addr) (vs : Array Value) (ccs : Array (Option Value)) (file : Str) (tf : Tok), K.lookup cda = some ⟨ccl, cdd, .fields vs, ccs⟩ ∧ vs[2]? = some (.str file tf) ∧ ((prog.main.file : Str) == file) = true) ∧
    (∀ env : Env, ∃ pl : Sem Bool, eval (.Call (.Attribute (.Call (.Name "super" o1) [] [] o2) "__init__" o3) [.Constant (.str m) j o4] [] o5) env = (do
      let ov ← attributeBase (.Call (.Name "super" o1) [] [] o2) "__init__" env (eval (.Call (.Name "super" o1) [] [] o2) env)
      standAt o3.atName
      let (f, first) ← holding [ov] (getMethod ov "__init__" pl)
      callWith o5 f first (backTo o5 (starEach [.Constant (.str m) j o4] env)) [])) ∧
    ∃ (cl : Value) (cld : Option Addr) (csl : Array (Option Value)), K.lookup cc = some ⟨cl, cld, .cell (some (.ref C)), csl⟩
theorem one_len (v : Value) : [v].length ≤ sizeLine := by
  show 1 ≤ sizeLine
  rw [sizeLine_eq]
  decide
/-- what __init__ leaves of a fresh exception at x -/
structure Left (h h' : Heap) (x C dx t1 : Addr) (v : Value) : Prop where
  keep : ∀ b o, b ≠ x → h.get? b = some o → h'.get? b = some o
  obj : h'.get? x = some { cls := .ref C, dict := some dx, data := .fields #[.ref t1, .none, .none, .none, .bool false, .none] }
  dbig : h.objs.size ≤ dx
  dne : dx ≠ x
  ns : h'.Ns1 dx (fun y => if y = "worth" then some v else none)
section
variable {prog : Program} {w : World} {A : Around} {E : Value → Shared → Prop} {R : Result → Shared → Prop} {K : Frag} {mg : Str → Option Value} {C fI : Addr}
/-- the wrapper of ValueError.__init__, bound to a fresh exception, called -/
theorem wrapped {h : Heap} {g : Array GenState} {d : Drawn} {t : Nat} {os : OsState} {nm q : Str} {N : Addr} {bs bm : List Value} {hdct : Bool} {sn : List Str} {sub : List Value} {ab : Bool} {col : Option Bool} {dd : Option Addr} {k0 k1 k2 k3 k5 : Option Value}
    {u e t0 : Addr} {rest : List Value} {Q : Value → Shared → Prop} (hC : h.get? C = some (excClassObj nm q C N bs bm hdct sn sub ab col dd k0 k1 k2 k3 k5 "ValueError.__new__")) (he : h.get? e = some (excO C t0)) (hu : h.get? u = some (kxs_mw "ValueError.__init__" e)) (hz : rest.length ≤ sizeLine)
    (hq : ∀ h' t1, (∀ b o, b ≠ e → h.get? b = some o → h'.get? b = some o) → h'.get? e = some (excO C t1) → Q .none ⟨h', g, d, t, os⟩) :
    wpAny (model prog w) A (PySem.call (.ref u) rest) Q E ⟨h, g, d, t, os⟩ := by
  refine wpAny_call (codeAny_of_tree ?_)
  show wpAny _ A.in1 (callAny (.ref u) ⟨rest, []⟩) _ _ _
  unfold callAny
  refine wpAny_bind (wpAny_load hu ?_)
  have y1 : (Value.type "method-wrapper" == Value.type "method" || Value.type "method-wrapper" == Value.type "builtin_function_or_method" || Value.type "method-wrapper" == Value.type "method-wrapper") = true := by decide
  simp only [kxs_mw, y1, if_true]
  refine KFB.if_so (by decide) ?_
  refine wpAny_bind (check_bound_init F.excBase_ValueError.toExcCallFacts hC he rfl ?_)
  refine wpAny_bind (wpAny_pure (wpAny_pure ?_))
  refine ⟨plainId_quiet F.excBase_ValueError.init.plain _, codeAny_builtin F.excBase_ValueError.initEntry ?_⟩
  exact exc_init_tree (cls := .ref C) (t0 := t0) (dv := none) (c2 := .none) (c3 := .none) (b4 := .bool false) he hz fun h' k e' _ => hq h' _ k e'
theorem bound_name {env : Env} {s : Shared} {m : Str → Option Value} {y : Str} {pos : Pos} {u : Value} {Q : Value → Shared → Prop} {M : Model} (hn : s.heap.Ns env.locals m) (hv : m y = some u) (h : Q u s)
    (hk : env.scope.kind = .function := by rfl) (hl : env.kindOf y = some .local := by rfl) (hd : (y == ("__debug__" : Str)) = false := by decide) : wpAny M A (eval (.Name y pos) env) Q E s := wpAny_Name (wpAny_loadName_local hk hl hn hv h) hd
theorem err_init (T : ErrTxt prog K mg C fI) {s : Shared} {x t0 : Addr} {v : Value} (X : K.In s.heap) (G : s.heap.Ns mainGlobals mg) (B : ∃ mb, s.heap.Ns builtinsNs mb ∧ mb "super" = bootBuiltins "super") (hlim : s.heap.NoLimit) (hx : s.heap.get? x = some (excO C t0)) (hnx : K.lookup x = none) (hroom : A.depth < recursionLimit)
    (hq : ∀ h' tk dx t1, Left s.heap h' x C dx t1 v → R (.ok (.ret .none)) { s with heap := h', toks := tk }) :
    codeAny (model prog w) A (.call (.ref fI) ⟨[.ref x, v], []⟩) R s := by
  obtain ⟨oc, od, doc, pm, an, cda, cc, ct, osl, msg, j, p1, p2, o1, o2, o3, o4, o5, o6, q1, q2, q3, q4, ho, hcd, ⟨ccl, cdd, vs, ccs, file, tf, hcode, hvs, hfile⟩, hev, cl, cld, csl, hcell⟩ := T.fn
  obtain ⟨nm, q, N, bs, bm, sn, sub, ab, col, dd, k0, k1, k2, k3, k5, hC, hbm⟩ := T.cls
  obtain ⟨mb, hB, hmb⟩ := B
  have hcl : clsIn K C = some { name := nm, bases := bs, mro := .ref C :: bm, ns := N, qualname := q, hasDict := true, slotNames := sn, subclasses := sub, abstract := ab, collection := col, hasDel := false } := by unfold clsIn; rw [hC] <;> rfl
  obtain ⟨hp, g, d, t, os⟩ := s
  refine ks_codeAny_call_defAt (binds := [((PySem.Str.ofString "self"), Value.ref x), ((PySem.Str.ofString "worth"), v)]) hroom (X _ _ ho) rfl hlim (codeRec_of X hcd) rfl (BindsTo.of_eq (by first | rfl | with_unfolding_all rfl)) (show ∀ y ∈ eS.names, y.2 ≠ .cell by decide +kernel) (fun y hy => ?_) (fun h₁ hns k₁ => ?_) rfl rfl rfl
  · have hy' : y = ((PySem.Str.ofString "self"), Value.ref x) ∨ y = ((PySem.Str.ofString "worth"), v) := by simpa using hy
    rcases hy' with e | e <;> rw [e] <;> rfl
  · have X₁ : K.In h₁ := X.keeps k₁
    have hx₁ : h₁.get? x = some (excO C t0) := k₁ _ _ hx
    obtain ⟨pl, hev⟩ := hev (ksEnv "BadRule.__init__" eS hp.objs.size fI (.ref cda) cc)
    refine ks_wpAt_execs_cons (ks_wpAt_Expr_any (ks_wpAt_MethodCall ?_ hev))
    refine ks_wpAt_super_base rfl rfl (by decide +kernel) rfl (X₁ _ _ ho) rfl rfl rfl (X₁ _ _ hcode) rfl hvs hfile T.top ?_
    refine ks_loadName_global rfl rfl (loadGlobal_builtin (G.keeps k₁) T.su (hB.keeps k₁) (hmb.trans PyProof.Rows.Boot.«super») ⟨rfl, ?_⟩)
    refine wpAny_loadName_free rfl rfl rfl ⟨_, X₁ _ _ hcell, rfl⟩ ?_
    refine wpAny_loadName_local (v := .ref x) rfl rfl hns rfl ?_
    have hC₁ := X₁ _ _ hC
    refine ks_wpAny_isType_cls hC₁ rfl ⟨rfl, ?_⟩
    refine ks_wpAny_call_super hC₁ rfl hx₁ rfl (fun c e => by cases e) (looks_mroIn X₁ T.sub) (fun h₂ e₂ k₂ => ?_)
    have X₂ : K.In h₂ := X₁.keeps k₂
    have hx₂ := k₂ _ _ hx₁
    have I₂ : InstAt h₂ x (excO C t0) C none := ⟨hx₂, rfl, rfl, trivial⟩
    have hxC : x ≠ C := fun z => by rw [z, hC] at hnx; cases hnx
    have hsup : alongIn K "__init__" (((Value.ref C :: bm).dropWhile (· != .ref C)).drop 1) = some (some (.builtin "ValueError.__init__")) := by
      have z := T.sup
      unfold ks_superIn at z
      rw [hcl] at z
      exact z
    refine kxs_getMethod kxs_ValueError e₂ (looks_opaque X₂ T.tp) (l₀ := Value.ref C :: bm) ((looks_clsIn X₂ hcl).andThen .now) rfl X₂ hsup (I₂.type.andThen (looks_subIn X₂ T.vaC)) hxC (by decide +kernel) ?_
    have k₃ : ∀ b o, h₂.get? b = some o → (h₂.push (kxs_mw "ValueError.__init__" x)).get? b = some o := fun b o e => Heap.get?_push_of_some _ e
    have hu₃ : (h₂.push (kxs_mw "ValueError.__init__" x)).get? h₂.objs.size = some (kxs_mw "ValueError.__init__" x) := Heap.get?_push_at rfl rfl
    refine kxs_callWith (i := "ValueError.__init__") (x := x) rfl (evalArgs_plain (spliced_cons (Constant_str (k := j) (pos := o4) (spliced_nil ⟨hu₃, ?_⟩))))
    refine wrapped (k₃ _ _ (X₂ _ _ hC)) (k₃ _ _ hx₂) hu₃ (one_len _) fun h₄ t1 k₄ hx₄ => ?_
    have k14 : ∀ b o, b ≠ x → h₁.get? b = some o → h₄.get? b = some o := fun b o n e => k₄ b o n (k₃ _ _ (k₂ _ _ e))
    have hL : hp.objs.size ≠ x := Nat.ne_of_gt (Heap.lt_size hx)
    have hns₄ : h₄.Ns hp.objs.size (fun y => List.lookup y [((PySem.Str.ofString "self"), Value.ref x), ((PySem.Str.ofString "worth"), v)].reverse) := hns.at fun o e => k14 _ _ hL e
    have X₄ : K.In h₄ := fun b o e => k14 b o (fun z => by rw [z, hnx] at e; cases e) (X₁ b o e)
    refine wpAt_of_wpAny (wpAny_execs_cons (plainObj_wpAny_Assign_Attribute ?_))
    refine bound_name (env := ksEnv "BadRule.__init__" eS hp.objs.size fI (.ref cda) cc) hns₄ (u := v) rfl (bound_name (env := ksEnv "BadRule.__init__" eS hp.objs.size fI (.ref cda) cc) hns₄ (u := .ref x) rfl ?_)
    refine set_plain X₄ (ox := excO C t1) (od := none) ⟨hx₄, rfl, rfl, trivial⟩ T.sa ?_
    refine exc_osa X₄ hx₄ hcl (show refsVE (.ref C :: bm) = true from hbm) rfl T.noN (fun h₅ tk₅ dx k₅ dn dne hx₅ hn₅ => ?_)
    show wpAny _ _ (execs _ _) _ _ _
    have hz : hp.objs.size ≤ h₄.objs.size := Nat.le_of_lt hns₄.lt
    exact wpAny_execs_nil (hq h₅ tk₅ dx t1 ⟨fun b o hb e => k₅ b o hb (k14 b o hb (k₁ b o e)), hx₅, Nat.le_trans hz dn, dne, hn₅⟩)
/-- a made BadRule -/
structure Made (h h' : Heap) (e C d : Addr) (v : Value) : Prop where
  keep : ∀ b o, h.get? b = some o → h'.get? b = some o
  new : h.objs.size ≤ e
  obj : ∃ oe vs, h'.get? e = some oe ∧ oe.cls = .ref C ∧ oe.dict = some d ∧ oe.data = .fields vs ∧ vs[1]? = some .none
  dbig : h.objs.size ≤ d
  dne : d ≠ e
  ns : h'.Ns1 d (fun y => if y = "worth" then some v else none)
theorem err_made (T : ErrTxt prog K mg C fI) {s : Shared} {v : Value} (X : K.In s.heap) (G : s.heap.Ns mainGlobals mg) (B : ∃ mb, s.heap.Ns builtinsNs mb ∧ mb "super" = bootBuiltins "super") (hlim : s.heap.NoLimit) (hroom : A.depth + 1 < recursionLimit)
    (hq : ∀ h' tk e d, Made s.heap h' e C d v → R (.ok (.ret (.ref e))) { s with heap := h', toks := tk }) : codeAny (model prog w) A (.call (.ref C) ⟨[v], []⟩) R s := by
  obtain ⟨nm, q, N, bs, bm, sn, sub, ab, col, dd, k0, k1, k2, k3, k5, hC, hbm⟩ := T.cls
  obtain ⟨mb, hB, hmb⟩ := B
  obtain ⟨hp, g, dr, tk, os⟩ := s
  have k : ∀ b o, hp.get? b = some o → ((hp.push (kdv_tup [v])).push (excO C hp.objs.size)).get? b = some o := fun b o e => Heap.get?_push_of_some _ (Heap.get?_push_of_some _ e)
  have hget : ((hp.push (kdv_tup [v])).push (excO C hp.objs.size)).get? (hp.objs.size + 1) = some (excO C hp.objs.size) := by heap_get
  have hnx : K.lookup (hp.objs.size + 1) = none := by
    cases e : K.lookup (hp.objs.size + 1) with
    | none => rfl
    | some o => exact absurd (Nat.lt_of_succ_lt (Heap.lt_size (X _ _ e))) (Nat.lt_irrefl _)
  refine call_own F.excBase_ValueError (fun X => refsVE_contains X bm hbm) (X _ _ hC) (looks_findIn X T.iC) (fun self => bind_fn X self T.tC) (one_len v) ?_
  refine err_init (s := ⟨(hp.push (kdv_tup [v])).push (excO C hp.objs.size), g, dr, tk, os⟩) T (X.keeps k) (G.keeps k) ⟨mb, hB.keeps k, hmb⟩ (hlim.keeps k) hget hnx (show A.depth + 1 < recursionLimit from hroom) fun h' tk' dx t1 L => ?_
  have old : ∀ b o, hp.get? b = some o → h'.get? b = some o := fun b o e => L.keep b o (Nat.ne_of_lt (Nat.lt_succ_of_lt (Heap.lt_size e))) (k b o e)
  have big : hp.objs.size ≤ dx := by
    have z := L.dbig
    rw [Heap.size_push, Heap.size_push] at z
    omega
  exact ⟨rfl, hq h' tk' (hp.objs.size + 1) dx ⟨old, Nat.le_succ _, ⟨_, _, L.obj, rfl, rfl, rfl, rfl⟩, big, L.dne, L.ns⟩⟩
end
end K9E
namespace L2
open PySem PySem.Spec PyProof.Rows K9E
theorem relO_bru {v : V} {v' : Value} (r : RelV v v') (f : Str) : RelO (List.lookup f [(("worth" : Str), v)]) (if f = "worth" then some v' else none) := by
  by_cases hw : f = "worth"
  · rw [if_pos hw, hw]
    have q : List.lookup ("worth" : Str) [(("worth" : Str), v)] = some v := by simp [List.lookup]
    rw [q]
    exact r
  · rw [if_neg hw]
    have qw : (f == ("worth" : Str)) = false := by simpa using hw
    have q2 : List.lookup f [(("worth" : Str), v)] = none := by simp [List.lookup, qw]
    rw [q2]
    trivial
section
variable {X : Cx} {C fI : Addr}
/-- BadRule(e) -/
def tBru (C : Addr) (ta : TA) : St → Hp → XK → Prop := fun σ H Q => ta σ H fun vs H1 => ∃ v, vs = [v] ∧ ∀ d, H1 d = none → Q (.ref C) (some d) (upd H1 d (.xd [(("worth" : Str), v)]))
theorem pmk_bru {a : Expr} {ta : TA} {p pos : Pos} {k : Nat} (T : ErrTxt X.prog X.K X.mg C fI) (hr : Room k X.A) (ha : PA X [a] ta) (hg : Gl X "BadRule" := by rfl)
    (he : starEach (a :: []) X.env = (false, eval a X.env) :: starEach [] X.env := by rfl) (hpl : (backTo pos (starEach [] X.env)).any (·.1) = false := by rfl) :
    PMk X (.Call (.Name "BadRule" p) [a] [] pos) (tBru C ta) := by
  intro pins s σ H Q I h
  refine wpAny_Call_Name_kw (ld_glob I hg T.gC ?_)
  refine PySem.W.callWith_K (h₀ := X.base) I.ok.mod.kin T.kC (thn (ha.run pos pins s σ H _ I h) fun us s1 hh => ?_) he hpl
  obtain ⟨vs, H1, I1, r1, v, ev, q1⟩ := hh
  subst ev
  refine ⟨I1.kIn, ?_⟩
  cases r1 with
  | cons rv rn =>
    rename_i v' us'
    cases rn
    show wpAny _ _ (PySem.call (.ref C) [v']) _ _ _
    have hlim := I1.nolimit
    obtain ⟨mb, hb1, hb2⟩ := I1.mod.blt
    have G1 : s1.heap.Ns mainGlobals X.mg := I1.mod.glob.keeps I1.bk
    have B1 : ∃ mb, s1.heap.Ns builtinsNs mb ∧ mb "super" = bootBuiltins "super" := ⟨mb, hb1.keeps I1.bk, hb2 _ (by decide +kernel)⟩
    obtain ⟨hp, g, dr, tk, os⟩ := s1
    refine wpAny_call (err_made T I1.kIn G1 B1 hlim (by have := hr.dp; omega) fun h' tk' e d M => ?_)
    show MkP X pins σ Q (.ref e) ⟨h', g, dr, tk', os⟩
    obtain ⟨oe, fv, hoe, hc, hd, hdat, h1⟩ := M.obj
    have hns := M.ns
    obtain ⟨G', g1, g2⟩ := restrict h' fun b => decide (b ≠ e)
    have gk : ∀ b, b ≠ e → G'.get? b = h'.get? b := fun b hb => g1 b (decide_eq_true hb)
    have ge : G'.get? e = none := g2 e (by simp)
    have old : ∀ b o, hp.get? b = some o → G'.get? b = some o := fun b o q => (gk b (Nat.ne_of_lt (Nat.lt_of_lt_of_le (Heap.lt_size q) M.new))).trans (M.keep b o q)
    have ob : ObjOk X.prog X.w (upd H1 d (.xd [(("worth" : Str), v)])) G' d (.xd [(("worth" : Str), v)]) :=
      ⟨_, hns.at (fun o q => (gk d M.dne).trans q), fun f => relO_bru rv f⟩
    have J : Inv X pins σ (upd H1 d (.xd [(("worth" : Str), v)])) ⟨G', g, dr, tk', os⟩ := I1.laid (t' := tk') old M.dbig ob
    refine ⟨e, oe, fv, ⟨G', g, dr, tk', os⟩, _, .ref C, some d, rfl, J, fun b o q => ?_, ge, hoe, ⟨hc, hd⟩, hdat, h1, ?_, rfl, I1.bare, raises_own T.exC T.tyC, q1 d (I1.hok.fresh M.dbig)⟩
    · by_cases hb : b = e
      · have q' : G'.get? b = some o := q
        rw [hb, ge] at q'
        cases q'
      · exact (gk b hb).symm.trans q
    · rw [upd_ne (Ne.symm M.dne)]
      exact I1.hok.fresh M.new
/-- raise BadRule(e) -/
theorem ps_raiseBru {a : Expr} {ta : TA} {W : WX} {p pos pos2 : Pos} {k : Nat} (hc : X.calm = true) (T : ErrTxt X.prog X.K X.mg C fI) (hr : Room k X.A) (tk : Takes X W) (ha : PA X [a] ta) (hg : Gl X "BadRule" := by rfl)
    (he : starEach (a :: []) X.env = (false, eval a X.env) :: starEach [] X.env := by rfl) (hpl : (backTo pos (starEach [] X.env)).any (·.1) = false := by rfl) :
    PS X (.Raise (some (.Call (.Name "BadRule" p) [a] [] pos)) none pos2) (fun _ σ H => tBru C ta σ H fun cls d H' => W cls d σ H') := ps_raise hc tk (pmk_bru T hr ha hg he hpl)
end
end L2

namespace L2
open PySem PySem.Spec PyProof.Rows
theorem Room.units5 {k : Nat} {A : Around} (r : Room k A) : A.units + 65 < cLine := by have := r.un; omega
theorem kit_self (K : PySem.W.Frag) (C : Addr) : PySem.W.kitOne K (.ref C) (.ref C) = some true := by
  unfold PySem.W.kitOne
  rw [if_pos (beq_iff_eq.mpr rfl)]
/-- x in a tuple: data of any depth -/
def rInT (K : PySem.W.Frag) : R2 := fun x y H Q => ∃ d ds, Dp K H x d ∧ Dp K H y (.tuple ds) ∧ SeqAt.shaped d = true ∧ SeqAt.shaped (.tuple ds) = true ∧ Q (.bl (ds.any fun z => PyData.eqv z d)) H
theorem op_inT {X : Cx} (hu : X.A.units + 65 < cLine) : OpR X (compareOp .In) (rInT X.K) := by
  intro pins s σ H x y v u Q I rx ry h
  obtain ⟨d, ds, hd, he, sd, se, q⟩ := h
  obtain ⟨as, r1⟩ := Dp.reads I d x v hd rx
  obtain ⟨bs, r2⟩ := Dp.reads I (.tuple ds) y u he ry
  exact SeqAt.in_tuple_reads r2 r1 (SeqAt.canLay_of_shaped se) (SeqAt.canLay_of_shaped sd) (room_in_shaped sd hu) ⟨.bl _, H, I, rfl, q⟩
end L2
namespace K5
open PySem L2
/-! rules of slips: the kinds, the looks, both -/
abbrev cRule : Stmt := top 26
abbrev sREq : Stmt := inClass (top 26) 5
abbrev sRIn : Stmt := inClass (top 26) 6
abbrev sRLen : Stmt := inClass (top 26) 7
abbrev sRWi : Stmt := inClass (top 26) 8
def lkP (p : Str × Str) : PyData := .tuple [.str p.1, .str p.2]
def kiD (ks : List Str) : List PyData := ks.map PyData.str
def loD (ls : List (Str × Str)) : List PyData := ls.map lkP
def paD (ks : List Str) (ls : List (Str × Str)) : List PyData := kiD ks ++ loD ls
/-- what the written part says of the class of rules -/
structure RuleC (K : PySem.W.Frag) (mg : Str → Option Value) (CR : Addr) : Prop where
  cl : Cls K CR
  ki : PySem.W.findIn K (.ref CR) "kinds" = some none
  lo : PySem.W.findIn K (.ref CR) "looks" = some none
  pa : PySem.W.findIn K (.ref CR) "parts" = some none
  gC : mg "SlipRule" = some (.ref CR)
  ha : PySem.W.findIn K (.ref CR) "__class__" = some (some (.builtin "object.__class__"))
  hn : PySem.W.specialIn K (.builtin "object.__class__") "__get__" = some (some (.builtin "getset_descriptor.__get__"))
  htk : PySem.W.takesIn K (.builtin "object.__class__") = some true
  hm : PySem.W.mroIn K CR (.type "object") = some true
def FRu (k l p : V) : List (Str × V) := [(("kinds" : Str), k), (("looks" : Str), l), (("parts" : Str), p)]
theorem fu_ki (k l p : V) : (FRu k l p).lookup ("kinds" : Str) = some k := by kernel_rfl
theorem fu_lo (k l p : V) : (FRu k l p).lookup ("looks" : Str) = some l := by kernel_rfl
theorem fu_pa (k l p : V) : (FRu k l p).lookup ("parts" : Str) = some p := by kernel_rfl
/-- at x a rule of these kinds and looks -/
def RuleV (K : PySem.W.Frag) (CR : Addr) (H : Hp) (x : Addr) (ks : List Str) (ls : List (Str × Str)) : Prop := ∃ (dx : Addr) (k l p : V), H x = some (.ins CR dx (FRu k l p)) ∧ Dp K H k (.tuple (kiD ks)) ∧ Dp K H l (.tuple (loD ls)) ∧ Dp K H p (.tuple (paD ks ls))
/-- a rule that may be compared and shown -/
structure RuleOk (ks : List Str) (ls : List (Str × Str)) : Prop where
  k : SeqAt.shaped (.tuple (kiD ks)) = true
  l : SeqAt.shaped (.tuple (loD ls)) = true
  p : SeqAt.shaped (.tuple (paD ks ls)) = true
  n : (paD ks ls).length ≤ 200
  one : ∀ d ∈ paD ks ls, SeqAt.shaped d = true
theorem rule_ty {K : PySem.W.Frag} {mg : Str → Option Value} {CR : Addr} {H : Hp} {x : Addr} {ks : List Str} {ls : List (Str × Str)} (RC : RuleC K mg CR) (h : RuleV K CR H x ks ls) : TyX K H (.ref x) (.ref CR) :=
  let ⟨_, _, _, _, hx, _⟩ := h
  .base (.ins hx RC.cl RC.ha RC.hn RC.htk RC.hm)
def textTup (d : PyData) : Bool := isStr d || isTup d
theorem kit_st {K : PySem.W.Frag} {H : Hp} {v : V} {d : PyData} (h : Dp K H v d) : PySem.W.kitAny K (.type (tyD d)) [.type "str", .type "tuple"] = some (textTup d) := by
  unfold PySem.W.kitAny textTup
  rw [kit_str h]
  cases isStr d with
  | true => rfl
  | false =>
    show PySem.W.kitAny K (.type (tyD d)) [.type "tuple"] = some (isTup d)
    unfold PySem.W.kitAny
    rw [kit_tup h]
    cases isTup d <;> rfl
def inP (ks : List Str) (ls : List (Str × Str)) (d : PyData) : Bool := (paD ks ls).any fun z => PyData.eqv z d
def spRIn (K : PySem.W.Frag) (CR : Addr) : Sp := fun vs H Q _ => ∃ (x : Addr) (v : V) (d : PyData) (ks : List Str) (ls : List (Str × Str)), vs = [.ref x, v] ∧ RuleV K CR H x ks ls ∧ RuleOk ks ls ∧ Dp K H v d ∧ SeqAt.shaped d = true ∧ ∀ H', Same H H' → Q (.bl (textTup d && inP ks ls d)) H'
def spRLen (K : PySem.W.Frag) (CR : Addr) : Sp := fun vs H Q _ => ∃ (x : Addr) (ks : List Str) (ls : List (Str × Str)), vs = [.ref x] ∧ RuleV K CR H x ks ls ∧ Q (.int (paD ks ls).length) H
def spREq (K : PySem.W.Frag) (CR : Addr) : Sp := fun vs H Q _ => ∃ (x : Addr) (y : V) (ks : List Str) (ls : List (Str × Str)), vs = [.ref x, y] ∧ RuleV K CR H x ks ls ∧ RuleOk ks ls ∧
  ((∃ x2 ks2 ls2, y = .ref x2 ∧ RuleV K CR H x2 ks2 ls2 ∧ RuleOk ks2 ls2 ∧ Q (.bl (PyData.eqv (.tuple (kiD ks)) (.tuple (kiD ks2)) && PyData.eqv (.tuple (loD ls)) (.tuple (loD ls2)))) H) ∨ (∃ c, TyX K H y c ∧ PySem.W.kitOne K c (.ref CR) = some false ∧ Q (.bl false) H))
section
variable {P : Program} {w : World} {K : PySem.W.Frag} {mg : Str → Option Value} {base : Heap} {CR : Addr}
theorem scRLen : FnScope ["self"] ["self"] (defScope sRLen) := ⟨rfl, rfl, rfl, by decide +kernel, rfl, by decide +kernel, by decide +kernel⟩
theorem ok_rlen {f : Addr} {fd : FuncData} (F : Fun K "__len__" "SlipRule.__len__" sRLen f fd) (T : Bare mg) (RC : RuleC K mg CR) : FnOk P w K mg base CX0 1 f fd ["self"] (spRLen K CR) := by
  refine F.ok scRLen (fun vs H Q E h => ?_) (fun cdv A outer s0 H vs Q E hr h => ?_)
  · obtain ⟨x, ks, ls, rfl, _⟩ := h
    rfl
  · obtain ⟨x, ks, ls, rfl, ⟨dx, k, l, p, hx, hk, hl, hp⟩, q⟩ := h
    refine ⟨_, (pss_one (ps_ret (pe_callB call_len_seq (by rfl) T.len PySem.boot_len (pa_cons (pe_fld (pv 0) rfl) pa_nil)))), ?_⟩
    cases hp with
    | tup h1 h2 =>
      refine ⟨_, rfl, x, CR, dx, _, _, rfl, hx, RC.cl, RC.pa, fu_pa _ _ _, _, _, rfl, .inr h1, ?_⟩
      rw [DpAll.len h2]
      exact q
theorem scRIn : FnScope ["self", "x"] ["self", "x"] (defScope sRIn) := ⟨rfl, rfl, rfl, by decide +kernel, rfl, by decide +kernel, by decide +kernel⟩
theorem ok_rin {f : Addr} {fd : FuncData} (F : Fun K "__contains__" "SlipRule.__contains__" sRIn f fd) (T : Bare mg) (RC : RuleC K mg CR) : FnOk P w K mg base CX0 1 f fd ["self", "x"] (spRIn K CR) := by
  refine F.ok scRIn (fun vs H Q E h => ?_) (fun cdv A outer s0 H vs Q E hr h => ?_)
  · obtain ⟨x, v, d, ks, ls, rfl, _⟩ := h
    rfl
  · obtain ⟨x, v, d, ks, ls, rfl, ⟨dx, k, l, p, hx, hk, hl, hp⟩, ok, hd, sd, q⟩ := h
    refine ⟨_, (pss_one (ps_ret (pe_and (pe_callB call_isiT (by rfl) T.isi (by decide +kernel) (pa_cons (pv 1) (pa_cons (pe_tup (pa_cons (pe_bltn (v := .ty "str") (by rfl) T.str (by decide +kernel) rfl) (pa_cons (pe_bltn (v := .ty "tuple") (by rfl) T.tuple (by decide +kernel) rfl) pa_nil))) pa_nil))) (pe_one (pe_cmpR (op_inT (Room.units5 hr)) (pv 1) (pe_fld (pv 0) rfl) (by rfl)))))), ?_⟩
    refine ⟨_, rfl, by show 2 ≤ sizeLine; decide, fun tp htp => ?_⟩
    have s1 := Same.new (o := .tup [.ty "str", .ty "tuple"]) (Same.refl H) htp
    have hd1 := dp_same s1 _ hd
    refine ⟨v, tp, _, _, [.type "str", .type "tuple"], textTup d, rfl, upd_same, .cons (.ty "str") (.cons (.ty "tuple") .nil), dp_ty hd1, kit_st hd1, _, rfl, ?_⟩
    have q := q _ s1
    cases c : textTup d with
    | false =>
      rw [c] at q
      exact iteF q
    | true =>
      rw [c] at q
      exact iteT ⟨_, rfl, _, rfl, x, CR, dx, _, _, rfl, s1 _ _ hx, RC.cl, RC.pa, fu_pa _ _ _, d, _, hd1, dp_same s1 _ hp, sd, ok.p, q⟩
theorem scREq : FnScope ["self", "other"] ["self", "other"] (defScope sREq) := ⟨rfl, rfl, rfl, by decide +kernel, rfl, by decide +kernel, by decide +kernel⟩
theorem ok_req {f : Addr} {fd : FuncData} (F : Fun K "__eq__" "SlipRule.__eq__" sREq f fd) (T : Bare mg) (RC : RuleC K mg CR) : FnOk P w K mg base CX0 1 f fd ["self", "other"] (spREq K CR) := by
  refine F.ok scREq (fun vs H Q E h => ?_) (fun cdv A outer s0 H vs Q E hr h => ?_)
  · obtain ⟨x, y, ks, ls, rfl, _⟩ := h
    rfl
  · obtain ⟨x, y, ks, ls, rfl, hR, ok, q⟩ := h
    refine ⟨_, (pss_one (ps_ret (pe_and (pe_callB call_isi (by rfl) T.isi (by decide +kernel) (pa_cons (pv 1) (pa_cons (pe_glob (v := .ref CR) (by rfl) RC.gC rfl) pa_nil))) (pe_and (pe_cmpR (op_eqD hr.units) (pe_fld (pv 0) rfl) (pe_fld (pv 1) rfl) (nomark _)) (pe_one (pe_cmpR (op_eqD hr.units) (pe_fld (pv 0) rfl) (pe_fld (pv 1) rfl) (nomark _))))))), ?_⟩
    rcases q with ⟨x2, ks2, ls2, rfl, hR2, ok2, q⟩ | ⟨c, ty, kt, q⟩
    case inr => exact ⟨_, rfl, y, .ref CR, c, .ref CR, false, rfl, .own CR, ty, kt, false, rfl, iteF q⟩
    have ty := rule_ty RC hR2
    obtain ⟨dx, k, l, p, hx, hk, hl, hp⟩ := hR
    obtain ⟨dx2, k2, l2, p2, hx2, hk2, hl2, hp2⟩ := hR2
    refine ⟨_, rfl, .ref x2, .ref CR, .ref CR, .ref CR, true, rfl, .own CR, ty, kit_self K CR, true, rfl, iteT ?_⟩
    refine ⟨_, rfl, x, CR, dx, _, _, rfl, hx, RC.cl, RC.ki, fu_ki _ _ _, _, rfl, x2, CR, dx2, _, _, rfl, hx2, RC.cl, RC.ki, fu_ki _ _ _, _, _, hk, hk2, ok.k, ok2.k, _, rfl, ?_⟩
    cases c : PyData.eqv (.tuple (kiD ks)) (.tuple (kiD ks2)) with
    | false =>
      rw [c] at q
      exact iteF q
    | true =>
      rw [c] at q
      exact iteT ⟨_, rfl, x, CR, dx, _, _, rfl, hx, RC.cl, RC.lo, fu_lo _ _ _, _, rfl, x2, CR, dx2, _, _, rfl, hx2, RC.cl, RC.lo, fu_lo _ _ _, _, _, hl, hl2, ok.l, ok2.l, q⟩
end
end K5

/-! a def that takes any number of arguments: they are laid in a tuple when it is called -/
namespace L2
open PySem PySem.Spec PyProof.Rows
/-- the arguments bind to ps, the last of which is a new tuple of ks -/
def BindsStar (s : Shared) (fd : FuncData) (args : Args) (ps : List Str) (us ks : List Value) : Prop :=
  ∀ (M : Model) (A : Around) (E : Value → Shared → Prop) (Q : List (Str × Value) → Shared → Prop),
    Q (ps.zip (us ++ [.ref s.heap.objs.size])) { s with heap := s.heap.push { cls := .type "tuple", data := .seq ks.toArray } } → wpAny M A (bindArgs fd args) Q E s
/-- what the body of a def promises, behind the binding of its arguments -/
structure FnB (P : Program) (w : World) (K : PySem.W.Frag) (mg : Str → Option Value) (base : Heap) (CX : CXT) (k : Nat) (f : Addr) (fd : FuncData) (ps : List Str) (sp : Sp) : Prop where
  len : ∀ vs H Q E, sp vs H Q E → vs.length = ps.length
  run : ∀ (A : Around) (outer : List Env) (s s' : Shared) (H : Hp) (args : Args) (us : List Value) (vs : List V) (Q : VK) (E : XK) (R : Result → Shared → Prop), Room k A → K.In s.heap → Env0 P w K mg base A outer s' H → Vals vs us → sp vs H Q E →
    (∀ (M : Model) (A : Around) (E : Value → Shared → Prop) (Q : List (Str × Value) → Shared → Prop), Q (ps.zip us) s' → wpAny M A (bindArgs fd args) Q E s) → (∀ r t, CR CX outer P w H s' Q E r t → R r t) →
    codeAny (model P w) A (.call (.ref f) args) R s
theorem fnb_of {CX : CXT} {P : Program} {w : World} {K : PySem.W.Frag} {mg : Str → Option Value} {base : Heap} {k : Nat} {f : Addr} {name qual : Str} {params : Arguments} {body : List Stmt} {scope : Scope} {dV kV doc pm cdv ct oc : Value} {an od : Option Addr}
    {osl : Array (Option Value)} {N ps : List Str} {sp : Sp} (lk : K.lookup f = some ⟨oc, od, .func (PySem.W.fnOf name qual params body scope dV kV doc pm an cdv ct), osl⟩) (hcd : PySem.W.codeIn K cdv qual = true) (S : FnScope N ps scope)
    (len : ∀ vs H Q E, sp vs H Q E → vs.length = ps.length)
    (hbody : ∀ (A : Around) (outer : List Env) (s : Shared) (H : Hp) (vs : List V) (Q : VK) (E : XK), Room k (A.deeper (envOfC qual scope s.heap.objs.size f cdv)) → sp vs H Q E →
      ∃ t, PSs (cxOf CX P w K mg base N qual scope f cdv A outer s H E) body t ∧ t { nx := fun _ H' => Q .non H', rt := Q } (start N vs) H) :
    FnB P w K mg base CX (k + 1) f (PySem.W.fnOf name qual params body scope dV kV doc pm an cdv ct) ps sp := by
  refine ⟨len, fun A outer s s' H args us vs Q E R hr KX e0 r hsp hb hR => ?_⟩
  have hl := len _ _ _ _ hsp
  have lim : s'.heap.NoLimit := e0.mod.nolimit.keeps fun b o e => (e0.bs b o e).1
  have hkind : ∀ y ∈ ps.zip us, scope.names.lookup y.1 = some .local ∨ (scope.names.lookup y.1 = some .cell ∧ ((cellsFrom (s'.heap.objs.size + 1) scope.names []).lookup y.1).isSome = true) := fun y hy => by
    rcases S.par y.1 (List.of_mem_zip hy).1 with q | q
    · exact .inl q
    · exact .inr ⟨q, PySem.W.cellsFrom_some _ _ _ (.inl q)⟩
  refine codeAny_call_function hr.depth (KX _ _ lk) rfl S.co S.gen rfl (PySem.W.codeRec_of KX hcd) (hb _ _ _ _ ?_)
  refine wpAny_newFunctionEnv_cells S.kind hkind fun env he s1 x => ?_
  subst he
  refine ⟨lim.keeps x.toInCall.keep, codeAny_func ?_⟩
  obtain ⟨t, ht, hq⟩ := hbody A outer s' H vs Q E (hr.deeper _) hsp
  have I : Inv (cxOf CX P w K mg base N qual scope f cdv A outer s' H E) [] (start N vs) H s1 := inv_start S hr.hd e0 hl r x
  refine wpAny_mono (ht.run [] s1 (start N vs) H _ I hq) (fun fl s2 hs => hR _ _ ?_) fun e s2 hs => wpAny_mono hs (fun _ t h => hR (.error e) t h) fun e2 t h => hR (.error e2) t h
  cases fl with
  | ret u =>
    obtain ⟨v, σ', H', J, rv, q⟩ := hs
    exact ⟨v, H', J.os, J.bare, J.base, J.hok, rv, q⟩
  | next =>
    obtain ⟨σ', H', J, q⟩ := hs
    exact ⟨.non, H', J.os, J.bare, J.base, J.hok, rfl, q⟩
  | brk =>
    obtain ⟨_, _, _, q⟩ := hs
    exact False.elim q
  | cont =>
    obtain ⟨_, _, _, q⟩ := hs
    exact False.elim q
section
variable {X : Cx} {CX : CXT} {k : Nat} {f C : Addr} {fd : FuncData} {ps : List Str} {sp : Sp}
/-- such a def called with what is at hand -/
theorem run_star {pins : List (Addr × Obj)} {σ : St} {H : Hp} {s : Shared} {args : Args} {us ks : List Value} {vs zs : List V} {Q : VK} {E : XK} (F : FnB X.prog X.w X.K X.mg X.base CX k f fd ps sp) (hr : Room k X.A) (hb : BindsStar s fd args ps us ks) (hx : PassesAt CX X σ E) (I : Inv X pins σ H s) (r : Vals vs us) (rz : Vals zs ks) (hz : zs.length ≤ sizeLine)
    (q : ∀ p, H p = none → sp (vs ++ [.ref p]) (upd H p (.tup zs)) Q E) :
    codeAny (model X.prog X.w) X.A (.call (.ref f) args) (fun r s' => match r with | .ok (.ret u) => EP X pins σ Q u s' | .ok _ => False | .error e => X.xe e s') s := by
  have I' : Inv X pins σ (upd H s.heap.objs.size (.tup zs)) { s with heap := s.heap.push { cls := .type "tuple", data := .seq ks.toArray } } :=
    I.laid (t' := s.toks) (fun b o e => Heap.get?_push_of_some _ e) (Nat.le_refl _) ⟨hz, ks, rz, _, Heap.get?_push_size _ rfl, rfl, _, rfl⟩
  have r2 : Vals (vs ++ [.ref s.heap.objs.size]) (us ++ [.ref s.heap.objs.size]) := r.append (.cons rfl .nil)
  refine F.run X.A X.stack s _ _ args (us ++ [.ref s.heap.objs.size]) (vs ++ [.ref s.heap.objs.size]) Q E _ hr I.kIn I'.env0 r2 (q _ (I.hok.fresh (Nat.le_refl _))) (fun M A E Q h => hb M A E Q h) fun r t hq => ?_
  cases r with
  | error e => exact hx pins _ _ e t I' hq
  | ok fl =>
    cases fl with
    | ret u => exact I'.after hq
    | next => exact False.elim hq
    | brk => exact False.elim hq
    | cont => exact False.elim hq
end
end L2

namespace L2
open PySem PySem.Spec PyProof.Rows
theorem bind_star {fd : FuncData} {x y z : Arg} {a v : Value} {ks : List Value} {s : Shared} (hp : fd.params = { posonlyargs := [], args := [x], vararg := some z, kwonlyargs := [y], kw_defaults := fd.params.kw_defaults, kwarg := none, defaults := [] }) (hd : fd.defaults = .none) (ne : (x.arg == y.arg) = false) (hz : ks.length ≤ sizeLine) :
    BindsStar s fd ⟨a :: ks, [(y.arg, v)]⟩ [x.arg, y.arg, z.arg] [a, v] ks := by
  intro M A E Q h
  unfold bindArgs
  rw [hp, hd]
  have ne' : (y.arg == x.arg) = false := by
    have : x.arg ≠ y.arg := fun e => by rw [e] at ne; simp at ne
    simpa using Ne.symm this
  simp [ne', List.lookup]
  refine wpAny_bind ?_
  show wpAny M A (pure none : Sem (Option (Array Value))) _ _ _
  refine wpAny_pure ?_
  simp [ne', List.lookup]
  show wpAny M A (newTuple ks >>= fun a_1 => pure [(x.arg, a), (y.arg, v), (z.arg, a_1)]) Q E s
  exact wpAny_bind (wpAny_newTuple (wpAny_pure h) hz)
end L2

/-! C(e, .., key = v): making an instance whose __init__ takes any number of arguments and one by its name -/
namespace L2
open PySem PySem.Spec PyProof.Rows
section
variable {X : Cx} {CX : CXT} {k : Nat} {f C : Addr} {fd : FuncData} {ps : List Str} {sp : Sp} {key : Str}
def MakeQ (C : Addr) (sp : Sp) (E : XK) (zs : List V) (v : V) (H : Hp) (Q : VK) : Prop := zs.length ≤ sizeLine ∧ ∀ x dx p, H x = none → H dx = none → dx ≠ x → upd (upd H dx (.own x)) x (.ins C dx []) p = none →
  sp [.ref x, v, .ref p] (upd (upd (upd H dx (.own x)) x (.ins C dx [])) p (.tup zs)) (fun u H2 => u = .non ∧ Q (.ref x) H2) E
/-- how the arguments bind, the one by its name given -/
def StarBinds (fd : FuncData) (ps : List Str) (key : Str) : Prop := ∀ (s : Shared) (a v : Value) (ks : List Value), ks.length ≤ sizeLine → BindsStar s fd ⟨a :: ks, [(key, v)]⟩ ps [a, v] ks
theorem run_makeX {pins : List (Addr × Obj)} {σ : St} {H : Hp} {s : Shared} {Q : VK} {us : List Value} {zs : List V} {u : Value} {v : V} {E : XK} (M : Mk X.K C f) (F : FnB X.prog X.w X.K X.mg X.base CX k f fd ps sp) (hr : Room (k + 1) X.A) (hb : StarBinds fd ps key)
    (hx : PassesAt CX X σ E) (I : Inv X pins σ H s) (r : Vals zs us) (rv : RelV v u) (h : MakeQ C sp E zs v H Q) :
    wpAny (model X.prog X.w) X.A (call (.ref C) us [(key, u)]) (EP X pins σ Q) X.xe s := by
  obtain ⟨hz, h⟩ := h
  have I2 := Inv.made (C := C) I
  have lu : us.length ≤ sizeLine := by rw [← r.length]; exact hz
  have hq := h (s.heap.objs.size + 1) s.heap.objs.size _ (I.hok.fresh (Nat.le_succ _)) (I.hok.fresh (Nat.le_refl _)) (Nat.ne_of_lt (Nat.lt_succ_self _)) (I2.hok.fresh (Nat.le_refl _))
  have I3 : Inv X pins σ (upd (upd (upd H s.heap.objs.size (.own (s.heap.objs.size + 1))) (s.heap.objs.size + 1) (.ins C s.heap.objs.size [])) ((s.heap.push PySem.W.emptyDict).push (PySem.W.instObj C s.heap.objs.size)).objs.size (.tup zs))
      { s with heap := ((s.heap.push PySem.W.emptyDict).push (PySem.W.instObj C s.heap.objs.size)).push { cls := .type "tuple", data := .seq us.toArray } } :=
    I2.laid (t' := s.toks) (fun b o e => Heap.get?_push_of_some _ e) (Nat.le_refl _) ⟨hz, us, r, _, Heap.get?_push_size _ rfl, rfl, _, rfl⟩
  have r2 : Vals [V.ref (s.heap.objs.size + 1), v, .ref ((s.heap.push PySem.W.emptyDict).push (PySem.W.instObj C s.heap.objs.size)).objs.size] [Value.ref (s.heap.objs.size + 1), u, .ref ((s.heap.push PySem.W.emptyDict).push (PySem.W.instObj C s.heap.objs.size)).objs.size] := .cons rfl (.cons rv (.cons rfl .nil))
  refine wpAny_call (make_map (f := f) I.kIn M.makes M.init (beq_iff_eq.mp M.fn) (F.run _ X.stack _ _ _ ⟨Value.ref (s.heap.objs.size + 1) :: us, [(key, u)]⟩ _ _ _ E _ (hr.make C us [(key, u)]) I2.kIn (I3.env0.make C us [(key, u)]) r2 hq (fun M A E Q g => hb _ _ _ us lu M A E Q g) fun r t hq' => ?_))
  cases r with
  | error e => exact hx pins _ _ e t I3 hq'
  | ok fl =>
    cases fl with
    | ret w =>
      obtain ⟨z, H', I4, rz, ev, q3⟩ := I3.after hq'
      subst ev
      exact ⟨rz, ⟨V.ref (s.heap.objs.size + 1), H', I4, rfl, q3⟩⟩
    | next => exact False.elim hq'
    | brk => exact False.elim hq'
    | cont => exact False.elim hq'
variable {x : Str} {p pos : Pos} {e : Expr} {es : List Expr} {kws : List Keyword} {t tk : TA} {E : St → XK}
def tMakeX (C : Addr) (sp : Sp) (E : St → XK) (t tk : TA) : TE := fun σ H Q => t σ H fun zs H1 => tk σ H1 fun ws H2 => ∃ v, ws = [v] ∧ MakeQ C sp (E σ) zs v H2 Q
def tMakeX0 (C : Addr) (sp : Sp) (E : St → XK) (tk : TA) : TE := fun σ H Q => tk σ H fun ws H2 => ∃ v, ws = [v] ∧ MakeQ C sp (E σ) [] v H2 Q
/-- C(e, .., key = v) -/
theorem pe_makeX (M : Mk X.K C f) (F : FnB X.prog X.w X.K X.mg X.base CX k f fd ps sp) (hr : Room (k + 1) X.A) (hg : Gl X x) (hm : X.mg x = some (.ref C)) (hb : StarBinds fd ps key) (hx : ∀ σ, PassesAt CX X σ (E σ)) (ha : PA X (e :: es) t) (hkw : PK X kws tk)
    (hall : (backToKw pos (keywordEach kws X.env)).all (·.1.isSome) = true := by rfl) (hks : (backToKw pos (keywordEach kws X.env)).filterMap (·.1) = [key] := by rfl) (hdb : (x == ("__debug__" : Str)) = false := by decide)
    (hpl : ((backTo pos (starEach (e :: es) X.env)).any (·.1) || (backToKw pos (keywordEach kws X.env)).any (·.1.isNone)) = false := by rfl) (he : starEach (e :: es) X.env = (false, eval e X.env) :: starEach es X.env := by rfl) :
    PE X (.Call (.Name x p) (e :: es) kws pos) (tMakeX C sp E t tk) := by
  refine ⟨fun pins s σ H Q I h => ?_⟩
  refine wpAny_Call_Name_kw (ld_glob I hg hm ?_ hdb)
  refine PySem.W.callWith_KW (h₀ := X.base) I.ok.mod.kin M.kp hall ?_ hpl he
  refine thn (ha.run pos pins s σ H _ I h) fun us s1 ⟨zs, H1, I1, r, q⟩ => ?_
  refine thn (hkw.run pos pins s1 σ H1 _ I1 q) fun ws s2 ⟨vs, H2, I2, rz, v, ev, q2⟩ => ⟨I2.kIn, ?_⟩
  subst ev
  rw [hks]
  cases rz with
  | cons rv rn =>
    cases rn
    exact run_makeX M F hr hb (hx σ) I2 r rv q2
/-- C(key = v) -/
theorem pe_makeX0 (M : Mk X.K C f) (F : FnB X.prog X.w X.K X.mg X.base CX k f fd ps sp) (hr : Room (k + 1) X.A) (hg : Gl X x) (hm : X.mg x = some (.ref C)) (hb : StarBinds fd ps key) (hx : ∀ σ, PassesAt CX X σ (E σ)) (hkw : PK X kws tk)
    (hall : (backToKw pos (keywordEach kws X.env)).all (·.1.isSome) = true := by rfl) (hks : (backToKw pos (keywordEach kws X.env)).filterMap (·.1) = [key] := by rfl) (hdb : (x == ("__debug__" : Str)) = false := by decide)
    (hpl : ((backTo pos (starEach [] X.env)).any (·.1) || (backToKw pos (keywordEach kws X.env)).any (·.1.isNone)) = false := by rfl) :
    PE X (.Call (.Name x p) [] kws pos) (tMakeX0 C sp E tk) := by
  refine ⟨fun pins s σ H Q I h => ?_⟩
  refine wpAny_Call_Name_kw (ld_glob I hg hm ?_ hdb)
  refine PySem.W.callWith_KW0 (h₀ := X.base) I.ok.mod.kin M.kp hall ?_ hpl
  refine thn (hkw.run pos pins s σ H _ I h) fun ws s2 ⟨vs, H2, I2, rz, v, ev, q2⟩ => ⟨I2.kIn, ?_⟩
  subst ev
  rw [hks]
  cases rz with
  | cons rv rn =>
    cases rn
    exact run_makeX (us := []) (zs := []) M F hr hb (hx σ) I2 .nil rv q2
end
end L2

/-! C(*t, key = v) -/
namespace K9
open PySem PySem.W PyProof.Rows
section
variable {M : Model} {A : Around} {E : Value → Shared → Prop} {s : Shared}
theorem args_starkw {f : Value} {x : Sem Value} {pos : Pos} {kws : List (Option Str × Sem Value)} {Q : Args → Shared → Prop} (hall : kws.all (·.1.isSome) = true)
    (h : wpAny M A x (fun v s1 => wpAny M A (evalAll (kws.map (·.2))) (fun ks s2 => StarOf M A E v (fun vs s3 => Q ⟨vs, (kws.filterMap (·.1)).zip ks⟩ s3) s2) E s1) E s) :
    wpAny M A (evalArgs f true [(true, (do let v ← x; standAt pos; pure v))] kws) Q E s := by
  unfold evalArgs
  refine wpAny_bind (wpAny_bind (wpAny_mono h (fun v s1 h1 => wpAny_bind (wpAny_standAt (wpAny_pure ?_))) fun _ _ z => z))
  refine wpAny_bind (wpAny_pure ?_)
  refine wpAny_holding ?_
  simp only [hall, if_true]
  refine wpAny_bind (wpAny_mono h1 (fun ks s2 h2 => ?_) fun _ _ z => z)
  unfold StarOf at h2
  refine wpAny_bind ?_
  refine wpAny_bind (wpAny_mono h2 (fun b s3 h3 => ?_) fun _ _ z => z)
  obtain ⟨rfl, h3⟩ := h3
  rw [if_neg Bool.false_ne_true]
  exact wpAny_holding (wpAny_mono h3 (fun vs s4 h4 => wpAny_pure h4) fun _ _ z => z)
theorem call_starkw {f : Value} {first : List Value} {pos p2 : Pos} {x : Sem Value} {kws : List (Option Str × Sem Value)} {Q : Value → Shared → Prop} {K : Frag} (hk : keepIn K f = true) (hall : kws.all (·.1.isSome) = true)
    (h : wpAny M A x (fun v s1 => wpAny M A (evalAll (kws.map (·.2))) (fun ks s2 => StarOf M A E v (fun vs s3 => K.In s3.heap ∧ wpAny M A (call f (first ++ vs) ((kws.filterMap (·.1)).zip ks)) Q E s3) s2) E s1) E s) :
    wpAny M A (callWith pos f first [(true, (do let v ← x; standAt p2; pure v))] kws) Q E s := by
  unfold callWith
  refine wpAny_bind (wpAny_holding (wpAny_mono (args_starkw (f := f) (Q := fun a s1 => K.In s1.heap ∧ wpAny M A (call f (first ++ a.pos) a.kw) Q E s1) hall h) (fun a s1 h1 => wpAny_bind (wpAny_standAt ?_)) fun _ _ z => z))
  obtain ⟨k, hk', L⟩ := keeps_K hk _ h1.1
  simp only [List.any_cons, Bool.true_or]
  refine wpAny_bind (L.here ?_)
  have tail : ∀ {t : Sem Value}, wpAny M A t Q E s1 → wpAny M A (t >>= fun r => holding [r] point >>= fun _ => pure r) Q E s1 :=
    fun ht => wpAny_bind (wpAny_mono ht (fun r s2 hr => wpAny_bind (wpAny_holding (wpAny_point (wpAny_pure hr)))) fun _ _ z => z)
  have marked (mk : Value) : wpAny M A (callMarked mk f (first ++ a.pos) a.kw) Q E s1 := by unfold callMarked; exact Calls.wpAny_keep h1.2
  rcases hk' with rfl | rfl | rfl <;> dsimp only <;> first | exact tail (marked _) | exact tail (wpAny_operating h1.2)
end
end K9
namespace L2
open PySem PySem.Spec PyProof.Rows
section
variable {X : Cx} {CX : CXT} {k : Nat} {f C : Addr} {fd : FuncData} {ps : List Str} {sp : Sp} {key x : Str} {p p2 pos : Pos} {e : Expr} {kws : List Keyword} {te : TE} {tk : TA} {E : St → XK}
def tMakeXS (K : PySem.W.Frag) (C : Addr) (sp : Sp) (E : St → XK) (te : TE) (tk : TA) : TE := fun σ H Q => te σ H fun y H1 => tk σ H1 fun ws H2 => ∃ a zs v, y = .ref a ∧ ws = [v] ∧ (SqT K H2 a zs ∨ SqL K H2 a zs) ∧ MakeQ C sp (E σ) zs v H2 Q
/-- C(*e, key = v) -/
theorem pe_makeXS (M : Mk X.K C f) (F : FnB X.prog X.w X.K X.mg X.base CX k f fd ps sp) (hr : Room (k + 1) X.A) (hg : Gl X x) (hm : X.mg x = some (.ref C)) (hb : StarBinds fd ps key) (hx : ∀ σ, PassesAt CX X σ (E σ)) (he : PE X e te) (hkw : PK X kws tk)
    (hall : (backToKw pos (keywordEach kws X.env)).all (·.1.isSome) = true := by rfl) (hks : (backToKw pos (keywordEach kws X.env)).filterMap (·.1) = [key] := by rfl) (hdb : (x == ("__debug__" : Str)) = false := by decide)
    (hst : backTo pos (starEach [.Starred e p2] X.env) = [(true, (do let v ← eval e X.env; standAt pos; pure v))] := by rfl) :
    PE X (.Call (.Name x p) [.Starred e p2] kws pos) (tMakeXS X.K C sp E te tk) := by
  refine ⟨fun pins s σ H Q I h => ?_⟩
  refine wpAny_Call_Name_kw (ld_glob I hg hm ?_ hdb)
  rw [hst]
  refine K9.call_starkw (K := X.K) M.kp hall ?_
  refine thn (he.run pins s σ H _ I h) fun u s1 ⟨y, H1, I1, ry, q⟩ => ?_
  refine thn (hkw.run pos pins s1 σ H1 _ I1 q) fun ws s2 ⟨vs, H2, I2, rz, a, zs, v, ey, ev, hs, q2⟩ => ?_
  subst ey
  subst ev
  obtain rfl : u = Value.ref a := ry
  refine StX.star_any I2 hs fun us s3 I3 r3 => ⟨I3.kIn, ?_⟩
  rw [hks]
  cases rz with
  | cons rv rn =>
    cases rn
    exact run_makeX M F hr hb (hx σ) I3 r3 rv q2
end
end L2

/-! a def (self, *args, key = default) -/
namespace L2
open PySem PySem.Spec PyProof.Rows
theorem FunD.okB {P : Program} {w : World} {K : PySem.W.Frag} {mg : Str → Option Value} {base : Heap} {x qual : Str} {params : Arguments} {body : List Stmt} {scope : Scope} {dvs : List V} {kws : List (Str × V)} {f : Addr} {fd : FuncData} {CX : CXT} {N ps : List Str} {k : Nat} {sp : Sp}
    (F : FunD K x qual params body scope dvs kws f fd) (S : FnScope N ps scope) (len : ∀ vs H Q E, sp vs H Q E → vs.length = ps.length)
    (hbody : ∀ (cdv : Value) (A : Around) (outer : List Env) (s : Shared) (H : Hp) (vs : List V) (Q : VK) (E : XK), Room k (A.deeper (envOfC qual scope s.heap.objs.size f cdv)) → sp vs H Q E →
      ∃ t, PSs (cxOf CX P w K mg base N qual scope f cdv A outer s H E) body t ∧ t { nx := fun _ H' => Q .non H', rt := Q } (start N vs) H) : FnB P w K mg base CX (k + 1) f fd ps sp := by
  obtain ⟨oc, od, dV, kV, doc, pm, an, cdv, ct, osl, rfl, lk, hcd, _, _⟩ := F.ex
  exact fnb_of lk hcd S len fun A outer s H vs Q E hr hsp => hbody cdv A outer s H vs Q E hr hsp
/-- how the arguments bind where the one by its name is not given: its default u -/
def StarBinds0 (K : PySem.W.Frag) (fd : FuncData) (ps : List Str) (u : Value) : Prop := ∀ (s : Shared) (a : Value) (ks : List Value), K.In s.heap → ks.length ≤ sizeLine → BindsStar s fd ⟨a :: ks, []⟩ ps [a, u] ks
theorem bind_star0 {K : PySem.W.Frag} {fd : FuncData} {x y z : Arg} {D : Addr} {a u : Value} {ks : List Value} {s : Shared} (hp : fd.params = { posonlyargs := [], args := [x], vararg := some z, kwonlyargs := [y], kw_defaults := fd.params.kw_defaults, kwarg := none, defaults := [] }) (hd : fd.defaults = .none) (hk : fd.kwdefaults = .ref D) (ne : (x.arg == y.arg) = false)
    (X : K.In s.heap) (hu : PySem.W.nsIn K D y.arg = some (some u)) (hz : ks.length ≤ sizeLine) : BindsStar s fd ⟨a :: ks, []⟩ [x.arg, y.arg, z.arg] [a, u] ks := by
  intro M A E Q h
  unfold bindArgs
  rw [hp, hd, hk]
  have ne' : (y.arg == x.arg) = false := by
    have : x.arg ≠ y.arg := fun e => by rw [e] at ne; simp at ne
    simpa using Ne.symm this
  simp [ne', List.lookup]
  refine wpAny_bind ?_
  show wpAny M A (pure none : Sem (Option (Array Value))) _ _ _
  refine wpAny_pure ?_
  simp [ne', List.lookup]
  refine wpAny_bind ((PySem.W.looks_nsIn X hu).here ?_)
  refine wpAny_bind (wpAny_pure ?_)
  refine wpAny_bind (wpAny_pure ?_)
  simp [ne', List.lookup]
  show wpAny M A (newTuple ks >>= fun a_1 => pure [(x.arg, a), (y.arg, u), (z.arg, a_1)]) Q E s
  exact wpAny_bind (wpAny_newTuple (wpAny_pure h) hz)
/-- both ways of binding, of a def as it stands behind the top -/
theorem FunD.starBinds {K : PySem.W.Frag} {x qual : Str} {params : Arguments} {body : List Stmt} {scope : Scope} {f : Addr} {fd : FuncData} {p q r : Arg} {dv : V} (F : FunD K x qual params body scope [] [(q.arg, dv)] f fd)
    (hp : params = { posonlyargs := [], args := [p], vararg := some r, kwonlyargs := [q], kw_defaults := params.kw_defaults, kwarg := none, defaults := [] }) (ne : (p.arg == q.arg) = false) :
    StarBinds fd [p.arg, q.arg, r.arg] q.arg ∧ ∃ u, RelV dv u ∧ StarBinds0 K fd [p.arg, q.arg, r.arg] u := by
  obtain ⟨oc, od, dV, kV, doc, pm, an, cdv, ct, osl, rfl, lk, hcd, hD, hK⟩ := F.ex
  rcases hD with ⟨_, rfl⟩ | ⟨e, _⟩
  · refine ⟨fun s a v ks hz => bind_star (x := p) (y := q) (z := r) hp rfl ne hz, ?_⟩
    rcases hK with e | ⟨D, rfl, hq⟩
    · cases e
    · obtain ⟨u, hu, ru⟩ := hq _ List.mem_cons_self
      exact ⟨u, ru, fun s a ks X hz => bind_star0 (x := p) (y := q) (z := r) hp rfl rfl ne X hu hz⟩
  · exact absurd rfl e
end L2

/-! the order of tuples of texts, and a whole number that tells it among finitely many -/
namespace K9
open PySem
abbrev lts (x y : Str) : Prop := x.cps.toList < y.cps.toList
theorem lts_irrefl (x : Str) : ¬ lts x x := List.lt_irrefl _
theorem lts_trans {x y z : Str} (h : lts x y) (g : lts y z) : lts x z := List.lt_trans h g
theorem str_ext {x y : Str} (h : x.cps.toList = y.cps.toList) : x = y := by
  cases x; cases y
  simp only [Str.mk.injEq]
  exact Array.toList_inj.mp h
theorem lts_total {x y : Str} (h : x ≠ y) : lts x y ∨ lts y x := by
  by_cases a : lts x y
  · exact .inl a
  · by_cases b : lts y x
    · exact .inr b
    · exact absurd (str_ext (List.le_antisymm (by rw [← List.not_lt]; exact b) (by rw [← List.not_lt]; exact a))) h
def ltx : List Str → List Str → Bool
  | x :: xs, y :: ys => if x = y then ltx xs ys else decide (lts x y)
  | _, _ => false
theorem ltx_irrefl : ∀ xs : List Str, ltx xs xs = false
  | [] => rfl
  | x :: xs => by
    show (if x = x then ltx xs xs else _) = false
    rw [if_pos rfl]
    exact ltx_irrefl xs
theorem ltx_trans : ∀ {xs ys zs : List Str}, ltx xs ys = true → ltx ys zs = true → ltx xs zs = true
  | [], _, _, h, _ => by cases h
  | _ :: _, [], _, h, _ => by cases h
  | _ :: _, _ :: _, [], _, h => by cases h
  | x :: xs, y :: ys, z :: zs, h, g => by
    have h : (if x = y then ltx xs ys else decide (lts x y)) = true := h
    have g : (if y = z then ltx ys zs else decide (lts y z)) = true := g
    show (if x = z then ltx xs zs else decide (lts x z)) = true
    by_cases e : x = y
    · subst e
      rw [if_pos rfl] at h
      by_cases e2 : x = z
      · subst e2
        rw [if_pos rfl] at g ⊢
        exact ltx_trans h g
      · rw [if_neg e2] at g ⊢
        exact g
    · rw [if_neg e] at h
      by_cases e2 : y = z
      · subst e2
        rw [if_neg e]
        exact h
      · rw [if_neg e2] at g
        have t := lts_trans (of_decide_eq_true h) (of_decide_eq_true g)
        rw [if_neg fun q => lts_irrefl z (by rw [q] at t; exact t)]
        exact decide_eq_true t
theorem ltx_total : ∀ {xs ys : List Str}, xs.length = ys.length → xs ≠ ys → ltx xs ys = true ∨ ltx ys xs = true
  | [], [], _, h => absurd rfl h
  | [], _ :: _, h, _ => by cases h
  | _ :: _, [], h, _ => by cases h
  | x :: xs, y :: ys, hl, h => by
    show (if x = y then ltx xs ys else decide (lts x y)) = true ∨ (if y = x then ltx ys xs else decide (lts y x)) = true
    by_cases e : x = y
    · subst e
      rw [if_pos rfl, if_pos rfl]
      exact ltx_total (Nat.succ.inj hl) fun q => h (by rw [q])
    · rw [if_neg e, if_neg (Ne.symm e)]
      rcases lts_total e with a | a
      · exact .inl (decide_eq_true a)
      · exact .inr (decide_eq_true a)
/-- how many of ds lie below x -/
def rkN (ds : List (List Str)) (x : List Str) : Nat := (ds.filter fun y => ltx y x).length
theorem filter_le {α : Type} {p q : α → Bool} : ∀ l : List α, (∀ a ∈ l, p a = true → q a = true) → (l.filter p).length ≤ (l.filter q).length
  | [], _ => Nat.le_refl _
  | a :: l, h => by
    have ih := filter_le l fun b hb => h b (List.mem_cons_of_mem _ hb)
    rw [List.filter_cons, List.filter_cons]
    cases c : p a with
    | true => rw [if_pos rfl, if_pos (h a List.mem_cons_self c)]; exact Nat.succ_le_succ ih
    | false =>
      rw [if_neg Bool.false_ne_true]
      split
      · exact Nat.le_succ_of_le ih
      · exact ih
theorem filter_lt {α : Type} {p q : α → Bool} : ∀ {l : List α} {a : α}, a ∈ l → (∀ a ∈ l, p a = true → q a = true) → p a = false → q a = true → (l.filter p).length < (l.filter q).length
  | b :: l, a, hm, h, hp, hq => by
    rw [List.filter_cons, List.filter_cons]
    rcases List.mem_cons.mp hm with rfl | hm
    · rw [hp, hq, if_neg Bool.false_ne_true, if_pos rfl]
      exact Nat.lt_succ_of_le (filter_le l fun b hb => h b (List.mem_cons_of_mem _ hb))
    · have ih := filter_lt hm (fun b hb => h b (List.mem_cons_of_mem _ hb)) hp hq
      cases c : p b with
      | true => rw [if_pos rfl, if_pos (h b List.mem_cons_self c)]; exact Nat.succ_lt_succ ih
      | false =>
        rw [if_neg Bool.false_ne_true]
        split
        · exact Nat.lt_succ_of_lt ih
        · exact ih
theorem rk_lt {ds : List (List Str)} {x y : List Str} (hx : x ∈ ds) (hl : x.length = y.length) : decide ((rkN ds x : Int) < (rkN ds y : Int)) = ltx x y := by
  cases c : ltx x y with
  | true =>
    refine decide_eq_true (Int.ofNat_lt.mpr (filter_lt hx (fun a _ h => ltx_trans h c) (ltx_irrefl x) c))
  | false =>
    refine decide_eq_false fun h => ?_
    have h := Int.ofNat_lt.mp h
    by_cases e : x = y
    · subst e
      exact Nat.lt_irrefl _ h
    · have d := (ltx_total hl e).resolve_left fun q => by rw [c] at q; cases q
      exact absurd (filter_le ds fun a _ (q : ltx a y = true) => ltx_trans q d) (Nat.not_le.mpr h)
/-- sorted: none below the one before -/
def srt (ds : List (List Str)) : Prop := ds.Pairwise fun x y => ltx y x = false
/-- lists of the same members, sorted, are one list -/
theorem srt_one {d : Nat} : ∀ {xs ys : List (List Str)}, (∀ x ∈ xs, x.length = d) → xs.Perm ys → srt xs → srt ys → xs = ys
  | [], ys, _, p, _, _ => by rw [List.nil_perm.mp p]
  | x :: xs, [], _, p, _, _ => absurd (p.length_eq) (by simp)
  | x :: xs, y :: ys, hd, p, hx, hy => by
    have hx1 := List.pairwise_cons.mp hx
    have hy1 := List.pairwise_cons.mp hy
    have e : x = y := by
      by_cases q : x = y
      · exact q
      · have mx : x ∈ ys := (List.mem_cons.mp (p.mem_iff.mp List.mem_cons_self)).resolve_left q
        have my : y ∈ xs := (List.mem_cons.mp (p.mem_iff.mpr List.mem_cons_self)).resolve_left (Ne.symm q)
        rcases ltx_total (by rw [hd x List.mem_cons_self, hd y (List.mem_cons_of_mem _ my)]) q with a | a
        · rw [hy1.1 x mx] at a; cases a
        · rw [hx1.1 y my] at a; cases a
    subst e
    rw [srt_one (fun z hz => hd z (List.mem_cons_of_mem _ hz)) ((List.perm_cons x).mp p) hx1.2 hy1.2]
end K9

/-! sorted() of a list of tuples of texts -/
namespace K9
open PySem PyProof.Rows
/-- the value is a tuple of these texts -/
def TupS (h : Heap) (v : Value) (zs : List Str) : Prop := ∃ a xs, v = .ref a ∧ IsTup h a xs ∧ StrsAre xs.toList zs
theorem TupS.keeps {h h' : Heap} {v : Value} {zs : List Str} (x : TupS h v zs) (k : ∀ b o, h.get? b = some o → o.cls = .type "tuple" → h'.get? b = some o) : TupS h' v zs :=
  let ⟨a, xs, e, ⟨o, ho, hc, hd⟩, i⟩ := x
  ⟨a, xs, e, ⟨o, k _ _ ho hc, hc, hd⟩, i⟩
theorem StrsAre.one : ∀ {vs : List Value} {xs ys : List Str}, StrsAre vs xs → StrsAre vs ys → xs = ys
  | _, _, _, .nil, h => by cases h; rfl
  | _, _, _, .cons y t h, g => by
    cases g with
    | cons y' t' g => rw [StrsAre.one h g]
theorem TupS.one {h : Heap} {v : Value} {xs ys : List Str} (a : TupS h v xs) (b : TupS h v ys) : xs = ys := by
  obtain ⟨p, us, rfl, ⟨o, ho, _, n, hd⟩, i⟩ := a
  obtain ⟨q, ws, e, ⟨o', ho', _, n', hd'⟩, j⟩ := b
  cases e
  rw [ho] at ho'
  cases ho'
  rw [hd] at hd'
  cases hd'
  exact StrsAre.one i j
section
variable {prog : Program} {w : World} {A : Around} {E : Value → Shared → Prop} {s : Shared} {Q : Bool → Shared → Prop}
theorem one_less (c : Bool) {p q : Str} {t u : Tok} (h : Q (decide (lts p q)) s) : wpAny (model prog w) A (oneLt' c (.str p t) (.str q u)) Q E s := by
  cases c with
  | true => exact oneLt_str h
  | false => exact PySem.W.kat_one _ _ (PyProof.Rows.lt_str (Q := PySem.W.BoolBack Q) h)
theorem lex_less {b : Bool} : ∀ {xs ys : List Value} {ps qs : List Str} (i : Nat), StrsAre xs ps → StrsAre ys qs → ps.length = qs.length → Q (ltx ps qs) s → PySem.W.KatLex prog w A b false Q (xs.zip ys) i s
  | _, _, _, _, i, .nil, .nil, _, h => PySem.W.kat_nil h
  | _, _, _, _, i, .nil, .cons _ _ _, hl, _ => by cases hl
  | _, _, _, _, i, .cons _ _ _, .nil, hl, _ => by cases hl
  | _, _, _, _, i, .cons p t hx (vs := xs) (ys := ps), .cons q u hy (vs := ys) (ys := qs), hl, h => by
    have h : Q (if p = q then ltx ps qs else decide (lts p q)) s := h
    show PySem.W.KatLex prog w A b false Q ((Value.str p t, Value.str q u) :: xs.zip ys) i s
    refine PySem.W.kat_cons (wpAny_eqBool_str ?_)
    by_cases e : p = q
    · rw [if_pos e] at h
      rw [decide_eq_true e]
      exact PySem.W.kat_yes (lex_less (i + 1) hx hy (Nat.succ.inj hl) h)
    · rw [if_neg e] at h
      rw [decide_eq_false e]
      exact PySem.W.kat_no (one_less _ h)
end
/-- what is sorted: each is a tuple of d texts -/
structure Many (h : Heap) (d : Nat) (vs : List Value) (dat : Value → List Str) : Prop where
  tup : ∀ v ∈ vs, TupS h v (dat v)
  len : ∀ v ∈ vs, (dat v).length = d
theorem Many.keeps {h h' : Heap} {d : Nat} {vs : List Value} {dat : Value → List Str} (x : Many h d vs dat) (k : ∀ b o, h.get? b = some o → o.cls = .type "tuple" → h'.get? b = some o) : Many h' d vs dat := ⟨fun v hv => (x.tup v hv).keeps k, x.len⟩
theorem strs_all : ∀ {vs : List Value} {xs : List Str}, StrsAre vs xs → vs.length = xs.length ∧ ∀ v ∈ vs, ∃ z t, v = Value.str z t
  | _, _, .nil => ⟨rfl, fun _ h => nomatch h⟩
  | _, _, .cons y t h => by
    obtain ⟨a, b⟩ := strs_all h
    exact ⟨congrArg Nat.succ a, fun v hv => (List.mem_cons.mp hv).elim (fun e => ⟨y, t, e⟩) (b v)⟩
theorem heads {h : Heap} {d : Nat} {dat : Value → List Str} (hd : 1 ≤ d) : ∀ vs : List Value, Many h d vs dat → ∃ fs, PySem.W.KatTups h vs fs ∧ fs.length = vs.length ∧ ∀ f ∈ fs, ∃ z t, f = Value.str z t
  | [], _ => ⟨[], PySem.W.KatTups.nil, rfl, fun _ h => nomatch h⟩
  | v :: vs, x => by
    obtain ⟨fs, k, hl, hi⟩ := heads hd vs ⟨fun u hu => x.tup u (List.mem_cons_of_mem _ hu), fun u hu => x.len u (List.mem_cons_of_mem _ hu)⟩
    obtain ⟨a, xs, ev, ⟨o, ho, hc, n, hdt⟩, i⟩ := x.tup v List.mem_cons_self
    have ld := x.len v List.mem_cons_self
    obtain ⟨la, lb⟩ := strs_all i
    have l0 : 0 < xs.size := by rw [← Array.length_toList]; omega
    obtain ⟨f, hf⟩ : ∃ f, xs[0]? = some f := ⟨_, Array.getElem?_eq_getElem l0⟩
    have hm : f ∈ xs.toList := by
      rw [← Array.getElem?_toList] at hf
      exact List.mem_of_getElem? hf
    subst ev
    refine ⟨f :: fs, PySem.W.KatTups.cons ho hc hdt hf k, congrArg Nat.succ hl, fun g hg => ?_⟩
    rcases List.mem_cons.mp hg with rfl | hg
    · exact lb _ hm
    · exact hi g hg
/-- the rank of a value among the sorted -/
def rkV (vs : List Value) (dat : Value → List Str) (v : Value) : Int := (rkN (vs.map dat) (dat v) : Int)
section
variable {prog : Program} {w : World} {A : Around} {E : Value → Shared → Prop} {s : Shared}
theorem kind_texts {d : Nat} {vs : List Value} {dat : Value → List Str} (hd : 1 ≤ d) (h2 : 2 ≤ vs.length) (x : Many s.heap d vs dat) (Q : SortKind → Shared → Prop)
    (h : ∀ κ, TS.Cmp prog w A s κ (pairsOf vs) (rkV vs dat) → Q κ s) : wpAny (model prog w) A (keyKind' vs.toArray) Q E s := by
  obtain ⟨fs, k, hl, hi⟩ := heads hd vs x
  refine PySem.W.kat_kind (T := Value.type "str") k (by omega) (fun f hf => ?_) rfl (h _ ?_)
  · obtain ⟨z, t, rfl⟩ := hi f hf
    exact PySem.W.Looks.of_pure rfl
  · intro p q hp hq Q' E' hQ
    rw [pairsOf_toList] at hp hq
    have mp := (mem_zip_self hp).2
    have mq := (mem_zip_self hq).2
    have lp := x.len _ mp
    have lq := x.len _ mq
    have hQ' : Q' (ltx (dat p.1) (dat q.1)) s := by
      have z : decide (rkV vs dat p.1 < rkV vs dat q.1) = ltx (dat p.1) (dat q.1) := rk_lt (List.mem_map.mpr ⟨_, mp, rfl⟩) (by rw [lp, lq])
      rw [← z]; exact hQ
    obtain ⟨a, xs, e1, ⟨o, ho, hc, n, hdt⟩, i⟩ := x.tup _ mp
    obtain ⟨a', ys, e2, ⟨o', ho', hc', n', hdt'⟩, i'⟩ := x.tup _ mq
    rw [e1, e2]
    refine PySem.W.kat_lt ho hdt ho' hdt' ?_
    have sz : decide (xs.size < ys.size) = false := by
      have l1 := (strs_all i).1
      have l2 := (strs_all i').1
      rw [Array.length_toList] at l1 l2
      exact decide_eq_false (by omega)
    rw [sz]
    exact lex_less 0 i i' (by rw [lp, lq]) hQ'
theorem sort_texts {a : Addr} {vs : List Value} {n d : Nat} {dat : Value → List Str} {P : PySem.Fin → Shared → Prop} (ho : s.heap.get? a = some (seqObj "list" vs.toArray n)) (h64 : vs.length < 64) (hd : 1 ≤ d) (x : Many s.heap d vs dat)
    (h : ∀ out : Array Value, out.toList.Perm vs → out.toList.Pairwise (fun u v => rkV vs dat u ≤ rkV vs dat v) → P (.done (.ret .none)) { s with heap := sortedHeap s.heap a vs out }) :
    wpAny (model prog w) A (Builtin.«list.sort» ⟨[.ref a], []⟩) P E s := by
  have keep : ∀ b o, s.heap.get? b = some o → o.cls = .type "tuple" → (TS.midHeap s.heap a vs).get? b = some o := fun b o e hc => by
    refine TS.midHeap_old (fun z => ?_) e
    rw [z, ho] at e
    rw [← Option.some.inj e] at hc
    exact absurd (show Value.type "list" = Value.type "tuple" from hc) (by simp)
  refine SK.plain_sort (r := rkV vs dat) ho h64 (fun h2 Q hQ => kind_texts (s := { s with heap := TS.midHeap s.heap a vs }) hd h2 (x.keeps keep) Q hQ) fun ps out h1 h2 h3 => ?_
  obtain ⟨p, o⟩ := TS.out_rank h1 h2 h3
  exact h out p o
/-- sorted(xs) of a list -/
theorem sorted_texts {l : Addr} {vs : List Value} {d : Nat} {dat : Value → List Str} {Q : Value → Shared → Prop} (hl : s.heap.IsList l vs.toArray) (h64 : vs.length < 64) (hd : 1 ≤ d) (x : Many s.heap d vs dat)
    (h : ∀ out : Array Value, out.toList.Perm vs → out.toList.Pairwise (fun u v => rkV vs dat u ≤ rkV vs dat v) → Q (.ref (s.heap.objs.size + 1)) { s with heap := sortedAll s.heap vs out }) :
    wpAny (model prog w) A (call (.builtin "sorted") [.ref l]) Q E s := by
  refine Calls.call_function_entry kind_sorted plain_sorted entry_sorted (args_sorted1 _) ?_
  unfold Builtin.«sorted»
  refine wpAny_bind (m := checkCount "sorted" 1 1 _) (wpAny_pure ?_)
  refine wpAny_bind (collect_list hl ?_ (by rw [sizeLine_eq]; omega))
  refine wpAny_bind (wpAny_newList ?_ (by rw [sizeLine_eq]; omega))
  let h1 : Heap := (s.heap.push (seqObj "list" #[] 0)).update s.heap.objs.size (Obj.mapSeq (· ++ vs.toArray))
  have z1 : h1.objs.size = s.heap.objs.size + 1 := by show ((s.heap.push _).update _ _).objs.size = _; rw [Heap.size_update, size_push']
  have new : (h1.push (seqObj "list" vs.toArray 0)).get? (s.heap.objs.size + 1) = some (seqObj "list" vs.toArray 0) := by rw [← z1]; exact Heap.get?_push_size _ rfl
  have old : ∀ b o, s.heap.get? b = some o → o.cls = .type "tuple" → (h1.push (seqObj "list" vs.toArray 0)).get? b = some o := fun b o q _ => by
    have lt := Heap.lt_size q
    rw [Heap.get?_push_ne _ _ _ (by rw [z1]; exact Nat.ne_of_lt (Nat.lt_succ_of_lt lt))]
    show ((s.heap.push _).update _ _).get? b = some o
    rw [Heap.get?_update_ne _ _ _ _ (Nat.ne_of_lt lt), Heap.get?_push_ne _ _ _ (Nat.ne_of_lt lt)]
    exact q
  show wpAny _ _ _ _ _ { s with heap := h1.push (seqObj "list" vs.toArray 0) }
  show wpAny _ _ (holding [.ref h1.objs.size] _ >>= _) _ _ _
  rw [z1]
  refine wpAny_bind (wpAny_holding (wpAny_call_entry slot_list_sort ⟨_, new, rfl⟩ entry_list_sort (sort_texts new h64 hd (x.keeps old) fun out a1 a2 => ⟨_, rfl, ?_⟩) (args_list_sort _)))
  exact wpAny_pure ⟨_, rfl, h out a1 a2⟩
end
end K9
namespace L2
open PySem PySem.Spec PyProof.Rows
/-- x is a tuple of the texts zs -/
def TxT (K : PySem.W.Frag) (H : Hp) (x : V) (zs : List Str) : Prop := ∃ t, x = .ref t ∧ SqT K H t (zs.map V.str)
section
variable {X : Cx} {pins : List (Addr × Obj)} {σ : St} {H : Hp} {s : Shared}
theorem txt_raw (I : Inv X pins σ H s) {t : Addr} {zs : List Str} (h : SqT X.K H t (zs.map V.str)) : K9.TupS s.heap (.ref t) zs := by
  obtain ⟨its, rv, hT, _⟩ := I.tuple h
  exact ⟨t, its.toArray, rfl, hT, by simpa using rv.strs⟩
/-- sorted(xs), xs a list of tuples of d texts: a new list of the same, in their order -/
def rSortX (K : PySem.W.Frag) (d : Nat) : List V → Hp → VK → Prop := fun vs H Q => ∃ (a : Addr) (xs : List V), vs = [V.ref a] ∧ SqL K H a xs ∧ xs.length < 64 ∧ (∀ x ∈ xs, ∃ zs, TxT K H x zs ∧ zs.length = d) ∧
  ∀ (ys : List V) (p : Addr), ys.Perm xs → ys.Pairwise (fun x y => ∀ n m, TxT K H x n → TxT K H y m → K9.ltx m n = false) → H p = none → Q (.ref p) (upd H p (.lst ys))
open Classical in
theorem cr_sortX {d : Nat} (hd : 1 ≤ d) : CallR X (.builtin "sorted") (rSortX X.K d) := by
  intro pins s σ H vs us Q I r h
  obtain ⟨a, xs, rfl, hs, h64, hx, q⟩ := h
  obtain ⟨its, rv, hl, hz⟩ := I.list hs
  rw [Vals.ref1 r]
  obtain ⟨e1, e2⟩ := bkV_refs rv fun x m => by
    obtain ⟨zs, ⟨t, e, _⟩, _⟩ := hx x m
    exact ⟨t, e⟩
  let dat : Value → List Str := fun u => if c : ∃ zs, K9.TupS s.heap u zs then choose c else []
  have dt : ∀ {u zs}, K9.TupS s.heap u zs → dat u = zs := fun {u zs} h => by
    have c : ∃ zs, K9.TupS s.heap u zs := ⟨zs, h⟩
    show (if c : ∃ zs, K9.TupS s.heap u zs then choose c else []) = zs
    rw [dif_pos c]
    exact (choose_spec c).one h
  have mem : ∀ v ∈ its, ∃ (t : Addr) (zs : List Str), v = Value.ref t ∧ SqT X.K H t (zs.map V.str) ∧ zs.length = d := fun v hv => by
    obtain ⟨t, rfl⟩ := e2 v hv
    have hm : V.ref t ∈ xs := by
      rw [e1]
      exact List.mem_map.mpr ⟨_, hv, rfl⟩
    obtain ⟨zs, ⟨t', e, ht⟩, hn⟩ := hx _ hm
    cases e
    exact ⟨t, zs, rfl, ht, hn⟩
  have M : K9.Many s.heap d its dat := ⟨fun v hv => by
      obtain ⟨t, zs, rfl, ht, hn⟩ := mem v hv
      have r := txt_raw I ht
      rw [dt r]
      exact r, fun v hv => by
      obtain ⟨t, zs, rfl, ht, hn⟩ := mem v hv
      rw [dt (txt_raw I ht), hn]⟩
  refine K9.sorted_texts hl.isList (by rw [← rv.length]; exact h64) hd M fun out h1 h2 => ?_
  obtain ⟨ep, he'⟩ := PyProof.Rows.sortedAll_at s.heap its out
  have h3 : ∀ u ∈ out.toList, ∃ a, u = Value.ref a := fun u hu => e2 u (h1.mem_iff.mp hu)
  have hp : (out.toList.map bkV).Perm xs := by
    rw [e1]
    exact h1.map bkV
  have hlen : (out.toList.map bkV).length ≤ sizeLine := by
    rw [hp.length_eq]
    exact hz
  refine ⟨.ref _, upd H (s.heap.objs.size + 1) (.lst (out.toList.map bkV)), I.laid (t' := s.toks) (fun _ _ => PyProof.Rows.sortedAll_old) (Nat.le_succ _) ⟨hlen, out.toList, ep, bkV_vals h3, he'⟩, rfl, q _ _ hp ?_ (I.hok.fresh (Nat.le_succ _))⟩
  rw [List.pairwise_map]
  refine List.Pairwise.imp_of_mem (fun {u v} hu hv huv n m hn hm => ?_) h2
  obtain ⟨t, et, ht⟩ := hn
  obtain ⟨t', et', ht'⟩ := hm
  have i1 := dt (txt_raw I ht)
  have i2 := dt (txt_raw I ht')
  rw [← bkV_ref et] at i1
  rw [← bkV_ref et'] at i2
  have mv := h1.mem_iff.mp hv
  have lu := M.len u (h1.mem_iff.mp hu)
  have lv := M.len v mv
  cases c : K9.ltx m n with
  | false => rfl
  | true =>
    have z := K9.rk_lt (ds := its.map dat) (x := m) (y := n) (List.mem_map.mpr ⟨v, mv, i2⟩) (by rw [← i1, ← i2, lu, lv])
    rw [c] at z
    have z := of_decide_eq_true z
    have huv : (K9.rkN (its.map dat) (dat u) : Int) ≤ (K9.rkN (its.map dat) (dat v) : Int) := huv
    rw [i1, i2] at huv
    omega
end
end L2

/-! sets whose members are objects: any kind of keys in objects (tuples of texts, say) -/
namespace K9T
open PySem PySem.Spec PyProof.Rows L2
section
variable {P : Program} {w : World} {κ : Type} [DecidableEq κ]
/-- keys in objects that a set may hold: what is asked of them is answered, and they stay while sequences stay -/
structure Calm (knd : HeapKind P w κ) : Prop where
  stay : ∀ {h h' : Heap} {k : κ} {b : Addr}, (∀ c o vs n, h.get? c = some o → o.data = .seq vs n → h'.get? c = some o) → knd.is h k b → knd.is h' k b
  stm : ∀ {A : Around} {E : Value → Shared → Prop} {s : Shared} {k : κ} {b : Addr} {Q : Bool → Shared → Prop}, knd.is s.heap k b → Q false s → wpAny (model P w) A (ofAClassStatement 8 (.ref b)) Q E s
  val : ∀ {A : Around} {E : Value → Shared → Prop} {s : Shared} {k : κ} {b : Addr} {Q : Bool → Shared → Prop}, knd.is s.heap k b → (∀ c, Q c s) → wpAny (model P w) A (hashByValue 8 (.ref b)) Q E s
variable {knd : HeapKind P w κ}
theorem Calm.but (C : Calm knd) {h h' : Heap} {k : κ} {a b : Addr} {o : Obj} {es : Array (Int × Value)} {ep : Nat} {t : SetTable} (hb : knd.is h k b) (ho : h.get? a = some o) (hd : o.data = .set es ep t) (hs : Heap.SameBut a h h') : knd.is h' k b :=
  C.stay (fun c o' vs n e d => (hs.2 c fun z => by
    rw [z, ho] at e
    cases e
    rw [hd] at d
    cases d).trans e) hb
theorem Calm.more (C : Calm knd) {h h' : Heap} {k : κ} {b : Addr} (hb : knd.is h k b) (hs : ∀ c o, h.get? c = some o → h'.get? c = some o) : knd.is h' k b := C.stay (fun c o _ _ e _ => hs c o e) hb
/-- the entries of a set with these members -/
def ent (knd : HeapKind P w κ) (m : List (κ × Addr)) : List (Int × Value) := m.map fun p => (knd.hash p.1, Value.ref p.2)
def hsh (knd : HeapKind P w κ) (m : List (κ × Addr)) : List Int := m.map fun p => knd.hash p.1
/-- at a the set of these members -/
structure Mem (knd : HeapKind P w κ) (h : Heap) (a : Addr) (m : List (κ × Addr)) (es : Array (Int × Value)) (ep : Nat) (t : SetTable) : Prop where
  ob : ∃ o, h.get? a = some o ∧ o.ExactSet ∧ o.data = .set es ep t
  row : es.toList = ent knd m
  tab : TabOk t (hsh knd m)
  one : (m.map (·.1)).Nodup
  key : ∀ p ∈ m, knd.is h p.1 p.2
  led : w.params.followText "set-order" = true ∨ t.led = true
  gap : m.length * 5 < t.mask * 3
  few : m.length < 64
theorem ent_len (m : List (κ × Addr)) : (ent knd m).length = m.length := List.length_map ..
theorem hsh_len (m : List (κ × Addr)) : (hsh knd m).length = m.length := List.length_map ..
theorem es_size {es : Array (Int × Value)} {m : List (κ × Addr)} (h : es.toList = ent knd m) : es.size = m.length := by
  rw [← Array.length_toList, h, ent_len]
theorem es_at {es : Array (Int × Value)} {m : List (κ × Addr)} (h : es.toList = ent knd m) {i : Nat} {p : κ × Addr} (hp : m[i]? = some p) : es[i]? = some (knd.hash p.1, Value.ref p.2) := by
  rw [← Array.getElem?_toList, h]
  unfold ent
  rw [List.getElem?_map, hp]
  rfl
theorem hsh_at {m : List (κ × Addr)} {i : Nat} {p : κ × Addr} (hp : m[i]? = some p) : (hsh knd m)[i]? = some (knd.hash p.1) := by
  unfold hsh
  rw [List.getElem?_map, hp]
  rfl
theorem place_lt {t : SetTable} {m : List (κ × Addr)} (T : TabOk t (hsh knd m)) {i j : Nat} (h : t.place.toList[i]? = some j) : ∃ p, m[i]? = some p := by
  have lt := (List.getElem?_eq_some_iff.mp h).1
  rw [Array.length_toList, T.sz, hsh_len] at lt
  exact ⟨m[i], List.getElem?_eq_getElem lt⟩
theorem place_at {t : SetTable} {m : List (κ × Addr)} (T : TabOk t (hsh knd m)) {i : Nat} {p : κ × Addr} (h : m[i]? = some p) : ∃ j, t.place.toList[i]? = some j := by
  have lt := (List.getElem?_eq_some_iff.mp h).1
  have lt : i < t.place.toList.length := by rw [Array.length_toList, T.sz, hsh_len]; exact lt
  exact ⟨_, List.getElem?_eq_getElem lt⟩
theorem fits_of {t : SetTable} {m : List (κ × Addr)} {es : Array (Int × Value)} (T : TabOk t (hsh knd m)) (hr : es.toList = ent knd m) (le : m.length ≤ t.mask) : t.fits es.size = true := by
  have a := T.sz
  have b := es_size hr
  rw [hsh_len] at a
  unfold SetTable.fits SetTable.fill
  rw [T.dm, Bool.and_eq_true, beq_iff_eq, decide_eq_true_eq]
  show t.place.size = es.size ∧ t.place.size + 0 ≤ t.mask
  omega
/-- the table is not plain any more -/
theorem tab_plain {t : SetTable} {hs : List Int} (T : TabOk t hs) (c : Bool) : TabOk (if c = true then t else { t with plain := false }) hs := by
  cases c with
  | true => exact T
  | false => exact ⟨T.ris, T.dm, T.sz, T.mok, T.bd, T.reach⟩
variable {A : Around} {E : Value → Shared → Prop} {s : Shared} {a : Addr} {m : List (κ × Addr)} {es : Array (Int × Value)} {ep : Nat} {t : SetTable}
theorem Mem.fits (R : Mem knd s.heap a m es ep t) : t.fits es.size = true := fits_of R.tab R.row (by have := R.gap; omega)
theorem Mem.odd (R : Mem knd s.heap a m es ep t) : ¬ t.gaveWay = true := by
  unfold SetTable.gaveWay
  rw [mask_odd R.tab.mok]
  decide
/-- a search among such keys is not seen -/
theorem unseen (C : Calm knd) {k : κ} {b : Addr} {Q : Bool → Shared → Prop} (hk : knd.is s.heap k b) (h : Q false s) : ∀ ys : List Value, (∀ y ∈ ys, ∃ k' c, y = Value.ref c ∧ knd.is s.heap k' c) → wpAny (model P w) A (searchCouldBeSeen (.ref b) ys) Q E s := by
  intro ys hy
  unfold searchCouldBeSeen
  refine wpAny_bind (wpAny_forIn_list _ (fun rest r s' => (s' = s ∧ r.1 = none) ∧ ∀ y ∈ rest, ∃ k' c, y = Value.ref c ∧ knd.is s.heap k' c) _ (fun v rest r s' z => ?_) (fun r s' z => ?_) _ _ ⟨⟨rfl, rfl⟩, hy⟩)
  · obtain ⟨⟨rfl, hr⟩, all⟩ := z
    obtain ⟨k', c, rfl, hc⟩ := all v List.mem_cons_self
    have on := fun u hu => all u (List.mem_cons_of_mem _ hu)
    dsimp only
    by_cases e : (b == c || (carriedByValue (.ref b) && carriedByValue (.ref c))) = true
    · exact wp_if_pos e (wpAny_pure ⟨⟨rfl, rfl⟩, on⟩)
    · refine wp_if_neg e (wpAny_bind (knd.quiet hk ?_))
      simp only [Bool.not_true, Bool.false_eq_true, if_false]
      refine wpAny_bind (knd.quiet hc ?_)
      simp only [Bool.not_true, Bool.false_eq_true, if_false]
      refine wpAny_bind (C.stm hk ?_)
      simp only [Bool.false_eq_true, if_false]
      refine wpAny_bind (C.stm hc ?_)
      simp only [Bool.false_eq_true, if_false]
      exact wpAny_pure ⟨⟨rfl, rfl⟩, on⟩
  · obtain ⟨⟨rfl, hr⟩, _⟩ := z
    obtain ⟨r1, r2⟩ := r
    cases hr
    exact wpAny_pure h
/-- the c-th state of a search for the hash h -/
abbrev stp (m : Nat) (h : Int) (c : Nat) : SetTable.Probe := nth m (runAt m (SetTable.bits h % (m + 1)) (SetTable.bits h)) c
theorem stp_add (m : Nat) (h : Int) (c q : Nat) : nth m (stp m h c) q = stp m h (c + q) := (nth_add m c _ q).symm
theorem stp_dummy (m : Nat) (h : Int) : ∀ c, (stp m h c).dummy = none
  | 0 => rfl
  | c + 1 => by
    have ih := stp_dummy m h c
    show (nth m _ (c + 1)).dummy = none
    rw [nth_succ]
    unfold adv
    split <;> exact ih
abbrev hAt (es : Array (Int × Value)) : Nat → Int := fun i => (es[i]?.map (·.1)).getD 0
/-- where the search for h that stands at its c-th state comes to: the first entry of that hash, or the empty slot -/
theorem met {h : Int} {K c : Nat} (T : TabOk t (hsh knd m)) (hr : es.toList = ent knd m) (hf : K < 10 * SetTable.turns t.mask) (h1 : way t.mask h K ∉ t.place.toList) (h2 : ∀ q, q < K → way t.mask h q ∈ t.place.toList) (hc : c ≤ K) :
    (∃ q i p, c ≤ q ∧ q < K ∧ t.place.toList[i]? = some (way t.mask h q) ∧ m[i]? = some p ∧ (∀ (q' i' : Nat) (p' : κ × Addr), c ≤ q' → q' < q → t.place.toList[i']? = some (way t.mask h q') → m[i']? = some p' → knd.hash p'.1 ≠ h) ∧
      t.probe (hAt es) h (stp t.mask h c) = some (.candidate (way t.mask h q) i (stp t.mask h (q + 1)))) ∨
    ((∀ (q' i' : Nat) (p' : κ × Addr), c ≤ q' → q' < K → t.place.toList[i']? = some (way t.mask h q') → m[i']? = some p' → knd.hash p'.1 ≠ h) ∧ t.probe (hAt es) h (stp t.mask h c) = some (.empty (way t.mask h K) none)) := by
  have hh : ∀ (i : Nat) p, m[i]? = some p → hAt es i = knd.hash p.1 := fun i p hp => by
    show (es[i]?.map (·.1)).getD 0 = _
    rw [es_at hr hp]
    rfl
  have js : ∀ q, (nth t.mask (stp t.mask h c) q).j = way t.mask h (c + q) := fun q => congrArg SetTable.Probe.j (stp_add t.mask h c q)
  have goes := go_spec t T.ris T.dm (hAt es) h (10 * SetTable.turns t.mask) (K - c) _ (stp_dummy t.mask h c) (by omega) (fun q hq => by rw [js]; exact h2 _ (by omega)) (by rw [js, Nat.add_sub_cancel' hc]; exact h1)
  rcases goes with ⟨q, i, g1, g2, g3, g4, g5⟩ | ⟨g1, g2⟩
  · rw [js] at g2 g5
    rw [stp_add] at g5
    obtain ⟨p, hp⟩ := place_lt T g2
    refine .inl ⟨c + q, i, p, by omega, by omega, g2, hp, fun q' i' p' a1 a2 a3 a4 => ?_, g5⟩
    rw [← hh i' p' a4]
    exact g4 (q' - c) i' (by omega) (by rw [js, Nat.add_sub_cancel' a1]; exact a3)
  · rw [js, Nat.add_sub_cancel' hc] at g2
    refine .inr ⟨fun q' i' p' a1 a2 a3 a4 => ?_, g2⟩
    rw [← hh i' p' a4]
    exact g1 (q' - c) i' (by omega) (by rw [js, Nat.add_sub_cancel' a1]; exact a3)
/-- the search, from its c-th state on: all of the key that it asks for lie there -/
theorem seek (C : Calm knd) (R : Mem knd s.heap a m es ep t) {x : Addr} {k : κ} (hx : knd.is s.heap k x) (hu : knd.room A) {K : Nat} (hf : K < 10 * SetTable.turns t.mask) (h1 : way t.mask (knd.hash k) K ∉ t.place.toList)
    (h2 : ∀ q, q < K → way t.mask (knd.hash k) q ∈ t.place.toList) {Q : SetFound → Shared → Prop} (yes : k ∈ m.map (·.1) → Q (.there none) s) (no : k ∉ m.map (·.1) → Q (.free (way t.mask (knd.hash k) K) false) s) :
    ∀ (n c : Nat) (stand : Option SetTable.Probe), stand.getD (t.probeStart (knd.hash k)) = stp t.mask (knd.hash k) c → c ≤ K → K - c < n → (∀ (i : Nat) p, m[i]? = some p → p.1 = k → ∃ q, c ≤ q ∧ q < K ∧ t.place.toList[i]? = some (way t.mask (knd.hash k) q)) →
      wpAny (model P w) A (setSearchFrom a (.ref x) (knd.hash k) true n stand) Q E s := by
  obtain ⟨o, ho, hex, hd⟩ := R.ob
  intro n
  induction n with
  | zero => intro c stand _ _ hn; omega
  | succ n ih =>
    intro c stand hs hc hn lie
    rw [setSearchFrom_succ]
    refine wpAny_bind (wpAny_setState_of ho hd R.fits ?_)
    dsimp only
    refine wp_if_neg R.odd ?_
    try refine wpAny_bind (wpAny_pure ?_)
    rw [hs]
    rcases met R.tab R.row hf h1 h2 hc with ⟨q, i, p, q1, q2, hi, hp, before, pr⟩ | ⟨before, pr⟩
    · have pr : t.probe (fun i => (es[i]?.map (·.1)).getD 0) (knd.hash k) (stp t.mask (knd.hash k) c) = _ := pr
      rw [pr]
      dsimp only
      have mp : p ∈ m := List.mem_of_getElem? hp
      have live : t.slot (way t.mask (knd.hash k) q) = .live i := slot_live R.tab.ris hi
      have rest : wpAny (model P w) A (searchRest a (.ref x) (knd.hash k) true n es t (way t.mask (knd.hash k) q) i (stp t.mask (knd.hash k) (q + 1))) Q E s := by
        unfold searchRest
        rw [es_at R.row hp]
        dsimp only
        refine wpAny_bind (wpAny_holding (knd.eqBool hu (R.key p mp) hx ?_))
        refine wpAny_bind (wpAny_setState_of ho hd R.fits ?_)
        dsimp only
        by_cases e : p.1 = k
        · exact wp_if_pos (by simp [e]) (wpAny_pure (yes (List.mem_map.mpr ⟨p, mp, e⟩)))
        · refine wp_if_neg (by simp [e]) ?_
          try refine wpAny_bind (wpAny_pure ?_)
          rw [sameMem]
          dsimp only
          simp only [if_true, live, es_at R.row hp]
          refine wpAny_bind (wpAny_isSame_ref_self (wpAny_bind (wpAny_pure ?_)))
          simp only [if_true]
          refine wp_if_neg (by simp [e]) (ih (q + 1) _ rfl (by omega) (by omega) fun i0 p0 g0 e0 => ?_)
          obtain ⟨r, r1, r2, r3⟩ := lie i0 p0 g0 e0
          refine ⟨r, ?_, r2, r3⟩
          rcases Nat.lt_trichotomy r q with z | z | z
          · exact absurd (congrArg knd.hash e0) (before r i0 p0 r1 z r3 g0)
          · rw [z] at r3
            have l2 := slot_live R.tab.ris r3
            rw [live] at l2
            cases l2
            rw [hp] at g0
            cases g0
            exact absurd e0 e
          · exact z
      by_cases l : t.led = true
      · refine wp_if_neg (by simp [l]) ?_
        try refine wpAny_bind (wpAny_pure ?_)
        exact rest
      · refine wp_if_pos (by simp [l]) (wpAny_bind (unseen C hx ?_ _ fun y hy => ?_))
        · refine wp_if_neg (by decide) ?_
          try refine wpAny_bind (wpAny_pure ?_)
          exact rest
        · obtain ⟨e, he, rfl⟩ := List.mem_map.mp hy
          have he : e ∈ es.toList := by
            have z : e ∈ es ∧ e.1 = knd.hash k := by simpa using he
            simpa using z.1
          rw [R.row] at he
          obtain ⟨p2, hp2, rfl⟩ := List.mem_map.mp he
          exact ⟨p2.1, p2.2, rfl, R.key p2 hp2⟩
    · have pr : t.probe (fun i => (es[i]?.map (·.1)).getD 0) (knd.hash k) (stp t.mask (knd.hash k) c) = _ := pr
      rw [pr]
      dsimp only
      refine wpAny_pure (no fun hm => ?_)
      obtain ⟨p, hp, e⟩ := List.mem_map.mp hm
      obtain ⟨i, hi, ei⟩ := List.getElem_of_mem hp
      have gi : m[i]? = some p := by rw [List.getElem?_eq_getElem hi, ei]
      obtain ⟨q, r1, r2, r3⟩ := lie i p gi e
      exact before q i p r1 r2 r3 gi (congrArg knd.hash e)
theorem search (C : Calm knd) (R : Mem knd s.heap a m es ep t) {x : Addr} {k : κ} (hx : knd.is s.heap k x) (hu : knd.room A) {Q : SetFound → Shared → Prop} (yes : k ∈ m.map (·.1) → Q (.there none) s)
    (no : ∀ K, k ∉ m.map (·.1) → way t.mask (knd.hash k) K ∉ t.place.toList → (∀ q, q < K → way t.mask (knd.hash k) q ∈ t.place.toList) → Q (.free (way t.mask (knd.hash k) K) false) s) :
    wpAny (model P w) A (setSearch a (.ref x) (knd.hash k) true) Q E s := by
  obtain ⟨K, hf, h1, h2⟩ := R.tab.first (by rw [hsh_len]; have := R.gap; omega) (knd.hash k)
  have big : K < 100000 := by
    have : 10 * SetTable.turns t.mask ≤ 1420 := by
      unfold SetTable.turns
      rcases R.tab.mok with e | e | e <;> omega
    omega
  unfold setSearch
  refine seek C R hx hu hf h1 h2 yes (fun n => no K n h1 h2) 100000 0 none rfl (Nat.zero_le _) (by omega) fun i p hp e => ?_
  obtain ⟨j, hj⟩ := place_at R.tab hp
  have hh := hsh_at (knd := knd) hp
  rw [e] at hh
  obtain ⟨q, q1, q2⟩ := R.tab.before h1 hh hj
  exact ⟨q, Nat.zero_le _, q1, by rw [hj, q2]⟩
/-- the entries in another order are the members in another order -/
theorem reorder {es : Array (Int × Value)} (order : Array Nat) (hr : es.toList = ent knd m) (hp : order.toList.Perm (List.range m.length)) :
    ∃ m2, (order.filterMap (es[·]?)).toList = ent knd m2 ∧ m2.Perm m ∧ hsh knd m2 = order.toList.map fun i => (es.map (·.1)).getD i 0 := by
  have at_ : ∀ i, i < m.length → ∃ p, m[i]? = some p ∧ es[i]? = some (knd.hash p.1, Value.ref p.2) ∧ (es.map (·.1)).getD i 0 = knd.hash p.1 := fun i hi => by
    have e := es_at hr (List.getElem?_eq_getElem hi)
    refine ⟨_, List.getElem?_eq_getElem hi, e, ?_⟩
    have e2 : (es.map (·.1))[i]? = some (knd.hash m[i].1) := by rw [Array.getElem?_map, e]; rfl
    simp [Array.getD_eq_getD_getElem?, e2]
  have both : ∀ l : List Nat, (∀ i ∈ l, i < m.length) → l.filterMap (fun i => es[i]?) = ent knd (l.filterMap fun i => m[i]?) ∧ hsh knd (l.filterMap fun i => m[i]?) = l.map fun i => (es.map (·.1)).getD i 0 := by
    intro l
    induction l with
    | nil => exact fun _ => ⟨rfl, rfl⟩
    | cons i l ih =>
      intro hl
      obtain ⟨p, p1, p2, p3⟩ := at_ i (hl i List.mem_cons_self)
      obtain ⟨a1, a2⟩ := ih fun j hj => hl j (List.mem_cons_of_mem _ hj)
      rw [List.filterMap_cons_some p2, List.filterMap_cons_some p1, List.map_cons, p3, a1, ← a2]
      exact ⟨rfl, rfl⟩
  obtain ⟨b1, b2⟩ := both order.toList fun i hi => List.mem_range.mp (hp.mem_iff.mp hi)
  refine ⟨_, by first | (rw [Array.toList_filterMap]; exact b1) | simpa using b1, ?_, b2⟩
  have all : ∀ n, n ≤ m.length → (List.range n).filterMap (fun i => m[i]?) = m.take n := by
    intro n
    induction n with
    | zero => exact fun _ => rfl
    | succ n ih =>
      intro hn
      rw [List.range_succ, List.filterMap_append, ih (Nat.le_of_lt hn), List.take_succ, List.getElem?_eq_getElem hn, List.filterMap_cons_some (List.getElem?_eq_getElem hn)]
      rfl
  have z := hp.filterMap fun i => m[i]?
  rw [all _ (Nat.le_refl _), List.take_length] at z
  exact z
/-- the table is laid anew -/
theorem relay (C : Calm knd) {o : Obj} (ho : s.heap.get? a = some o) (hex : o.ExactSet) (hd : o.data = .set es ep t) (hr : es.toList = ent knd m) (T : TabOk t (hsh knd m)) (le : m.length ≤ t.mask) (one : (m.map (·.1)).Nodup) (key : ∀ p ∈ m, knd.is s.heap p.1 p.2)
    (led : w.params.followText "set-order" = true ∨ t.led = true) (few : m.length < 64) {wanted M : Nat} (hw : SetTable.sizeAbove wanted - 1 = M) (hM : MaskOk M) (hw2 : SetTable.sizeAbove wanted ≤ 128) (gap : m.length * 5 < M * 3) {Q : Unit → Shared → Prop}
    (h : ∀ h' m' es' ep' t', Heap.SameBut a s.heap h' → Mem knd h' a m' es' ep' t' → m'.Perm m → Q () { s with heap := h' }) : wpAny (model P w) A (setRelay a wanted) Q E s := by
  have sz := es_size hr
  obtain ⟨t', order, e, pm, T', em, el, epl, ed⟩ := relaid_ok t (hs := es.map (·.1)) (wanted := wanted) hw hM (by rw [Array.size_map, sz]; omega)
  rw [Array.size_map, sz] at pm
  obtain ⟨m2, r1, r2, r3⟩ := reorder order hr pm
  rw [← r3] at T'
  have sz2 : (order.filterMap (es[·]?)).size = es.size := by rw [es_size r1, sz, r2.length_eq]
  rw [setRelay_eq]
  refine wpAny_bind (wpAny_setState_of ho hd (fits_of T hr le) ?_)
  dsimp only
  refine wp_if_neg (by rw [sizeLine_eq]; omega) ?_
  try refine wpAny_bind (wpAny_pure ?_)
  rw [e]
  dsimp only
  refine wpAny_bind ?_
  refine wp_if_neg (by rw [sz2]; simp) ?_
  try refine wpAny_bind (wpAny_pure ?_)
  refine wpAny_pure ?_
  dsimp only
  refine wpAny_storeSet_of ho hd ?_ (by rw [sz2, sz, sizeLine_eq]; omega)
  have sb : Heap.SameBut a s.heap (s.heap.update a (Obj.putSet (order.filterMap (es[·]?)) t')) := Heap.SameBut.update ..
  refine h _ m2 _ (ep + 1) t' sb ⟨⟨_, store_at ho hd, ⟨hex.1, hex.2.1, hex.2.2⟩, rfl⟩, r1, T', (r2.map (·.1)).nodup_iff.mpr one, fun p hp => C.but (key p (r2.mem_iff.mp hp)) ho hd sb, by rw [el]; exact led, by rw [r2.length_eq, em]; exact gap, by rw [r2.length_eq]; exact few⟩ r2
/-- one more -/
theorem put (C : Calm knd) (R : Mem knd s.heap a m es ep t) {x : Addr} {k : κ} (hx : knd.is s.heap k x) (hu : knd.room A) (few : m.length + 1 < 64) {Q : Bool → Shared → Prop}
    (h : ∀ b h' m' es' ep' t', Heap.SameBut a s.heap h' → Mem knd h' a m' es' ep' t' → m'.Perm (if k ∈ m.map (·.1) then m else (k, x) :: m) → Q b { s with heap := h' }) :
    wpAny (model P w) A (setAddHashed a (.ref x) (knd.hash k)) Q E s := by
  obtain ⟨o, ho, hex, hd⟩ := R.ob
  have sz := es_size R.row
  have gap := R.gap
  unfold setAddHashed
  refine wpAny_holding ?_
  rw [show (100000 : Nat) = 99999 + 1 from rfl, setAddHashedIn_succ]
  refine wpAny_bind (wpAny_setState_of ho hd R.fits ?_)
  dsimp only
  refine wp_if_neg (by simp [byScan, Value.scannable]) ?_
  try refine wpAny_bind (wpAny_pure ?_)
  refine wpAny_bind (search C R hx hu (fun yes => ?_) fun K no h1 h2 => ?_)
  · dsimp only
    exact wpAny_pure (h false s.heap m es ep t (Heap.SameBut.refl a s.heap) R (by rw [if_pos yes]))
  have h : ∀ b h' m' es' ep' t', Heap.SameBut a s.heap h' → Mem knd h' a m' es' ep' t' → m'.Perm ((k, x) :: m) → Q b { s with heap := h' } := fun b h' m' es' ep' t' z1 z2 z3 => h b h' m' es' ep' t' z1 z2 (by rw [if_neg no]; exact z3)
  dsimp only
  refine wpAny_bind (wpAny_setState_of ho hd R.fits ?_)
  dsimp only
  obtain ⟨e1, le, T1, em, el, _, _, _, ef⟩ := R.tab.put h1 h2
  generalize hT : t.put (way t.mask (knd.hash k) K) = pt at e1 T1 em el ef ⊢
  obtain ⟨t1, p⟩ := pt
  dsimp only at e1 T1 em el ef ⊢
  subst e1
  generalize SetTable.below t.place (way t.mask (knd.hash k) K) = j at le T1 ⊢
  rw [hsh_len] at le ef
  have row : (SetTable.insertAt es j (knd.hash k, Value.ref x)).toList = ent knd (m.take j ++ (k, x) :: m.drop j) := by
    rw [SetTable.toList_insertAt, R.row]
    unfold ent
    rw [List.map_append, List.map_cons, List.map_take, List.map_drop]
  have T1 : TabOk t1 (hsh knd (m.take j ++ (k, x) :: m.drop j)) := by
    have e : hsh knd (m.take j ++ (k, x) :: m.drop j) = (hsh knd m).take j ++ knd.hash k :: (hsh knd m).drop j := by
      unfold hsh
      rw [List.map_append, List.map_cons, List.map_take, List.map_drop]
    rw [e]
    exact T1
  have pm : (m.take j ++ (k, x) :: m.drop j).Perm ((k, x) :: m) := put_perm m j (k, x)
  generalize SetTable.insertAt es j (knd.hash k, Value.ref x) = es1 at row ⊢
  generalize m.take j ++ (k, x) :: m.drop j = m1 at row T1 pm
  have len1 : m1.length = m.length + 1 := pm.length_eq
  have sz1 : es1.size = m.length + 1 := by rw [es_size row, len1]
  have one1 : (m1.map (·.1)).Nodup := (pm.map (·.1)).nodup_iff.mpr (by rw [List.map_cons]; exact List.nodup_cons.mpr ⟨no, R.one⟩)
  -- with or without the mark of plain keys
  have fin : ∀ t2 : SetTable, TabOk t2 (hsh knd m1) → t2.mask = t.mask → t2.led = t.led → t2.fill = m.length + 1 → wpAny (model P w) A (storeSet a es1 t2 >>= fun _ => if (!false && t2.tooFull) = true then setRelay a (SetTable.grown (es.size + 1)) >>= fun _ => pure true else pure true) Q E s := by
    intro t2 T2 em el ef
    refine wpAny_bind (wpAny_storeSet_of ho hd ?_ (by rw [sz1, sizeLine_eq]; omega))
    have sb : Heap.SameBut a s.heap (s.heap.update a (Obj.putSet es1 t2)) := Heap.SameBut.update ..
    have ho1 := store_at (es' := es1) (t' := t2) ho hd
    generalize s.heap.update a (Obj.putSet es1 t2) = g at sb ho1 ⊢
    have key1 : ∀ p ∈ m1, knd.is g p.1 p.2 := fun p hp => by
      rcases List.mem_cons.mp (pm.mem_iff.mp hp) with rfl | hp
      · exact C.but hx ho hd sb
      · exact C.but (R.key p hp) ho hd sb
    have led1 : w.params.followText "set-order" = true ∨ t2.led = true := by rw [el]; exact R.led
    by_cases full : t2.tooFull = true
    · refine wp_if_pos (by simp [full]) (wpAny_bind ?_)
      have full5 : (m.length + 1) * 5 ≥ t.mask * 3 := by
        have z := full
        unfold SetTable.tooFull at z
        rw [decide_eq_true_eq, ef, em] at z
        exact z
      rw [sz]
      have go : ∀ M, SetTable.sizeAbove (SetTable.grown (m.length + 1)) - 1 = M → MaskOk M → SetTable.sizeAbove (SetTable.grown (m.length + 1)) ≤ 128 → (m.length + 1) * 5 < M * 3 → m.length + 1 ≤ t.mask →
          wpAny (model P w) A (setRelay a (SetTable.grown (m.length + 1))) (fun _ s' => wpAny (model P w) A (pure true) Q E s') E { s with heap := g } := fun M a1 a2 a3 a4 a5 =>
        relay (s := { s with heap := g }) C ho1 ⟨hex.1, hex.2.1, hex.2.2⟩ rfl row T2 (by rw [len1, em]; exact a5) one1 key1 led1 (by rw [len1]; exact few) a1 a2 a3 (by rw [len1]; exact a4) fun g2 m2 es2 ep2 t3 sb2 R2 pm2 =>
          wpAny_pure (h true g2 m2 es2 ep2 t3 (sb.trans sb2) R2 (pm2.trans pm))
      rcases R.tab.mok with e | e | e
      · have l4 : m.length = 4 := by rw [e] at full5 gap; omega
        exact go 31 (by rw [l4, size_20]) (.inr (.inl rfl)) (by rw [l4, size_20]; decide) (by omega) (by omega)
      · have l4 : m.length = 18 := by rw [e] at full5 gap; omega
        exact go 127 (by rw [l4, size_76]) (.inr (.inr rfl)) (by rw [l4, size_76]; decide) (by omega) (by omega)
      · exfalso
        rw [e] at full5
        omega
    · refine wp_if_neg (by simp [full]) (wpAny_pure (h true g m1 es1 (ep + 1) t2 sb ⟨⟨_, ho1, ⟨hex.1, hex.2.1, hex.2.2⟩, rfl⟩, row, T2, one1, key1, led1, ?_, by rw [len1]; exact few⟩ pm))
      have z := full
      unfold SetTable.tooFull at z
      rw [decide_eq_true_eq, ef] at z
      rw [len1]
      omega
  have two : ∀ c : Bool, wpAny (model P w) A (storeSet a es1 (if c = true then t1 else { t1 with plain := false }) >>= fun _ => if (!false && (if c = true then t1 else { t1 with plain := false }).tooFull) = true then setRelay a (SetTable.grown (es.size + 1)) >>= fun _ => pure true else pure true) Q E s := fun c => by
    cases c with
    | true => exact fin t1 T1 em el ef
    | false => exact fin { t1 with plain := false } (tab_plain T1 false) em el ef
  by_cases pl : t1.plain = true
  · first
      | (refine wpAny_bind ?_; refine wp_if_pos pl ?_; exact C.val hx two)
      | exact wp_if_pos pl (wpAny_bind (C.val hx two))
  · first
      | (refine wpAny_bind ?_; refine wp_if_neg pl ?_; exact wpAny_pure (two true))
      | exact wp_if_neg pl (wpAny_bind (wpAny_pure (two true)))
end
end K9T

/-! set() of a list or a tuple of such keys; sorted() of a set of tuples of texts -/
namespace K9T
open PySem PySem.Spec PyProof.Rows L2
section
variable {κ : Type} [DecidableEq κ]
/-- what a set has got of the first i of ks -/
structure Got (ks : List (κ × Addr)) (i : Nat) (m : List (κ × Addr)) : Prop where
  sub : ∀ p ∈ m, p ∈ ks.take i
  all : ∀ p ∈ ks.take i, p.1 ∈ m.map (·.1)
  len : m.length ≤ i
theorem got_nil (ks : List (κ × Addr)) : Got ks 0 [] := ⟨fun _ h => (nomatch h), fun p h => by simp at h, Nat.le_refl _⟩
theorem Got.next {ks m m' : List (κ × Addr)} {i : Nat} {x : κ × Addr} (g : Got ks i m) (h : ks[i]? = some x) (pm : m'.Perm (if x.1 ∈ m.map (·.1) then m else x :: m)) : Got ks (i + 1) m' := by
  have e : ks.take (i + 1) = ks.take i ++ [x] := by rw [List.take_add_one, h]; rfl
  by_cases c : x.1 ∈ m.map (·.1)
  · rw [if_pos c] at pm
    refine ⟨fun p hp => ?_, fun p hp => ?_, by rw [pm.length_eq]; exact Nat.le_succ_of_le g.len⟩
    · rw [e]
      exact List.mem_append_left _ (g.sub p (pm.mem_iff.mp hp))
    · rw [(pm.map (·.1)).mem_iff]
      rw [e] at hp
      rcases List.mem_append.mp hp with z | z
      · exact g.all p z
      · rw [List.mem_singleton.mp z]
        exact c
  · rw [if_neg c] at pm
    refine ⟨fun p hp => ?_, fun p hp => ?_, by rw [pm.length_eq]; exact Nat.succ_le_succ g.len⟩
    · rw [e]
      rcases List.mem_cons.mp (pm.mem_iff.mp hp) with rfl | z
      · exact List.mem_append_right _ List.mem_cons_self
      · exact List.mem_append_left _ (g.sub p z)
    · rw [(pm.map (·.1)).mem_iff]
      rw [e] at hp
      rcases List.mem_append.mp hp with z | z
      · exact List.mem_cons_of_mem _ (g.all p z)
      · rw [List.mem_singleton.mp z]
        exact List.mem_cons_self
end
section
variable {P : Program} {w : World} {κ : Type} [DecidableEq κ] {knd : HeapKind P w κ} {A : Around} {E : Value → Shared → Prop} {s : Shared}
/-- a set without members -/
def noneOb (w : World) : Obj := { cls := .type "set", dict := none, data := .set #[] 0 (.fresh 0 0 (!w.params.followText "set-order")) }
theorem mem_nil {h : Heap} {a : Addr} (ho : h.get? a = some (noneOb w)) : Mem knd h a [] #[] 0 (.fresh 0 0 (!w.params.followText "set-order")) where
  ob := ⟨_, ho, ⟨rfl, rfl, rfl⟩, rfl⟩
  row := rfl
  tab := ⟨List.Pairwise.nil, rfl, rfl, .inl rfl, fun _ h => (nomatch h), fun i h j z => by simp [hsh] at z⟩
  one := List.nodup_nil
  key := fun _ h => (nomatch h)
  led := by
    show _ ∨ (!w.params.followText "set-order") = true
    cases w.params.followText "set-order" <;> simp
  gap := by show 0 * 5 < 7 * 3; decide
  few := by show 0 < 64; decide
theorem Mem.keep {h h' : Heap} {a : Addr} {m : List (κ × Addr)} {es : Array (Int × Value)} {ep : Nat} {t : SetTable} (R : Mem knd h a m es ep t) (ha : ∀ o, h.get? a = some o → h'.get? a = some o) (hk : ∀ p ∈ m, knd.is h' p.1 p.2) : Mem knd h' a m es ep t :=
  ⟨let ⟨o, ho, r⟩ := R.ob; ⟨o, ha o ho, r⟩, R.row, R.tab, R.one, hk, R.led, R.gap, R.few⟩
theorem loop {I : Addr} {fp wr : List Addr} {G : Array GenState → Array GenState → Prop} {n : Nat} {Pv : Nat → Value → Prop} {St : Nat → Shared → Prop} {R : Result → Shared → Prop} (C : Calm knd) (W : WalksS P w A.in1 I fp wr G n Pv St) (S : Addr) (far : S ∉ fp) (ks : List (κ × Addr)) (hn : ks.length = n) (few : n < 64)
    (hval : ∀ i v, Pv i v → ∃ p, ks[i]? = some p ∧ v = .ref p.2) (h0 : Heap) (key : ∀ p ∈ ks, knd.is h0 p.1 p.2) (hS : h0.get? S = none) (hw : ∀ b ∈ wr, h0.get? b = none) (hu : knd.room A.in1) :
    ∀ (k i : Nat) (s : Shared), n - i = k → i ≤ n → St i s → (∀ b o, h0.get? b = some o → s.heap.get? b = some o) → (∃ m es ep t, Mem knd s.heap S m es ep t ∧ Got ks i m) →
      (∀ s' m es ep t, Moved (S :: wr) G s s' → Mem knd s'.heap S m es ep t → Got ks n m → R (.ok (.ret .none)) s') → codeAny (model P w) A (.builtin "set.update.loop" ⟨[.ref S, .ref I], []⟩) R s := by
  have off : S ∉ wr := fun z => far (W.sub _ z)
  have up : ∀ b ∈ wr, b ∈ S :: wr := fun b z => List.mem_cons_of_mem _ z
  have kept : ∀ {s s' : Shared}, Moved wr G s s' → (∀ b o, h0.get? b = some o → s.heap.get? b = some o) → ∀ b o, h0.get? b = some o → s'.heap.get? b = some o := fun hm hk b o e =>
    hm.heap b o (fun z => by rw [hw b z] at e; cases e) (hk b o e)
  have here : ∀ {s s' : Shared} {m es ep t} {i : Nat}, Moved wr G s s' → (∀ b o, h0.get? b = some o → s'.heap.get? b = some o) → Got ks i m → Mem knd s.heap S m es ep t → Mem knd s'.heap S m es ep t := fun hm hk g R =>
    R.keep (fun o e => hm.heap S o off e) fun p hp => C.more (key p (List.mem_of_mem_take (g.sub p hp))) hk
  intro k
  induction k with
  | zero =>
    intro i s hk hi hst h0s hM done
    obtain ⟨m, es, ep, t, R, g⟩ := hM
    obtain rfl : i = n := by omega
    refine codeAny_builtin F.entry_set_update_loop ?_
    rw [Around.under_plainId F.plain_set_update_loop _]
    refine (wpAny_bind (W.done s _ _ hst fun s' hm => ?_) : wpAny _ A.in1 (pyNext (.ref I) >>= _) _ _ s)
    show wpAny (model P w) A.in1 (ret .none) _ _ s'
    exact wpAny_pure (done s' m es ep t (hm.mono up) (here hm (kept hm h0s) g R) g)
  | succ k ih =>
    intro i s hk hi hst h0s hM done
    obtain ⟨m, es, ep, t, R, g⟩ := hM
    have lt : i < n := by omega
    refine codeAny_builtin F.entry_set_update_loop ?_
    rw [Around.under_plainId F.plain_set_update_loop _]
    refine (wpAny_bind (W.item i s _ _ lt hst fun v s' hP hst' hm => ?_) : wpAny _ A.in1 (pyNext (.ref I) >>= _) _ _ s)
    obtain ⟨p, hp, rfl⟩ := hval i v hP
    have h0s' := kept hm h0s
    have R' := here hm h0s' g R
    have hx := C.more (key p (List.mem_of_getElem? hp)) h0s'
    refine (wpAny_bind (wpAny_holding ?_) : wpAny _ A.in1 (holding [Value.ref p.2] (setAdd S (.ref p.2)) >>= _) _ _ s')
    unfold setAdd
    refine wpAny_holding (wpAny_bind (knd.pyHash hu hx ?_))
    refine put (s := { s' with toks := s'.toks + knd.draws p.1 }) C R' hx hu (by have := g.len; omega) fun b h' m' es' ep' t' sb R2 pm => ?_
    have h0s2 : ∀ b o, h0.get? b = some o → h'.get? b = some o := fun b o e => (sb.2 b fun z => by rw [z, hS] at e; cases e).trans (h0s' b o e)
    refine wpAny_pure ⟨plainId_quiet F.plain_set_update_loop _, ih (i + 1) _ (by omega) lt (W.frame _ s' _ _ hst' (Nat.le_add_right _ _) fun b hb o e => ?_) h0s2 ⟨m', es', ep', t', R2, g.next hp pm⟩ fun s'' m2 es2 ep2 t2 hm'' R3 g3 => ?_⟩
    · exact (sb.2 b fun z : b = S => far (z ▸ hb)).trans e
    · exact done s'' m2 es2 ep2 t2 (Moved.trans W.gtrans ((hm.mono up).then_heap (Nat.le_add_right _ _) fun b o hb e => (sb.2 b fun z : b = S => hb (z ▸ List.mem_cons_self)).trans e) hm'') R3 g3
/-- set(x), x an object of the built-in type T that is walked as W says -/
theorem set_by {T : String} {cx : Addr} {o it : Obj} {items : Array Value} {z : Nat} {St : Addr → Nat → Heap → Prop} {Q : Value → Shared → Prop} (C : Calm knd) (ks : List (κ × Addr))
    (hh : A.handled = none) (hu : knd.room A.in1.in1.in1) (ho : s.heap.get? cx = some o) (hcls : o.cls = .type T) (hdat : o.data = .seq items z)
    (tA : isSubtype (.type T) (.type "set") = pure false) (tB : isSubtype (.type T) (.type "frozenset") = pure false) (tC : (Value.type T == Value.type "dict") = false)
    (hi : items.toList = ks.map fun p => Value.ref p.2) (key : ∀ p ∈ ks, knd.is s.heap p.1 p.2) (few : ks.length < 64) (hfr : it.isFreed = false)
    (hit : ∀ (s1 : Shared) (Q' : Value → Shared → Prop) (E' : Value → Shared → Prop) (A' : Around), s1.heap.get? cx = some o → Q' (.ref s1.heap.objs.size) { s1 with heap := s1.heap.push it } → wpAny (model P w) A' (pyIter (.ref cx)) Q' E' s1)
    (W : ∀ A' : Around, A'.handled = none → ∀ I, cx ≠ I → Walks P w A' I [I, cx] [I] items.size (fun i v => items[i]? = some v) (St I))
    (hSt : ∀ (h : Heap) I, h.get? I = some it → h.get? cx = some o → St I 0 h)
    (h : ∀ (h' : Heap) (tk : Nat) m es ep t, Mem knd h' s.heap.objs.size m es ep t → Got ks ks.length m → (∀ b o, s.heap.get? b = some o → h'.get? b = some o) → Q (.ref s.heap.objs.size) { s with heap := h', toks := tk }) :
    wpAny (model P w) A (call (.type "set") [.ref cx]) Q E s := by
  obtain ⟨cc, tl, mro⟩ := F.called_set.mro
  have made := F.called_set.made
  have sub := F.called_set.sub
  have z1 := F.called_set.notType
  have z2 := F.called_set.canCreate
  have z3 := F.typeCall_set_1 (.ref cx)
  refine wpAny_call (codeAny_of_tree ?_)
  show wpAny (model P w) _ (callAny (.type "set") _) _ _ _
  refine wpAny_pure ⟨Code.quiet_builtin _ (by decide +kernel), codeAny_builtin (b := Builtin.«type.__call__») F.entry_type_call ?_⟩
  rw [Around.under_plain (weight_type_call_type "set" [.ref cx] []) rfl]
  repeat (any_goals (first | assumption | wp_step))
  have nS : (s.heap.push (noneOb w)).get? s.heap.objs.size = some (noneOb w) := Heap.get?_push_size _ rfl
  have old : ∀ b q, s.heap.get? b = some q → (s.heap.push (noneOb w)).get? b = some q := fun b q z => Heap.get?_push_of_some _ z
  refine codeAny_mono (code_set_led1 (.ref cx) (E := E) (Q₁ := fun obj s₁ => obj = .ref s.heap.objs.size ∧ s₁ = { s with heap := s.heap.push (noneOb w) }) ⟨rfl, rfl⟩) fun r s₁ hr => ?_
  cases r
  case error e => exact hr
  case ok fl =>
    cases fl
    case ret obj =>
      obtain ⟨rfl, rfl⟩ := hr
      have tS : Shared.TypeIs { s with heap := s.heap.push (noneOb w) } (.ref s.heap.objs.size) "set" := ⟨_, nS, rfl⟩
      have y1 := F.called_set.init.lookup
      have y2 := F.called_set.init.bind (.ref s.heap.objs.size)
      repeat (any_goals (first | assumption | wp_step))
      refine codeAny_mono (codeAny_call_builtin (R := wants (fun r s₂ => r = .none ∧ ∃ h' tk m es ep t, s₂ = { s with heap := h', toks := tk } ∧ Mem knd h' s.heap.objs.size m es ep t ∧ Got ks ks.length m ∧
        (∀ b o, s.heap.get? b = some o → h'.get? b = some o)) E) F.called_set.init.plain F.entry_set_init (check_set_init_1 tS ?_)) fun r₂ s₂ hr₂ => ?_
      · obtain ⟨ocls, odict, odata, oslots⟩ := o
        simp only at hcls hdat
        subst hcls hdat
        have hoc := old cx _ ho
        unfold Builtin.«set.__init__» noKeywords Builtin.Frozenset.updateFrom
        generalize hPI : pyIter = PI
        wp_walk
        subst hPI
        refine hit _ _ _ _ hoc ?_
        refine wpAny_bind (wpAny_runValue ?_)
        have lt : cx < s.heap.objs.size := Heap.lt_size ho
        have sz : (s.heap.push (noneOb w)).objs.size = s.heap.objs.size + 1 := Heap.size_push _ _
        have neI : cx ≠ (s.heap.push (noneOb w)).objs.size := Nat.ne_of_lt (sz ▸ Nat.lt_succ_of_lt lt)
        have neS : s.heap.objs.size ≠ (s.heap.push (noneOb w)).objs.size := Nat.ne_of_lt (sz ▸ Nat.lt_succ_self _)
        have far : s.heap.objs.size ∉ [(s.heap.push (noneOb w)).objs.size, cx] := fun z => (List.mem_cons.mp z).elim neS fun z => Nat.ne_of_gt lt (List.mem_singleton.mp z)
        have hn : ks.length = items.size := by
          have q := congrArg List.length hi
          rw [Array.length_toList, List.length_map] at q
          exact q.symm
        have hh3 : A.in1.in1.in1.handled = none := by simp [hh]
        have free : ∀ b, s.heap.objs.size ≤ b → s.heap.get? b = none := fun b hb => by
          cases q : s.heap.get? b with
          | none => rfl
          | some o => exact absurd (Nat.lt_of_lt_of_le (Heap.lt_size q) hb) (Nat.lt_irrefl _)
        refine loop C (W _ hh3 _ neI).toS s.heap.objs.size far ks hn (by omega) (fun i v hv => ?_) s.heap key (free _ (Nat.le_refl _)) (fun b hb => free b (by rw [List.mem_singleton.mp hb, sz]; exact Nat.le_succ _)) hu
          (items.size - 0) 0 _ (by omega) (Nat.zero_le _) (hSt _ _ (Heap.get?_push_size _ hfr) (Heap.get?_push_of_some _ hoc)) (fun b o e => Heap.get?_push_of_some _ (old b o e)) ?_ fun s' m es ep t hm R g => ?_
        · have q : items.toList[i]? = some v := by rw [Array.getElem?_toList]; exact hv
          rw [hi, List.getElem?_map] at q
          obtain ⟨p, hp, e⟩ := Option.map_eq_some_iff.mp q
          exact ⟨p, hp, e.symm⟩
        · exact ⟨[], #[], 0, _, mem_nil (Heap.get?_push_of_some it nS), got_nil ks⟩
        · obtain ⟨h', g', d', tk', os'⟩ := s'
          obtain rfl : g' = s.gens := hm.gens
          obtain rfl : d' = s.drawn := hm.drawn
          obtain rfl : os' = s.os := hm.os
          show wpAny (model P w) _ _ _ _ _
          refine wpAny_pure ?_
          show wpAny (model P w) _ (ret .none) _ _ _
          rw [← hn] at g
          refine wpAny_pure ⟨rfl, h', tk', m, es, ep, t, rfl, R, g, fun b o e => ?_⟩
          have hb := Heap.lt_size e
          exact hm.heap b o (fun z => (List.mem_cons.mp z).elim (fun z => Nat.ne_of_lt hb z) fun z => Nat.ne_of_lt (sz ▸ Nat.lt_succ_of_lt hb) (List.mem_singleton.mp z)) (Heap.get?_push_of_some _ (old b o e))
      · cases r₂
        case error e => exact hr₂
        case ok fl₂ =>
          cases fl₂
          case ret r =>
            obtain ⟨rfl, h', tk, m, es, ep, t, rfl, u1, u2, u3⟩ := hr₂
            repeat (any_goals (first | assumption | wp_step))
            exact h _ _ _ _ _ _ u1 u2 u3
          all_goals exact False.elim hr₂
    all_goals exact False.elim hr
end
/-! ### tuples of texts -/
section
variable {P : Program} {w : World}
theorem items_str {zs : List Str} {vs : List Value} (h : ItemsAre (strKind P w) zs vs) : StrsAre vs zs := by
  induction h with
  | nil => exact .nil
  | cons h1 _ ih =>
    obtain ⟨t, rfl⟩ := Value.isStrOf_shape h1
    exact .cons _ t ih
theorem str_items : ∀ {vs : List Value} {zs : List Str}, StrsAre vs zs → ItemsAre (strKind P w) zs vs
  | _, _, .nil => .nil
  | _, _, .cons z t h => .cons (strKind_is P w z t) (str_items h)
theorem stm_str (n : Nat) (z : Str) (t : Tok) : ofAClassStatement n (.str z t) = pure false := by cases n <;> rfl
theorem val_str (n : Nat) (z : Str) (t : Tok) : hashByValue n (.str z t) = pure false := by cases n <;> rfl
theorem calmT : Calm (tupleKind (strKind P w)) where
  stay := fun hk x => tupleKind_stays.stays hk x
  stm := fun {A E s k b Q} x h => by
    have hT := IsTupleKey.typeIs x
    obtain ⟨o, items, n, ho, _, hd, hi⟩ := x
    unfold ofAClassStatement
    refine wpAny_bind (wpAny_typeOf hT ?_)
    dsimp only
    have e : (("tuple" : String) == "tuple") = true := by decide
    simp only [e, if_true, Bool.not_true, Bool.false_eq_true, if_false]
    try refine wpAny_bind (wpAny_pure ?_)
    try simp only [Bool.not_true, Bool.false_eq_true, if_false]
    refine (wpAny_bind (wpAny_seqItems ho hd ?_) : wpAny _ _ (seqItems? (.ref b) >>= _) _ _ s)
    dsimp only
    refine wpAny_bind ?_
    show wpAny _ _ (forIn items _ _) _ _ s
    rw [← Array.forIn_toList]
    refine wpAny_forIn_list _ (fun rest r s' => (s' = s ∧ r.1 = none) ∧ ∀ v ∈ rest, ∃ z t, v = Value.str z t) _ (fun v rest r s' z => ?_) (fun r s' z => ?_) _ _ ⟨⟨rfl, rfl⟩, (K9.strs_all (items_str hi)).2⟩
    · obtain ⟨⟨rfl, hr⟩, all⟩ := z
      obtain ⟨z, t, rfl⟩ := all v List.mem_cons_self
      rw [stm_str]
      refine wpAny_bind (wpAny_pure ?_)
      simp only [Bool.false_eq_true, if_false]
      exact wpAny_pure ⟨⟨rfl, rfl⟩, fun u hu => all u (List.mem_cons_of_mem _ hu)⟩
    · obtain ⟨⟨rfl, hr⟩, _⟩ := z
      obtain ⟨r1, r2⟩ := r
      cases hr
      exact wpAny_pure h
  val := fun {A E s k b Q} x h => by
    have hT := IsTupleKey.typeIs x
    obtain ⟨o, items, n, ho, _, hd, hi⟩ := x
    unfold hashByValue
    refine wpAny_bind (wpAny_specialOf hT F.slot_tuple_hash.lookup ?_)
    refine (wpAny_bind (wpAny_seqItems ho hd ?_) : wpAny _ _ (seqItems? (.ref b) >>= _) _ _ s)
    refine wpAny_bind ?_
    show wpAny _ _ (forIn items _ _) _ _ s
    rw [← Array.forIn_toList]
    refine wpAny_forIn_list _ (fun rest r s' => s' = s ∧ r.1 = none ∧ ∀ v ∈ rest, ∃ z t, v = Value.str z t) _ (fun v rest r s' z => ?_) (fun r s' z => ?_) _ _ ⟨rfl, rfl, (K9.strs_all (items_str hi)).2⟩
    · obtain ⟨rfl, hr, all⟩ := z
      obtain ⟨z, t, rfl⟩ := all v List.mem_cons_self
      rw [val_str]
      refine wpAny_bind (wpAny_pure ?_)
      simp only [Bool.not_false, if_true]
      exact wpAny_pure (wpAny_pure (h _))
    · obtain ⟨rfl, hr, _⟩ := z
      obtain ⟨r1, r2⟩ := r
      cases hr
      exact wpAny_pure (h _)
variable {A : Around} {E : Value → Shared → Prop} {s : Shared}
open Classical in
/-- sorted() of a set of tuples of d texts -/
theorem sorted_set {a : Addr} {m : List (List Str × Addr)} {es : Array (Int × Value)} {ep : Nat} {t : SetTable} {Q : Value → Shared → Prop} (R : Mem (tupleKind (strKind P w)) s.heap a m es ep t) (hh : A.handled = none) {d : Nat} (hd : 1 ≤ d) (hl : ∀ p ∈ m, p.1.length = d)
    (hQ : ∀ s' p (out : Array Value) (c : Nat) (m' : List (List Str × Addr)), (∀ b o, s.heap.get? b = some o → s'.heap.get? b = some o) → s'.gens = s.gens → s'.os = s.os → s.heap.objs.size ≤ p →
      s'.heap.get? p = some (seqObj "list" out c) → out.toList = m'.map (fun q => Value.ref q.2) → m'.Perm m → K9.srt (m'.map (·.1)) → Q (.ref p) s') :
    wpAny (model P w) A (call (.builtin "sorted") [.ref a]) Q E s := by
  obtain ⟨o, ho, hex, hdt⟩ := R.ob
  have sz := es_size R.row
  have few := R.few
  refine Calls.call_function_entry kind_sorted plain_sorted entry_sorted (args_sorted1 _) ?_
  unfold Builtin.«sorted»
  refine wpAny_bind (m := checkCount "sorted" 1 1 _) (wpAny_pure ?_)
  refine wpAny_bind (collect_set (A := A.in1) hh ⟨o, ho, hex.1, hdt⟩ R.fits (by unfold scanBound; omega) R.tab.ris R.led fun s1 vs k1 hz g1 o1 pm => ?_)
  have row : es.toList.map (·.2) = m.map fun q => Value.ref q.2 := by
    rw [R.row]
    unfold ent
    rw [List.map_map]
    rfl
  rw [row] at pm
  have few2 : vs.length < 64 := by rw [pm.length_eq, List.length_map]; exact few
  refine wpAny_bind (wpAny_newList ?_ (by rw [sizeLine_eq]; omega))
  have new : (s1.heap.push (seqObj "list" vs.toArray 0)).get? s1.heap.objs.size = some (seqObj "list" vs.toArray 0) := Heap.get?_push_size _ rfl
  let dat : Value → List Str := fun u => if c : ∃ zs, K9.TupS (s1.heap.push (seqObj "list" vs.toArray 0)) u zs then choose c else []
  have dt : ∀ {u zs}, K9.TupS (s1.heap.push (seqObj "list" vs.toArray 0)) u zs → dat u = zs := fun {u zs} h => by
    have c : ∃ zs, K9.TupS (s1.heap.push (seqObj "list" vs.toArray 0)) u zs := ⟨zs, h⟩
    show (if c : ∃ zs, K9.TupS (s1.heap.push (seqObj "list" vs.toArray 0)) u zs then choose c else []) = zs
    rw [dif_pos c]
    exact (choose_spec c).one h
  have tup : ∀ q ∈ m, K9.TupS (s1.heap.push (seqObj "list" vs.toArray 0)) (.ref q.2) q.1 := fun q hq => by
    obtain ⟨o', items, n, h1, h2, h3, h4⟩ := R.key q hq
    exact ⟨q.2, items, rfl, ⟨o', Heap.get?_push_of_some _ (k1 _ _ h1), h2, n, h3⟩, items_str h4⟩
  have src : ∀ v ∈ vs, ∃ q ∈ m, v = Value.ref q.2 := fun v hv => by
    obtain ⟨q, hq, e⟩ := List.mem_map.mp (pm.mem_iff.mp hv)
    exact ⟨q, hq, e.symm⟩
  have M : K9.Many (s1.heap.push (seqObj "list" vs.toArray 0)) d vs dat := ⟨fun v hv => by
      obtain ⟨q, hq, rfl⟩ := src v hv
      rw [dt (tup q hq)]
      exact tup q hq, fun v hv => by
      obtain ⟨q, hq, rfl⟩ := src v hv
      rw [dt (tup q hq)]
      exact hl q hq⟩
  refine wpAny_bind (wpAny_holding (wpAny_call_entry slot_list_sort ⟨_, new, rfl⟩ entry_list_sort (K9.sort_texts (s := { s1 with heap := s1.heap.push (seqObj "list" vs.toArray 0) }) new few2 hd M fun out a1 a2 => ⟨_, rfl, ?_⟩) (args_list_sort _)))
  obtain ⟨c, hc⟩ := sortedHeap_at (vs := vs) (out := out) new
  obtain ⟨m', p1, p2⟩ := perm_lift (fun q : List Str × Addr => Value.ref q.2) (a1.trans pm) m rfl
  refine wpAny_pure ⟨_, rfl, hQ _ s1.heap.objs.size out c m' (fun b u e => ?_) g1 o1 hz hc p2.symm p1 ?_⟩
  · have q := k1 b u e
    have lt := Heap.lt_size q
    show (sortedHeap (s1.heap.push (seqObj "list" vs.toArray 0)) s1.heap.objs.size vs out).get? b = some u
    rw [sortedHeap_old (Nat.ne_of_lt lt) (by rw [size_push']; exact Nat.lt_succ_of_lt lt)]
    exact Heap.get?_push_of_some _ q
  · rw [← p2, List.pairwise_map] at a2
    show List.Pairwise _ _
    rw [List.pairwise_map]
    refine List.Pairwise.imp_of_mem (fun {q r} hq hr hle => ?_) a2
    have mq := p1.mem_iff.mp hq
    have mr := p1.mem_iff.mp hr
    have hle : (K9.rkN (vs.map dat) (dat (.ref q.2)) : Int) ≤ (K9.rkN (vs.map dat) (dat (.ref r.2)) : Int) := hle
    rw [dt (tup q mq), dt (tup r mr)] at hle
    have hv : Value.ref r.2 ∈ vs := pm.mem_iff.mpr (List.mem_map.mpr ⟨r, mr, rfl⟩)
    have z := K9.rk_lt (ds := vs.map dat) (x := r.1) (y := q.1) (List.mem_map.mpr ⟨_, hv, dt (tup r mr)⟩) (by rw [hl r mr, hl q mq])
    cases c : K9.ltx r.1 q.1 with
    | false => rfl
    | true =>
      rw [c] at z
      have z := of_decide_eq_true z
      omega
end
end K9T

/-! sorted(set(xs)), xs a list or a tuple of tuples of d texts -/
namespace K9T
open PySem PySem.Spec PyProof.Rows L2
theorem items_vals {P : Program} {w : World} : ∀ {zs : List Str} {us : List Value}, Vals (zs.map V.str) us → ItemsAre (strKind P w) zs us
  | [], _, .nil => .nil
  | z :: zs, _, .cons r t => by
    obtain ⟨tk, rfl⟩ := r
    exact .cons (strKind_is P w z tk) (items_vals t)
theorem inv_is {X : Cx} {pins : List (Addr × Obj)} {σ : L2.St} {H : Hp} {s : Shared} {b : Addr} {zs : List Str} (I : Inv X pins σ H s) (h : SqT X.K H b (zs.map V.str)) : (tupleKind (strKind X.prog X.w)).is s.heap zs b := by
  obtain ⟨its, r, ⟨o, ho, hc, n, hd⟩, _⟩ := I.tuple h
  exact ⟨o, its.toArray, n, ho, hc, hd, by simpa using items_vals r⟩
theorem refs_of : ∀ {ks : List (List Str × Addr)} {us : List Value}, Vals (ks.map fun p => V.ref p.2) us → us = ks.map fun p => Value.ref p.2
  | [], _, .nil => rfl
  | p :: ks, _, .cons r t => by
    cases r
    rw [refs_of t]
    rfl
section
variable {X : Cx}
def tSorted (K : PySem.W.Frag) (d : Nat) (ta : TE) : TE := fun σ H Q => ta σ H fun x H1 => ∃ (l : Addr) (ks : List (List Str × Addr)), x = .ref l ∧ (SqL K H1 l (ks.map fun p => V.ref p.2) ∨ SqT K H1 l (ks.map fun p => V.ref p.2)) ∧ (∀ p ∈ ks, SqT K H1 p.2 (p.1.map V.str) ∧ p.1.length = d) ∧ ks.length < 64 ∧
  ∀ (p : Addr) (m : List (List Str × Addr)), H1 p = none → (∀ q ∈ m, q ∈ ks) → (∀ q ∈ ks, q.1 ∈ m.map (·.1)) → (m.map (·.1)).Nodup → K9.srt (m.map (·.1)) → Q (.ref p) (upd H1 p (.lst (m.map fun q => V.ref q.2)))
theorem pe_sorted {a : Expr} {ta : TE} {p p2 q pos : Pos} {d : Nat} (hd : 1 ≤ d) (hc : X.calm = true) (hu : X.A.units + 65 < cLine) (hg : Gl X "sorted") (hm : X.mg "sorted" = none) (hg2 : Gl X "set") (hm2 : X.mg "set" = none) (ha : PE X a ta)
    (na : starEach [a] X.env = (false, eval a X.env) :: starEach [] X.env := by rfl) : PE X (.Call (.Name "sorted" p) [.Call (.Name "set" p2) [a] [] q] [] pos) (tSorted X.K d ta) := by
  refine ⟨fun pins s σ H Q I h => Call_ (ld_blt I hg hm boot_sorted (callWith_builtin1 (args_cons (Call_ (ld_blt I hg2 hm2 boot_set (callWith_type1 (args_cons (thn (ha.run pins s σ H _ I h) fun v s1 ⟨x, H1, I1, r1, q1⟩ => args_nil ?_) na) na rfl))) rfl) rfl rfl))⟩
  obtain ⟨l, ks, rfl, hq, key, few, q1⟩ := q1
  cases r1
  have fin : ∀ (h' : Heap) (tk : Nat) m es ep t, Mem (tupleKind (strKind X.prog X.w)) h' s1.heap.objs.size m es ep t → Got ks ks.length m → (∀ b o, s1.heap.get? b = some o → h'.get? b = some o) →
      wpAny (model X.prog X.w) X.A (spliced (backTo pos (starEach [] X.env))) (fun vs s₂ => wpAny (model X.prog X.w) X.A (call (.builtin "sorted") (Value.ref s1.heap.objs.size :: vs)) (EP X pins σ Q) X.xe s₂) X.xe { s1 with heap := h', toks := tk } := fun h' tk m es ep t R g hk => by
    obtain ⟨s2, e2⟩ : ∃ s2 : Shared, s2 = { s1 with heap := h', toks := tk } := ⟨_, rfl⟩
    have I2 : Inv X pins σ H1 { s1 with heap := h', toks := tk } := I1.kept fun b o e => hk b o e
    have R : Mem (tupleKind (strKind X.prog X.w)) ({ s1 with heap := h', toks := tk } : Shared).heap s1.heap.objs.size m es ep t := R
    rw [← e2] at I2 R ⊢
    have sub : ∀ q ∈ m, q ∈ ks := fun q hq => List.mem_of_mem_take (g.sub q hq)
    refine args_nil (sorted_set R (I2.ok.hd hc) hd (fun q hq => (key q (sub q hq)).2) fun s' p out c m' k g1 o1 hp hat hout pm srt => ?_)
    have hn : H1 p = none := I2.hok.fresh hp
    have hlen : (m'.map fun q => V.ref q.2).length ≤ sizeLine := by
      have := R.few
      rw [List.length_map, pm.length_eq, sizeLine_eq]
      omega
    have hv : Vals (m'.map fun q => V.ref q.2) out.toList := by
      rw [hout]
      exact vals_maps _ _ _ fun z _ => rfl
    have J : Inv X pins σ (upd H1 p (.lst (m'.map fun q => V.ref q.2))) { s2 with heap := s'.heap, gens := s'.gens, drawn := s'.drawn, toks := s'.toks } :=
      I2.call (ch := []) (Un.laid k hp hn) (I2.hok.laid k hp ⟨hlen, out.toList, c, hv, hat⟩) (by rw [g1]; exact I2.bare) (fun _ z => nomatch z)
    have e : s' = { s2 with heap := s'.heap, gens := s'.gens, drawn := s'.drawn, toks := s'.toks } := by
      cases s'
      cases o1
      rfl
    rw [e]
    refine ⟨.ref p, _, J, rfl, q1 p m' hn (fun q hq => sub q (pm.mem_iff.mp hq)) (fun q hq => ?_) ((pm.map (·.1)).nodup_iff.mpr R.one) srt⟩
    exact (pm.map (·.1)).mem_iff.mpr (g.all q (by rw [List.take_length]; exact hq))
  have hu : (tupleKind (strKind X.prog X.w)).room X.A.in1.in1.in1 := by
    show X.A.in1.in1.in1.units < cLine
    have : X.A.in1.in1.in1.units = X.A.units + 3 := rfl
    omega
  rcases hq with hq | hq
  · obtain ⟨its, r, pl, hz⟩ := I1.list hq
    obtain ⟨o, ho, hcls, m, hd⟩ := pl.isList
    exact set_by (T := "list") (it := { cls := .type "list_iterator", data := .fields #[.ref l, .int 0 0] }) (St := fun I i h => h.IsListIter I l i ∧ h.IsList l its.toArray) calmT ks (I1.ok.hd hc) hu ho hcls hd F.sub_list_set F.sub_list_frozenset (by decide) (by simpa using refs_of r) (fun q hq => inv_is I1 (key q hq).1) few rfl
      (fun s1 Q' E' A' e k => wpAny_pyIter_list ⟨o, e, hcls, m, hd⟩ k) (fun A' hh I ne => Walks.list hh I l ne its.toArray) (fun h I e1 e2 => ⟨⟨_, e1, rfl, rfl⟩, ⟨o, e2, hcls, m, hd⟩⟩) fin
  · obtain ⟨its, r, pl, hz⟩ := I1.tuple hq
    obtain ⟨o, ho, hcls, m, hd⟩ := pl
    exact set_by (T := "tuple") (it := { cls := .type "tuple_iterator", data := .fields #[.ref l, .int 0 0] }) (St := fun I i h => h.IsTupleIter I l i ∧ h.IsTuple l its.toArray) calmT ks (I1.ok.hd hc) hu ho hcls hd F.sub_tuple_set F.sub_tuple_frozenset (by decide) (by simpa using refs_of r) (fun q hq => inv_is I1 (key q hq).1) few rfl
      (fun s1 Q' E' A' e k => wpAny_pyIter_tuple ⟨o, e, hcls, m, hd⟩ k) (fun A' hh I ne => Walks.tuple hh I l ne its.toArray) (fun h I e1 e2 => ⟨⟨_, e1, rfl, rfl⟩, ⟨o, e2, hcls, m, hd⟩⟩) fin
end
end K9T

namespace K5
open PySem L2
abbrev sOf : Stmt := top 31
def spOf : Sp := fun vs H Q _ => ∃ (p : Addr) (c : Nat) (a : Addr) (xs : List V), vs = [.ref p, .ref a] ∧ Pool H p c ∧ c ≤ 900000 ∧ H a = some (.lst xs) ∧ a ≠ p ∧ xs ≠ [] ∧ xs.length ≤ 1000 ∧
  ∀ (v : V) (H' : Hp), v ∈ xs → Keep p H H' → Pool H' p (c + 1) → Q v H'
theorem at_mem {xs : List V} {r : Int} (h0 : 0 ≤ r) (h1 : r < (xs.length : Int)) : ∃ v, atI xs r = some v ∧ v ∈ xs := by
  have hk : r.toNat < xs.length := by omega
  refine ⟨xs[r.toNat], at_of (j := r.toNat) (by omega) (List.getElem?_eq_getElem hk), List.getElem_mem hk⟩
def words6 : List Str := ["left", "doubled", "swapped", "word", "number", "sign"]
section
variable {P : Program} {w : World} {K : PySem.W.Frag} {mg : Str → Option Value} {base : Heap}
theorem scOf : FnScope ["_law_pool_here", "_law_some"] ["_law_pool_here", "_law_some"] (defScope sOf) := ⟨rfl, rfl, rfl, by decide +kernel, rfl, by decide +kernel, by decide +kernel⟩
theorem ok_of {f : Addr} {fd : FuncData} (F : Fun K "_law_of" "_law_of" sOf f fd) (T : Bare mg) (GP : Fn P w K mg base 1 "_law_pick" ["_law_pool_here", "_law_many"] spPick) : FnOk P w K mg base CX0 2 f fd ["_law_pool_here", "_law_some"] spOf := by
  refine F.ok scOf (fun vs H Q E h => ?_) (fun cdv A outer s H vs Q E hr h => ?_)
  · obtain ⟨p, c, a, xs, rfl, _⟩ := h
    rfl
  · obtain ⟨p, c, a, xs, rfl, hp, hc, ha, hap, hn, hl, q⟩ := h
    have hr1 : Room 1 _ := hr
    refine ⟨_, (pss_one (ps_ret (pe_ix ix_list (pv 1) (pe_fn GP hr1 rfl (pa_cons (pv 0) (pa_cons (pe_callB call_len_seq (by rfl) T.len PySem.boot_len (pa_cons (pv 1) pa_nil)) pa_nil))) (fun _ _ => rfl)))), ?_⟩
    have := List.length_pos_iff.mpr hn
    refine ⟨_, rfl, _, rfl, _, rfl, a, xs, rfl, .inl (SqL.of ha), p, c, _, rfl, hp, by omega, by omega, by omega, fun r H' r0 r1 hk hp' => ?_⟩
    obtain ⟨v, hv, hm⟩ := at_mem r0 r1
    exact ⟨a, xs, r, v, rfl, rfl, SqL.of (hk _ _ hap ha), hv, q v H' hm hk hp'⟩
end
end K5

namespace K5
open PySem L2
theorem take_some {α : Type} {ds : List α} {i : Nat} {d : α} (h : ds[i]? = some d) : ds.take (i + 1) = ds.take i ++ [d] := by
  rw [List.take_add_one, h]
  rfl
abbrev sRInit : Stmt := inClass (top 26) 0
abbrev nRInit : List Str := ["self", "looks", "kinds", "kind", "look", "word"]
abbrev pRInit : List Str := ["self", "looks", "kinds"]
/-- the first part that is none: words ahead of looks -/
def badPart (dk dl : List PyData) : Option PyData := (dk.find? fun d => !inD words6 d).or (dl.find? fun d => !lookD d)
def pairL (p : Str × Str) : List Str := [p.1, p.2]
/-- ls: these looks, each once, ascending -/
structure LooksOf (ls0 ls : List (Str × Str)) : Prop where
  nd : ls.Nodup
  srt : K9.srt (ls.map pairL)
  mem : ∀ p, p ∈ ls ↔ p ∈ ls0
/-- the six words in order, those that are given -/
def kinds6 (ks : List Str) : List Str := words6.filter fun z => decide (z ∈ ks)
def SeqD (K : PySem.W.Frag) (H : Hp) (v : V) (ds : List PyData) : Prop := Dp K H v (.list ds) ∨ Dp K H v (.tuple ds)
def But (x : Addr) (H H' : Hp) : Prop := ∀ b o, b ≠ x → H b = some o → H' b = some o
theorem but_sqt {K : PySem.W.Frag} {H H' : Hp} {x a C dx : Addr} {fs : List (Str × V)} {xs : List V} (hx : H x = some (.ins C dx fs)) (k : But x H H') (h : SqT K H a xs) : SqT K H' a xs := by
  rcases h with (h | ⟨o, h⟩) | h
  · exact .inl (.inl (k _ _ (fun e => by rw [e, hx] at h; cases h) h))
  · exact .inl (.inr ⟨o, k _ _ (fun e => by rw [e, hx] at h; cases h) h⟩)
  · exact .inr h
theorem txts_of {K : PySem.W.Frag} {H : Hp} : ∀ {ks : List Str} {us : List V}, DpAll K H us (kiD ks) → us = ks.map V.str
  | [], _, h => by
    cases h
    rfl
  | k :: ks, _, h => by
    cases h with
    | cons h1 h2 =>
      cases h1
      rw [txts_of h2]
      rfl
theorem of_txts {K : PySem.W.Frag} {H : Hp} : ∀ ks : List Str, DpAll K H (ks.map V.str) (kiD ks)
  | [] => .nil
  | k :: ks => .cons (.str k) (of_txts ks)
theorem nodup_le {α : Type} [BEq α] [LawfulBEq α] : ∀ {l m : List α}, l.Nodup → (∀ a ∈ l, a ∈ m) → l.length ≤ m.length
  | [], _, _, _ => Nat.zero_le _
  | a :: l, m, hn, hs => by
    obtain ⟨h1, h2⟩ := List.nodup_cons.mp hn
    have ha := hs a List.mem_cons_self
    have ih := nodup_le (m := m.erase a) h2 fun b hb => (List.mem_erase_of_ne (fun e : b = a => h1 (e ▸ hb))).2 (hs b (List.mem_cons_of_mem _ hb))
    have e := List.length_erase_of_mem ha
    have hp := List.length_pos_of_mem ha
    rw [List.length_cons]
    omega
theorem but_sql {K : PySem.W.Frag} {H H' : Hp} {x a C dx : Addr} {fs : List (Str × V)} {xs : List V} (hx : H x = some (.ins C dx fs)) (k : But x H H') (h : SqL K H a xs) : SqL K H' a xs := by
  rcases h with (h | ⟨o, h⟩) | h
  · exact .inl (.inl (k _ _ (fun e => by rw [e, hx] at h; cases h) h))
  · exact .inl (.inr ⟨o, k _ _ (fun e => by rw [e, hx] at h; cases h) h⟩)
  · exact .inr h
theorem iteT' {c : Bool} {a b : Prop} (h : c = true) (ha : a) : if c = true then a else b := by rw [if_pos h]; exact ha
theorem iteF' {c : Bool} {a b : Prop} (h : c = false) (hb : b) : if c = true then a else b := by rw [h, if_neg Bool.false_ne_true]; exact hb
theorem pairL_inj {p q : Str × Str} (h : pairL p = pairL q) : p = q := by
  obtain ⟨a, b⟩ := p
  obtain ⟨c, d⟩ := q
  unfold pairL at h
  simp only [List.cons.injEq, and_true] at h
  rw [h.1, h.2]
/-- where nothing is wrong the parts are texts and pairs of texts -/
theorem kinds_of {dk : List PyData} (h : ∀ d ∈ dk, inD words6 d = true) : ∃ ks, dk = kiD ks ∧ ∀ z ∈ ks, z ∈ words6 := by
  induction dk with
  | nil => exact ⟨[], rfl, fun _ h => nomatch h⟩
  | cons d dk ih =>
    obtain ⟨ks, e, hk⟩ := ih fun x hx => h x (List.mem_cons_of_mem _ hx)
    have hd := h d List.mem_cons_self
    cases d with
    | str z => exact ⟨z :: ks, by rw [e]; rfl, fun y hy => (List.mem_cons.mp hy).elim (fun e => by rw [e]; exact of_decide_eq_true hd) (hk y)⟩
    | _ => cases hd
theorem look_pair {d : PyData} (h : lookD d = true) : ∃ p, d = lkP p := by
  cases d with
  | tuple ds =>
    match ds, h with
    | [], h => cases h
    | [_], h => cases h
    | [a, b], h =>
      have h : (tokD a && (tokD b && decide (txtD a ≠ txtD b))) = true := h
      rw [Bool.and_eq_true, Bool.and_eq_true] at h
      cases a with
      | str x => cases b with
        | str y => exact ⟨(x, y), rfl⟩
        | _ => exact absurd h.2.1 (by simp [tokD, txtD])
      | _ => exact absurd h.1 (by simp [tokD, txtD])
    | _ :: _ :: _ :: _, h => cases h
  | _ => cases h
theorem looks_of {dl : List PyData} (h : ∀ d ∈ dl, lookD d = true) : ∃ ls, dl = loD ls := by
  induction dl with
  | nil => exact ⟨[], rfl⟩
  | cons d dl ih =>
    obtain ⟨ls, e⟩ := ih fun x hx => h x (List.mem_cons_of_mem _ hx)
    obtain ⟨p, rfl⟩ := look_pair (h d List.mem_cons_self)
    exact ⟨p :: ls, by rw [e]; rfl⟩
/-- looks as the keys of a set -/
theorem look_keys {K : PySem.W.Frag} {H : Hp} : ∀ {ls : List (Str × Str)} {us : List V}, DpAll K H us (loD ls) → ∃ ks : List (List Str × Addr), us = ks.map (fun q => V.ref q.2) ∧ ks.map (·.1) = ls.map pairL ∧ ∀ q ∈ ks, SqT K H q.2 (q.1.map V.str) ∧ q.1.length = 2
  | [], _, h => by
    cases h
    exact ⟨[], rfl, rfl, fun _ h => nomatch h⟩
  | p :: ls, _, h => by
    cases h with
    | cons h1 h2 =>
      obtain ⟨ks, e1, e2, e3⟩ := look_keys h2
      cases h1 with
      | @tup a xs _ g1 g2 =>
        cases g2 with
        | cons g2 g3 =>
          cases g3 with
          | cons g3 g4 =>
            cases g4
            cases g2
            cases g3
            refine ⟨(pairL p, a) :: ks, by rw [e1]; rfl, by rw [List.map_cons, List.map_cons, e2], fun q hq => ?_⟩
            rcases List.mem_cons.mp hq with rfl | hq
            · exact ⟨g1, rfl⟩
            · exact e3 q hq
/-- and back -/
theorem keys_look {K : PySem.W.Frag} {H : Hp} : ∀ {ls : List (Str × Str)} {m : List (List Str × Addr)}, m.map (·.1) = ls.map pairL → (∀ q ∈ m, SqT K H q.2 (q.1.map V.str)) → DpAll K H (m.map fun q => V.ref q.2) (loD ls)
  | [], m, e, _ => by
    cases m with
    | nil => exact .nil
    | cons _ _ => cases e
  | p :: ls, m, e, h => by
    cases m with
    | nil => cases e
    | cons q m =>
      rw [List.map_cons, List.map_cons] at e
      obtain ⟨e1, e2⟩ := List.cons.inj e
      have hq := h q List.mem_cons_self
      rw [e1] at hq
      exact .cons (.tup hq (.cons (.str _) (.cons (.str _) .nil))) (keys_look e2 fun r hr => h r (List.mem_cons_of_mem _ hr))
/-- what a set of looks makes of them -/
theorem looks_made {ls0 : List (Str × Str)} {ks m : List (List Str × Addr)} (ek : ks.map (·.1) = ls0.map pairL) (sub : ∀ q ∈ m, q ∈ ks) (all : ∀ q ∈ ks, q.1 ∈ m.map (·.1)) (nd : (m.map (·.1)).Nodup) (srt : K9.srt (m.map (·.1))) : ∃ ls, m.map (·.1) = ls.map pairL ∧ LooksOf ls0 ls := by
  have src : ∀ q ∈ m, ∃ p ∈ ls0, pairL p = q.1 := fun q hq => by
    have z : q.1 ∈ ks.map (·.1) := List.mem_map.mpr ⟨q, sub q hq, rfl⟩
    rw [ek] at z
    exact List.mem_map.mp z
  have some : ∀ m' : List (List Str × Addr), (∀ q ∈ m', ∃ p ∈ ls0, pairL p = q.1) → ∃ ls : List (Str × Str), m'.map (·.1) = ls.map pairL ∧ ∀ p ∈ ls, p ∈ ls0 := by
    intro m'
    induction m' with
    | nil => exact fun _ => ⟨[], rfl, fun _ h => nomatch h⟩
    | cons q m' ih =>
      intro h
      obtain ⟨p, hp, e⟩ := h q List.mem_cons_self
      obtain ⟨ls, e2, hl⟩ := ih fun r hr => h r (List.mem_cons_of_mem _ hr)
      refine ⟨p :: ls, by rw [List.map_cons, List.map_cons, e2, e], fun r hr => ?_⟩
      rcases List.mem_cons.mp hr with rfl | hr
      · exact hp
      · exact hl r hr
  obtain ⟨ls, e, hl⟩ := some m src
  refine ⟨ls, e, ?_, by rw [← e]; exact srt, fun p => ⟨hl p, fun hp => ?_⟩⟩
  · rw [e] at nd
    exact L2.nodup_of_map nd
  · have z : pairL p ∈ ks.map (·.1) := by
      rw [ek]
      exact List.mem_map.mpr ⟨p, hp, rfl⟩
    obtain ⟨q, hq, eq⟩ := List.mem_map.mp z
    have z := all q hq
    rw [eq, e] at z
    obtain ⟨r, hr, er⟩ := List.mem_map.mp z
    rw [← pairL_inj er]
    exact hr
theorem find_first {α : Type} {p : α → Bool} : ∀ {l : List α} {i : Nat} {a : α}, l[i]? = some a → (∀ (j : Nat) (b : α), j < i → l[j]? = some b → p b = false) → p a = true → l.find? p = some a
  | [], _, _, h, _, _ => by cases h
  | b :: l, 0, a, h, _, hp => by
    cases h
    rw [List.find?_cons, hp]
  | b :: l, i + 1, a, h, hb, hp => by
    rw [List.find?_cons, hb 0 b (Nat.succ_pos i) rfl]
    exact find_first (l := l) (i := i) h (fun j c hj hc => hb (j + 1) c (Nat.succ_lt_succ hj) hc) hp
theorem find_no {α : Type} {p : α → Bool} {l : List α} (h : ∀ a ∈ l, p a = false) : l.find? p = none := List.find?_eq_none.mpr fun a ha hp => by rw [h a ha] at hp; cases hp
def spRInit (K : PySem.W.Frag) (CR CX : Addr) : Sp := fun vs H Q E => ∃ (x dx p : Addr) (lk : V) (dk dl : List PyData), vs = [.ref x, lk, .ref p] ∧ H x = some (.ins CR dx []) ∧ Dp K H (.ref p) (.tuple dk) ∧ SeqD K H lk dl ∧ dl.length < 64 ∧ dk.length ≤ 100 ∧
  (∀ d ∈ dl, ∀ ds, d = .tuple ds → ∀ e ∈ ds, partE e) ∧
  (∀ ks0 ls0 ls H', dk = kiD ks0 → (∀ z ∈ ks0, z ∈ words6) → dl = loD ls0 → (∀ d ∈ dl, lookD d = true) → LooksOf ls0 ls → But x H H' → RuleV K CR H' x (kinds6 ks0) ls → Q .non H') ∧
  (∀ d, badPart dk dl = some d → ∀ v e H', H e = none → Same H H' → Dp K H' v d → H' e = some (.xd [(("worth" : Str), v)]) → E (.ref CX) (some e) H')
/-- what the written part says of WORDS -/
structure WordsC (K : PySem.W.Frag) (mg : Str → Option Value) (aW : Addr) : Prop where
  g : mg "WORDS" = some (.ref aW)
  srt : mg "sorted" = none
  tup : ∃ (o : Obj) (its : Array Value) (n : Nat), K.lookup aW = some o ∧ o.cls = .type "tuple" ∧ o.data = .seq its n ∧ its.size ≤ sizeLine ∧ Vals (words6.map V.str) its.toList
theorem WordsC.sq {K : PySem.W.Frag} {mg : Str → Option Value} {aW : Addr} (T : WordsC K mg aW) (H : Hp) : SqT K H aW (words6.map V.str) := .inr T.tup
abbrev s6r (x p : Addr) (lk : V) (a b : Option V) : St := [some (.ref x), some lk, some (.ref p), a, b, none]
theorem put1 (k : V) : putF "kinds" k [] = [(("kinds" : Str), k)] := by kernel_rfl
theorem put2 (k l : V) : putF "looks" l [(("kinds" : Str), k)] = [(("kinds" : Str), k), (("looks" : Str), l)] := by kernel_rfl
theorem put3 (k l p : V) : putF "parts" p [(("kinds" : Str), k), (("looks" : Str), l)] = FRu k l p := by kernel_rfl
section
variable {P : Program} {w : World} {K : PySem.W.Frag} {mg : Str → Option Value} {base : Heap} {CR CX fX aW : Addr}
theorem scRInit : FnScope nRInit pRInit (defScope sRInit) := ⟨rfl, rfl, rfl, by decide +kernel, rfl, by decide +kernel, by decide +kernel⟩
theorem ok_rinit {f : Addr} {fd : FuncData} {kws : List (Str × V)} (F : FunD K "__init__" "SlipRule.__init__" (defArgs sRInit) (defBody sRInit) (defScope sRInit) [] kws f fd) (T : Bare mg) (RC : RuleC K mg CR) (TX : K9E.ErrTxt P K mg CX fX) (WC : WordsC K mg aW)
    (GO : Fn P w K mg base 1 "is_one_of" ["thing", "words"] (spOneOf K)) (GL : Fn P w K mg base 4 "is_look" ["thing"] (spLook K)) :
    FnB P w K mg base (L2.CX P w) 5 f fd pRInit (spRInit K CR CX) := by
  refine F.okB scRInit (fun vs H Q E h => ?_) (fun cdv A outer s H vs Q E hr h => ?_)
  · obtain ⟨x, dx, p, lk, dk, dl, rfl, _⟩ := h
    rfl
  · obtain ⟨x, dx, p, lk, dk, dl, rfl, hx, hp, hlk, l64, k100, pe, q0, qe⟩ := h
    have hu := Room.units5 hr
    have hr4 : Room 4 _ := hr
    have hr1 : Room 1 _ := hr.mono (by decide)
    refine ⟨_, (C8.pss_cut (ps_for (passes_of rfl) rfl (pi_tup (pv 2)) (pg_name (i := 3) scRInit.nd rfl (.inl rfl)) (pss_one (ps_if (pt_not (pt_val (pe_fn GO hr1 rfl (pa_cons (pv 3) (pa_cons (pe_glob (v := .ref aW) (by rfl) WC.g rfl) pa_nil))))) (pss_one (ps_raiseBru rfl TX hr (takes_of rfl rfl rfl rfl) (pa_cons (pv 3) pa_nil))) pss_nil)))
        (C8.pss_cut (ps_for (passes_of rfl) rfl (pi_or (pi_list (pv 1)) (pi_tup (pv 1))) (pg_name (i := 4) scRInit.nd rfl (.inl rfl)) (pss_one (ps_if (pt_not (pt_val (pe_fn GL hr4 rfl (pa_cons (pv 4) pa_nil)))) (pss_one (ps_raiseBru rfl TX hr (takes_of rfl rfl rfl rfl) (pa_cons (pv 4) pa_nil))) pss_nil)))
        (C8.pss_cut (ps_fld (pv 0) (pe_callTy call_tuple_of (by rfl) T.tuple (by decide +kernel) (pa_cons (pe_lc (own := [("word", 5)]) (g := gName 5) (tt := tTest (tOp (rIn K false) (tVar 5) (tVar 2))) (te := tVar 5) (by rfl) scRInit.nd (pi_tup (pe_glob (v := .ref aW) (by rfl) WC.g rfl)) (blkOk_by (own := [("word", 5)]) (N := nRInit) (sc := defScope sRInit) (by decide +kernel)) (fun _ _ _ _ _ => pg_name (i := 5) scRInit.nd rfl (Or.inl rfl)) (fun _ _ _ _ _ => pts_one (pt_cmpR op_in_seq (pv 5) (pv 2) rfl)) (fun _ _ _ _ _ => pv 5)) pa_nil)) rfl)
        (C8.pss_cut (ps_fld (pv 0) (pe_callTy call_tuple_of (by rfl) T.tuple (by decide +kernel) (pa_cons (K9T.pe_sorted (d := 2) (by decide) rfl (Room.units5 hr) (by rfl) WC.srt (by rfl) T.set (pv 1)) pa_nil)) rfl)
        (pss_one (ps_fld (pv 0) (pe_op op_catA (pe_fld (pv 0) rfl) (pe_fld (pv 0) rfl)) rfl)))))), ?_⟩
    cases hp with
    | @tup _ us _ hp1 hp2 =>
    have lu := DpAll.len hp2
    -- the words
    refine ⟨fun σ H' => (∃ a, σ = s6r x p lk a none) ∧ H' = H ∧ ∀ d ∈ dk, inD words6 d = true, ?_, ?_⟩
    · refine ⟨_, rfl, p, rfl, ⟨us, hp1⟩, for_tup (K := K) (a := p) (xs := us) (fun i σ H' => (∃ a, σ = s6r x p lk a none) ∧ H' = H ∧ ∀ (j : Nat) d, j < i → dk[j]? = some d → inD words6 d = true) ⟨⟨_, rfl⟩, rfl, fun j _ h => absurd h (Nat.not_lt_zero j)⟩ (fun i σ H' _ h => by rw [h.2.1]; exact hp1) ?_ ?_⟩
      · rintro i u σ H1 hi ⟨⟨a, rfl⟩, rfl, hy⟩
        obtain ⟨d, hd, hv⟩ := DpAll.at2 hp2 hi
        have e : (strD d).elim false (fun z => decide (z ∈ words6)) = inD words6 d := rfl
        refine ⟨_, rfl, u, strD d, aW, words6, rfl, dp_thing hv, WC.sq _, _, rfl, ?_⟩
        rw [e]
        cases c : inD words6 d with
        | true =>
          refine iteF ⟨⟨_, rfl⟩, rfl, fun j d' hj h1 => ?_⟩
          rcases Nat.lt_succ_iff_lt_or_eq.mp hj with h | rfl
          · exact hy j d' h h1
          · rw [hd] at h1
            cases h1
            exact c
        | false =>
          refine iteT ⟨_, rfl, _, rfl, fun e he => qe d ?_ u e _ he (Same.new (Same.refl _) he) (dp_same (Same.new (Same.refl _) he) _ hv) upd_same⟩
          unfold badPart
          rw [find_first hd (fun j b hj hb => by rw [hy j b hj hb]; rfl) (by rw [c]; rfl)]
          rfl
      · rintro σ H1 ⟨⟨a, rfl⟩, rfl, hy⟩
        refine ⟨⟨a, rfl⟩, rfl, fun d hd => ?_⟩
        obtain ⟨j, hj, e⟩ := List.getElem_of_mem hd
        exact hy j d (by rw [lu]; exact hj) (by rw [List.getElem?_eq_getElem hj, e])
    rintro σ H1 ⟨⟨a, rfl⟩, rfl, allK⟩
    have noK : dk.find? (fun d => !inD words6 d) = none := find_no fun d hd => by rw [allK d hd]; rfl
    obtain ⟨ks0, rfl, k6⟩ := kinds_of allK
    -- the looks
    have lookStep : ∀ {us : List V}, DpAll K H1 us dl → ∀ (i : Nat) (u : V) (σ : St) (H2 : Hp), us[i]? = some u → ((∃ b, σ = s6r x p lk a b) ∧ Same H1 H2 ∧ ∀ (j : Nat) d, j < i → dl[j]? = some d → lookD d = true) → ∃ d, dl[i]? = some d ∧ Dp K H2 u d ∧ (∀ ds, d = .tuple ds → ∀ e ∈ ds, partE e) ∧ (lookD d = false → badPart (kiD ks0) dl = some d) ∧
        (lookD d = true → ∀ (j : Nat) d', j < i + 1 → dl[j]? = some d' → lookD d' = true) := by
      rintro us hd2 i u σ H2 hi ⟨_, s2, hy⟩
      obtain ⟨d, hd, hv⟩ := DpAll.at2 hd2 hi
      refine ⟨d, hd, dp_same s2 _ hv, pe d (List.mem_of_getElem? hd), fun c => ?_, fun c j d' hj h1 => ?_⟩
      · unfold badPart
        rw [noK, find_first hd (fun j b hj hb => by rw [hy j b hj hb]; rfl) (by rw [c]; rfl)]
        rfl
      · rcases Nat.lt_succ_iff_lt_or_eq.mp hj with h | rfl
        · exact hy j d' h h1
        · rw [hd] at h1
          cases h1
          exact c
    have lookEnd : ∀ (n : Nat), n = dl.length → (∀ (j : Nat) d, j < n → dl[j]? = some d → lookD d = true) → ∀ d ∈ dl, lookD d = true := fun n hn hy d hd => by
      obtain ⟨j, hj, e⟩ := List.getElem_of_mem hd
      exact hy j d (by rw [hn]; exact hj) (by rw [List.getElem?_eq_getElem hj, e])
    refine ⟨fun σ H' => (∃ b, σ = s6r x p lk a b) ∧ Same H1 H' ∧ ∀ d ∈ dl, lookD d = true, ?_, ?_⟩
    · rcases hlk with hlk | hlk
      all_goals cases hlk
      all_goals rename_i a2 us2 h1 h2
      · refine .inl ⟨_, rfl, a2, rfl, ⟨us2, h1⟩, for_list (K := K) (a := a2) (xs := us2) (fun i σ H' => (∃ b, σ = s6r x p (.ref a2) a b) ∧ Same H1 H' ∧ ∀ (j : Nat) d, j < i → dl[j]? = some d → lookD d = true) ⟨⟨_, rfl⟩, Same.refl _, fun j _ h => absurd h (Nat.not_lt_zero j)⟩ (fun i σ H' _ h => h.2.1.seq h1) (fun i u σ H2 hi h => ?_) (fun σ H2 h => ⟨h.1, h.2.1, lookEnd _ (DpAll.len h2) h.2.2⟩)⟩
        obtain ⟨d, hd, hv, pd, bad, good⟩ := lookStep h2 i u σ H2 hi h
        obtain ⟨⟨b0, rfl⟩, s2, hy⟩ := h
        refine ⟨_, rfl, u, d, rfl, hv, pd, fun H3 s3 => ⟨_, rfl, ?_⟩⟩
        cases c : lookD d with
        | true => exact iteF ⟨⟨_, rfl⟩, s2.trans s3, good c⟩
        | false => exact iteT ⟨_, rfl, _, rfl, fun e he => qe d (bad c) u e _ ((s2.trans s3).free he) (Same.new (s2.trans s3) he) (dp_same (s3.trans (Same.new (Same.refl _) he)) _ hv) upd_same⟩
      · refine .inr ⟨_, rfl, a2, rfl, ⟨us2, h1⟩, for_tup (K := K) (a := a2) (xs := us2) (fun i σ H' => (∃ b, σ = s6r x p (.ref a2) a b) ∧ Same H1 H' ∧ ∀ (j : Nat) d, j < i → dl[j]? = some d → lookD d = true) ⟨⟨_, rfl⟩, Same.refl _, fun j _ h => absurd h (Nat.not_lt_zero j)⟩ (fun i σ H' _ h => SqT.ext h1 h.2.1) (fun i u σ H2 hi h => ?_) (fun σ H2 h => ⟨h.1, h.2.1, lookEnd _ (DpAll.len h2) h.2.2⟩)⟩
        obtain ⟨d, hd, hv, pd, bad, good⟩ := lookStep h2 i u σ H2 hi h
        obtain ⟨⟨b0, rfl⟩, s2, hy⟩ := h
        refine ⟨_, rfl, u, d, rfl, hv, pd, fun H3 s3 => ⟨_, rfl, ?_⟩⟩
        cases c : lookD d with
        | true => exact iteF ⟨⟨_, rfl⟩, s2.trans s3, good c⟩
        | false => exact iteT ⟨_, rfl, _, rfl, fun e he => qe d (bad c) u e _ ((s2.trans s3).free he) (Same.new (s2.trans s3) he) (dp_same (s3.trans (Same.new (Same.refl _) he)) _ hv) upd_same⟩
    rintro σ H2 ⟨⟨b, rfl⟩, s2, allL⟩
    obtain ⟨ls0, rfl⟩ := looks_of allL
    have q := fun ls H' h1 h2 h3 => q0 ks0 ls0 ls H' rfl k6 rfl allL h1 h2 h3
    have eu : us = ks0.map V.str := txts_of hp2
    subst eu
    have hx2 := s2 _ _ hx
    have l100 : ks0.length ≤ 100 := by rw [kiD, List.length_map] at k100; exact k100
    -- the kinds
    refine ⟨fun σ H' => ∃ kA, σ = s6r x p lk a b ∧ H' x = some (.ins CR dx [(("kinds" : Str), .ref kA)]) ∧ SqT K H' kA ((kinds6 ks0).map V.str) ∧ But x H1 H', ?_, ?_⟩
    · refine ⟨aW, rfl, ⟨_, WC.sq _⟩, fun D hD => lc_tup (K := K) (a := aW) (xs := words6.map V.str) (fun i H' => Same H2 H' ∧ H' D = some (.lst (((words6.take i).filter fun z => decide (z ∈ ks0)).map V.str))) ⟨Same.new (Same.refl H2) hD, upd_same⟩ (fun i H' _ _ => WC.sq _) (fun i u H3 hu h => ?_) (fun H3 h => ?_)⟩
      · obtain ⟨s3, hd3⟩ := h
        rw [List.getElem?_map] at hu
        obtain ⟨z, hz, rfl⟩ := Option.map_eq_some_iff.mp hu
        have li : i < 6 := (List.getElem?_eq_some_iff.mp hz).1
        have tk : words6.take (i + 1) = words6.take i ++ [z] := take_some hz
        refine ⟨rfl, _, rfl, _, rfl, p, _, rfl, .inr (SqT.ext hp1 (s2.trans s3)), rfl, flat_strs ks0, _, rfl, ?_⟩
        show if inV (V.str z) (ks0.map V.str) = true then _ else _
        rw [inV_strs]
        by_cases c : z ∈ ks0
        · refine iteT' (decide_eq_true c) ⟨_, rfl, _, hd3, ?_, Same.put s3 hD, ?_⟩
          · have l1 := List.length_filter_le (fun z => decide (z ∈ ks0)) (words6.take i)
            rw [List.length_take] at l1
            rw [List.length_map]
            exact Nat.lt_of_le_of_lt (show _ ≤ 900 by omega) (by decide)
          · rw [upd_same, tk, List.filter_append, List.map_append]
            simp [c]
        · refine iteF' (decide_eq_false c) ⟨s3, ?_⟩
          rw [hd3, tk, List.filter_append]
          simp [c]
      · obtain ⟨s3, hd3⟩ := h
        have hd3 : H3 D = some (.lst ((kinds6 ks0).map V.str)) := hd3
        refine ⟨D, _, rfl, .inl ⟨SqL.of hd3, fun t ht => ?_⟩⟩
        have s4 := Same.new (o := .tup ((kinds6 ks0).map V.str)) s3 ht
        refine ⟨_, rfl, x, CR, dx, [], rfl, s4 _ _ hx2, RC.cl, RC.ki, (by show 0 < 1000; decide), t, rfl, ?_, ?_, fun b o n e => ?_⟩
        · rw [upd_same, put1]
        · have nt : t ≠ x := (ne_of_none (s3 _ _ hx2) ht).symm
          exact SqT.of (by rw [upd_ne nt]; exact upd_same)
        · rw [upd_ne n]
          exact s4 _ _ (s2 _ _ e)
    rintro σ H3 ⟨kA, rfl, hx3, hk3, b3⟩
    -- the looks
    refine ⟨fun σ H' => ∃ (lA : Addr) (m : List (List Str × Addr)) (ls : List (Str × Str)), σ = s6r x p lk a b ∧ H' x = some (.ins CR dx [(("kinds" : Str), .ref kA), (("looks" : Str), .ref lA)]) ∧ SqT K H' kA ((kinds6 ks0).map V.str) ∧ SqT K H' lA (m.map fun q : List Str × Addr => V.ref q.2) ∧ m.map (·.1) = ls.map pairL ∧ (∀ q ∈ m, SqT K H' q.2 (q.1.map V.str)) ∧ LooksOf ls0 ls ∧ m.length < 64 ∧ But x H1 H', ?_, ?_⟩
    · obtain ⟨l, us, rfl, hl, hd⟩ : ∃ l us, lk = .ref l ∧ (SqL K H1 l us ∨ SqT K H1 l us) ∧ DpAll K H1 us (loD ls0) := by
        rcases hlk with hlk | hlk
        · cases hlk with
          | lst h1 h2 => exact ⟨_, _, rfl, .inl h1, h2⟩
        · cases hlk with
          | tup h1 h2 => exact ⟨_, _, rfl, .inr h1, h2⟩
      obtain ⟨ks, rfl, ek, key⟩ := look_keys hd
      have lks : ks.length < 64 := by
        have z := congrArg List.length ek
        rw [List.length_map, List.length_map] at z
        rw [z]
        rw [loD, List.length_map] at l64
        exact l64
      have hl3 : SqL K H3 l (ks.map fun q => V.ref q.2) ∨ SqT K H3 l (ks.map fun q => V.ref q.2) := hl.elim (fun h => .inl (but_sql hx b3 h)) fun h => .inr (but_sqt hx b3 h)
      refine ⟨_, rfl, l, ks, rfl, hl3, fun q hq => ⟨but_sqt hx b3 (key q hq).1, (key q hq).2⟩, lks, fun pA m hn sub all nd srt => ?_⟩
      obtain ⟨ls, e1, lo⟩ := looks_made ek sub all nd srt
      have lm : m.length < 64 := Nat.lt_of_le_of_lt (by
        have z := nodup_le nd (fun a ha => by
          obtain ⟨q, hq, rfl⟩ := List.mem_map.mp ha
          exact List.mem_map.mpr ⟨q, sub q hq, rfl⟩ : ∀ a ∈ m.map (·.1), a ∈ ks.map (·.1))
        rw [List.length_map, List.length_map] at z
        exact z) lks
      refine ⟨pA, _, rfl, .inl ⟨SqL.of upd_same, fun t ht => ?_⟩⟩
      have s4 := Same.new (o := .tup (m.map fun q => V.ref q.2)) (Same.new (o := .lst (m.map fun q => V.ref q.2)) (Same.refl H3) hn) ht
      have hx4 := s4 _ _ hx3
      have nt : t ≠ x := (ne_of_none ((Same.new (o := .lst (m.map fun q => V.ref q.2)) (Same.refl H3) hn) _ _ hx3) ht).symm
      refine ⟨_, rfl, x, CR, dx, _, rfl, hx4, RC.cl, RC.lo, (by show 1 < 1000; decide), t, m, ls, rfl, by rw [upd_same, put2], ?_, ?_, e1, fun q hq => ?_, lo, lm, fun b o n e => ?_⟩
      · exact but_sqt hx4 (fun b o n e => by rw [upd_ne n]; exact e) (SqT.ext hk3 s4)
      · exact SqT.of (by rw [upd_ne nt]; exact upd_same)
      · exact but_sqt hx4 (fun b o n e => by rw [upd_ne n]; exact e) (SqT.ext (but_sqt hx b3 (key q (sub q hq)).1) s4)
      · rw [upd_ne n]
        exact s4 _ _ (b3 b o n e)
    rintro σ H4 ⟨lA, m, ls, rfl, hx4, hk4, hl4, e1, key4, lo, lm, b4⟩
    -- both
    have fin : ∀ (pa : Addr) (H5 : Hp), Same H4 H5 → SqT K H5 pa ((kinds6 ks0).map V.str ++ m.map fun q => V.ref q.2) →
        H5 x = some (.ins CR dx [(("kinds" : Str), .ref kA), (("looks" : Str), .ref lA)]) ∧ Q .non (upd H5 x (.ins CR dx (putF "parts" (.ref pa) [(("kinds" : Str), .ref kA), (("looks" : Str), .ref lA)]))) := by
      intro pa H5 s5 hpa
      have hx5 := s5 _ _ hx4
      have k5 : But x H5 (upd H5 x (.ins CR dx (FRu (.ref kA) (.ref lA) (.ref pa)))) := fun b o n e => by rw [upd_ne n]; exact e
      refine ⟨hx5, ?_⟩
      rw [put3]
      have dk : DpAll K (upd H5 x (.ins CR dx (FRu (.ref kA) (.ref lA) (.ref pa)))) ((kinds6 ks0).map V.str) (kiD (kinds6 ks0)) := of_txts _
      have dl : DpAll K (upd H5 x (.ins CR dx (FRu (.ref kA) (.ref lA) (.ref pa)))) (m.map fun q => V.ref q.2) (loD ls) := keys_look e1 fun q hq => but_sqt hx5 k5 (SqT.ext (key4 q hq) s5)
      exact q ls _ lo (fun b o n e => k5 b o n (s5 _ _ (b4 b o n e))) ⟨dx, _, _, _, upd_same, .tup (but_sqt hx5 k5 (SqT.ext hk4 s5)) dk, .tup (but_sqt hx5 k5 (SqT.ext hl4 s5)) dl, .tup (but_sqt hx5 k5 hpa) (DpAll.app dk dl)⟩
    have lk6 : (kinds6 ks0).length ≤ 6 := List.length_filter_le _ _
    refine ⟨_, rfl, x, CR, dx, _, _, rfl, hx4, RC.cl, RC.ki, by kernel_rfl, _, rfl, x, CR, dx, _, _, rfl, hx4, RC.cl, RC.lo, by kernel_rfl, kA, lA, _, _, rfl, rfl, hk4, hl4, ?_, fun e => ?_, fun _ e => ?_, fun _ _ g hg => ?_⟩
    · rw [List.length_map, List.length_map]
      exact line_ge (by omega)
    · obtain ⟨f1, f2⟩ := fin lA H4 (Same.refl H4) (by rw [e, List.nil_append]; exact hl4)
      exact ⟨_, rfl, x, CR, dx, _, rfl, f1, RC.cl, RC.pa, (by show 2 < 1000; decide), f2⟩
    · obtain ⟨f1, f2⟩ := fin kA H4 (Same.refl H4) (by rw [e, List.append_nil]; exact hk4)
      exact ⟨_, rfl, x, CR, dx, _, rfl, f1, RC.cl, RC.pa, (by show 2 < 1000; decide), f2⟩
    · obtain ⟨f1, f2⟩ := fin g _ (Same.new (Same.refl H4) hg) (SqT.of upd_same)
      exact ⟨_, rfl, x, CR, dx, _, rfl, f1, RC.cl, RC.pa, (by show 2 < 1000; decide), f2⟩
end
end K5

namespace K5
open PySem L2
theorem shaped_lt {ds : List PyData} : SeqAt.shaped (.list ds) = SeqAt.shaped (.tuple ds) := by
  unfold SeqAt.shaped
  rw [PyData.canLay0, PyData.canLay0, PyData.depth, PyData.depth]
/-- x in y, x not in y: data of any depth in a list or a tuple -/
def rInA (K : PySem.W.Frag) (neg : Bool) : R2 := fun x y H Q => ∃ d ds, Dp K H x d ∧ SeqD K H y ds ∧ SeqAt.shaped d = true ∧ SeqAt.shaped (.tuple ds) = true ∧ Q (.bl (neg != (ds.any fun z => PyData.eqv z d))) H
section
variable {X : Cx}
open PySem.Spec PyProof.Rows
theorem op_inA (hu : X.A.units + 65 < cLine) : OpR X (compareOp .In) (rInA X.K false) := by
  intro pins s σ H x y v u Q I rx ry h
  obtain ⟨d, ds, hd, he, sd, se, q⟩ := h
  rw [Bool.false_bne] at q
  obtain ⟨as, r1⟩ := Dp.reads I d x v hd rx
  rcases he with he | he
  · obtain ⟨bs, r2⟩ := Dp.reads I (.list ds) y u he ry
    exact SeqAt.in_list_reads r2 r1 (by have z := SeqAt.canLay_of_shaped se; rw [PyData.canLay0] at z; exact z) (SeqAt.canLay_of_shaped sd) (room_in_shaped sd hu) ⟨.bl _, H, I, rfl, q⟩
  · obtain ⟨bs, r2⟩ := Dp.reads I (.tuple ds) y u he ry
    exact SeqAt.in_tuple_reads r2 r1 (SeqAt.canLay_of_shaped se) (SeqAt.canLay_of_shaped sd) (room_in_shaped sd hu) ⟨.bl _, H, I, rfl, q⟩
theorem op_ninA (hu : X.A.units + 65 < cLine) : OpR X (compareOp .NotIn) (rInA X.K true) := by
  intro pins s σ H x y v u Q I rx ry h
  obtain ⟨d, ds, hd, he, sd, se, q⟩ := h
  rw [Bool.true_bne] at q
  obtain ⟨as, r1⟩ := Dp.reads I d x v hd rx
  rcases he with he | he
  · obtain ⟨bs, r2⟩ := Dp.reads I (.list ds) y u he ry
    exact SeqAt.notIn_list_reads r2 r1 (by have z := SeqAt.canLay_of_shaped se; rw [PyData.canLay0] at z; exact z) (SeqAt.canLay_of_shaped sd) (room_in_shaped sd hu) ⟨.bl _, H, I, rfl, q⟩
  · obtain ⟨bs, r2⟩ := Dp.reads I (.tuple ds) y u he ry
    exact SeqAt.notIn_tuple_reads r2 r1 (SeqAt.canLay_of_shaped se) (SeqAt.canLay_of_shaped sd) (room_in_shaped sd hu) ⟨.bl _, H, I, rfl, q⟩
end
theorem eqv_str (a b : Str) : PyData.eqv (.str a) (.str b) = decide (a = b) := by
  rw [PyData.eqv]
  by_cases h : a = b
  · subst h; simp
  · simp [h]
theorem eqv_look (p q : Str × Str) : PyData.eqv (lkP p) (lkP q) = decide (p = q) := by
  obtain ⟨a, b⟩ := p
  obtain ⟨c, d⟩ := q
  unfold lkP
  rw [PyData.eqv, PyData.eqvAll, PyData.eqvAll, PyData.eqvAll, eqv_str, eqv_str]
  by_cases h : a = c <;> by_cases g : b = d <;> simp [h, g]
theorem eqv_sl (a : Str) (q : Str × Str) : PyData.eqv (.str a) (lkP q) = false := by
  unfold lkP
  rw [PyData.eqv]
  all_goals simp
theorem eqv_ls (a : Str) (q : Str × Str) : PyData.eqv (lkP q) (.str a) = false := by
  unfold lkP
  rw [PyData.eqv]
  all_goals simp
theorem any_ki (ks : List Str) (z : Str) : ((kiD ks).any fun y => PyData.eqv y (.str z)) = decide (z ∈ ks) := by
  induction ks with
  | nil => rfl
  | cons k ks ih =>
    show (PyData.eqv (.str k) (.str z) || (kiD ks).any fun y => PyData.eqv y (.str z)) = _
    rw [ih, eqv_str]
    by_cases h : k = z
    · subst h; simp
    · have : ¬ z = k := fun e => h e.symm
      simp [h, this]
theorem any_lo (ls : List (Str × Str)) (p : Str × Str) : ((loD ls).any fun y => PyData.eqv y (lkP p)) = decide (p ∈ ls) := by
  induction ls with
  | nil => rfl
  | cons k ls ih =>
    show (PyData.eqv (lkP k) (lkP p) || (loD ls).any fun y => PyData.eqv y (lkP p)) = _
    rw [ih, eqv_look]
    by_cases h : k = p
    · subst h; simp
    · have : ¬ p = k := fun e => h e.symm
      simp [h, this]
theorem any_ki_l (ks : List Str) (p : Str × Str) : ((kiD ks).any fun y => PyData.eqv y (lkP p)) = false := List.any_eq_false.mpr fun d hd => by
  obtain ⟨z, _, rfl⟩ := List.mem_map.mp hd
  rw [eqv_sl]
  decide
theorem any_lo_k (ls : List (Str × Str)) (z : Str) : ((loD ls).any fun y => PyData.eqv y (.str z)) = false := List.any_eq_false.mpr fun d hd => by
  obtain ⟨q, _, rfl⟩ := List.mem_map.mp hd
  rw [eqv_ls]
  decide
/-! the looks that the law draws -/
def looks10 : List (Str × Str) := [("a", "b"), ("b", "="), (";", ","), ("=", ";"), ("12", "0"), ("0", "a"), ("yes", "12"), ("[", "b")]
theorem l10_fair : ∀ p ∈ looks10, Fair1 (lkP p) := by
  have h : (looks10.all fun p => fairB (lkP p)) = true := by decide +kernel
  exact fun p hp => fair_of (List.all_eq_true.mp h p hp)
theorem w6_fair : ∀ z ∈ words6, Fair1 (.str z) := by
  have h : (words6.all fun z => fairB (.str z)) = true := by decide +kernel
  exact fun z hz => fair_of (List.all_eq_true.mp h z hz)
theorem l10_look : ∀ p ∈ looks10, lookD (lkP p) = true := by
  have h : (looks10.all fun p => lookD (lkP p)) = true := by decide +kernel
  exact fun p hp => List.all_eq_true.mp h p hp
theorem l10_part : ∀ p ∈ looks10, p.1.length ≤ sizeLine ∧ p.2.length ≤ sizeLine := by
  have h : (looks10.all fun p => decide (p.1.length ≤ 20) && decide (p.2.length ≤ 20)) = true := by decide +kernel
  intro p hp
  have z := List.all_eq_true.mp h p hp
  rw [Bool.and_eq_true] at z
  have a := of_decide_eq_true z.1
  have b := of_decide_eq_true z.2
  exact ⟨line_ge (by omega), line_ge (by omega)⟩
/-- a rule of the law: words in order, looks ascending, each once -/
structure RuleG (ks : List Str) (ls : List (Str × Str)) : Prop where
  k : kinds6 ks = ks
  l : LooksOf ls ls
  m : ∀ p ∈ ls, p ∈ looks10
theorem mem_k6 {ks : List Str} {z : Str} : z ∈ kinds6 ks ↔ z ∈ words6 ∧ z ∈ ks := by
  unfold kinds6
  rw [List.mem_filter, decide_eq_true_iff]
theorem k6_k6 (ks : List Str) : kinds6 (kinds6 ks) = kinds6 ks := by
  show words6.filter (fun z => decide (z ∈ kinds6 ks)) = words6.filter fun z => decide (z ∈ ks)
  refine List.filter_congr fun z hz => ?_
  by_cases h : z ∈ ks
  · rw [decide_eq_true h, decide_eq_true (mem_k6.mpr ⟨hz, h⟩)]
  · rw [decide_eq_false h, decide_eq_false fun e => h (mem_k6.mp e).2]
theorem RuleG.w {ks : List Str} {ls : List (Str × Str)} (G : RuleG ks ls) : ∀ z ∈ ks, z ∈ words6 := fun z hz => by
  rw [← G.k] at hz
  exact (mem_k6.mp hz).1
theorem RuleG.lk {ks : List Str} {ls : List (Str × Str)} (G : RuleG ks ls) : ks.length ≤ 6 := by
  rw [← G.k]
  exact List.length_filter_le _ _
theorem RuleG.ll {ks : List Str} {ls : List (Str × Str)} (G : RuleG ks ls) : ls.length ≤ 10 := Nat.le_trans (nodup_le G.l.nd G.m) (by decide)
theorem ki_fair {ks : List Str} (h : ∀ z ∈ ks, z ∈ words6) : Fair (kiD ks) := fun d hd => by
  obtain ⟨z, hz, rfl⟩ := List.mem_map.mp hd
  exact w6_fair z (h z hz)
theorem lo_fair {ls : List (Str × Str)} (h : ∀ p ∈ ls, p ∈ looks10) : Fair (loD ls) := fun d hd => by
  obtain ⟨z, hz, rfl⟩ := List.mem_map.mp hd
  exact l10_fair z (h z hz)
theorem pa_fair {ks : List Str} {ls : List (Str × Str)} (hk : ∀ z ∈ ks, z ∈ words6) (hl : ∀ p ∈ ls, p ∈ looks10) : Fair (paD ks ls) := fun d hd => (List.mem_append.mp hd).elim (ki_fair hk d) (lo_fair hl d)
theorem pa_len {ks : List Str} {ls : List (Str × Str)} : (paD ks ls).length = ks.length + ls.length := by
  unfold paD kiD loD
  rw [List.length_append, List.length_map, List.length_map]
theorem RuleG.ok {ks : List Str} {ls : List (Str × Str)} (G : RuleG ks ls) : RuleOk ks ls where
  k := fair_shaped_t (ki_fair G.w)
  l := fair_shaped_t (lo_fair G.m)
  p := fair_shaped_t (pa_fair G.w G.m)
  n := by
    rw [pa_len]
    have := G.lk
    have := G.ll
    omega
  one := fun d hd => (pa_fair G.w G.m d hd).shaped
theorem LooksOf.self {ls0 ls : List (Str × Str)} (h : LooksOf ls0 ls) : LooksOf ls ls := ⟨h.nd, h.srt, fun _ => Iff.rfl⟩
theorem LooksOf.good {ls0 ls : List (Str × Str)} {ks : List Str} (h : LooksOf ls0 ls) (hl : ∀ p ∈ ls0, p ∈ looks10) : RuleG (kinds6 ks) ls := ⟨k6_k6 ks, h.self, fun p hp => hl p ((h.mem p).mp hp)⟩
/-- the same looks, each once and ascending, are one list -/
theorem LooksOf.one {a b ls ls' : List (Str × Str)} (h : LooksOf a ls) (h' : LooksOf b ls') (e : ∀ p, p ∈ a ↔ p ∈ b) : ls = ls' := by
  have pm : ls.Perm ls' := (List.perm_ext_iff_of_nodup h.nd h'.nd).mpr fun p => ((h.mem p).trans (e p)).trans (h'.mem p).symm
  have z := K9.srt_one (d := 2) (fun x hx => by
    obtain ⟨p, _, rfl⟩ := List.mem_map.mp hx
    rfl) (pm.map pairL) h.srt h'.srt
  exact (List.map_inj_right fun p q e => pairL_inj e).mp z
theorem k6_congr {ks ks' : List Str} (h : ∀ z ∈ words6, (z ∈ ks ↔ z ∈ ks')) : kinds6 ks = kinds6 ks' := by
  refine List.filter_congr fun z hz => ?_
  rw [decide_eq_decide]
  exact h z hz
end K5

/-! C(e, ..): making an instance whose __init__ takes any number of arguments, the one by its name left out -/
namespace L2
open PySem PySem.Spec PyProof.Rows
section
variable {X : Cx} {CX : CXT} {k : Nat} {f C : Addr} {fd : FuncData} {ps : List Str} {sp : Sp} {key : Str}
theorem run_makeD {pins : List (Addr × Obj)} {σ : St} {H : Hp} {s : Shared} {Q : VK} {us : List Value} {zs : List V} {u : Value} {v : V} {E : XK} (M : Mk X.K C f) (F : FnB X.prog X.w X.K X.mg X.base CX k f fd ps sp) (hr : Room (k + 1) X.A) (hb : StarBinds0 X.K fd ps u)
    (hx : PassesAt CX X σ E) (I : Inv X pins σ H s) (r : Vals zs us) (rv : RelV v u) (h : MakeQ C sp E zs v H Q) :
    wpAny (model X.prog X.w) X.A (call (.ref C) us) (EP X pins σ Q) X.xe s := by
  obtain ⟨hz, h⟩ := h
  have I2 := Inv.made (C := C) I
  have lu : us.length ≤ sizeLine := by rw [← r.length]; exact hz
  have hq := h (s.heap.objs.size + 1) s.heap.objs.size _ (I.hok.fresh (Nat.le_succ _)) (I.hok.fresh (Nat.le_refl _)) (Nat.ne_of_lt (Nat.lt_succ_self _)) (I2.hok.fresh (Nat.le_refl _))
  have I3 : Inv X pins σ (upd (upd (upd H s.heap.objs.size (.own (s.heap.objs.size + 1))) (s.heap.objs.size + 1) (.ins C s.heap.objs.size [])) ((s.heap.push PySem.W.emptyDict).push (PySem.W.instObj C s.heap.objs.size)).objs.size (.tup zs))
      { s with heap := ((s.heap.push PySem.W.emptyDict).push (PySem.W.instObj C s.heap.objs.size)).push { cls := .type "tuple", data := .seq us.toArray } } :=
    I2.laid (t' := s.toks) (fun b o e => Heap.get?_push_of_some _ e) (Nat.le_refl _) ⟨hz, us, r, _, Heap.get?_push_size _ rfl, rfl, _, rfl⟩
  have r2 : Vals [V.ref (s.heap.objs.size + 1), v, .ref ((s.heap.push PySem.W.emptyDict).push (PySem.W.instObj C s.heap.objs.size)).objs.size] [Value.ref (s.heap.objs.size + 1), u, .ref ((s.heap.push PySem.W.emptyDict).push (PySem.W.instObj C s.heap.objs.size)).objs.size] := .cons rfl (.cons rv (.cons rfl .nil))
  refine wpAny_call (make_map (f := f) I.kIn M.makes M.init (beq_iff_eq.mp M.fn) (F.run _ X.stack _ _ _ ⟨Value.ref (s.heap.objs.size + 1) :: us, []⟩ _ _ _ E _ (hr.make C us []) I2.kIn (I3.env0.make C us []) r2 hq (fun M A E Q g => hb _ _ us I2.kIn lu M A E Q g) fun r t hq' => ?_))
  cases r with
  | error e => exact hx pins _ _ e t I3 hq'
  | ok fl =>
    cases fl with
    | ret w =>
      obtain ⟨z, H', I4, rz, ev, q3⟩ := I3.after hq'
      subst ev
      exact ⟨rz, ⟨V.ref (s.heap.objs.size + 1), H', I4, rfl, q3⟩⟩
    | next => exact False.elim hq'
    | brk => exact False.elim hq'
    | cont => exact False.elim hq'
variable {x : Str} {p pos : Pos} {e : Expr} {es : List Expr} {t : TA} {E : St → XK}
def tMakeD (C : Addr) (sp : Sp) (E : St → XK) (v : V) (t : TA) : TE := fun σ H Q => t σ H fun zs H1 => MakeQ C sp (E σ) zs v H1 Q
/-- C(e, ..) -/
theorem pe_makeD {u : Value} {v : V} (M : Mk X.K C f) (F : FnB X.prog X.w X.K X.mg X.base CX k f fd ps sp) (hr : Room (k + 1) X.A) (hg : Gl X x) (hm : X.mg x = some (.ref C)) (hb : StarBinds0 X.K fd ps u) (rv : RelV v u) (hx : ∀ σ, PassesAt CX X σ (E σ)) (ha : PA X (e :: es) t)
    (hdb : (x == ("__debug__" : Str)) = false := by decide) (he : starEach (e :: es) X.env = (false, eval e X.env) :: starEach es X.env := by rfl) (hpl : (backTo pos (starEach es X.env)).any (·.1) = false := by rfl) :
    PE X (.Call (.Name x p) (e :: es) [] pos) (tMakeD C sp E v t) := by
  refine ⟨fun pins s σ H Q I h => ?_⟩
  refine wpAny_Call_Name_kw (ld_glob I hg hm ?_ hdb)
  refine PySem.W.callWith_K (h₀ := X.base) I.ok.mod.kin M.kp (thn (ha.run pos pins s σ H _ I h) fun us s1 ⟨zs, H1, I1, r, q⟩ => ⟨I1.kIn, ?_⟩) he hpl
  exact run_makeD M F hr hb (hx σ) I1 r rv q
end
end L2

/-! C.m(), m a staticmethod of the class at C -/
namespace L2
open PySem PySem.Spec PyProof.Rows ClX
structure SMet (K : PySem.W.Frag) (C : Addr) (mc : Value) (m : Str) (p g : Addr) : Prop where
  at_ : PySem.W.findCls K (.ref C) mc m = some (.get (.builtin "staticmethod.__get__") (.ref p) .none (.ref C))
  rc : ∃ rest, PySem.W.recIn K p "staticmethod" = some (.ref g :: rest)
  kp : PySem.W.keepIn K (.ref g) = true
def tStat (C : Addr) (sp : Sp) (E : St → XK) (ta : TE) : TE := fun σ H Q => ta σ H fun x H1 => x = .ref C ∧ sp [] H1 Q (E σ)
section
variable {X : Cx} {CX : CXT} {k : Nat} {C p g : Addr} {mc : Value} {fd : FuncData} {ps : List Str} {sp : Sp} {E : St → XK} {o : Expr} {m : Str} {pos apos : Pos} {ta : TE} {pl : Sem Bool}
theorem pe_static (he : PE X o ta) (r : CRead X.K C mc) (c : SMet X.K C mc m p g) (F : FnOk X.prog X.w X.K X.mg X.base CX k g fd ps sp) (hr : Room k X.A) (hb : Binds X.K fd ps []) (hx : ∀ σ, PassesAt CX X σ (E σ))
    (ht : eval (.Call (.Attribute o m apos) [] [] pos) X.env = (do
      let ov ← eval o X.env
      standAt apos.atName
      let (f, first) ← holding [ov] (getMethod ov m pl)
      callWith pos f first (backTo pos (starEach [] X.env)) (backToKw pos (keywordEach [] X.env))) := by rfl) :
    PE X (.Call (.Attribute o m apos) [] [] pos) (tStat C sp E ta) := by
  refine ⟨fun pins s σ H Q I h => ?_⟩
  refine PySem.W.methodCall_KW (pl := pl) (thn (he.run pins s σ H _ I h) fun u s1 ⟨x, H1, I1, rx, ex, q⟩ => ?_) ht
  subst ex
  obtain rfl : u = Value.ref C := rx
  obtain ⟨rest, hp⟩ := c.rc
  refine PySem.W.method_cls I1.kIn r.ga (PySem.W.cls_bind I1.kIn r.rd c.at_ (wpAny_call (PySem.W.sm_get (s := { s1 with toks := s1.toks + 1 }) I1.kIn hp (PySem.W.handed_on rfl ?_))))
  have I2 : Inv X pins σ H1 { s1 with toks := s1.toks + 1 } := I1.tok _
  refine PySem.W.callWith_K0 (first := []) I2.kIn c.kp ?_
  refine wpAny_call (codeAny_mono (run_own (us := []) (vs := []) F hr hb (hx σ) I2 .nil q) fun r s' hq => ?_)
  cases r with
  | error e => exact hq
  | ok fl =>
    cases fl with
    | ret w => exact hq
    | next => exact False.elim hq
    | brk => exact False.elim hq
    | cont => exact False.elim hq
end
end L2

namespace K5
open PySem L2
abbrev sREvery : Stmt := inClass (top 26) 1
abbrev sROr : Stmt := inClass (top 26) 2
abbrev sRAnd : Stmt := inClass (top 26) 3
abbrev sRSub : Stmt := inClass (top 26) 4
abbrev sMade : Stmt := top 27
abbrev nRAnd : List Str := ["self", "other", "kinds", "looks", "kind", "look"]
theorem noPass {X : Cx} {P : Program} {w : World} (σ : L2.St) : PassesAt (L2.CX P w) X σ (fun _ _ _ => False) := fun pins => passNo pins σ
/-- making a rule, whatever its parts are -/
theorem madeQ {K : PySem.W.Frag} {CR CX : Addr} {zs : List V} {v : V} {dk dl : List PyData} {H : Hp} {Q : VK} {E : XK} (hz : DpAll K H zs dk) (hv : SeqD K H v dl) (l64 : dl.length < 64) (k100 : dk.length ≤ 100) (pe : ∀ d ∈ dl, ∀ ds, d = .tuple ds → ∀ e ∈ ds, partE e)
    (q0 : ∀ x ks0 ls0 ls H', dk = kiD ks0 → (∀ z ∈ ks0, z ∈ words6) → dl = loD ls0 → (∀ d ∈ dl, lookD d = true) → LooksOf ls0 ls → H x = none → Same H H' → RuleV K CR H' x (kinds6 ks0) ls → Q (.ref x) H')
    (qe : ∀ d, badPart dk dl = some d → ∀ w e H', H e = none → Same H H' → Dp K H' w d → H' e = some (.xd [(("worth" : Str), w)]) → E (.ref CX) (some e) H') : MakeQ CR (spRInit K CR CX) E zs v H Q := by
  refine ⟨by rw [DpAll.len hz]; exact line_ge (by omega), fun x dx p hx hdx ne hp => ?_⟩
  have s1 := Same.new (o := .own x) (Same.refl H) hdx
  have hx1 : upd H dx (.own x) x = none := by rw [upd_ne ne.symm]; exact hx
  have s2 := Same.new (o := .ins CR dx []) s1 hx1
  have s3 := Same.new (o := .tup zs) s2 hp
  have hx3 : upd (upd (upd H dx (.own x)) x (.ins CR dx [])) p (.tup zs) x = some (.ins CR dx []) := by
    rw [upd_ne (ne_of_none upd_same hp)]
    exact upd_same
  refine ⟨x, dx, p, v, dk, dl, rfl, hx3, .tup (SqT.of upd_same) (dpAll_same s3 _ hz), hv.elim (fun h => .inl (dp_same s3 _ h)) fun h => .inr (dp_same s3 _ h), l64, k100, pe, fun ks0 ls0 ls H' h1 h2 h3 h4 h5 b r => ⟨rfl, ?_⟩, fun d hd w e H' he s hw hx' => qe d hd w e H' (s3.free he) (s3.trans s) hw hx'⟩
  exact q0 x ks0 ls0 ls H' h1 h2 h3 h4 h5 hx (fun c o e => b c o (ne_of_none e hx) (s3 c o e)) r
theorem lo_part {ls : List (Str × Str)} (h : ∀ p ∈ ls, p ∈ looks10) : ∀ d ∈ loD ls, ∀ ds, d = .tuple ds → ∀ e ∈ ds, partE e := by
  intro d hd ds e x hx
  obtain ⟨p, hp, rfl⟩ := List.mem_map.mp hd
  cases e
  obtain ⟨a, b⟩ := l10_part p (h p hp)
  rcases List.mem_cons.mp hx with rfl | hx
  · exact a
  · rw [List.mem_singleton.mp hx]
    exact b
theorem lo_inj {a b : List (Str × Str)} (h : loD a = loD b) : a = b := (List.map_inj_right fun p q e => by
  unfold lkP at e
  simp only [PyData.tuple.injEq, List.cons.injEq, PyData.str.injEq, and_true] at e
  exact Prod.ext e.1 e.2).mp h
theorem ki_inj {a b : List Str} (h : kiD a = kiD b) : a = b := (List.map_inj_right fun p q e => by cases e; rfl).mp h
/-- of words and looks that are some -/
theorem bad_none {ks : List Str} {ls : List (Str × Str)} (hk : ∀ z ∈ ks, z ∈ words6) (hl : ∀ p ∈ ls, p ∈ looks10) : badPart (kiD ks) (loD ls) = none := by
  unfold badPart
  rw [find_no fun d hd => ?_, find_no fun d hd => ?_]
  · rfl
  · obtain ⟨p, hp, rfl⟩ := List.mem_map.mp hd
    rw [l10_look p (hl p hp)]
    rfl
  · obtain ⟨z, hz, rfl⟩ := List.mem_map.mp hd
    show (!decide (z ∈ words6)) = false
    rw [decide_eq_true (hk z hz)]
    rfl
theorem goodQ {K : PySem.W.Frag} {CR CX : Addr} {zs : List V} {v : V} {ks : List Str} {ls0 : List (Str × Str)} {H : Hp} {Q : VK} {E : XK} (hz : DpAll K H zs (kiD ks)) (hv : SeqD K H v (loD ls0)) (hk : ∀ z ∈ ks, z ∈ words6) (hl : ∀ p ∈ ls0, p ∈ looks10) (l64 : ls0.length < 64) (k100 : ks.length ≤ 100)
    (q0 : ∀ x ls H', LooksOf ls0 ls → H x = none → Same H H' → RuleV K CR H' x (kinds6 ks) ls → Q (.ref x) H') : MakeQ CR (spRInit K CR CX) E zs v H Q := by
  refine madeQ hz hv (by rw [loD, List.length_map]; exact l64) (by rw [kiD, List.length_map]; exact k100) (lo_part hl) (fun x ks0 ls1 ls H' h1 _ h3 _ h4 h5 h6 r => ?_) fun d hd => ?_
  · cases ki_inj h1
    cases lo_inj h3
    exact q0 x ls H' h4 h5 h6 r
  · rw [bad_none hk hl] at hd
    cases hd
/-- what is known of making rules -/
structure MkR (P : Program) (w : World) (K : PySem.W.Frag) (mg : Str → Option Value) (base : Heap) (CR CX : Addr) : Prop where
  ex : ∃ (f : Addr) (fd : FuncData) (u : Value) (v : V), Mk K CR f ∧ FnB P w K mg base (L2.CX P w) 5 f fd pRInit (spRInit K CR CX) ∧ StarBinds fd pRInit "looks" ∧ StarBinds0 K fd pRInit u ∧ RelV v u ∧ ∀ H, Dp K H v (.tuple [])
def spMade (K : PySem.W.Frag) (CR : Addr) : Sp := fun vs H Q _ => ∃ (kv lv : V) (ks : List Str) (ls0 : List (Str × Str)), vs = [kv, lv] ∧ SeqD K H kv (kiD ks) ∧ SeqD K H lv (loD ls0) ∧ (∀ z ∈ ks, z ∈ words6) ∧ (∀ p ∈ ls0, p ∈ looks10) ∧ ls0.length < 64 ∧ ks.length ≤ 100 ∧
  ∀ x ls H', LooksOf ls0 ls → H x = none → Same H H' → RuleV K CR H' x (kinds6 ks) ls → Q (.ref x) H'
def spREvery (K : PySem.W.Frag) (CR : Addr) : Sp := fun vs H Q _ => vs = [] ∧ ∀ x H', H x = none → Same H H' → RuleV K CR H' x words6 [] → Q (.ref x) H'
/-- two rules, and what is made of them -/
def spROp (K : PySem.W.Frag) (CR : Addr) (fk : List Str → List Str → List Str) (fl : List (Str × Str) → List (Str × Str) → List (Str × Str)) : Sp := fun vs H Q _ => ∃ (x y : Addr) (ks ks2 : List Str) (ls ls2 : List (Str × Str)), vs = [.ref x, .ref y] ∧ RuleV K CR H x ks ls ∧ RuleG ks ls ∧ RuleV K CR H y ks2 ls2 ∧ RuleG ks2 ls2 ∧
  ∀ z ls' H', LooksOf (fl ls ls2) ls' → H z = none → Same H H' → RuleV K CR H' z (kinds6 (fk ks ks2)) ls' → Q (.ref z) H'
def bothF {α : Type} [DecidableEq α] (a b : List α) : List α := a.filter fun z => decide (z ∈ b)
def lessF {α : Type} [DecidableEq α] (a b : List α) : List α := a.filter fun z => !decide (z ∈ b)
theorem catD {K : PySem.W.Frag} {H : Hp} {v u : V} {ds es : List PyData} {Q : VK} (hv : Dp K H v (.tuple ds)) (hu : Dp K H u (.tuple es)) (hz : ds.length + es.length ≤ 1000) (q : ∀ p H', Same H H' → Dp K H' (.ref p) (.tuple (ds ++ es)) → Q (.ref p) H') : rCatA K v u H Q := by
  cases hv with
  | @tup a xs _ h1 h2 =>
    cases hu with
    | @tup b ys _ g1 g2 =>
      refine ⟨a, b, xs, ys, rfl, rfl, h1, g1, by rw [DpAll.len h2, DpAll.len g2]; exact line_ge (by omega), fun e => ?_, fun _ e => ?_, fun _ _ p hp => ?_⟩
      · subst e
        cases h2
        exact q b H (Same.refl H) (.tup g1 g2)
      · subst e
        cases g2
        rw [List.append_nil] at q
        exact q a H (Same.refl H) (.tup h1 h2)
      · have s := Same.new (o := .tup (xs ++ ys)) (Same.refl H) hp
        exact q p _ s (.tup (SqT.of upd_same) (DpAll.app (dpAll_same s _ h2) (dpAll_same s _ g2)))
theorem RuleV.same {K : PySem.W.Frag} {CR : Addr} {H H' : Hp} {x : Addr} {ks : List Str} {ls : List (Str × Str)} (h : RuleV K CR H x ks ls) (s : Same H H') : RuleV K CR H' x ks ls := by
  obtain ⟨dx, k, l, p, h1, h2, h3, h4⟩ := h
  exact ⟨dx, k, l, p, s _ _ h1, dp_same s _ h2, dp_same s _ h3, dp_same s _ h4⟩
theorem ki_app (a b : List Str) : kiD a ++ kiD b = kiD (a ++ b) := (List.map_append ..).symm
theorem lo_app (a b : List (Str × Str)) : loD a ++ loD b = loD (a ++ b) := (List.map_append ..).symm
theorem ki_filter (p : PyData → Bool) (ks : List Str) : (kiD ks).filter p = kiD (ks.filter fun z => p (.str z)) := by
  unfold kiD
  rw [List.filter_map]
  rfl
theorem lo_filter (p : PyData → Bool) (ls : List (Str × Str)) : (loD ls).filter p = loD (ls.filter fun z => p (lkP z)) := by
  unfold loD
  rw [List.filter_map]
  rfl
theorem ki_both (a b : List Str) : (kiD a).filter (fun d => false != (kiD b).any fun z => PyData.eqv z d) = kiD (bothF a b) := by
  rw [ki_filter]
  unfold bothF
  congr 2
  funext z
  rw [any_ki, Bool.false_bne]
theorem ki_less (a b : List Str) : (kiD a).filter (fun d => true != (kiD b).any fun z => PyData.eqv z d) = kiD (lessF a b) := by
  rw [ki_filter]
  unfold lessF
  congr 2
  funext z
  rw [any_ki, Bool.true_bne]
theorem lo_both (a b : List (Str × Str)) : (loD a).filter (fun d => false != (loD b).any fun z => PyData.eqv z d) = loD (bothF a b) := by
  rw [lo_filter]
  unfold bothF
  congr 2
  funext z
  rw [any_lo, Bool.false_bne]
  exact decide_eq_decide.mpr Iff.rfl
theorem lo_less (a b : List (Str × Str)) : (loD a).filter (fun d => true != (loD b).any fun z => PyData.eqv z d) = loD (lessF a b) := by
  rw [lo_filter]
  unfold lessF
  congr 2
  funext z
  rw [any_lo, Bool.true_bne]
  exact congrArg (!·) (decide_eq_decide.mpr Iff.rfl)
section
variable {P : Program} {w : World} {K : PySem.W.Frag} {mg : Str → Option Value} {base : Heap} {CR CX : Addr}
theorem scMade : FnScope ["kinds", "looks"] ["kinds", "looks"] (defScope sMade) := ⟨rfl, rfl, rfl, by decide +kernel, rfl, by decide +kernel, by decide +kernel⟩
theorem ok_made {f : Addr} {fd : FuncData} (F : Fun K "made_rule" "made_rule" sMade f fd) (T : Bare mg) (RC : RuleC K mg CR) (MR : MkR P w K mg base CR CX) : FnOk P w K mg base CX0 7 f fd ["kinds", "looks"] (spMade K CR) := by
  refine F.ok scMade (fun vs H Q E h => ?_) (fun cdv A outer s H vs Q E hr h => ?_)
  · obtain ⟨kv, lv, ks, ls0, rfl, _⟩ := h
    rfl
  · obtain ⟨kv, lv, ks, ls0, rfl, hk, hl, hkw, hl10, l64, k100, q⟩ := h
    obtain ⟨fI, fdI, u, v, M, FI, SB, _⟩ := MR.ex
    have hr6 : Room 6 _ := hr
    refine ⟨_, (pss_one (ps_ret (pe_makeXS M FI hr6 (by rfl) RC.gC SB (fun σ => noPass σ) (pv 0) (pk_cons (pv 1) pk_nil)))), ?_⟩
    obtain ⟨a, zs, rfl, ha, hz⟩ : ∃ a zs, kv = .ref a ∧ (SqT K H a zs ∨ SqL K H a zs) ∧ DpAll K H zs (kiD ks) := by
      rcases hk with h | h
      · cases h with
        | lst h1 h2 => exact ⟨_, _, rfl, .inr h1, h2⟩
      · cases h with
        | tup h1 h2 => exact ⟨_, _, rfl, .inl h1, h2⟩
    exact ⟨_, rfl, _, rfl, a, zs, lv, rfl, rfl, ha, goodQ hz hl hkw hl10 l64 k100 q⟩
theorem scREvery : FnScope [] [] (defScope sREvery) := ⟨rfl, rfl, rfl, by decide +kernel, rfl, by decide +kernel, by decide +kernel⟩
theorem ok_revery {f : Addr} {fd : FuncData} (F : Fun K "every" "SlipRule.every" sREvery f fd) (T : Bare mg) (RC : RuleC K mg CR) (MR : MkR P w K mg base CR CX) : FnOk P w K mg base CX0 7 f fd [] (spREvery K CR) := by
  refine F.ok scREvery (fun vs H Q E h => ?_) (fun cdv A outer s H vs Q E hr h => ?_)
  · obtain ⟨rfl, _⟩ := h
    rfl
  · obtain ⟨rfl, q⟩ := h
    obtain ⟨fI, fdI, u, v, M, FI, _, SB0, rv, hv⟩ := MR.ex
    have hr6 : Room 6 _ := hr
    refine ⟨_, (pss_one (ps_ret (pe_makeD M FI hr6 (by rfl) RC.gC SB0 rv (fun σ => noPass σ) (pa_cons pe_str (pa_cons pe_str (pa_cons pe_str (pa_cons pe_str (pa_cons pe_str (pa_cons pe_str pa_nil))))))))), ?_⟩
    refine goodQ (ks := words6) (ls0 := []) (of_txts words6) (.inr (hv H)) (fun z h => h) (fun _ h => nomatch h) (by decide) (by decide) fun x ls H' h1 h2 h3 r => ?_
    have e : ls = [] := by
      cases ls with
      | nil => rfl
      | cons p ls => exact absurd ((h1.mem p).mp List.mem_cons_self) (by simp)
    subst e
    exact q x H' h2 h3 r
theorem scROr : FnScope ["self", "other", "kinds", "looks"] ["self", "other"] (defScope sROr) := ⟨rfl, rfl, rfl, by decide +kernel, rfl, by decide +kernel, by decide +kernel⟩
theorem ok_ror {f : Addr} {fd : FuncData} (F : Fun K "__or__" "SlipRule.__or__" sROr f fd) (T : Bare mg) (RC : RuleC K mg CR) (GM : Fn P w K mg base 7 "made_rule" ["kinds", "looks"] (spMade K CR)) : FnOk P w K mg base CX0 8 f fd ["self", "other"] (spROp K CR (· ++ ·) (· ++ ·)) := by
  refine F.ok scROr (fun vs H Q E h => ?_) (fun cdv A outer s H vs Q E hr h => ?_)
  · obtain ⟨x, y, ks, ks2, ls, ls2, rfl, _⟩ := h
    rfl
  · obtain ⟨x, y, ks, ks2, ls, ls2, rfl, ⟨dx, k, l, p, hx, hk, hl, hp⟩, G, ⟨dy, k2, l2, p2, hy, hk2, hl2, hp2⟩, G2, q⟩ := h
    have hr7 : Room 7 _ := hr
    have a1 := G.lk; have a2 := G2.lk; have b1 := G.ll; have b2 := G2.ll
    refine ⟨_, (C8.pss_cut (ps_set (i := 2) scROr.nd rfl (.inl rfl) (pe_op op_catA (pe_fld (pv 0) rfl) (pe_fld (pv 1) rfl)))
        (C8.pss_cut (ps_set (i := 3) scROr.nd rfl (.inl rfl) (pe_op op_catA (pe_fld (pv 0) rfl) (pe_fld (pv 1) rfl)))
        (pss_one (ps_ret (pe_fn GM hr7 rfl (pa_cons (pv 2) (pa_cons (pv 3) pa_nil))))))), ?_⟩
    refine ⟨fun σ H' => ∃ kv, σ = [some (.ref x), some (.ref y), some kv, none] ∧ Same H H' ∧ Dp K H' kv (.tuple (kiD (ks ++ ks2))), ?_, ?_⟩
    · refine ⟨_, rfl, x, CR, dx, _, _, rfl, hx, RC.cl, RC.ki, fu_ki _ _ _, _, rfl, y, CR, dy, _, _, rfl, hy, RC.cl, RC.ki, fu_ki _ _ _, ?_⟩
      refine catD hk hk2 (by rw [kiD, kiD, List.length_map, List.length_map]; omega) fun g H' s hg => ⟨_, rfl, s, ?_⟩
      rw [← ki_app]
      exact hg
    rintro σ H1 ⟨kv, rfl, s1, hkv⟩
    refine ⟨fun σ H' => ∃ lv, σ = [some (.ref x), some (.ref y), some kv, some lv] ∧ Same H H' ∧ Dp K H' kv (.tuple (kiD (ks ++ ks2))) ∧ Dp K H' lv (.tuple (loD (ls ++ ls2))), ?_, ?_⟩
    · refine ⟨_, rfl, x, CR, dx, _, _, rfl, s1 _ _ hx, RC.cl, RC.lo, fu_lo _ _ _, _, rfl, y, CR, dy, _, _, rfl, s1 _ _ hy, RC.cl, RC.lo, fu_lo _ _ _, ?_⟩
      refine catD (dp_same s1 _ hl) (dp_same s1 _ hl2) (by rw [loD, loD, List.length_map, List.length_map]; omega) fun g H' s hg => ⟨_, rfl, s1.trans s, dp_same s _ hkv, ?_⟩
      rw [← lo_app]
      exact hg
    rintro σ H2 ⟨lv, rfl, s2, hkv2, hlv⟩
    refine ⟨_, rfl, _, rfl, kv, lv, _, _, rfl, .inr hkv2, .inr hlv, fun z hz => (List.mem_append.mp hz).elim (G.w z) (G2.w z), fun p hp => (List.mem_append.mp hp).elim (G.m p) (G2.m p), by rw [List.length_append]; omega, by rw [List.length_append]; omega, fun z ls' H' lo hz s r => q z ls' H' lo (s2.free hz) (s2.trans s) r⟩
theorem scRAnd : FnScope nRAnd ["self", "other"] (defScope sRAnd) := ⟨rfl, rfl, rfl, by decide +kernel, rfl, by decide +kernel, by decide +kernel⟩
theorem ok_rand {f : Addr} {fd : FuncData} (F : Fun K "__and__" "SlipRule.__and__" sRAnd f fd) (T : Bare mg) (RC : RuleC K mg CR) (GM : Fn P w K mg base 7 "made_rule" ["kinds", "looks"] (spMade K CR)) : FnOk P w K mg base CX0 8 f fd ["self", "other"] (spROp K CR bothF bothF) := by
  refine F.ok scRAnd (fun vs H Q E h => ?_) (fun cdv A outer s H vs Q E hr h => ?_)
  · obtain ⟨x, y, ks, ks2, ls, ls2, rfl, _⟩ := h
    rfl
  · obtain ⟨x, y, ks, ks2, ls, ls2, rfl, ⟨dx, k, l, p, hx, hk, hl, hp⟩, G, ⟨dy, k2, l2, p2, hy, hk2, hl2, hp2⟩, G2, q⟩ := h
    have hr7 : Room 7 _ := hr
    have a1 := G.lk; have a2 := G2.lk; have b1 := G.ll; have b2 := G2.ll
    refine ⟨_, (C8.pss_cut (ps_setLc (i := 2) rfl scRAnd.nd rfl rfl (by rfl) (own := [("kind", 4)]) (g := gName 4) (tt := tTest (tOp (rInA K false) (tVar 4) (tFld K (tVar 1) "kinds"))) (te := tVar 4) (pi_tup (pe_fld (pv 0) rfl)) (blkOk_by (own := [("kind", 4)]) (N := nRAnd) (sc := defScope sRAnd) (by decide +kernel)) (fun _ _ _ _ _ => pg_name (i := 4) scRAnd.nd rfl (Or.inl rfl)) (fun _ _ _ _ _ => pts_one (pt_cmpR (op_inA (Room.units5 hr)) (pv 4) (pe_fld (pv 1) rfl) (by rfl))) (fun _ _ _ _ _ => pv 4))
        (C8.pss_cut (ps_setLc (i := 3) rfl scRAnd.nd rfl rfl (by rfl) (own := [("look", 5)]) (g := gName 5) (tt := tTest (tOp (rInA K false) (tVar 5) (tFld K (tVar 1) "looks"))) (te := tVar 5) (pi_tup (pe_fld (pv 0) rfl)) (blkOk_by (own := [("look", 5)]) (N := nRAnd) (sc := defScope sRAnd) (by decide +kernel)) (fun _ _ _ _ _ => pg_name (i := 5) scRAnd.nd rfl (Or.inl rfl)) (fun _ _ _ _ _ => pts_one (pt_cmpR (op_inA (Room.units5 hr)) (pv 5) (pe_fld (pv 1) rfl) (by rfl))) (fun _ _ _ _ _ => pv 5))
        (pss_one (ps_ret (pe_fn GM hr7 rfl (pa_cons (pv 2) (pa_cons (pv 3) pa_nil))))))), ?_⟩
    refine ⟨fun σ H' => ∃ kv, σ = [some (.ref x), some (.ref y), some (.ref kv), none, none, none] ∧ Same H H' ∧ Dp K H' (.ref kv) (.list (kiD (bothF ks ks2))), ?_, ?_⟩
    · cases hk with
      | @tup a xs _ h1 h2 =>
      have lx : xs.length ≤ 6 := by rw [DpAll.len h2, kiD, List.length_map]; exact a1
      refine ⟨_, rfl, x, CR, dx, _, _, rfl, hx, RC.cl, RC.ki, fu_ki _ _ _, a, rfl, ⟨xs, h1⟩, fun D hD => lc_tup (K := K) (a := a) (xs := xs) (fun i H' => Same H H' ∧ ∃ us, H' D = some (.lst us) ∧ us.length ≤ i ∧ DpAll K H us (((kiD ks).take i).filter fun d => false != ((kiD ks2).any fun z => PyData.eqv z d))) ⟨Same.new (Same.refl _) hD, [], upd_same, Nat.le_refl _, .nil⟩ (fun i H' _ h => SqT.ext h1 h.1) (fun i z H2 hz h => ?_) (fun H2 h => ?_)⟩
      · obtain ⟨s2, us, hd2, lu, hu⟩ := h
        obtain ⟨d, hd, dz⟩ := DpAll.at2 h2 hz
        have li : i < xs.length := (List.getElem?_eq_some_iff.mp hz).1
        have tk := take_some hd
        refine ⟨rfl, _, rfl, _, rfl, y, CR, dy, _, _, rfl, s2 _ _ (hy), RC.cl, RC.ki, fu_ki _ _ _, d, _, dp_same s2 _ dz, .inr (dp_same s2 _ hk2), (fun d hd => (ki_fair G.w d hd).shaped) d (List.mem_of_getElem? hd), G2.ok.k, _, rfl, ?_⟩
        cases c : (false != ((kiD ks2).any fun z => PyData.eqv z d)) with
        | true =>
          refine iteT ⟨_, rfl, us, hd2, Nat.lt_of_le_of_lt (show _ ≤ 900 by omega) (by decide), Same.put s2 hD, us ++ [z], upd_same, by rw [List.length_append, List.length_singleton]; omega, ?_⟩
          rw [tk, List.filter_append, List.filter_cons_of_pos (by exact c), List.filter_nil]
          exact DpAll.app hu (.cons dz .nil)
        | false =>
          refine iteF ⟨s2, us, hd2, Nat.le_succ_of_le lu, ?_⟩
          rw [tk, List.filter_append, List.filter_cons_of_neg (by rw [c]; exact Bool.false_ne_true), List.filter_nil, List.append_nil]
          exact hu
      · obtain ⟨s2, us, hd2, lu, hu⟩ := h
        rw [DpAll.len h2, List.take_length, ki_both] at hu
        have hu := dpAll_same s2 _ hu
        exact ⟨D, rfl, s2, .lst (SqL.of hd2) hu⟩
    rintro σ H1 ⟨kv, rfl, s1, hkv⟩
    refine ⟨fun σ H' => ∃ lv, σ = [some (.ref x), some (.ref y), some (.ref kv), some (.ref lv), none, none] ∧ Same H H' ∧ Dp K H' (.ref kv) (.list (kiD (bothF ks ks2))) ∧ Dp K H' (.ref lv) (.list (loD (bothF ls ls2))), ?_, ?_⟩
    · have hl1 := dp_same s1 _ hl
      cases hl1 with
      | @tup a xs _ h1 h2 =>
      have lx : xs.length ≤ 10 := by rw [DpAll.len h2, loD, List.length_map]; exact b1
      refine ⟨_, rfl, x, CR, dx, _, _, rfl, (s1 _ _ hx), RC.cl, RC.lo, fu_lo _ _ _, a, rfl, ⟨xs, h1⟩, fun D hD => lc_tup (K := K) (a := a) (xs := xs) (fun i H' => Same H1 H' ∧ ∃ us, H' D = some (.lst us) ∧ us.length ≤ i ∧ DpAll K H1 us (((loD ls).take i).filter fun d => false != ((loD ls2).any fun z => PyData.eqv z d))) ⟨Same.new (Same.refl _) hD, [], upd_same, Nat.le_refl _, .nil⟩ (fun i H' _ h => SqT.ext h1 h.1) (fun i z H2 hz h => ?_) (fun H2 h => ?_)⟩
      · obtain ⟨s2, us, hd2, lu, hu⟩ := h
        obtain ⟨d, hd, dz⟩ := DpAll.at2 h2 hz
        have li : i < xs.length := (List.getElem?_eq_some_iff.mp hz).1
        have tk := take_some hd
        refine ⟨rfl, _, rfl, _, rfl, y, CR, dy, _, _, rfl, s2 _ _ (s1 _ _ hy), RC.cl, RC.lo, fu_lo _ _ _, d, _, dp_same s2 _ dz, .inr (dp_same s2 _ (dp_same s1 _ hl2)), (fun d hd => (lo_fair G.m d hd).shaped) d (List.mem_of_getElem? hd), G2.ok.l, _, rfl, ?_⟩
        cases c : (false != ((loD ls2).any fun z => PyData.eqv z d)) with
        | true =>
          refine iteT ⟨_, rfl, us, hd2, Nat.lt_of_le_of_lt (show _ ≤ 900 by omega) (by decide), Same.put s2 hD, us ++ [z], upd_same, by rw [List.length_append, List.length_singleton]; omega, ?_⟩
          rw [tk, List.filter_append, List.filter_cons_of_pos (by exact c), List.filter_nil]
          exact DpAll.app hu (.cons dz .nil)
        | false =>
          refine iteF ⟨s2, us, hd2, Nat.le_succ_of_le lu, ?_⟩
          rw [tk, List.filter_append, List.filter_cons_of_neg (by rw [c]; exact Bool.false_ne_true), List.filter_nil, List.append_nil]
          exact hu
      · obtain ⟨s2, us, hd2, lu, hu⟩ := h
        rw [DpAll.len h2, List.take_length, lo_both] at hu
        have hu := dpAll_same s2 _ hu
        exact ⟨D, rfl, s1.trans s2, dp_same s2 _ hkv, .lst (SqL.of hd2) hu⟩
    rintro σ H2 ⟨lv, rfl, s2, hkv2, hlv⟩
    have e1 : (bothF ks ks2).length ≤ ks.length := List.length_filter_le _ _
    have e2 : (bothF ls ls2).length ≤ ls.length := List.length_filter_le _ _
    exact ⟨_, rfl, _, rfl, _, _, _, _, rfl, .inl hkv2, .inl hlv, fun z hz => G.w z (List.mem_filter.mp hz).1, fun p hp => G.m p (List.mem_filter.mp hp).1, by omega, by omega, fun z ls' H' lo hz s r => q z ls' H' lo (s2.free hz) (s2.trans s) r⟩
theorem scRSub : FnScope nRAnd ["self", "other"] (defScope sRSub) := ⟨rfl, rfl, rfl, by decide +kernel, rfl, by decide +kernel, by decide +kernel⟩
theorem ok_rsub {f : Addr} {fd : FuncData} (F : Fun K "__sub__" "SlipRule.__sub__" sRSub f fd) (T : Bare mg) (RC : RuleC K mg CR) (GM : Fn P w K mg base 7 "made_rule" ["kinds", "looks"] (spMade K CR)) : FnOk P w K mg base CX0 8 f fd ["self", "other"] (spROp K CR lessF lessF) := by
  refine F.ok scRSub (fun vs H Q E h => ?_) (fun cdv A outer s H vs Q E hr h => ?_)
  · obtain ⟨x, y, ks, ks2, ls, ls2, rfl, _⟩ := h
    rfl
  · obtain ⟨x, y, ks, ks2, ls, ls2, rfl, ⟨dx, k, l, p, hx, hk, hl, hp⟩, G, ⟨dy, k2, l2, p2, hy, hk2, hl2, hp2⟩, G2, q⟩ := h
    have hr7 : Room 7 _ := hr
    have a1 := G.lk; have a2 := G2.lk; have b1 := G.ll; have b2 := G2.ll
    refine ⟨_, (C8.pss_cut (ps_setLc (i := 2) rfl scRSub.nd rfl rfl (by rfl) (own := [("kind", 4)]) (g := gName 4) (tt := tTest (tOp (rInA K true) (tVar 4) (tFld K (tVar 1) "kinds"))) (te := tVar 4) (pi_tup (pe_fld (pv 0) rfl)) (blkOk_by (own := [("kind", 4)]) (N := nRAnd) (sc := defScope sRSub) (by decide +kernel)) (fun _ _ _ _ _ => pg_name (i := 4) scRSub.nd rfl (Or.inl rfl)) (fun _ _ _ _ _ => pts_one (pt_cmpR (op_ninA (Room.units5 hr)) (pv 4) (pe_fld (pv 1) rfl) (by rfl))) (fun _ _ _ _ _ => pv 4))
        (C8.pss_cut (ps_setLc (i := 3) rfl scRSub.nd rfl rfl (by rfl) (own := [("look", 5)]) (g := gName 5) (tt := tTest (tOp (rInA K true) (tVar 5) (tFld K (tVar 1) "looks"))) (te := tVar 5) (pi_tup (pe_fld (pv 0) rfl)) (blkOk_by (own := [("look", 5)]) (N := nRAnd) (sc := defScope sRSub) (by decide +kernel)) (fun _ _ _ _ _ => pg_name (i := 5) scRSub.nd rfl (Or.inl rfl)) (fun _ _ _ _ _ => pts_one (pt_cmpR (op_ninA (Room.units5 hr)) (pv 5) (pe_fld (pv 1) rfl) (by rfl))) (fun _ _ _ _ _ => pv 5))
        (pss_one (ps_ret (pe_fn GM hr7 rfl (pa_cons (pv 2) (pa_cons (pv 3) pa_nil))))))), ?_⟩
    refine ⟨fun σ H' => ∃ kv, σ = [some (.ref x), some (.ref y), some (.ref kv), none, none, none] ∧ Same H H' ∧ Dp K H' (.ref kv) (.list (kiD (lessF ks ks2))), ?_, ?_⟩
    · cases hk with
      | @tup a xs _ h1 h2 =>
      have lx : xs.length ≤ 6 := by rw [DpAll.len h2, kiD, List.length_map]; exact a1
      refine ⟨_, rfl, x, CR, dx, _, _, rfl, hx, RC.cl, RC.ki, fu_ki _ _ _, a, rfl, ⟨xs, h1⟩, fun D hD => lc_tup (K := K) (a := a) (xs := xs) (fun i H' => Same H H' ∧ ∃ us, H' D = some (.lst us) ∧ us.length ≤ i ∧ DpAll K H us (((kiD ks).take i).filter fun d => true != ((kiD ks2).any fun z => PyData.eqv z d))) ⟨Same.new (Same.refl _) hD, [], upd_same, Nat.le_refl _, .nil⟩ (fun i H' _ h => SqT.ext h1 h.1) (fun i z H2 hz h => ?_) (fun H2 h => ?_)⟩
      · obtain ⟨s2, us, hd2, lu, hu⟩ := h
        obtain ⟨d, hd, dz⟩ := DpAll.at2 h2 hz
        have li : i < xs.length := (List.getElem?_eq_some_iff.mp hz).1
        have tk := take_some hd
        refine ⟨rfl, _, rfl, _, rfl, y, CR, dy, _, _, rfl, s2 _ _ (hy), RC.cl, RC.ki, fu_ki _ _ _, d, _, dp_same s2 _ dz, .inr (dp_same s2 _ hk2), (fun d hd => (ki_fair G.w d hd).shaped) d (List.mem_of_getElem? hd), G2.ok.k, _, rfl, ?_⟩
        cases c : (true != ((kiD ks2).any fun z => PyData.eqv z d)) with
        | true =>
          refine iteT ⟨_, rfl, us, hd2, Nat.lt_of_le_of_lt (show _ ≤ 900 by omega) (by decide), Same.put s2 hD, us ++ [z], upd_same, by rw [List.length_append, List.length_singleton]; omega, ?_⟩
          rw [tk, List.filter_append, List.filter_cons_of_pos (by exact c), List.filter_nil]
          exact DpAll.app hu (.cons dz .nil)
        | false =>
          refine iteF ⟨s2, us, hd2, Nat.le_succ_of_le lu, ?_⟩
          rw [tk, List.filter_append, List.filter_cons_of_neg (by rw [c]; exact Bool.false_ne_true), List.filter_nil, List.append_nil]
          exact hu
      · obtain ⟨s2, us, hd2, lu, hu⟩ := h
        rw [DpAll.len h2, List.take_length, ki_less] at hu
        have hu := dpAll_same s2 _ hu
        exact ⟨D, rfl, s2, .lst (SqL.of hd2) hu⟩
    rintro σ H1 ⟨kv, rfl, s1, hkv⟩
    refine ⟨fun σ H' => ∃ lv, σ = [some (.ref x), some (.ref y), some (.ref kv), some (.ref lv), none, none] ∧ Same H H' ∧ Dp K H' (.ref kv) (.list (kiD (lessF ks ks2))) ∧ Dp K H' (.ref lv) (.list (loD (lessF ls ls2))), ?_, ?_⟩
    · have hl1 := dp_same s1 _ hl
      cases hl1 with
      | @tup a xs _ h1 h2 =>
      have lx : xs.length ≤ 10 := by rw [DpAll.len h2, loD, List.length_map]; exact b1
      refine ⟨_, rfl, x, CR, dx, _, _, rfl, (s1 _ _ hx), RC.cl, RC.lo, fu_lo _ _ _, a, rfl, ⟨xs, h1⟩, fun D hD => lc_tup (K := K) (a := a) (xs := xs) (fun i H' => Same H1 H' ∧ ∃ us, H' D = some (.lst us) ∧ us.length ≤ i ∧ DpAll K H1 us (((loD ls).take i).filter fun d => true != ((loD ls2).any fun z => PyData.eqv z d))) ⟨Same.new (Same.refl _) hD, [], upd_same, Nat.le_refl _, .nil⟩ (fun i H' _ h => SqT.ext h1 h.1) (fun i z H2 hz h => ?_) (fun H2 h => ?_)⟩
      · obtain ⟨s2, us, hd2, lu, hu⟩ := h
        obtain ⟨d, hd, dz⟩ := DpAll.at2 h2 hz
        have li : i < xs.length := (List.getElem?_eq_some_iff.mp hz).1
        have tk := take_some hd
        refine ⟨rfl, _, rfl, _, rfl, y, CR, dy, _, _, rfl, s2 _ _ (s1 _ _ hy), RC.cl, RC.lo, fu_lo _ _ _, d, _, dp_same s2 _ dz, .inr (dp_same s2 _ (dp_same s1 _ hl2)), (fun d hd => (lo_fair G.m d hd).shaped) d (List.mem_of_getElem? hd), G2.ok.l, _, rfl, ?_⟩
        cases c : (true != ((loD ls2).any fun z => PyData.eqv z d)) with
        | true =>
          refine iteT ⟨_, rfl, us, hd2, Nat.lt_of_le_of_lt (show _ ≤ 900 by omega) (by decide), Same.put s2 hD, us ++ [z], upd_same, by rw [List.length_append, List.length_singleton]; omega, ?_⟩
          rw [tk, List.filter_append, List.filter_cons_of_pos (by exact c), List.filter_nil]
          exact DpAll.app hu (.cons dz .nil)
        | false =>
          refine iteF ⟨s2, us, hd2, Nat.le_succ_of_le lu, ?_⟩
          rw [tk, List.filter_append, List.filter_cons_of_neg (by rw [c]; exact Bool.false_ne_true), List.filter_nil, List.append_nil]
          exact hu
      · obtain ⟨s2, us, hd2, lu, hu⟩ := h
        rw [DpAll.len h2, List.take_length, lo_less] at hu
        have hu := dpAll_same s2 _ hu
        exact ⟨D, rfl, s1.trans s2, dp_same s2 _ hkv, .lst (SqL.of hd2) hu⟩
    rintro σ H2 ⟨lv, rfl, s2, hkv2, hlv⟩
    have e1 : (lessF ks ks2).length ≤ ks.length := List.length_filter_le _ _
    have e2 : (lessF ls ls2).length ≤ ls.length := List.length_filter_le _ _
    exact ⟨_, rfl, _, rfl, _, _, _, _, rfl, .inl hkv2, .inl hlv, fun z hz => G.w z (List.mem_filter.mp hz).1, fun p hp => G.m p (List.mem_filter.mp hp).1, by omega, by omega, fun z ls' H' lo hz s r => q z ls' H' lo (s2.free hz) (s2.trans s) r⟩
end
end K5

namespace K5
open PySem L2 K5S
/-! slips: made, and whether they fit a file -/
abbrev sInteger : Stmt := top 14
abbrev sIsSlip : Stmt := top 19
abbrev cSlip : Stmt := top 20
abbrev sSInit : Stmt := inClass (top 20) 0
abbrev sSFits : Stmt := inClass (top 20) 3
def kinds4 : List Str := ["left", "doubled", "swapped", "written"]
/-- what the written part says of the class of slips -/
structure SlipC (K : PySem.W.Frag) (mg : Str → Option Value) (CS aK : Addr) : Prop where
  cl : Cls K CS
  ki : PySem.W.findIn K (.ref CS) "kind" = some none
  at_ : PySem.W.findIn K (.ref CS) "at" = some none
  to : PySem.W.findIn K (.ref CS) "token" = some none
  gC : mg "Slip" = some (.ref CS)
  gK : mg "KINDS" = some (.ref aK)
  tK : TupW K aK kinds4
def tokV : Option Str → V
  | some z => .str z
  | none => .non
def FSl (k : Str) (a : Nat) (t : Option Str) : List (Str × V) := [(("kind" : Str), .str k), (("at" : Str), .int a), (("token" : Str), tokV t)]
theorem fs_ki (k : Str) (a : Nat) (t : Option Str) : (FSl k a t).lookup ("kind" : Str) = some (.str k) := by kernel_rfl
theorem fs_at (k : Str) (a : Nat) (t : Option Str) : (FSl k a t).lookup ("at" : Str) = some (.int a) := by kernel_rfl
theorem fs_to (k : Str) (a : Nat) (t : Option Str) : (FSl k a t).lookup ("token" : Str) = some (tokV t) := by kernel_rfl
theorem putS1 (k : V) : putF "kind" k [] = [(("kind" : Str), k)] := by kernel_rfl
theorem putS2 (k a : V) : putF "at" a [(("kind" : Str), k)] = [(("kind" : Str), k), (("at" : Str), a)] := by kernel_rfl
theorem putS3 (k a t : V) : putF "token" t [(("kind" : Str), k), (("at" : Str), a)] = [(("kind" : Str), k), (("at" : Str), a), (("token" : Str), t)] := by kernel_rfl
def SlipV (CS : Addr) (H : Hp) (x : Addr) (k : Str) (a : Nat) (t : Option Str) : Prop := ∃ dx, H x = some (.ins CS dx (FSl k a t))
theorem SlipV.same {CS : Addr} {H H' : Hp} {x : Addr} {k : Str} {a : Nat} {t : Option Str} (h : SlipV CS H x k a t) (s : Same H H') : SlipV CS H' x k a t := let ⟨dx, e⟩ := h; ⟨dx, s _ _ e⟩
/-- a token of a file -/
structure TokOk (z : Str) : Prop where
  tok : tokB z = true
  len : z.length ≤ 400
  ok : PyData.strOk z = true
theorem TokOk.line {z : Str} (h : TokOk z) : z.length ≤ sizeLine := line_ge (Nat.le_trans h.len (by decide))
/-- there is such a slip -/
def GoodSlip (k : Str) (t : Option Str) : Prop := (k = "written" ∧ ∃ z, t = some z ∧ TokOk z) ∨ ((k = "left" ∨ k = "doubled" ∨ k = "swapped") ∧ t = none)
theorem GoodSlip.kind {k : Str} {t : Option Str} (h : GoodSlip k t) : k ∈ kinds4 := by
  rcases h with ⟨rfl, _⟩ | ⟨rfl | rfl | rfl, _⟩ <;> decide +kernel
/-- a list or a tuple of texts -/
def FileV (K : PySem.W.Frag) (H : Hp) (v : V) (ts : List Str) : Prop := ∃ p, v = .ref p ∧ (SqL K H p (ts.map V.str) ∨ SqT K H p (ts.map V.str))
theorem FileV.same {K : PySem.W.Frag} {H H' : Hp} {v : V} {ts : List Str} (h : FileV K H v ts) (s : Same H H') : FileV K H' v ts := by
  obtain ⟨p, e, h⟩ := h
  exact ⟨p, e, h.elim (fun h => .inl (SqL.ext h s)) fun h => .inr (SqT.ext h s)⟩
def rIxA (K : PySem.W.Frag) : R2 := fun x y H Q => rIxL K x y H Q ∨ rIxT K x y H Q
theorem ix_any {X : Cx} : IxR X (rIxA X.K) := fun value slice pins s σ H x y v u Q I rx ry h hs => h.elim (fun h => ix_list value slice pins s σ H x y v u Q I rx ry h hs) fun h => ix_tup value slice pins s σ H x y v u Q I rx ry h hs
theorem file_at {K : PySem.W.Frag} {H : Hp} {v : V} {ts : List Str} {i : Int} {n : Nat} {z : Str} {Q : VK} (h : FileV K H v ts) (hi : i = (n : Int)) (hz : ts[n]? = some z) (q : Q (.str z) H) : rIxA K v (.int i) H Q := by
  obtain ⟨p, rfl, h⟩ := h
  subst hi
  have e : atI (ts.map V.str) (n : Int) = some (.str z) := at_of (j := n) (by omega) (by rw [List.getElem?_map, hz]; rfl)
  rcases h with h | h
  · exact .inl ⟨p, _, _, _, rfl, rfl, h, e, q⟩
  · exact .inr ⟨p, _, _, _, rfl, rfl, h, e, q⟩
/-- whether it fits -/
def fitsB (k : Str) (a : Nat) (t : Option Str) (ts : List Str) : Bool :=
  if ts.length ≤ a then false
  else if k = "swapped" then decide (a + 1 < ts.length) && !decide (ts[a + 1]? = ts[a]?)
  else !decide (k = "written") || !decide (ts[a]? = t)
def spInt : Sp := fun vs H Q _ => ∃ i : Int, vs = [.int i] ∧ Q (.bl true) H
def spIsSlip : Sp := fun vs H Q _ => ∃ (k : Str) (a : Nat) (t : Option Str), vs = [.str k, .int a, tokV t] ∧ GoodSlip k t ∧ ∀ H', Same H H' → Q (.bl true) H'
def spSInit (CS : Addr) : Sp := fun vs H Q _ => ∃ (x dx : Addr) (k : Str) (a : Nat) (t : Option Str), vs = [.ref x, .str k, .int a, tokV t] ∧ H x = some (.ins CS dx []) ∧ GoodSlip k t ∧ ∀ H', But x H H' → H' x = some (.ins CS dx (FSl k a t)) → Q .non H'
def spFits (K : PySem.W.Frag) (CS : Addr) : Sp := fun vs H Q _ => ∃ (x : Addr) (v : V) (k : Str) (a : Nat) (t : Option Str) (ts : List Str), vs = [.ref x, v] ∧ SlipV CS H x k a t ∧ GoodSlip k t ∧ FileV K H v ts ∧ Q (.bl (fitsB k a t ts)) H
section
variable {P : Program} {w : World} {K : PySem.W.Frag} {mg : Str → Option Value} {base : Heap} {CS aK : Addr}
theorem scInteger : FnScope ["thing"] ["thing"] (defScope sInteger) := ⟨rfl, rfl, rfl, by decide +kernel, rfl, by decide +kernel, by decide +kernel⟩
theorem ok_integer {f : Addr} {fd : FuncData} (F : Fun K "is_integer" "is_integer" sInteger f fd) (T : Bare mg) : FnOk P w K mg base CX0 1 f fd ["thing"] spInt := by
  refine F.ok scInteger (fun vs H Q E h => ?_) (fun cdv A outer s H vs Q E hr h => ?_)
  · obtain ⟨i, rfl, _⟩ := h
    rfl
  · obtain ⟨i, rfl, q⟩ := h
    refine ⟨_, (pss_one (ps_ret (pe_and (pe_callB call_isi (by rfl) T.isi (by decide +kernel) (pa_cons (pv 0) (pa_cons (pe_bltn (v := .ty "int") (by rfl) T.int (by decide +kernel) rfl) pa_nil))) (pe_one (pe_not (pe_callB call_isi (by rfl) T.isi (by decide +kernel) (pa_cons (pv 0) (pa_cons (pe_bltn (v := .ty "bool") (by rfl) T.bool (by decide +kernel) rfl) pa_nil)))))))), ?_⟩
    have hd : Dp K H (.int i) (.int i) := .int i
    refine ⟨_, rfl, .int i, .ty "int", _, .type "int", true, rfl, .ty "int", dp_ty hd, kit_int hd, _, rfl, iteT ?_⟩
    exact ⟨_, rfl, .int i, .ty "bool", _, .type "bool", false, rfl, .ty "bool", dp_ty hd, kit_bool hd, _, rfl, q⟩
theorem scIsSlip : FnScope ["kind", "at", "token"] ["kind", "at", "token"] (defScope sIsSlip) := ⟨rfl, rfl, rfl, by decide +kernel, rfl, by decide +kernel, by decide +kernel⟩
theorem ok_isSlip {f : Addr} {fd : FuncData} (F : Fun K "is_slip" "is_slip" sIsSlip f fd) (T : Bare mg) (SC : SlipC K mg CS aK) (GO : Fn P w K mg base 1 "is_one_of" ["thing", "words"] (K5.spOneOf K)) (GI : Fn P w K mg base 1 "is_integer" ["thing"] spInt) (GS : Fn P w K mg base 3 "sort_of" ["thing"] (spSort K)) :
    FnOk P w K mg base CX0 4 f fd ["kind", "at", "token"] spIsSlip := by
  refine F.ok scIsSlip (fun vs H Q E h => ?_) (fun cdv A outer s H vs Q E hr h => ?_)
  · obtain ⟨k, a, t, rfl, _⟩ := h
    rfl
  · obtain ⟨k, a, t, rfl, g, q⟩ := h
    have hr3 : Room 3 _ := hr
    have hr1 : Room 1 _ := hr.mono (by decide)
    refine ⟨_, (C8.pss_cut (ps_if (pt_not (pt_val (pe_fn GO hr1 rfl (pa_cons (pv 0) (pa_cons (pe_glob (v := .ref aK) (by rfl) SC.gK rfl) pa_nil))))) (pss_one (ps_ret pe_bl)) pss_nil)
        (C8.pss_cut (ps_if (PW.pt (pw_or (pt_not (pt_val (pe_fn GI hr1 rfl (pa_cons (pv 1) pa_nil)))) (pw_or1 (pt_cmpR op_lt (pv 1) pe_int (nomark _))))) (pss_one (ps_ret pe_bl)) pss_nil)
        (C8.pss_cut (ps_if (pt_cmpR op_eq (pv 0) pe_str (nomark _)) (pss_one (ps_ret (pe_cmpR op_notN (pe_fn GS hr3 rfl (pa_cons (pv 2) pa_nil)) pe_non (nomark _)))) pss_nil)
        (pss_one (ps_ret (pe_cmpR op_isN (pv 2) pe_non (nomark _))))))), ?_⟩
    refine ⟨fun σ H' => σ = [some (.str k), some (.int a), some (tokV t)] ∧ H' = H, ?_, ?_⟩
    · refine ⟨_, rfl, .str k, some k, aK, kinds4, rfl, .inl ⟨k, rfl, rfl⟩, SC.tK.sq H, _, rfl, ?_⟩
      rw [show (Option.elim (some k) false fun z => decide (z ∈ kinds4)) = true from decide_eq_true g.kind]
      exact iteF ⟨rfl, rfl⟩
    rintro σ H1 ⟨rfl, rfl⟩
    refine ⟨fun σ H' => σ = [some (.str k), some (.int a), some (tokV t)] ∧ H' = H1, ?_, ?_⟩
    · refine ⟨_, rfl, _, rfl, _, rfl, iteF ⟨_, rfl, _, _, rfl, rfl, _, rfl, ?_⟩⟩
      rw [show decide ((a : Int) < 0) = false from decide_eq_false (by omega)]
      exact iteF ⟨rfl, rfl⟩
    rintro σ H2 ⟨rfl, rfl⟩
    rcases g with ⟨rfl, z, rfl, hz⟩ | ⟨hk, rfl⟩
    · refine ⟨fun σ H' => False, ?_, fun _ _ h => h.elim⟩
      refine ⟨_, rfl, rfl, _, rfl, ?_⟩
      rw [show decide (V.str "written" = V.str "written") = true from decide_eq_true rfl]
      refine iteT ⟨_, rfl, .str z, some z, rfl, .inl ⟨z, rfl, rfl, hz.line⟩, fun H' s' => ⟨rfl, ?_⟩⟩
      have e : decide ((Option.elim (some z) V.non sortV) = V.non) = false := decide_eq_false (of_decide_eq_true hz.tok)
      rw [e]
      exact q H' s'
    · refine ⟨fun σ H' => σ = [some (.str k), some (.int a), some V.non] ∧ H' = H2, ?_, ?_⟩
      · refine ⟨_, rfl, rfl, _, rfl, ?_⟩
        rw [show decide (V.str k = V.str "written") = false from by rcases hk with rfl | rfl | rfl <;> decide +kernel]
        exact iteF ⟨rfl, rfl⟩
      rintro σ H3 ⟨rfl, rfl⟩
      exact ⟨_, rfl, rfl, q H3 (Same.refl H3)⟩
theorem scSInit : FnScope ["self", "kind", "at", "token"] ["self", "kind", "at", "token"] (defScope sSInit) := ⟨rfl, rfl, rfl, by decide +kernel, rfl, by decide +kernel, by decide +kernel⟩
theorem ok_sinit {params : Arguments} {f : Addr} {fd : FuncData} {dvs : List V} {kws : List (Str × V)} (F : FunD K "__init__" "Slip.__init__" params (defBody sSInit) (defScope sSInit) dvs kws f fd) (T : Bare mg) (SC : SlipC K mg CS aK) (GL : Fn P w K mg base 4 "is_slip" ["kind", "at", "token"] spIsSlip) : FnOk P w K mg base CX0 5 f fd ["self", "kind", "at", "token"] (spSInit CS) := by
  refine F.ok scSInit (fun vs H Q E h => ?_) (fun cdv A outer s H vs Q E hr h => ?_)
  · obtain ⟨x, dx, k, a, t, rfl, _⟩ := h
    rfl
  · obtain ⟨x, dx, k, a, t, rfl, hx, g, q⟩ := h
    have hr4 : Room 4 _ := hr
    refine ⟨_, (C8.pss_cut (ps_if (pt_not (pt_val (pe_fn GL hr4 rfl (pa_cons (pv 1) (pa_cons (pv 2) (pa_cons (pv 3) pa_nil)))))) pss_never pss_nil)
        (C8.pss_cut (ps_fld (pv 0) (pv 1) rfl)
        (C8.pss_cut (ps_fld (pv 0) (pv 2) rfl)
        (pss_one (ps_fld (pv 0) (pv 3) rfl))))), ?_⟩
    refine ⟨fun σ H' => σ = [some (.ref x), some (.str k), some (.int a), some (tokV t)] ∧ Same H H', ?_, ?_⟩
    · exact ⟨_, rfl, _, rfl, _, rfl, k, a, t, rfl, g, fun H' s' => ⟨_, rfl, iteF ⟨rfl, s'⟩⟩⟩
    rintro σ H1 ⟨rfl, s1⟩
    refine ⟨fun σ H' => σ = [some (.ref x), some (.str k), some (.int a), some (tokV t)] ∧ But x H H' ∧ H' x = some (.ins CS dx [(("kind" : Str), .str k)]), ?_, ?_⟩
    · refine ⟨_, rfl, _, rfl, x, CS, dx, _, rfl, s1 _ _ hx, SC.cl, SC.ki, by show 0 < 1000; decide, rfl, fun b o n e => ?_, ?_⟩
      · rw [upd_ne n]; exact s1 _ _ e
      · rw [upd_same, putS1]
    rintro σ H2 ⟨rfl, b2, hx2⟩
    refine ⟨fun σ H' => σ = [some (.ref x), some (.str k), some (.int a), some (tokV t)] ∧ But x H H' ∧ H' x = some (.ins CS dx [(("kind" : Str), .str k), (("at" : Str), .int a)]), ?_, ?_⟩
    · refine ⟨_, rfl, _, rfl, x, CS, dx, _, rfl, hx2, SC.cl, SC.at_, by show 1 < 1000; decide, rfl, fun b o n e => ?_, ?_⟩
      · rw [upd_ne n]; exact b2 _ _ n e
      · rw [upd_same, putS2]
    rintro σ H3 ⟨rfl, b3, hx3⟩
    refine ⟨_, rfl, _, rfl, x, CS, dx, _, rfl, hx3, SC.cl, SC.to, by show 2 < 1000; decide, q _ (fun b o n e => ?_) ?_⟩
    · rw [upd_ne n]; exact b3 _ _ n e
    · rw [upd_same, putS3]; rfl
theorem scSFits : FnScope ["self", "file"] ["self", "file"] (defScope sSFits) := ⟨rfl, rfl, rfl, by decide +kernel, rfl, by decide +kernel, by decide +kernel⟩
theorem ok_sfits {f : Addr} {fd : FuncData} (F : Fun K "fits" "Slip.fits" sSFits f fd) (T : Bare mg) (SC : SlipC K mg CS aK) : FnOk P w K mg base CX0 1 f fd ["self", "file"] (spFits K CS) := by
  refine F.ok scSFits (fun vs H Q E h => ?_) (fun cdv A outer s H vs Q E hr h => ?_)
  · obtain ⟨x, v, k, a, t, ts, rfl, _⟩ := h
    rfl
  · obtain ⟨x, v, k, a, t, ts, rfl, ⟨dx, hx⟩, g, hv, q⟩ := h
    obtain ⟨fp, rfl, hfp⟩ := id hv
    refine ⟨_, (C8.pss_cut (ps_if (pt_cmpR op_ge (pe_fld (pv 0) rfl) (pe_callB call_len_seq (by rfl) T.len PySem.boot_len (pa_cons (pv 1) pa_nil)) (nomark _)) (pss_one (ps_ret pe_bl)) pss_nil)
        (C8.pss_cut (ps_if (pt_cmpR op_eq (pe_fld (pv 0) rfl) pe_str (nomark _)) (pss_one (ps_ret (pe_and (pe_cmpR op_lt (pe_op op_add (pe_fld (pv 0) rfl) pe_int) (pe_callB call_len_seq (by rfl) T.len PySem.boot_len (pa_cons (pv 1) pa_nil)) (nomark _)) (pe_one (pe_cmpR op_ne (pe_ix (show IxR _ (rIxA K) from ix_any) (pv 1) (pe_op op_add (pe_fld (pv 0) rfl) pe_int) (fun _ _ => rfl)) (pe_ix (show IxR _ (rIxA K) from ix_any) (pv 1) (pe_fld (pv 0) rfl) (fun _ _ => rfl)) (nomark _)))))) pss_nil)
        (pss_one (ps_ret (pe_or (pe_cmpR op_ne (pe_fld (pv 0) rfl) pe_str (nomark _)) (pe_one (pe_cmpR op_ne (pe_ix (show IxR _ (rIxA K) from ix_any) (pv 1) (pe_fld (pv 0) rfl) (fun _ _ => rfl)) (pe_fld (pv 0) rfl) (nomark _)))))))), ?_⟩
    unfold fitsB at q
    refine ⟨fun σ H' => ¬ ts.length ≤ a ∧ σ = [some (.ref x), some (.ref fp)] ∧ H' = H, ?_, ?_⟩
    · refine ⟨_, rfl, x, CS, dx, _, _, rfl, hx, SC.cl, SC.at_, fs_at _ _ _, _, rfl, fp, _, rfl, hfp, _, _, rfl, rfl, _, rfl, ?_⟩
      by_cases c : ts.length ≤ a
      · rw [if_pos c] at q
        rw [show decide (((ts.map V.str).length : Int) ≤ (a : Int)) = true from decide_eq_true (by rw [List.length_map]; omega)]
        exact iteT q
      · rw [show decide (((ts.map V.str).length : Int) ≤ (a : Int)) = false from decide_eq_false (by rw [List.length_map]; omega)]
        exact iteF ⟨c, rfl, rfl⟩
    rintro σ H1 ⟨c, rfl, rfl⟩
    rw [if_neg c] at q
    have la : a < ts.length := by omega
    have ea : ts[a]? = some ts[a] := List.getElem?_eq_getElem la
    refine ⟨fun σ H' => ¬ k = "swapped" ∧ σ = [some (.ref x), some (.ref fp)] ∧ H' = H1, ?_, ?_⟩
    · refine ⟨_, rfl, x, CS, dx, _, _, rfl, hx, SC.cl, SC.ki, fs_ki _ _ _, rfl, _, rfl, ?_⟩
      by_cases ck : k = "swapped"
      · rw [if_pos ck] at q
        rw [show decide (V.str k = V.str "swapped") = true from decide_eq_true (by rw [ck])]
        refine iteT ⟨_, rfl, x, CS, dx, _, _, rfl, hx, SC.cl, SC.at_, fs_at _ _ _, _, _, rfl, rfl, _, rfl, fp, _, rfl, hfp, _, _, rfl, rfl, _, rfl, ?_⟩
        by_cases c1 : a + 1 < ts.length
        · rw [show decide (((a : Int) + 1) < ((ts.map V.str).length : Int)) = true from decide_eq_true (by rw [List.length_map]; omega)]
          have e1 : ts[a + 1]? = some ts[a + 1] := List.getElem?_eq_getElem c1
          refine iteT ⟨_, rfl, _, rfl, x, CS, dx, _, _, rfl, hx, SC.cl, SC.at_, fs_at _ _ _, _, _, rfl, rfl, file_at (n := a + 1) hv (by omega) e1 ⟨_, rfl, _, rfl, x, CS, dx, _, _, rfl, hx, SC.cl, SC.at_, fs_at _ _ _, file_at (n := a) hv rfl ea ⟨rfl, ?_⟩⟩⟩
          rw [eq_strB]
          rw [decide_eq_true c1, Bool.true_and, e1, ea] at q
          rw [show decide (ts[a + 1] = ts[a]) = decide (some ts[a + 1] = some ts[a]) from decide_eq_decide.mpr ⟨fun e => by rw [e], Option.some.inj⟩]
          exact q
        · rw [show decide (((a : Int) + 1) < ((ts.map V.str).length : Int)) = false from decide_eq_false (by rw [List.length_map]; omega)]
          rw [decide_eq_false c1, Bool.false_and] at q
          exact iteF q
      · rw [show decide (V.str k = V.str "swapped") = false from decide_eq_false (by intro e; cases e; exact ck rfl)]
        exact iteF ⟨ck, rfl, rfl⟩
    rintro σ H2 ⟨ck, rfl, rfl⟩
    rw [if_neg ck] at q
    refine ⟨_, rfl, x, CS, dx, _, _, rfl, hx, SC.cl, SC.ki, fs_ki _ _ _, rfl, _, rfl, ?_⟩
    rw [eq_strB]
    by_cases cw : k = "written"
    · rw [decide_eq_true cw, Bool.not_true, Bool.false_or] at q
      rw [decide_eq_true cw]
      rcases g with ⟨_, z, rfl, hz⟩ | ⟨hk, _⟩
      · refine iteF ⟨_, rfl, _, rfl, x, CS, dx, _, _, rfl, hx, SC.cl, SC.at_, fs_at _ _ _, file_at (n := a) hv rfl ea ⟨_, rfl, x, CS, dx, _, _, rfl, hx, SC.cl, SC.to, fs_to _ _ _, rfl, ?_⟩⟩
        show Q (.bl (!decide (V.str ts[a] = V.str z))) _
        rw [eq_strB]
        rw [ea] at q
        rw [show decide (ts[a] = z) = decide (some ts[a] = some z) from decide_eq_decide.mpr ⟨fun e => by rw [e], Option.some.inj⟩]
        exact q
      · rw [cw] at hk
        rcases hk with h | h | h <;> exact absurd h (by decide +kernel)
    · rw [decide_eq_false cw, Bool.not_false, Bool.true_or] at q
      rw [decide_eq_false cw]
      exact iteT q
end
end K5

namespace K5
open PySem L2 K5S
/-! which slips a rule allows -/
abbrev sClassOf : Stmt := top 24
abbrev sRMay : Stmt := inClass (top 26) 9
abbrev sRAl : Stmt := inClass (top 26) 10
/-- the class of a token -/
def famS (z : Str) : Str := if z ∈ K5S.signs then "sign" else if K5S.inAll z K5S.cLetters = true then "word" else "number"
theorem fam_sort {z : Str} (h : TokOk z) : (if (K5S.signs.any fun y => decide (y = z)) = true then V.str "sign" else sortV z) = .str (famS z) := by
  have hs : (K5S.signs.any fun y => decide (y = z)) = decide (z ∈ K5S.signs) := by
    rw [Bool.eq_iff_iff, List.any_eq_true, decide_eq_true_eq]
    exact ⟨fun ⟨y, hy, e⟩ => of_decide_eq_true e ▸ hy, fun hz => ⟨z, hz, decide_eq_true rfl⟩⟩
  rw [hs]
  unfold famS
  by_cases c : z ∈ K5S.signs
  · rw [if_pos c, if_pos (decide_eq_true c)]
  · rw [if_neg c, if_neg (by rw [decide_eq_false c]; exact Bool.false_ne_true)]
    have t := of_decide_eq_true h.tok
    unfold sortV at t ⊢
    rw [if_neg c] at t ⊢
    by_cases cl : K5S.inAll z K5S.cLetters = true
    · rw [if_pos cl, if_pos cl]
    · rw [if_neg cl, if_neg cl]
      rw [if_neg cl] at t
      by_cases cn : K5S.numOk z = true
      · rw [if_pos cn]
      · rw [if_neg cn] at t; exact absurd rfl t
theorem fam_three (z : Str) : famS z = "sign" ∨ famS z = "word" ∨ famS z = "number" := by
  unfold famS
  split
  · exact .inl rfl
  · split
    · exact .inr (.inl rfl)
    · exact .inr (.inr rfl)
theorem fam_shaped (z : Str) : SeqAt.shaped (.str (famS z)) = true := by
  rcases fam_three z with e | e | e <;> rw [e] <;> decide +kernel
theorem pair_shaped {o t : Str} (ho : TokOk o) (ht : TokOk t) : SeqAt.shaped (lkP (o, t)) = true := by
  have e : (lkP (o, t)).canLay0 = true := by
    show (PyData.strOk o && (PyData.strOk t && true)) = true
    rw [ho.ok, ht.ok]; rfl
  unfold SeqAt.shaped
  rw [e, Bool.true_and]
  exact decide_eq_true (by show PyData.depth (.tuple [.str ⟨#[]⟩, .str ⟨#[]⟩]) ≤ 64; decide)
def mayB (ks : List Str) (ls : List (Str × Str)) (o t : Str) : Bool := (decide (famS o = famS t) && decide (famS t ∈ ks)) || decide ((o, t) ∈ ls)
/-- whether the rule allows the slip there -/
def allowB (ks : List Str) (ls : List (Str × Str)) (ts : List Str) (k : Str) (a : Nat) (t : Option Str) : Bool :=
  fitsB k a t ts && (if k = "written" then mayB ks ls (ts[a]?.getD "") (t.getD "") else decide (k ∈ ks))
def spClass : Sp := fun vs H Q _ => ∃ z : Str, vs = [.str z] ∧ TokOk z ∧ ∀ H', Same H H' → Q (.str (famS z)) H'
def spMay (K : PySem.W.Frag) (CR : Addr) : Sp := fun vs H Q _ => ∃ (x : Addr) (ks : List Str) (ls : List (Str × Str)) (o t : Str), vs = [.ref x, .str o, .str t] ∧ RuleV K CR H x ks ls ∧ RuleG ks ls ∧ TokOk o ∧ TokOk t ∧ ∀ H', Same H H' → Q (.bl (mayB ks ls o t)) H'
def spAllow (K : PySem.W.Frag) (CR CS : Addr) : Sp := fun vs H Q _ => ∃ (x y : Addr) (v : V) (ks : List Str) (ls : List (Str × Str)) (ts : List Str) (k : Str) (a : Nat) (t : Option Str), vs = [.ref x, v, .ref y] ∧ RuleV K CR H x ks ls ∧ RuleG ks ls ∧ FileV K H v ts ∧ (∀ z ∈ ts, TokOk z) ∧ SlipV CS H y k a t ∧ GoodSlip k t ∧ ∀ H', Same H H' → Q (.bl (allowB ks ls ts k a t)) H'
section
variable {P : Program} {w : World} {K : PySem.W.Frag} {mg : Str → Option Value} {base : Heap} {CR CS aK : Addr}
theorem scClassOf : FnScope ["token"] ["token"] (defScope sClassOf) := ⟨rfl, rfl, rfl, by decide +kernel, rfl, by decide +kernel, by decide +kernel⟩
theorem ok_classOf {f : Addr} {fd : FuncData} (F : Fun K "class_of" "class_of" sClassOf f fd) (T : Bare mg) (GG : Fn P w K mg base 2 "is_sign" ["thing"] (spSign K)) (GS : Fn P w K mg base 3 "sort_of" ["thing"] (spSort K)) : FnOk P w K mg base CX0 4 f fd ["token"] spClass := by
  refine F.ok scClassOf (fun vs H Q E h => ?_) (fun cdv A outer s H vs Q E hr h => ?_)
  · obtain ⟨z, rfl, _⟩ := h
    rfl
  · obtain ⟨z, rfl, hz, q⟩ := h
    have hr3 : Room 3 _ := hr
    have hr2 : Room 2 _ := hr.mono (by decide)
    refine ⟨_, (pss_one (ps_ret (pe_ifExp (pt_val (pe_fn GG hr2 rfl (pa_cons (pv 0) pa_nil))) pe_str (pe_fn GS hr3 rfl (pa_cons (pv 0) pa_nil))))), ?_⟩
    refine ⟨_, rfl, .str z, some z, rfl, .inl ⟨z, rfl, rfl, hz.line⟩, _, rfl, ?_⟩
    have e := fam_sort hz
    have hs : (K5S.signs.any fun y => decide (y = z)) = decide (z ∈ K5S.signs) := by
      rw [Bool.eq_iff_iff, List.any_eq_true, decide_eq_true_eq]
      exact ⟨fun ⟨y, hy, e⟩ => of_decide_eq_true e ▸ hy, fun hz => ⟨z, hz, decide_eq_true rfl⟩⟩
    rw [hs] at e
    show if decide (z ∈ K5S.signs) = true then _ else _
    by_cases c : decide (z ∈ K5S.signs) = true
    · rw [if_pos c] at e
      refine iteT' c ?_
      rw [e]
      exact q H (Same.refl H)
    · rw [if_neg c] at e
      refine iteF' (by simpa using c) ⟨_, rfl, .str z, some z, rfl, .inl ⟨z, rfl, rfl, hz.line⟩, fun H' s' => ?_⟩
      show Q (sortV z) H'
      rw [e]
      exact q H' s'
theorem scRMay : FnScope ["self", "old", "token"] ["self", "old", "token"] (defScope sRMay) := ⟨rfl, rfl, rfl, by decide +kernel, rfl, by decide +kernel, by decide +kernel⟩
theorem ok_rmay {f : Addr} {fd : FuncData} (F : Fun K "may_write" "SlipRule.may_write" sRMay f fd) (T : Bare mg) (RC : RuleC K mg CR) (GC : Fn P w K mg base 4 "class_of" ["token"] spClass) : FnOk P w K mg base CX0 5 f fd ["self", "old", "token"] (spMay K CR) := by
  refine F.ok scRMay (fun vs H Q E h => ?_) (fun cdv A outer s H vs Q E hr h => ?_)
  · obtain ⟨x, ks, ls, o, t, rfl, _⟩ := h
    rfl
  · obtain ⟨x, ks, ls, o, t, rfl, ⟨dx, k, l, p, hx, hk, hl, hp⟩, G, ho, ht, q⟩ := h
    have hr4 : Room 4 _ := hr
    refine ⟨_, (C8.pss_cut (ps_if (PW.pt (pw_and (pt_cmpR op_eq (pe_fn GC hr4 rfl (pa_cons (pv 1) pa_nil)) (pe_fn GC hr4 rfl (pa_cons (pv 2) pa_nil)) (nomark _)) (pw_and1 (pt_cmpR (op_inA (Room.units5 hr)) (pe_fn GC hr4 rfl (pa_cons (pv 2) pa_nil)) (pe_fld (pv 0) rfl) (by rfl))))) (pss_one (ps_ret pe_bl)) pss_nil)
        (pss_one (ps_ret (pe_cmpR (op_inA (Room.units5 hr)) (pe_tup (pa_cons (pv 1) (pa_cons (pv 2) pa_nil))) (pe_fld (pv 0) rfl) (by rfl))))), ?_⟩
    refine ⟨fun σ H' => (decide (famS o = famS t) && decide (famS t ∈ ks)) = false ∧ σ = [some (.ref x), some (.str o), some (.str t)] ∧ Same H H', ?_, ?_⟩
    · refine ⟨_, rfl, o, rfl, ho, fun H1 s1 => ⟨_, rfl, t, rfl, ht, fun H2 s2 => ⟨rfl, _, rfl, ?_⟩⟩⟩
      have s12 := s1.trans s2
      rw [eq_strB]
      cases c : decide (famS o = famS t) with
      | false => exact iteF (iteF ⟨rfl, rfl, s12⟩)
      | true =>
        refine iteT ⟨_, rfl, t, rfl, ht, fun H3 s3 => ⟨_, rfl, x, CR, dx, _, _, rfl, s3 _ _ (s12 _ _ hx), RC.cl, RC.ki, fu_ki _ _ _, .str (famS t), _, .str _, .inr (dp_same (s12.trans s3) _ hk), fam_shaped t, G.ok.k, _, rfl, ?_⟩⟩
        rw [any_ki, Bool.false_bne]
        cases c2 : decide (famS t ∈ ks) with
        | true =>
          refine iteT ?_
          have e := q H3 (s12.trans s3)
          unfold mayB at e
          rw [c, c2] at e
          exact e
        | false => exact iteF ⟨rfl, rfl, s12.trans s3⟩
    rintro σ H1 ⟨c, rfl, s1⟩
    refine ⟨_, rfl, _, rfl, by show 2 ≤ sizeLine; decide, fun g hg => ?_⟩
    have s2 := Same.new (o := .tup [.str o, .str t]) s1 hg
    refine ⟨_, rfl, x, CR, dx, _, _, rfl, s2 _ _ hx, RC.cl, RC.lo, fu_lo _ _ _, lkP (o, t), _, .tup (SqT.of upd_same) (.cons (.str o) (.cons (.str t) .nil)), .inr (dp_same s2 _ hl), pair_shaped ho ht, G.ok.l, ?_⟩
    rw [any_lo, Bool.false_bne]
    have e := q _ s2
    unfold mayB at e
    rw [c, Bool.false_or] at e
    exact e
theorem kind_shaped {k : Str} (h : k ∈ kinds4) : SeqAt.shaped (.str k) = true := by
  have z : (kinds4.all fun k => SeqAt.shaped (.str k)) = true := by decide +kernel
  exact List.all_eq_true.mp z k h
theorem scRAl : FnScope ["self", "file", "slip"] ["self", "file", "slip"] (defScope sRAl) := ⟨rfl, rfl, rfl, by decide +kernel, rfl, by decide +kernel, by decide +kernel⟩
theorem ok_ral {f fF fM : Addr} {fd fdF fdM : FuncData} (F : Fun K "allows" "SlipRule.allows" sRAl f fd) (T : Bare mg) (RC : RuleC K mg CR) (SC : SlipC K mg CS aK)
    (FF : FnOk P w K mg base CX0 1 fF fdF ["self", "file"] (spFits K CS)) (mF : Meth K CS "fits" fF) (bF : Binds K fdF ["self", "file"] []) (FM : FnOk P w K mg base CX0 5 fM fdM ["self", "old", "token"] (spMay K CR)) (mM : Meth K CR "may_write" fM) (bM : Binds K fdM ["self", "old", "token"] []) :
    FnOk P w K mg base CX0 6 f fd ["self", "file", "slip"] (spAllow K CR CS) := by
  refine F.ok scRAl (fun vs H Q E h => ?_) (fun cdv A outer s H vs Q E hr h => ?_)
  · obtain ⟨x, y, v, ks, ls, ts, k, a, t, rfl, _⟩ := h
    rfl
  · obtain ⟨x, y, v, ks, ls, ts, k, a, t, rfl, hR, G, hv, hts, ⟨dy, hy⟩, g, q⟩ := h
    obtain ⟨dx, kk, l, p, hx, hk, hl, hp⟩ := id hR
    have hr5 : Room 5 _ := hr
    have hr1 : Room 1 _ := hr.mono (by decide)
    refine ⟨_, (C8.pss_cut (ps_if (pt_not (pt_val (pe_meth (E := fun _ _ _ => False) (pv 2) SC.cl mF FF hr1 bF .nil pass0 (pa_cons (pv 1) pa_nil)))) (pss_one (ps_ret pe_bl)) pss_nil)
        (C8.pss_cut (ps_if (pt_cmpR op_eq (pe_fld (pv 2) rfl) pe_str (nomark _)) (pss_one (ps_ret (pe_meth (E := fun _ _ _ => False) (pv 0) RC.cl mM FM hr5 bM .nil pass0 (pa_cons (pe_ix (show IxR _ (rIxA K) from ix_any) (pv 1) (pe_fld (pv 2) rfl) (fun _ _ => rfl)) (pa_cons (pe_fld (pv 2) rfl) pa_nil))))) pss_nil)
        (pss_one (ps_ret (pe_cmpR (op_inA (Room.units5 hr)) (pe_fld (pv 2) rfl) (pe_fld (pv 0) rfl) (by rfl)))))), ?_⟩
    refine ⟨fun σ H' => fitsB k a t ts = true ∧ σ = [some (.ref x), some v, some (.ref y)] ∧ H' = H, ?_, ?_⟩
    · refine ⟨_, rfl, y, dy, _, rfl, hy, rfl, _, rfl, y, v, k, a, t, ts, rfl, ⟨dy, hy⟩, g, hv, _, rfl, ?_⟩
      cases c : fitsB k a t ts with
      | true => exact iteF ⟨rfl, rfl, rfl⟩
      | false =>
        have e := q H (Same.refl H)
        unfold allowB at e
        rw [c] at e
        exact iteT e
    rintro σ H1 ⟨c, rfl, rfl⟩
    have e := fun H' s' => q H' s'
    unfold allowB at e
    rw [c] at e
    have la : a < ts.length := by
      unfold fitsB at c
      by_cases z : ts.length ≤ a
      · rw [if_pos z] at c; cases c
      · omega
    have ea : ts[a]? = some ts[a] := List.getElem?_eq_getElem la
    refine ⟨fun σ H' => ¬ k = "written" ∧ σ = [some (.ref x), some v, some (.ref y)] ∧ H' = H1, ?_, ?_⟩
    · refine ⟨_, rfl, y, CS, dy, _, _, rfl, hy, SC.cl, SC.ki, fs_ki _ _ _, rfl, _, rfl, ?_⟩
      rw [eq_strB]
      by_cases ck : k = "written"
      · rcases g with ⟨_, z, rfl, hz⟩ | ⟨hk', _⟩
        · rw [decide_eq_true ck]
          refine iteT ⟨_, rfl, x, dx, _, rfl, hx, rfl, _, rfl, _, rfl, y, CS, dy, _, _, rfl, hy, SC.cl, SC.at_, fs_at _ _ _, file_at (n := a) hv rfl ea ⟨_, rfl, y, CS, dy, _, _, rfl, hy, SC.cl, SC.to, fs_to _ _ _, x, ks, ls, ts[a], z, rfl, hR, G, hts _ (List.getElem_mem la), hz, fun H' s' => ?_⟩⟩
          have e' := e H' s'
          rw [if_pos ck, ea] at e'
          exact e'
        · rw [ck] at hk'
          rcases hk' with h | h | h <;> exact absurd h (by decide +kernel)
      · rw [decide_eq_false ck]
        exact iteF ⟨ck, rfl, rfl⟩
    rintro σ H2 ⟨ck, rfl, rfl⟩
    refine ⟨_, rfl, y, CS, dy, _, _, rfl, hy, SC.cl, SC.ki, fs_ki _ _ _, _, rfl, x, CR, dx, _, _, rfl, hx, RC.cl, RC.ki, fu_ki _ _ _, .str k, _, .str k, .inr hk, kind_shaped g.kind, G.ok.k, ?_⟩
    rw [any_ki, Bool.false_bne]
    have e' := e H2 (Same.refl H2)
    rw [if_neg ck] at e'
    exact e'
end
end K5

namespace K5
open PySem L2 K5S
/-! each once, in the order of the first time -/
section
variable {α : Type} [DecidableEq α]
def dd (l : List α) : List α := l.foldl (fun k x => if x ∈ k then k else k ++ [x]) []
theorem dd_snoc (l : List α) (x : α) : dd (l ++ [x]) = if x ∈ dd l then dd l else dd l ++ [x] := by
  unfold dd
  rw [List.foldl_append]
  rfl
theorem snoc_ind {p : List α → Prop} (h0 : p []) (h : ∀ l x, p l → p (l ++ [x])) : ∀ l, p l := fun l => by
  have key : ∀ r : List α, p r.reverse := by
    intro r
    induction r with
    | nil => exact h0
    | cons x r ih =>
      rw [List.reverse_cons]
      exact h _ x ih
  have z := key l.reverse
  rw [List.reverse_reverse] at z
  exact z
theorem dd_mem (l : List α) : ∀ y, y ∈ dd l ↔ y ∈ l := by
  refine snoc_ind (p := fun l => ∀ y, y ∈ dd l ↔ y ∈ l) (fun y => Iff.rfl) (fun l x ih y => ?_) l
  rw [dd_snoc]
  by_cases c : x ∈ dd l
  · rw [if_pos c, ih, List.mem_append, List.mem_singleton]
    exact ⟨.inl, fun h => h.elim id fun e => by rw [e]; exact (ih x).mp c⟩
  · rw [if_neg c, List.mem_append, List.mem_append, ih]
theorem dd_nodup (l : List α) : (dd l).Nodup := by
  refine snoc_ind (p := fun l => (dd l).Nodup) List.nodup_nil (fun l x ih => ?_) l
  rw [dd_snoc]
  by_cases c : x ∈ dd l
  · rw [if_pos c]
    exact ih
  · rw [if_neg c, List.nodup_append]
    refine ⟨ih, by simp, fun a ha b hb e => ?_⟩
    rw [List.mem_singleton] at hb
    rw [e, hb] at ha
    exact c ha
theorem dd_sub (l : List α) : (dd l).Sublist l := by
  refine snoc_ind (p := fun l => (dd l).Sublist l) (List.Sublist.refl _) (fun l x ih => ?_) l
  rw [dd_snoc]
  by_cases c : x ∈ dd l
  · rw [if_pos c]
    exact ih.trans (List.sublist_append_left _ _)
  · rw [if_neg c]
    exact ih.append (List.Sublist.refl _)
end

/-! {k: v for ..} over a list that stays -/
theorem dc_list {K : PySem.W.Frag} {a : Addr} {xs : List V} {g : TG} {tt : TT} {tk tv : TE} {vs : List Nat} {σ : L2.St} {H1 : Hp} {D : Addr} {Qd : Hp → Prop} (Pv : Nat → Hp → Prop) (h0 : Pv 0 (upd H1 D (.dK []))) (hl : ∀ i H, i ≤ xs.length → Pv i H → SqL K H a xs)
    (hs : ∀ i x H, xs[i]? = some x → Pv i H → g x (wipe σ vs) H fun σ2 H2 => wipe σ2 vs = wipe σ vs ∧ tt σ2 H2 fun b H3 =>
      if b = true then tk σ2 H3 fun y H4 => tv σ2 H4 fun z H5 => ∃ kvs k, y = kV k ∧ H5 D = some (.dK kvs) ∧ kvs.length < sizeLine ∧ Pv (i + 1) (upd H5 D (.dK (putK kvs k z))) else Pv (i + 1) H3) (hd : ∀ H, Pv xs.length H → Qd H) :
    ∃ W : Nat → Nat → Hp → Prop, (∃ m, W 0 m (upd H1 D (.dK []))) ∧ ∀ i m H, W i m H →
      ((Itl K a).stop i H ∧ Qd H) ∨ ((Itl K a).go i H ∧ ∃ Nx : Hp → Prop, (∀ H', Nx H' → ∃ m', m' < m ∧ W (i + 1) m' H') ∧ ∀ x H', (Itl K a).yld i H x H' → g x (wipe σ vs) H' fun σ2 H2 => wipe σ2 vs = wipe σ vs ∧ tt σ2 H2 fun b H3 =>
        if b = true then tk σ2 H3 fun y H4 => tv σ2 H4 fun z H5 => ∃ kvs k, y = kV k ∧ H5 D = some (.dK kvs) ∧ kvs.length < sizeLine ∧ Nx (upd H5 D (.dK (putK kvs k z))) else Nx H3) := by
  refine ⟨fun i m H => m = xs.length - i ∧ i ≤ xs.length ∧ Pv i H, ⟨xs.length, by simp, Nat.zero_le _, h0⟩, ?_⟩
  rintro i m H ⟨rfl, hi, p⟩
  have q := hl i H hi p
  by_cases hlt : i < xs.length
  · refine .inr ⟨⟨xs, xs[i], q, by simp [hlt]⟩, Pv (i + 1), fun H' p' => ⟨xs.length - (i + 1), by omega, rfl, hlt, p'⟩, fun x H' y => ?_⟩
    obtain ⟨e, y⟩ := y
    subst e
    exact hs i x _ (y xs q) p
  · have e : i = xs.length := by omega
    subst e
    exact .inl ⟨⟨xs, q, Nat.le_refl _⟩, hd H p⟩
abbrev sOnce : Stmt := top 25
def dkv (l : List Str) : List (Key × V) := l.map fun z => (Sum.inr z, V.bl true)
theorem put_dkv (l : List Str) (z : Str) : putK (dkv l) (.inr z) (.bl true) = dkv (if z ∈ l then l else l ++ [z]) := by
  have e : ((dkv l).any fun kv => decide (kv.1 = Sum.inr z)) = decide (z ∈ l) := by
    unfold dkv
    rw [List.any_map, Bool.eq_iff_iff, List.any_eq_true, decide_eq_true_eq]
    constructor
    · rintro ⟨y, hy, h⟩
      have h' : (Sum.inr y : Key) = Sum.inr z := of_decide_eq_true h
      rw [← Sum.inr.inj h']; exact hy
    · intro h
      exact ⟨z, h, decide_eq_true rfl⟩
  unfold putK
  rw [e]
  by_cases c : z ∈ l
  · rw [if_pos (decide_eq_true c), if_pos c]
    unfold dkv
    rw [List.map_map]
    refine List.map_congr_left fun y _ => ?_
    show (if (Sum.inr y : Key) = Sum.inr z then ((Sum.inr y : Key), V.bl true) else (Sum.inr y, V.bl true)) = _
    split <;> rfl
  · rw [if_neg (by rw [decide_eq_false c]; exact Bool.false_ne_true), if_neg c]
    unfold dkv
    rw [List.map_append]; rfl
theorem dd_len (l : List Str) : (dd l).length ≤ l.length := by
  refine snoc_ind (p := fun l : List Str => (dd l).length ≤ l.length) (Nat.le_refl _) (fun l x ih => ?_) l
  rw [dd_snoc, List.length_append]
  split
  · omega
  · rw [List.length_append]; omega
def spOnce (K : PySem.W.Frag) : Sp := fun vs H Q _ => ∃ (a : Addr) (ts : List Str), vs = [.ref a] ∧ SqL K H a (ts.map V.str) ∧ ts.length ≤ 1000 ∧ ∀ p H', Same H H' → H p = none → H' p = some (.lst ((dd ts).map V.str)) → Q (.ref p) H'
section
variable {P : Program} {w : World} {K : PySem.W.Frag} {mg : Str → Option Value} {base : Heap}
theorem scOnce : FnScope ["things", "thing"] ["things"] (defScope sOnce) := ⟨rfl, rfl, rfl, by decide +kernel, rfl, by decide +kernel, by decide +kernel⟩
theorem ok_once {f : Addr} {fd : FuncData} (F : Fun K "each_once" "each_once" sOnce f fd) (T : Bare mg) : FnOk P w K mg base CX0 1 f fd ["things"] (spOnce K) := by
  refine F.ok scOnce (fun vs H Q E h => ?_) (fun cdv A outer s H vs Q E hr h => ?_)
  · obtain ⟨a, ts, rfl, _⟩ := h
    rfl
  · obtain ⟨a, ts, rfl, ha, hl, q⟩ := h
    refine ⟨_, (pss_one (ps_ret (pe_callTy (call_listD (by rfl)) (by rfl) T.list (by decide +kernel) (pa_cons (pe_dc (own := [("thing", 1)]) (g := gName 1) (tt := tYes) (tk := tVar 1) (tv := tC (.bl true)) (by rfl) scOnce.nd (pi_list (pv 0)) (blkOk_by (own := [("thing", 1)]) (N := ["things", "thing"]) (sc := defScope sOnce) (by decide +kernel)) (fun _ _ _ _ _ => pg_name (i := 1) scOnce.nd rfl (Or.inl rfl)) (fun _ _ _ _ _ => pts_nil) (fun _ _ _ _ _ => pv 1) (fun _ _ _ _ _ => pe_bl)) pa_nil)))), ?_⟩
    refine ⟨_, rfl, a, rfl, ⟨_, ha⟩, fun D hD => dc_list (K := K) (a := a) (xs := ts.map V.str) (fun i H' => Same H H' ∧ H' D = some (.dK (dkv (dd (ts.take i))))) ⟨Same.new (Same.refl _) hD, upd_same⟩ (fun i H' _ h => SqL.ext ha h.1) (fun i x H' hx h => ?_) (fun H' h => ?_)⟩
    · obtain ⟨s1, hd⟩ := h
      rw [List.getElem?_map] at hx
      cases hz : ts[i]? with
      | none => rw [hz] at hx; cases hx
      | some z =>
      rw [hz] at hx
      obtain rfl : V.str z = x := Option.some.inj hx
      have li : i < ts.length := (List.getElem?_eq_some_iff.mp hz).1
      refine ⟨rfl, ⟨_, rfl, _, .inr z, rfl, hd, ?_, ?_, ?_⟩⟩
      · have := dd_len (ts.take i)
        rw [List.length_take] at this
        unfold dkv
        rw [List.length_map]
        exact Nat.lt_of_le_of_lt (show _ ≤ 1000 by omega) (by decide)
      · exact Same.put s1 hD
      · rw [upd_same, take_some hz, dd_snoc, put_dkv]
    · obtain ⟨s1, hd⟩ := h
      rw [List.length_map, List.take_length] at hd
      refine ⟨D, _, rfl, .inl hd, fun p hp => q p _ (Same.new s1 hp) (s1.free hp) ?_⟩
      rw [upd_same]
      unfold dkv
      rw [List.map_map]
      rfl
end
end K5

/-! A generator whose consumer may do what it likes between two items: the generator's base is laid anew at each waking. -/
namespace K10
open PySem PySem.Spec PyProof.Rows GenW L2

/-! ### the heap below n -/
def cutH (n : Nat) (h : Heap) : Heap := { h with objs := h.objs.extract 0 n }
theorem cutH_size {n : Nat} {h : Heap} (hn : n ≤ h.objs.size) : (cutH n h).objs.size = n := by
  show (h.objs.extract 0 n).size = n
  simp; omega
theorem cutH_get {n b : Nat} {h : Heap} (hb : b < n) : (cutH n h).get? b = h.get? b := by
  have e : (h.objs.extract 0 n)[b]? = h.objs[b]? := by
    rw [Array.getElem?_extract]; simp
    intro z; omega
  unfold Heap.get? cutH
  simp only [e]
theorem cutH_lt {n b : Nat} {h : Heap} {o : Obj} (e : (cutH n h).get? b = some o) : b < n := by
  have h1 := Heap.lt_size e
  have h2 : (h.objs.extract 0 n).size ≤ n := by simp; omega
  exact Nat.lt_of_lt_of_le h1 h2
theorem cutH_of {n b : Nat} {h : Heap} {o : Obj} (e : (cutH n h).get? b = some o) : h.get? b = some o := by
  rw [← cutH_get (cutH_lt e)]; exact e
theorem cut_funs {n : Nat} {h h0 base : Heap} (hn : h0.objs.size ≤ n) : ∀ {l : List Env}, h0.FunFrames base l → h.FunFrames base l → (cutH n h).FunFrames base l := by
  intro l
  induction l with
  | nil => intro _ _; trivial
  | cons env rest ih =>
    rintro ⟨_, ⟨L0, o0, hf0, _, ho0, _⟩, hr0⟩ ⟨hk, ⟨L, o, hf, hb, ho, hd⟩, hr⟩
    rw [hf0] at hf
    obtain rfl : L0 = L := Option.some.inj hf
    exact ⟨hk, ⟨L0, o, hf0, hb, (cutH_get (Nat.lt_of_lt_of_le (Heap.lt_size ho0) hn)).trans ho, hd⟩, ih hr0 hr⟩

/-! ### a base laid anew -/
abbrev Cx.n0 (X : Cx) : Nat := X.s_0.heap.objs.size
def reb (X : Cx) (s0 : Shared) (H0 : Hp) : Cx := { X with s_0 := { s0 with heap := cutH X.s_0.heap.objs.size s0.heap }, H_0 := H0 }
/-- a generator's context: no iterator ahead of it, no cells, no exception -/
structure GOk (X : Cx) : Prop where
  ok : X.Ok
  ex : X.ex = []
  cells : X.env.cells = []
  nox : ∀ e s, X.xe e s → False
theorem reb_ok {X : Cx} (g : GOk X) {A : Around} {s : Shared} {H : Hp} (e : Env0 X.prog X.w X.K X.mg X.base A X.outer s H) (hsz : X.s_0.heap.objs.size ≤ s.heap.objs.size) : (reb X s H).Ok where
  mod := g.ok.mod
  kind := g.ok.kind
  glob := g.ok.glob
  blt := g.ok.blt
  above := by
    show (cutH _ _).objs.size ≤ _
    rw [cutH_size hsz]; exact g.ok.above
  inj := g.ok.inj
  has := g.ok.has
  cab := fun x c h1 h2 => by
    have h2' : X.env.cells.lookup x = some c := h2
    rw [g.cells] at h2'; cases h2'
  hd := g.ok.hd
  frames := g.ok.frames
  stk := g.ok.stk
  exf := g.ok.exf
  bs := fun b o q => ⟨(cutH_get (Nat.lt_of_lt_of_le (Heap.lt_size q) g.ok.bsz)).trans (e.bs b o q).1, (e.bs b o q).2⟩
  bsz := by
    show _ ≤ (cutH _ _).objs.size
    rw [cutH_size hsz]; exact g.ok.bsz
  noex := g.ok.noex
  exfs := g.ok.exfs
  funs := cut_funs (Nat.le_refl _) g.ok.funs e.funs
  frf := e.frf

theorem rebase {X X' : Cx} (g : GOk X) {A : Around} {s s' : Shared} {H H' : Hp} {ip ip' : List (Addr × Obj)} {σ : L2.St} (I : Inv X' ip σ H s) (he : X'.env = X.env) (hN : X'.N = X.N) (e : Env0 X.prog X.w X.K X.mg X.base A X.outer s' H') (hsz : X.s_0.heap.objs.size ≤ s'.heap.objs.size)
    (hL : H' X.env.locals = none) (kL : ∀ o, s.heap.get? X.env.locals = some o → s'.heap.get? X.env.locals = some o)
    (pk : ∀ p ∈ X.pn ++ ip', s'.heap.get? p.1 = some p.2 ∧ H' p.1 = none ∧ p.1 ≠ X.env.locals ∧ p.1 ∉ X.fs ∧ ∀ v, p.2.data ≠ .cell v) : Inv (reb X s' H') ip' σ H' s' where
  ok := reb_ok g e hsz
  os := rfl
  bare := e.bare
  base := Un.kept fun b o q => cutH_of q
  loc := by
    have hl0 := I.loc
    rw [he, hN] at hl0
    obtain ⟨m, hn, hl⟩ := hl0
    refine ⟨m, hn.at' kL, fun i x v e1 e2 e3 => ?_⟩
    obtain ⟨u, r, l⟩ := hl i x v e1 e2 e3
    refine ⟨u, r, ?_⟩
    rcases l with l | ⟨_, c, hc, _⟩
    · exact .inl l
    · have hc' : X.env.cells.lookup x = some c := hc
      rw [g.cells] at hc'; cases hc'
  cell := fun x c hc => by
    have hc' : X.env.cells.lookup x = some c := hc
    rw [g.cells] at hc'; cases hc'
  free := hL
  freeC := fun x c hc => by
    have hc' : X.env.cells.lookup x = some c := hc
    rw [g.cells] at hc'; cases hc'
  pin := pk
  hok := e.hok
  len := by
    show _ = X.N.length
    rw [← hN]; exact I.len

/-! ### the protocol -/
/-- the consumer: N: how many items may come; C: its state ahead of the i-th item, the heap, its own pins; it: what the i-th item is to be (the heap at the waking, the item, the heap); fin: what is wanted at the end; Z: what it may do to the heap between; ads: its pins' addresses -/
structure Con where
  N : Nat
  C : Nat → Hp → List (Addr × Obj) → Shared → Prop
  it : Nat → Hp → V → Hp → Prop
  fin : Nat → Hp → Hp → Prop
  Z : Hp → Hp → Prop
  ads : List Addr
/-- a turn of the generator: the consumer's frames and pins stand; kp: what is to stand while it sleeps -/
structure OutOk (P : Program) (w : World) (outer : List Env) (n0 : Nat) (H0 H : Hp) (s₀ s : Shared) (cp kp : List (Addr × Obj)) : Prop where
  os : s.os = s₀.os
  bare : AllBare s.gens
  un : Un (frs outer) [] H0 H (cutH n0 s₀.heap) s.heap
  hok : HOk P w H s.heap
  lim : s.heap.NoLimit
  cp : ∀ p ∈ cp, s.heap.get? p.1 = some p.2 ∧ H p.1 = none
  kp : ∀ p ∈ kp, s.heap.get? p.1 = some p.2 ∧ H p.1 = none ∧ n0 ≤ p.1 ∧ ∀ v, p.2.data ≠ .cell v
def GYc (P : Program) (w : World) (K : PySem.W.Frag) (mg : Str → Option Value) (base : Heap) (A : Around) (outer : List Env) (n0 : Nat) (gp : Addr × Obj) (c : Con) : Protocol := fun n s₀ v s kap =>
  ∃ i H0 cp kp H x, n + 1 + i = c.N ∧ c.C i H0 cp s₀ ∧ OutOk P w outer n0 H0 H s₀ s cp kp ∧ gp ∈ kp ∧ (∀ p ∈ kp, p.1 ∉ c.ads) ∧ RelV x v ∧ c.it i H0 x H ∧
    ∀ s' H' cp', c.C (i + 1) H' cp' s' → cp'.map (·.1) = c.ads → Env0 P w K mg base A outer s' H' → n0 ≤ s'.heap.objs.size → c.Z H H' → (∀ p ∈ cp', s'.heap.get? p.1 = some p.2 ∧ H' p.1 = none ∧ ∀ v, p.2.data ≠ .cell v) →
      (∀ p ∈ kp, s'.heap.get? p.1 = some p.2 ∧ H' p.1 = none) → kap (.send .none) s'
def GRc (P : Program) (w : World) (outer : List Env) (n0 : Nat) (gp : Addr × Obj) (c : Con) : GenEnd := fun n s₀ r s =>
  r = .ok (.ret .none) ∧ ∃ i H0 cp kp H, n + i = c.N ∧ c.C i H0 cp s₀ ∧ OutOk P w outer n0 H0 H s₀ s cp kp ∧ gp ∈ kp ∧ c.fin i H0 H

/-- what is wanted behind a statement; the number of items that are out, the heap at the last waking -/
structure GEnds2 where
  nx : Nat → Hp → L2.St → Hp → Prop
  rt : Nat → Hp → VK
  bk : Nat → Hp → L2.St → Hp → Prop := fun _ _ _ _ => False
  ct : Nat → Hp → L2.St → Hp → Prop := fun _ _ _ _ => False
abbrev TG2 := GEnds2 → Nat → Hp → L2.St → Hp → Prop
def GEnds2.at (D : GEnds2) (i : Nat) (Hw : Hp) : Ends := { nx := D.nx i Hw, rt := D.rt i Hw, bk := D.bk i Hw, ct := D.ct i Hw }

section
variable (X : Cx) (A0 : Around) (gp : Addr × Obj) (c : Con)
abbrev Y2 : Protocol := GYc X.prog X.w X.K X.mg X.base A0 X.outer X.s_0.heap.objs.size gp c
/-- running: i items are out -/
def At2 (ip : List (Addr × Obj)) (i : Nat) (Hw : Hp) (σ : L2.St) (H : Hp) (s₀ s : Shared) : Prop :=
  ∃ cp, c.C i Hw cp s₀ ∧ (cp.map (·.1) = c.ads ∧ X.s_0.heap.objs.size ≤ s₀.heap.objs.size) ∧ Inv (reb X s₀ Hw) (cp ++ ip) σ H s
def GSP2 (ip : List (Addr × Obj)) (D : GEnds2) (i : Nat) (Hw : Hp) (f : Flow) (s₀ s : Shared) : Prop :=
  match f with
  | .next => ∃ σ H, At2 X c ip i Hw σ H s₀ s ∧ D.nx i Hw σ H
  | .brk => ∃ σ H, At2 X c ip i Hw σ H s₀ s ∧ D.bk i Hw σ H
  | .cont => ∃ σ H, At2 X c ip i Hw σ H s₀ s ∧ D.ct i Hw σ H
  | .ret u => ∃ v σ H, At2 X c ip i Hw σ H s₀ s ∧ RelV v u ∧ D.rt i Hw v H
/-- what holds throughout -/
structure GG : Prop where
  ok : GOk X
  gp : gp ∈ X.pn
  pnY : ∀ p ∈ X.pn, X.s_0.heap.objs.size ≤ p.1 ∧ p.1 ∉ c.ads
  loc : X.env.locals ∉ c.ads
  own : PassesOwn (model X.prog X.w) X.A X.env X.xe
  calm : X.calm = true
/-- where the code stands -/
structure GC2 (ip : List (Addr × Obj)) (A : Around) (co : Code) (fs : List Frame) (gd : Bool → Bool) : Prop where
  ipn : ∀ p ∈ ip, X.s_0.heap.objs.size ≤ p.1 ∧ p.1 ∉ c.ads
  over : A.over co fs = X.A
  split : splitAtGen fs = none
  guard : fs.any Frame.guarded = false
  gd : gd false = false
def GK2 (ip : List (Addr × Obj)) (A : Around) (R : GenEnd) (co : Code) (fs : List Frame) (K : Flow → Sem PySem.Fin) (D : GEnds2) : Prop :=
  ∀ (n i : Nat) (Hw : Hp) (s₀ s : Shared) (f : Flow), n + i = c.N → GSP2 X c ip D i Hw f s₀ s → Seg (model X.prog X.w) A R (Y2 X A0 gp c) n s₀ co (K f) fs s
structure GS2 (st : Stmt) (t : TG2) : Prop where
  run : ∀ (A : Around) (ip : List (Addr × Obj)) (R : GenEnd) (n i : Nat) (Hw : Hp) (s₀ : Shared) (co : Code) (fs : List Frame) (K : Flow → Sem PySem.Fin) (J : Value → Sem PySem.Fin) (gd : Bool → Bool) (lv : List Value → List Value) (s : Shared) (σ : L2.St) (H : Hp) (D : GEnds2),
    GG X gp c → GC2 X c ip A co fs gd → n + i = c.N → GK2 X A0 gp c ip A R co fs K D → At2 X c ip i Hw σ H s₀ s → t D i Hw σ H →
    Seg (model X.prog X.w) A R (Y2 X A0 gp c) n s₀ co ((exec st X.env).wrap K J gd lv) fs s
structure GSs2 (st : List Stmt) (t : TG2) : Prop where
  run : ∀ (A : Around) (ip : List (Addr × Obj)) (R : GenEnd) (n i : Nat) (Hw : Hp) (s₀ : Shared) (co : Code) (fs : List Frame) (K : Flow → Sem PySem.Fin) (J : Value → Sem PySem.Fin) (gd : Bool → Bool) (lv : List Value → List Value) (s : Shared) (σ : L2.St) (H : Hp) (D : GEnds2),
    GG X gp c → GC2 X c ip A co fs gd → n + i = c.N → GK2 X A0 gp c ip A R co fs K D → At2 X c ip i Hw σ H s₀ s → t D i Hw σ H →
    Seg (model X.prog X.w) A R (Y2 X A0 gp c) n s₀ co ((execs st X.env).wrap K J gd lv) fs s
end

section
variable {X : Cx} {A0 : Around} {gp : Addr × Obj} {c : Con} {st : Stmt} {rest : List Stmt} {pos : Pos}
def t2Pl (t : TS) : TG2 := fun D i Hw σ H => t (D.at i Hw) σ H
theorem sp_gsp2 {cp ip : List (Addr × Obj)} {i : Nat} {Hw : Hp} {s₀ s : Shared} {D : GEnds2} {f : Flow} (hc : c.C i Hw cp s₀) (ha : cp.map (·.1) = c.ads ∧ X.s_0.heap.objs.size ≤ s₀.heap.objs.size) (h : SP (reb X s₀ Hw) (cp ++ ip) (D.at i Hw) f s) : GSP2 X c ip D i Hw f s₀ s := by
  cases f with
  | next => obtain ⟨σ, H, I, q⟩ := h; exact ⟨σ, H, ⟨cp, hc, ha, I⟩, q⟩
  | brk => obtain ⟨σ, H, I, q⟩ := h; exact ⟨σ, H, ⟨cp, hc, ha, I⟩, q⟩
  | cont => obtain ⟨σ, H, I, q⟩ := h; exact ⟨σ, H, ⟨cp, hc, ha, I⟩, q⟩
  | ret u => obtain ⟨v, σ, H, I, r1, q⟩ := h; exact ⟨v, σ, H, ⟨cp, hc, ha, I⟩, r1, q⟩
theorem g2_ps {t : TS} (h : ∀ s0 H0, PS (reb X s0 H0) st t) : GS2 X A0 gp c st (t2Pl t) := by
  refine ⟨fun A ip R n i Hw s₀ co fs K J gd lv s σ H D G g hn k hI ht => ?_⟩
  obtain ⟨cp, hc, ha, I⟩ := hI
  refine seg_wrap ?_
  rw [g.over]
  exact wpAny_mono ((h s₀ Hw).run _ s σ H (D.at i Hw) I ht) (fun f s' hs => k n i Hw s₀ s' f hn (sp_gsp2 hc ha hs)) fun x s' hx => (G.ok.nox x s' hx).elim
theorem gss2_pss {t : TS} (h : ∀ s0 H0, PSs (reb X s0 H0) rest t) : GSs2 X A0 gp c rest (t2Pl t) := by
  refine ⟨fun A ip R n i Hw s₀ co fs K J gd lv s σ H D G g hn k hI ht => ?_⟩
  obtain ⟨cp, hc, ha, I⟩ := hI
  refine seg_wrap ?_
  rw [g.over]
  exact wpAny_mono ((h s₀ Hw).run _ s σ H (D.at i Hw) I ht) (fun f s' hs => k n i Hw s₀ s' f hn (sp_gsp2 hc ha hs)) fun x s' hx => (G.ok.nox x s' hx).elim
def t2Nil : TG2 := fun D i Hw σ H => D.nx i Hw σ H
theorem gss2_nil : GSs2 X A0 gp c [] t2Nil := by
  refine ⟨fun A ip R n i Hw s₀ co fs K J gd lv s σ H D G g hn k hI ht => ?_⟩
  exact seg_execs_nil (k n i Hw s₀ s .next hn ⟨σ, H, hI, ht⟩)
def t2Seq (t u : TG2) : TG2 := fun D i Hw σ H => t { D with nx := fun i' Hw' σ' H' => u D i' Hw' σ' H' } i Hw σ H
theorem gss2_cons {t u : TG2} (a : GS2 X A0 gp c st t) (b : GSs2 X A0 gp c rest u) : GSs2 X A0 gp c (st :: rest) (t2Seq t u) := by
  refine ⟨fun A ip R n i Hw s₀ co fs K J gd lv s σ H D G g hn k hI ht => ?_⟩
  refine seg_execs_cons ?_
  refine a.run A ip R n i Hw s₀ co fs _ J gd lv s σ H { D with nx := fun i' Hw' σ' H' => u D i' Hw' σ' H' } G g hn (fun n' i' Hw' s₀' s' f hn' hs => ?_) hI ht
  cases f with
  | next =>
    obtain ⟨σ', H', I', q⟩ := hs
    exact b.run A ip R n' i' Hw' s₀' co fs K J gd lv s' σ' H' D G g hn' k I' q
  | brk => exact k n' i' Hw' s₀' s' .brk hn' hs
  | cont => exact k n' i' Hw' s₀' s' .cont hn' hs
  | ret u => exact k n' i' Hw' s₀' s' (.ret u) hn' hs
def t2If (tc : TT) (t u : TG2) : TG2 := fun D i Hw σ H => tc σ H fun b H1 => if b = true then t D i Hw σ H1 else u D i Hw σ H1
theorem g2_if {e : Expr} {a b : List Stmt} {tc : TT} {t u : TG2} (hc : ∀ s0 H0, PT (reb X s0 H0) e tc) (ha : GSs2 X A0 gp c a t) (hb : GSs2 X A0 gp c b u) : GS2 X A0 gp c (.If e a b pos) (t2If tc t u) := by
  refine ⟨fun A ip R n i Hw s₀ co fs K J gd lv s σ H D G g hn k hI ht => ?_⟩
  obtain ⟨cp, hC, had, I⟩ := hI
  rw [exec_If]
  refine seg_at ?_
  show Seg _ _ _ _ _ _ _ (((isTrue e X.env (eval e X.env)) >>= fun r => if r = true then execs a X.env else execs b X.env).wrap K J gd lv) _ _
  refine seg_bind_wrap ?_
  rw [g.over]
  refine wpAny_mono ((hc s₀ Hw).run _ s σ H _ I ht) (fun r s1 hr => ?_) fun x s' hx => (G.ok.nox x s' hx).elim
  obtain ⟨H1, I1, q⟩ := hr
  cases r with
  | true => exact ha.run A ip R n i Hw s₀ co fs K J gd lv s1 σ H1 D G g hn k ⟨cp, hC, had, I1⟩ q
  | false => exact hb.run A ip R n i Hw s₀ co fs K J gd lv s1 σ H1 D G g hn k ⟨cp, hC, had, I1⟩ q

/-! ### yield -/
def t2Yield (c : Con) (te : TE) : TG2 := fun D i Hw σ H => i < c.N ∧ te σ H fun x H1 => c.it i Hw x H1 ∧ ∀ H', c.Z H1 H' → D.nx (i + 1) H' σ H'
/-- what a sleeping generator is to find again -/
theorem At2.out {ip : List (Addr × Obj)} {Hw H : Hp} {σ : L2.St} {s₀ s : Shared} {cp : List (Addr × Obj)} (G : GG X gp c) (hip : ∀ p ∈ ip, X.s_0.heap.objs.size ≤ p.1 ∧ p.1 ∉ c.ads) (I : Inv (reb X s₀ Hw) (cp ++ ip) σ H s) :
    ∃ kp, OutOk X.prog X.w X.outer X.s_0.heap.objs.size Hw H s₀ s cp kp ∧ gp ∈ kp ∧ (∀ p ∈ kp, p.1 ∉ c.ads) ∧ (∀ p ∈ X.pn ++ ip, p ∈ kp) ∧ ∃ oL, s.heap.get? X.env.locals = some oL ∧ (X.env.locals, oL) ∈ kp := by
  obtain ⟨m, ⟨oL, es, ep, eL, hdL, _⟩, _⟩ := id I.loc
  have hnc : ∀ v, oL.data ≠ .cell v := fun v q => by rw [hdL] at q; cases q
  refine ⟨(X.env.locals, oL) :: (X.pn ++ ip), ⟨I.os, I.bare, ?_, I.hok, I.nolimit, fun p hp => ?_, fun p hp => ?_⟩, List.mem_cons_of_mem _ (List.mem_append_left _ G.gp), fun p hp => ?_, fun p hp => List.mem_cons_of_mem _ hp, oL, eL, List.mem_cons_self⟩
  · have u := I.base
    have e1 : (reb X s₀ Hw).ex = [] := G.ok.ex
    rw [e1] at u
    exact u
  · obtain ⟨h1, h2, _⟩ := I.pin p (List.mem_append_right _ (List.mem_append_left _ hp))
    exact ⟨h1, h2⟩
  · rcases List.mem_cons.mp hp with rfl | hp
    · exact ⟨eL, I.free, G.ok.ok.above, hnc⟩
    · rcases List.mem_append.mp hp with z | z
      · obtain ⟨h1, h2, _, _, h5⟩ := I.pin p (List.mem_append_left _ z)
        exact ⟨h1, h2, (G.pnY p z).1, h5⟩
      · obtain ⟨h1, h2, _, _, h5⟩ := I.pin p (List.mem_append_right _ (List.mem_append_right _ z))
        exact ⟨h1, h2, (hip p z).1, h5⟩
  · rcases List.mem_cons.mp hp with rfl | hp
    · exact G.loc
    · rcases List.mem_append.mp hp with z | z
      · exact (G.pnY p z).2
      · exact (hip p z).2
theorem g2_yield {e : Expr} {yp : Pos} {te : TE} (he : ∀ s0 H0, PE (reb X s0 H0) e te) (hco : X.env.scope.isCoroutine = false := by rfl) (hi : interactive X.env = false := by rfl) : GS2 X A0 gp c (.Expr (.Yield (some e) yp) pos) (t2Yield c te) := by
  refine ⟨fun A ip R n i Hw s₀ co fs K J gd lv s σ H D G g hn k hI ht => ?_⟩
  obtain ⟨hlt, ht⟩ := ht
  obtain ⟨n, rfl⟩ : ∃ m, n = m + 1 := ⟨n - 1, by omega⟩
  obtain ⟨cp, hC, had, I⟩ := hI
  refine seg_Expr_Yield g.split g.gd g.guard ?_ hco hi
  rw [g.over]
  refine wpAny_mono ((he s₀ Hw).run _ s σ H _ I ht) (fun v s' hv => ?_) fun x s' hx => (G.ok.nox x s' hx).elim
  obtain ⟨x, H1, I1, rv, q1, q2⟩ := hv
  intro kap hk
  obtain ⟨kp, ho, hg, hka, hkm, oL, eL, hLm⟩ := At2.out G g.ipn I1
  refine ⟨i, Hw, cp, kp, H1, x, by omega, hC, ho, hg, hka, rv, q1, fun s'' H' cp' hC' had' e' hsz' hZ hcp hkp => hk .none s'' ?_⟩
  refine k n (i + 1) H' s'' s'' .next (by omega) ⟨σ, H', ⟨cp', hC', ⟨had', hsz'⟩, ?_⟩, q2 H' hZ⟩
  refine rebase G.ok I1 rfl rfl e' hsz' (hkp _ hLm).2 (fun o q => ?_) fun p hp => ?_
  · rw [eL] at q; cases q; exact (hkp _ hLm).1
  · have old : p ∈ X.pn ++ ip → s''.heap.get? p.1 = some p.2 ∧ H' p.1 = none ∧ p.1 ≠ X.env.locals ∧ p.1 ∉ X.fs ∧ ∀ v, p.2.data ≠ .cell v := fun z => by
      obtain ⟨h1, h2⟩ := hkp p (hkm p z)
      have hm : p ∈ (reb X s₀ Hw).pn ++ (cp ++ ip) := by
        rcases List.mem_append.mp z with z | z
        · exact List.mem_append_left _ z
        · exact List.mem_append_right _ (List.mem_append_right _ z)
      obtain ⟨_, _, h3, h4, h5⟩ := I1.pin p hm
      exact ⟨h1, h2, h3, h4, h5⟩
    rcases List.mem_append.mp hp with z | z
    · exact old (List.mem_append_left _ z)
    · rcases List.mem_append.mp z with z | z
      · obtain ⟨h1, h2, h5⟩ := hcp p z
        have hm : p.1 ∈ cp.map (·.1) := by rw [had.1, ← had']; exact List.mem_map_of_mem z
        obtain ⟨p0, hp0, e0⟩ := List.mem_map.mp hm
        obtain ⟨_, _, h3, h4, _⟩ := I1.pin p0 (List.mem_append_right _ (List.mem_append_left _ hp0))
        rw [e0] at h3 h4
        exact ⟨h1, h2, h3, h4, h5⟩
      · exact old (List.mem_append_right _ z)
end
end K10

/-! for in a generator's body. -/
namespace K10
open PySem PySem.Spec PyProof.Rows GenW L2
section
variable {M : Model} {A : Around} {R : GenEnd} {Y : Protocol} {n : Nat} {s₀ : Shared} {c : Code} {fs : List Frame} {s : Shared} {env : Env}
  {K : Flow → Sem PySem.Fin} {J : Value → Sem PySem.Fin} {gd : Bool → Bool} {lv : List Value → List Value}
theorem seg_For {target iter : Expr} {body : List Stmt} {pos : Pos}
    (h : wpAny M (A.over c fs) (eval iter env) (fun x s1 => wpAny M (A.over c fs) (pyIter x) (fun it s2 => ∀ p, Seg M A R Y n s₀ (.forLoop target it body [] env) (M.den (.forLoop target it body [] env))
      (.ret (fun r => ((match r with | .ok f => (.pure f : Sem Flow) | .error e => .raise e).onRaise (cameBack env)).wrap K J gd lv) none (gd false) (lv []) c p [] :: fs) s2) (fun x s' => Seg M A R Y n s₀ c (J x) fs s') s1) (fun x s' => Seg M A R Y n s₀ c (J x) fs s') s)
    (hs : ∀ x, foldedSetIterable iter env x = pure x) : Seg M A R Y n s₀ c ((exec (.For target iter body [] pos) env).wrap K J gd lv) fs s := by
  rw [exec_For]
  refine seg_bind_wrap (wpAny_standAt ?_)
  refine seg_bind_wrap (wpAny_mono h (fun x s1 h1 => ?_) fun _ _ z => z)
  refine seg_bind_wrap (wpAny_of_eq (hs x) ?_)
  refine seg_bind_wrap (wpAny_standAt ?_)
  refine seg_bind_wrap (wpAny_holding (wpAny_mono h1 (fun it s2 h2 => ?_) fun _ _ z => z))
  exact seg_call h2
end

section
variable {X : Cx} {A0 : Around} {gp : Addr × Obj} {c : Con} {pos : Pos}
def t2For (wi : TI) (g : TG) (tb : TG2) : TG2 := fun D i Hw σ H => wi σ H fun J H1 => ∃ W : Nat → Nat → Nat → Hp → L2.St → Hp → Prop, (∃ m, W 0 m i Hw σ H1) ∧ ∀ k m i Hw σ H, W k m i Hw σ H →
  (J.stop k H ∧ D.nx i Hw σ H) ∨ (J.go k H ∧ ∃ N : Nat → Hp → L2.St → Hp → Prop, (∀ i' Hw' σ' H', N i' Hw' σ' H' → ∃ m', m' < m ∧ W (k + 1) m' i' Hw' σ' H') ∧ ∀ x H', J.yld k H x H' → g x σ H' fun σ2 H2 => tb { D with nx := N, ct := N, bk := D.nx } i Hw σ2 H2)
theorem gc2_loop {ip : List (Addr × Obj)} {A : Around} {co c' : Code} {fs : List Frame} {gd : Bool → Bool} {k : Result → Sem PySem.Fin} {l kp : List Value} {p : Pos} (g : GC2 X c ip A co fs gd) (hw : c'.weight = 0) (hu : c'.cUnits = 0) :
    GC2 X c ip A c' (.ret k none (gd false) l co p kp :: fs) id where
  ipn := g.ipn
  over := (over_loop hw hu).trans g.over
  split := by
    show (splitAtGen fs).map _ = none
    rw [g.split]; rfl
  guard := by
    show (gd false || fs.any Frame.guarded) = false
    rw [g.gd, g.guard]; rfl
  gd := rfl
theorem g2_for {tg iter : Expr} {body : List Stmt} {wi : TI} {gt : TG} {tb : TG2} (hi : ∀ s0 H0, PI (reb X s0 H0) tg iter wi) (hg : ∀ s0 H0, PG (reb X s0 H0) tg gt) (hb : GSs2 X A0 gp c body tb)
    (hs : ∀ x, foldedSetIterable iter X.env x = pure x := by intro _; rfl) : GS2 X A0 gp c (.For tg iter body [] pos) (t2For wi gt tb) := by
  refine ⟨fun A ip R n i Hw s₀ co fs K J gd lv s σ H D G g hn k hI ht => ?_⟩
  obtain ⟨cp, hC, had, I⟩ := hI
  refine seg_For ?_ hs
  rw [g.over]
  refine wpAny_mono ((hi s₀ Hw).run _ s σ H _ I ht) (fun v s1 hv => wpAny_mono hv (fun itv s2 h2 => ?_) fun x s' hx => (G.ok.nox x s' hx).elim) fun x s' hx => (G.ok.nox x s' hx).elim
  intro p
  obtain ⟨it, fp, tn, JJ, H2, rfl, I2, T, st2, f2, W, ⟨m0, w0⟩, turn⟩ := h2
  have gl := fun (kk : Result → Sem PySem.Fin) (ip' : List (Addr × Obj)) (hip : ∀ p ∈ ip', X.s_0.heap.objs.size ≤ p.1 ∧ p.1 ∉ c.ads) =>
    gc2_loop (k := kk) (c' := .forLoop tg (.ref it) body [] X.env) (l := lv []) (kp := []) (p := p) (⟨hip, g.over, g.split, g.guard, g.gd⟩ : GC2 X c ip' A co fs gd) rfl rfl
  have stat : ∀ b ∈ fp, b ≠ X.env.locals ∧ b ∉ X.fs ∧ X.s_0.heap.objs.size ≤ b ∧ (∀ p ∈ X.pn ++ ip, p.1 ≠ b) ∧ b ∉ c.ads := fun b hb => by
    obtain ⟨_, f1, f2', f3, _, f5⟩ := f2 b hb
    refine ⟨f1, f2', ?_, fun p hp => f5 p ?_, fun hm => ?_⟩
    · rcases f3 with z | z
      · have e1 : (reb X s₀ Hw).ex = [] := G.ok.ex
        rw [e1] at z; cases z
      · have z' : (cutH X.s_0.heap.objs.size s₀.heap).objs.size ≤ b := z
        rw [cutH_size had.2] at z'; exact z'
    · rcases List.mem_append.mp hp with z | z
      · exact List.mem_append_left _ z
      · exact List.mem_append_right _ (List.mem_append_right _ z)
    · rw [← had.1] at hm
      obtain ⟨p0, hp0, e0⟩ := List.mem_map.mp hm
      exact f5 p0 (List.mem_append_right _ (List.mem_append_left _ hp0)) e0
  have fpok : ∀ {s₀' : Shared} {Hw' H' : Hp} {cp' : List (Addr × Obj)}, (cp'.map (·.1) = c.ads ∧ X.s_0.heap.objs.size ≤ s₀'.heap.objs.size) → (∀ b ∈ fp, H' b = none) → ∀ b ∈ fp, FpOk (reb X s₀' Hw') (cp' ++ ip) H' b := fun {s₀' Hw' H' cp'} ha hz b hb => by
    obtain ⟨f1, f2', f3, f4, f5⟩ := stat b hb
    refine ⟨hz b hb, f1, f2', .inr ?_, fun x c' hc' => ?_, fun p hp => ?_⟩
    · show (cutH _ _).objs.size ≤ b
      rw [cutH_size ha.2]; exact f3
    · have hc2 : X.env.cells.lookup x = some c' := hc'
      rw [G.ok.cells] at hc2; cases hc2
    · rcases List.mem_append.mp hp with z | z
      · exact f4 p (List.mem_append_left _ z)
      · rcases List.mem_append.mp z with z | z
        · intro e
          refine f5 ?_
          rw [← e, ← ha.1]
          exact List.mem_map_of_mem z
        · exact f4 p (List.mem_append_right _ z)
  have loop : ∀ (m n i k' : Nat) (Hw : Hp) (s₀ s : Shared) (σ : L2.St) (H : Hp), n + i = c.N → W k' m i Hw σ H → tn k' s.heap → (∀ b ∈ fp, H b = none) → At2 X c ip i Hw σ H s₀ s →
      Seg (model X.prog X.w) A R (Y2 X A0 gp c) n s₀ (.forLoop tg (.ref it) body [] X.env) ((model X.prog X.w).den (.forLoop tg (.ref it) body [] X.env))
        (.ret (fun r => ((match r with | .ok f => (.pure f : Sem Flow) | .error e => .raise e).onRaise (cameBack X.env)).wrap K J gd lv) none (gd false) (lv []) co p [] :: fs) s := by
    intro m
    induction m using Nat.strongRecOn with
    | ind m ih =>
      intro n i k' Hw s₀ s σ H hn w hst hz hI
      obtain ⟨cp, hC, had, I⟩ := hI
      have ov : A.over (.forLoop tg (.ref it) body [] X.env) (.ret (fun r => ((match r with | .ok f => (.pure f : Sem Flow) | .error e => .raise e).onRaise (cameBack X.env)).wrap K J gd lv) none (gd false) (lv []) co p [] :: fs) = X.A :=
        (gl _ ip g.ipn).over
      show Seg _ A R _ n s₀ _ ((forTurn tg (.ref it) body [] X.env).onRaise (fun x => do noteFrame x X.env; theTreesLotGoes x)) _ s
      unfold forTurn
      rw [Sem.onRaise_eq_wrap]
      refine seg_bind_wrap (wpAny_standAt ?_)
      refine seg_bind_wrap (wpAny_onRaise ?_)
      rw [ov]
      rcases turn k' m i Hw σ H w with ⟨stop, qn⟩ | ⟨go, N, hN, step⟩
      · refine wpAny_mono (T.done (reb X s₀ Hw) rfl rfl rfl G.calm k' _ s σ H (fun _ _ => False) I (fpok had hz) hst stop) (fun r s4 ⟨hr, I4⟩ => ?_) fun _ _ z => z.elim
        subst hr
        refine seg_again rfl ?_
        refine seg_leaf (.ok .next) (k n i Hw s₀ s4 .next hn ⟨σ, H, ⟨cp, hC, had, I4⟩, qn⟩)
      · refine wpAny_mono (T.item (reb X s₀ Hw) rfl rfl rfl G.calm k' _ s σ H (fun _ _ => False) I (fpok had hz) hst go) (fun r s4 ⟨u, hr, h4⟩ => ?_) fun _ _ z => z.elim
        subst hr
        refine seg_bind_wrap ?_
        rw [ov]
        refine wpAny_mono h4 (fun _ s5 ⟨x, H5, I5, r5, y5, st5, fr5⟩ => ?_) fun _ _ z => z.elim
        have I5' := I5.pinned (fpok had fr5) (T.obj _ _ st5)
        refine seg_bind_wrap ?_
        rw [ov]
        refine wpAny_mono ((hg s₀ Hw).run _ s5 σ H5 x u _ I5' r5 (step x H5 y5)) (fun _ s6 ⟨σ6, H6, I6, q6⟩ => ?_) fun x s' hx => (G.ok.nox x s' hx).elim
        rw [List.append_assoc] at I6
        have hip' : ∀ p ∈ ip ++ pinsAt fp s5.heap, X.s_0.heap.objs.size ≤ p.1 ∧ p.1 ∉ c.ads := fun q hq => by
          rcases List.mem_append.mp hq with z | z
          · exact g.ipn q z
          · obtain ⟨hb, _⟩ := of_pinsAt z
            obtain ⟨_, _, f3, _, f5⟩ := stat q.1 hb
            exact ⟨f3, f5⟩
        rw [Sem.bind_eq_wrap', Sem.wrap_wrap]
        refine hb.run A (ip ++ pinsAt fp s5.heap) R n i Hw s₀ _ _ _ _ _ _ s6 σ6 H6 { D with nx := N, ct := N, bk := D.nx } G (gl _ _ hip') hn (fun n' i' Hw' s₀' s7 f hn' hs => ?_) ⟨cp, hC, had, I6⟩ q6
        have again : ∀ {σ7 : L2.St} {H7 : Hp}, At2 X c (ip ++ pinsAt fp s5.heap) i' Hw' σ7 H7 s₀' s7 → N i' Hw' σ7 H7 → ∃ m', m' < m ∧ W (k' + 1) m' i' Hw' σ7 H7 ∧ tn (k' + 1) s7.heap ∧ (∀ b ∈ fp, H7 b = none) ∧ At2 X c ip i' Hw' σ7 H7 s₀' s7 := fun {σ7 H7} ⟨cp7, hC7, had7, I7⟩ n7 => by
          obtain ⟨m', hm, w7⟩ := hN i' Hw' σ7 H7 n7
          have pinAt : ∀ b ∈ fp, ∀ o, s5.heap.get? b = some o → s7.heap.get? b = some o ∧ H7 b = none := fun b hb o e => by
            obtain ⟨h1, h2, _⟩ := I7.pin (b, o) (List.mem_append_right _ (List.mem_append_right _ (List.mem_append_right _ (mem_pinsAt hb e))))
            exact ⟨h1, h2⟩
          refine ⟨m', hm, w7, T.keep _ _ _ st5 fun b hb o e => (pinAt b hb o e).1, fun b hb => ?_, cp7, hC7, had7, I7.pins_of fun q hq => I7.pin q ?_⟩
          · obtain ⟨o, e, _⟩ := T.obj _ _ st5 b hb
            exact (pinAt b hb o e).2
          · rcases List.mem_append.mp hq with z | z
            · exact List.mem_append_right _ (List.mem_append_left _ z)
            · exact List.mem_append_right _ (List.mem_append_right _ (List.mem_append_left _ z))
        have drop : ∀ {σ7 : L2.St} {H7 : Hp}, At2 X c (ip ++ pinsAt fp s5.heap) i' Hw' σ7 H7 s₀' s7 → At2 X c ip i' Hw' σ7 H7 s₀' s7 := fun {σ7 H7} ⟨cp7, hC7, had7, I7⟩ =>
          ⟨cp7, hC7, had7, I7.pins_of fun q hq => I7.pin q (by
            rcases List.mem_append.mp hq with z | z
            · exact List.mem_append_right _ (List.mem_append_left _ z)
            · exact List.mem_append_right _ (List.mem_append_right _ (List.mem_append_left _ z)))⟩
        cases f with
        | next =>
          obtain ⟨σ7, H7, I7, n7⟩ := hs
          obtain ⟨m', hm, w7, t7, z7, I7'⟩ := again I7 n7
          exact seg_again rfl (ih m' hm n' i' (k' + 1) Hw' s₀' s7 σ7 H7 hn' w7 t7 z7 I7')
        | cont =>
          obtain ⟨σ7, H7, I7, n7⟩ := hs
          obtain ⟨m', hm, w7, t7, z7, I7'⟩ := again I7 n7
          exact seg_again rfl (ih m' hm n' i' (k' + 1) Hw' s₀' s7 σ7 H7 hn' w7 t7 z7 I7')
        | brk =>
          obtain ⟨σ7, H7, I7, q7⟩ := hs
          exact seg_leaf (.ok .next) (k n' i' Hw' s₀' s7 .next hn' ⟨σ7, H7, drop I7, q7⟩)
        | ret v =>
          obtain ⟨x7, σ7, H7, I7, r7, q7⟩ := hs
          exact seg_leaf (.ok (.ret v)) (k n' i' Hw' s₀' s7 (.ret v) hn' ⟨x7, σ7, H7, drop I7, r7, q7⟩)
  exact loop m0 n i 0 Hw s₀ s2 σ H2 hn w0 st2 (fun b hb => (f2 b hb).1) ⟨cp, hC, had, I2⟩
end
end K10

/-! A generator def by its body, for any consumer. -/
namespace K10
open PySem PySem.Spec PyProof.Rows GenW L2

def gxOf (P : Program) (w : World) (K : PySem.W.Frag) (mg : Str → Option Value) (base : Heap) (N : List Str) (qual : Str) (scope : Scope) (f : Addr) (cd : Value) (A : Around) (outer : List Env) (s : Shared) (H : Hp) (pn : List (Addr × Obj)) : Cx :=
  { gcxOf P w K mg base N qual scope f cd A outer s H (fun _ _ _ => False) pn with xe := fun _ _ => False }

/-- what a call of a generator def gives: a generator that has not begun -/
def GMade2 (P : Program) (w : World) (K : PySem.W.Frag) (mg : Str → Option Value) (base : Heap) (k : Nat) (outer : List Env) (H : Hp) (s : Shared) (sp : Con → Prop) (u : Value) (s' : Shared) : Prop :=
  ∃ (a : Addr) (g : Nat) (go : Obj) (co : Code), u = .ref a ∧ s.heap.objs.size ≤ a ∧ a < s'.heap.objs.size ∧ (∀ h : Heap, h.get? a = some go → h.IsGen a g) ∧ s'.heap.get? a = some go ∧ s'.gens[g]? = some (.fresh co) ∧ s'.os = s.os ∧ AllBare s'.gens ∧ s'.heap.NoLimit ∧
    (∀ b o, s.heap.get? b = some o → s'.heap.get? b = some o) ∧
    ∀ (A : Around) (c : Con) (s2 : Shared) (cp : List (Addr × Obj)), Room k A → A.frames = some outer → sp c → (∀ b o, s'.heap.get? b = some o → s2.heap.get? b = some o) → s2.os = s.os → AllBare s2.gens → c.C 0 H cp s2 → cp.map (·.1) = c.ads →
      (∀ p ∈ cp, s2.heap.get? p.1 = some p.2 ∧ s'.heap.objs.size ≤ p.1 ∧ ∀ v, p.2.data ≠ .cell v) →
      Seg (model P w) A (GRc P w outer s.heap.objs.size (a, go) c) (GYc P w K mg base A outer s.heap.objs.size (a, go) c) c.N s2 co ((model P w).den co) [] s2
abbrev SpG2 := List V → Hp → Con → Prop
structure GFn2 (P : Program) (w : World) (K : PySem.W.Frag) (mg : Str → Option Value) (base : Heap) (k : Nat) (f : Addr) (fd : FuncData) (ps : List Str) (sp : SpG2) : Prop where
  run : ∀ (A : Around) (outer : List Env) (s : Shared) (H : Hp) (args : Args) (us : List Value) (vs : List V), Room k A → Env0 P w K mg base A outer s H → BindsTo s fd args (ps.zip us) → Vals vs us → vs.length = ps.length →
    codeAny (model P w) A (.call (.ref f) args) (fun r s' => match r with | .ok (.ret u) => GMade2 P w K mg base k outer H s (sp vs H) u s' | _ => False) s

theorem gfn2_of {P : Program} {w : World} {K : PySem.W.Frag} {mg : Str → Option Value} {base : Heap} {k : Nat} {f : Addr} {name qual : Str} {params : Arguments} {body : List Stmt} {scope : Scope} {dV kV doc pm cdv ct oc : Value} {an od : Option Addr}
    {osl : Array (Option Value)} {N ps : List Str} {sp : SpG2} (lk : K.lookup f = some ⟨oc, od, .func (PySem.W.fnOf name qual params body scope dV kV doc pm an cdv ct), osl⟩) (hcd : PySem.W.codeIn K cdv qual = true) (S : GScope N ps scope)
    (hcl : ∀ n, cellsFrom n scope.names [] = [])
    (hbody : ∀ (A : Around) (outer : List Env) (s : Shared) (H : Hp) (vs : List V) (c : Con) (pn : List (Addr × Obj)) (A0 : Around) (gp : Addr × Obj), Room k (A.deeper (envOfC qual scope s.heap.objs.size f cdv)) → sp vs H c →
      ∃ t, GSs2 (gxOf P w K mg base N qual scope f cdv A outer s H pn) A0 gp c body t ∧ t { nx := fun i Hw _ H' => c.fin i Hw H', rt := fun i Hw v H' => v = .non ∧ c.fin i Hw H' } 0 H (start N vs) H) :
    GFn2 P w K mg base (k + 1) f (PySem.W.fnOf name qual params body scope dV kV doc pm an cdv ct) ps sp := by
  refine ⟨fun A outer s H args us vs hr e0 hb r hl => ?_⟩
  have KX : K.In s.heap := e0.mod.kin.keeps fun b o e => (e0.bs b o e).1
  have lim : s.heap.NoLimit := e0.mod.nolimit.keeps fun b o e => (e0.bs b o e).1
  have hkind : ∀ y ∈ ps.zip us, scope.names.lookup y.1 = some .local ∨ (scope.names.lookup y.1 = some .cell ∧ ((cellsFrom (s.heap.objs.size + 1) scope.names []).lookup y.1).isSome = true) := fun ⟨n, v⟩ hy => by
    rcases S.par n (List.of_mem_zip hy).1 with q | q
    · exact .inl q
    · exact .inr ⟨q, PySem.W.cellsFrom_some _ _ _ (.inl q)⟩
  refine codeAny_call_generator hr.depth (KX _ _ lk) rfl S.co S.gen rfl (PySem.W.codeRec_of KX hcd) (hb _ _ _ _ ?_)
  refine wpAny_newFunctionEnv_cells S.kind hkind fun env he s1 x => ?_
  subst he
  have lim1 : s1.heap.NoLimit := lim.keeps x.toInCall.keep
  refine ⟨lim1, ?_⟩
  obtain ⟨h1, tk, es1, hk1⟩ := x.done
  have os1 : s1.os = s.os := by rw [es1]
  have gen1 : s1.gens = s.gens := by rw [es1]
  have lt1 : s.heap.objs.size < s1.heap.objs.size := x.toInCall.ns.lt
  have sz1 : s.heap.objs.size ≤ s1.heap.objs.size := Nat.le_of_lt lt1
  have kp1 : ∀ b o, s.heap.get? b = some o → s1.heap.get? b = some o := x.toInCall.keep
  have main : ∀ (go : Obj) (nm qn : Value) (tk2 : Nat), go.cls = .type "generator" → go.data = .fields #[.int s1.gens.size 0, nm, qn] → go.slots = #[] → (∀ h : Heap, (h.push go).get? h.objs.size = some go) →
      GMade2 P w K mg base (k + 1) outer H s (sp vs H) (.ref s1.heap.objs.size) { s1 with gens := s1.gens.push (.fresh (.func body (envOfC qual scope s.heap.objs.size f cdv))), toks := tk2, heap := s1.heap.push go } := by
    intro go nm qn tk2 hgc hgd0 hgs hgp
    have hgen : ∀ h : Heap, h.get? s1.heap.objs.size = some go → h.IsGen s1.heap.objs.size s1.gens.size := fun h e => ⟨go, nm, qn, e, hgc, hgd0, hgs⟩
    have hpushed : (s1.heap.push go).get? s1.heap.objs.size = some go := hgp _
    refine ⟨s1.heap.objs.size, s1.gens.size, go, _, rfl, sz1, ?_, hgen, hpushed, Array.getElem?_push_size .., os1, ?_, lim1.keeps fun b o e => Heap.get?_push_of_some _ e, fun b o e => Heap.get?_push_of_some _ (kp1 b o e), ?_⟩
    · show _ < (s1.heap.push _).objs.size
      rw [Heap.size_push]; exact Nat.lt_succ_self _
    · exact AllBare.push (by rw [gen1]; exact e0.bare) rfl
    intro Aw c s2 cp hrw hfr hsp hk2 hos hba hC had hcp
    have e0w : Env0 P w K mg base Aw outer s H := ⟨hfr, e0.mod, e0.bs, e0.bsz, e0.funs, e0.frf, e0.hok, e0.bare⟩
    obtain ⟨t, ht, hq⟩ := hbody Aw outer s H vs c [(s1.heap.objs.size, go)] Aw (s1.heap.objs.size, go) (hrw.deeper _) hsp
    have I1 : Inv (gcxOf P w K mg base N qual scope f cdv Aw outer s H (fun _ _ _ => False) []) [] (start N vs) H s1 := inv_startG S hrw.hd e0w hl r x
    have kp2 : ∀ b o, s1.heap.get? b = some o → s2.heap.get? b = some o := fun b o e => hk2 b o (Heap.get?_push_of_some _ e)
    have I2 : Inv (gcxOf P w K mg base N qual scope f cdv Aw outer s H (fun _ _ _ => False) []) [] (start N vs) H s2 :=
      I1.call' (ch := []) (hos.trans os1.symm) (Un.kept kp2) (I1.hok.kept kp2) hba fun b z => by simp at z
    have hgd : ∀ v, go.data ≠ .cell v := fun v q => by rw [hgd0] at q; cases q
    have hea : s2.heap.get? s1.heap.objs.size = some go := hk2 s1.heap.objs.size go hpushed
    have young : ∀ b, s1.heap.objs.size ≤ b → H b = none ∧ b ≠ s.heap.objs.size ∧ b ∉ frs outer ∧ s.heap.objs.size ≤ b := fun b hb =>
      ⟨I1.hok.fresh hb, Nat.ne_of_gt (Nat.lt_of_lt_of_le lt1 hb), I1.nofs hb, Nat.le_trans sz1 hb⟩
    have hsz2 : s.heap.objs.size ≤ s2.heap.objs.size := Nat.le_trans sz1 (Nat.le_of_lt (Heap.lt_size hea))
    have hcpY : ∀ p ∈ cp, s1.heap.objs.size < p.1 := fun p hp => by
      have q : (s1.heap.push go).objs.size ≤ p.1 := (hcp p hp).2.1
      rw [Heap.size_push] at q
      exact q
    let XX := gxOf P w K mg base N qual scope f cdv Aw outer s H [(s1.heap.objs.size, go)]
    have adY : ∀ b ∈ c.ads, s1.heap.objs.size < b := fun b hb => by
      rw [← had] at hb
      obtain ⟨p0, hp0, e0'⟩ := List.mem_map.mp hb
      rw [← e0']; exact hcpY p0 hp0
    have gok : GOk XX := ⟨⟨I1.ok.mod, I1.ok.kind, I1.ok.glob, I1.ok.blt, I1.ok.above, I1.ok.inj, I1.ok.has, I1.ok.cab, I1.ok.hd, I1.ok.frames, I1.ok.stk, I1.ok.exf, I1.ok.bs, I1.ok.bsz, I1.ok.noex, I1.ok.exfs, I1.ok.funs, I1.ok.frf⟩,
      rfl, hcl _, fun _ _ h => h⟩
    have gg : GG XX (s1.heap.objs.size, go) c := ⟨gok, List.mem_singleton.mpr rfl, fun p hp => by
        rw [List.mem_singleton.mp hp]
        exact ⟨sz1, fun hm => absurd (adY _ hm) (Nat.lt_irrefl _)⟩, fun hm => absurd (Nat.lt_trans (adY _ hm) lt1) (Nat.lt_irrefl _), PassesOwn.never, rfl⟩
    have e2 : Env0 P w K mg base Aw outer s2 H := ⟨hfr, e0.mod, fun b o e => ⟨kp2 b o (kp1 b o (e0.bs b o e).1), (e0.bs b o e).2⟩, Nat.le_trans e0.bsz hsz2, I2.funs, e0.frf, I2.hok, hba⟩
    have J2 : Inv (reb XX s2 H) (cp ++ []) (start N vs) H s2 := by
      refine rebase (X := XX) gok I2 rfl rfl e2 hsz2 I2.free (fun o e => e) fun p hp => ?_
      rcases List.mem_append.mp hp with z | z
      · rw [List.mem_singleton.mp z]
        obtain ⟨y1, y2, y3, _⟩ := young s1.heap.objs.size (Nat.le_refl _)
        exact ⟨hea, y1, y2, y3, hgd⟩
      · rw [List.append_nil] at z
        obtain ⟨q1, q2, q3⟩ := hcp p z
        obtain ⟨y1, y2, y3, _⟩ := young p.1 (Nat.le_of_lt (hcpY p z))
        exact ⟨q1, y1, y2, y3, q3⟩
    refine seg_func ?_
    refine ht.run Aw [] _ c.N 0 H s2 _ [] _ _ id id s2 (start N vs) H _ gg ⟨fun p hp => (by simp at hp), over_func, rfl, rfl, rfl⟩ (Nat.add_zero _) (fun n i Hw s₀ s' fl hn hs => ?_) ⟨cp, hC, ⟨had, hsz2⟩, J2⟩ hq
    have fin : ∀ {σ' : L2.St} {H' : Hp}, At2 XX c [] i Hw σ' H' s₀ s' → c.fin i Hw H' → GRc P w outer s.heap.objs.size (s1.heap.objs.size, go) c n s₀ (.ok (.ret .none)) s' := fun {σ' H'} ⟨cp', hC', _, I'⟩ hf => by
      obtain ⟨kp, ho, hg, _⟩ := At2.out gg (fun p hp => (by simp at hp)) I'
      exact ⟨rfl, i, Hw, cp', kp, H', hn, hC', ho, hg, hf⟩
    cases fl with
    | next =>
      obtain ⟨σ', H', hI, hQ⟩ := hs
      exact seg_end (.ok (.ret .none)) (fin hI hQ)
    | brk => obtain ⟨_, _, _, q⟩ := hs; exact False.elim q
    | cont => obtain ⟨_, _, _, q⟩ := hs; exact False.elim q
    | ret u =>
      obtain ⟨v, σ', H', hI, rv, ev, hQ⟩ := hs
      subst ev
      obtain rfl : u = Value.none := rv
      exact seg_end (.ok (.ret .none)) (fin hI hQ)
  exact main _ _ _ _ rfl rfl rfl fun h => Heap.get?_push_size _ rfl
end K10

/-! Generators made by a method; list(g). -/
namespace K10
open PySem PySem.Spec PyProof.Rows GenW L2

theorem FunD.okG2 {P : Program} {w : World} {K : PySem.W.Frag} {mg : Str → Option Value} {base : Heap} {x qual : Str} {params : Arguments} {body : List Stmt} {scope : Scope} {dvs : List V} {kws : List (Str × V)} {f : Addr} {fd : FuncData} {N ps : List Str} {k : Nat} {sp : SpG2}
    (F : FunD K x qual params body scope dvs kws f fd) (S : GScope N ps scope) (hcl : ∀ n, cellsFrom n scope.names [] = [])
    (hbody : ∀ (cdv : Value) (A : Around) (outer : List Env) (s : Shared) (H : Hp) (vs : List V) (c : Con) (pn : List (Addr × Obj)) (A0 : Around) (gp : Addr × Obj), Room k (A.deeper (envOfC qual scope s.heap.objs.size f cdv)) → sp vs H c →
      ∃ t, GSs2 (gxOf P w K mg base N qual scope f cdv A outer s H pn) A0 gp c body t ∧ t { nx := fun i Hw _ H' => c.fin i Hw H', rt := fun i Hw v H' => v = .non ∧ c.fin i Hw H' } 0 H (start N vs) H) :
    GFn2 P w K mg base (k + 1) f fd ps sp := by
  obtain ⟨oc, od, dV, kV, doc, pm, an, cdv, ct, osl, rfl, lk, hcd, _, _⟩ := F.ex
  exact gfn2_of lk hcd S hcl fun A outer s H vs c pn A0 gp hr hsp => hbody cdv A outer s H vs c pn A0 gp hr hsp

abbrev TGen2 := L2.St → Hp → ((Con → Prop) → Hp → Prop) → Prop
/-- an expression whose value is a generator that has not begun -/
structure PGen2 (X : Cx) (k : Nat) (e : Expr) (tg : TGen2) : Prop where
  run : ∀ (pins : List (Addr × Obj)) (s : Shared) (σ : L2.St) (H : Hp) (R : (Con → Prop) → Hp → Prop), Inv X pins σ H s → tg σ H R → wpAny (model X.prog X.w) X.A (eval e X.env)
    (fun u s' => ∃ H1 sc sp, Inv X pins σ H1 sc ∧ GMade2 X.prog X.w X.K X.mg X.base k X.stack H1 sc sp u s' ∧ R sp H1) X.xe s
section
variable {X : Cx} {k n : Nat} {f C : Addr} {fd : FuncData} {ps ks : List Str} {sp : SpG2} {dvs : List V} {ds : List Value} {x m : Str} {p pos pos' apos : Pos} {e o : Expr} {es : List Expr} {kws : List Keyword} {ta : TE} {t tk : TA}
theorem run_gfn2 {pins : List (Addr × Obj)} {σ : L2.St} {H : Hp} {s : Shared} {args : Args} {us : List Value} {vs : List V} {R : (Con → Prop) → Hp → Prop} {E1 : Value → Shared → Prop} (F : GFn2 X.prog X.w X.K X.mg X.base k f fd ps sp) (hr : Room k X.A) (hb : BindsTo s fd args (ps.zip us))
    (I : Inv X pins σ H s) (r : Vals vs us) (hl : vs.length = ps.length) (h : R (sp vs H) H) :
    wpAny (model X.prog X.w) X.A (call (.ref f) args.pos args.kw) (fun u s' => ∃ H1 sc sp, Inv X pins σ H1 sc ∧ GMade2 X.prog X.w X.K X.mg X.base k X.stack H1 sc sp u s' ∧ R sp H1) E1 s := by
  refine wpAny_call (codeAny_mono (F.run X.A X.stack s H args us vs hr I.env0 hb r hl) fun r s' hq => ?_)
  cases r with
  | error e => exact False.elim hq
  | ok fl =>
    cases fl with
    | ret u => exact ⟨H, s, _, I, hq, h⟩
    | next => exact False.elim hq
    | brk => exact False.elim hq
    | cont => exact False.elim hq
def tMethG2 (C : Addr) (m : Str) (sp : SpG2) (np : Nat) (dvs : List V) (ta : TE) (t : TA) : TGen2 := fun σ H R => ta σ H fun x H1 => ∃ a dx fs, x = .ref a ∧ H1 a = some (.ins C dx fs) ∧ fs.lookup m = none ∧
  t σ H1 fun vs H2 => (x :: (vs ++ dvs)).length = np ∧ R (sp (x :: (vs ++ dvs)) H2) H2
/-- o.m(e, ..) -/
theorem pgen2_meth {pl : Sem Bool} (he : PE X o ta) (c : Cls X.K C) (hm : Meth X.K C m f) (F : GFn2 X.prog X.w X.K X.mg X.base k f fd ps sp) (hr : Room k X.A) (hb : Binds X.K fd ps ds) (hd : Vals dvs ds) (ha : PA X (e :: es) t)
    (hst : starEach (e :: es) X.env = (false, eval e X.env) :: starEach es X.env := by rfl) (hpl : (backTo pos' (starEach es X.env)).any (·.1) = false := by rfl)
    (ht : eval (.Call (.Attribute o m apos) (e :: es) [] pos') X.env = (do
      let ov ← eval o X.env
      standAt apos.atName
      let (f, first) ← holding [ov] (getMethod ov m pl)
      callWith pos' f first (backTo pos' (starEach (e :: es) X.env)) (backToKw pos' (keywordEach [] X.env))) := by rfl) :
    PGen2 X k (.Call (.Attribute o m apos) (e :: es) [] pos') (tMethG2 C m sp ps.length dvs ta t) := by
  refine ⟨fun pins s σ H cont I h => ?_⟩
  refine PySem.W.methodCall_KW (pl := pl) (thn (he.run pins s σ H _ I h) fun u s1 ⟨x, H1, I1, rx, a, dx, fs, ex, ea, l, q⟩ => ?_) ht
  subst ex
  obtain rfl : u = Value.ref a := rx
  refine getmeth_ok I1 ea c hm l ?_
  refine PySem.W.callWith_K (first := [.ref a]) (h₀ := X.base) I.ok.mod.kin hm.kp (thn (ha.run pos' pins s1 σ H1 _ I1 q) fun us s2 ⟨vs, H2, I2, r, hl, q2⟩ => ⟨I2.kIn, ?_⟩) hst hpl
  have r2 : Vals (V.ref a :: (vs ++ dvs)) (Value.ref a :: (us ++ ds)) := .cons rfl (r.append hd)
  exact run_gfn2 (args := ⟨.ref a :: us, []⟩) F hr (hb s2 (.ref a :: us) I2.kIn (by rw [← hl, r2.length]; rfl)) I2 r2 hl q2
def tMethKG2 (C : Addr) (m : Str) (sp : SpG2) (np n nk : Nat) (gV : List V → List V → List V) (ta : TE) (t tk : TA) : TGen2 := fun σ H R => ta σ H fun x H1 => ∃ a dx fs, x = .ref a ∧ H1 a = some (.ins C dx fs) ∧ fs.lookup m = none ∧
  t σ H1 fun vs H2 => tk σ H2 fun zs H3 => vs.length = n ∧ zs.length = nk ∧ (gV (x :: vs) zs).length = np ∧ R (sp (gV (x :: vs) zs) H3) H3
/-- o.m(e, .., k = v, ..) -/
theorem pgen2_methK {pl : Sem Bool} {g : List Value → List Value → List Value} {gV : List V → List V → List V} (he : PE X o ta) (c : Cls X.K C) (hm : Meth X.K C m f) (F : GFn2 X.prog X.w X.K X.mg X.base k f fd ps sp) (hr : Room k X.A) (hb : KBn X.K fd ps (n + 1) ks g gV) (ha : PA X (e :: es) t) (hkw : PK X kws tk)
    (hall : (backToKw pos' (keywordEach kws X.env)).all (·.1.isSome) = true := by rfl) (hks : (backToKw pos' (keywordEach kws X.env)).filterMap (·.1) = ks := by rfl)
    (hst : starEach (e :: es) X.env = (false, eval e X.env) :: starEach es X.env := by rfl) (hpl : ((backTo pos' (starEach (e :: es) X.env)).any (·.1) || (backToKw pos' (keywordEach kws X.env)).any (·.1.isNone)) = false := by rfl)
    (ht : eval (.Call (.Attribute o m apos) (e :: es) kws pos') X.env = (do
      let ov ← eval o X.env
      standAt apos.atName
      let (f, first) ← holding [ov] (getMethod ov m pl)
      callWith pos' f first (backTo pos' (starEach (e :: es) X.env)) (backToKw pos' (keywordEach kws X.env))) := by rfl) :
    PGen2 X k (.Call (.Attribute o m apos) (e :: es) kws pos') (tMethKG2 C m sp ps.length n ks.length gV ta t tk) := by
  refine ⟨fun pins s σ H cont I h => ?_⟩
  refine PySem.W.methodCall_KW (pl := pl) (thn (he.run pins s σ H _ I h) fun u s1 ⟨x, H1, I1, rx, a, dx, fs, ex, ea, l, q⟩ => ?_) ht
  subst ex
  obtain rfl : u = Value.ref a := rx
  refine getmeth_ok I1 ea c hm l ?_
  refine PySem.W.callWith_KW (first := [.ref a]) (h₀ := X.base) I.ok.mod.kin hm.kp hall (thn (ha.run pos' pins s1 σ H1 _ I1 q) fun us s2 ⟨vs, H2, I2, r, q2⟩ => ?_) hpl hst
  refine thn (hkw.run pos' pins s2 σ H2 _ I2 q2) fun ws s3 ⟨zs, H3, I3, rz, l1, l2, l3, q3⟩ => ⟨I3.kIn, ?_⟩
  rw [hks]
  have r1 : Vals (V.ref a :: vs) (Value.ref a :: us) := .cons rfl r
  have r2 := hb.rel r1 rz
  refine run_gfn2 (args := ⟨.ref a :: us, ks.zip ws⟩) F hr (hb.to s3 (.ref a :: us) ws I3.kIn ?_ (rz.length.symm.trans l2)) I3 r2 l3 q3
  rw [List.length_cons, ← r.length, l1]
end

theorem un_cut {fs : List Addr} {H H0 H2 : Hp} {h h0 h2 : Heap} {n : Nat} (hn : h.objs.size ≤ n) (a : Un fs [] H H0 h h0) (b : Un fs [] H0 H2 (cutH n h0) h2) : Un fs [] H H2 h h2 := by
  have lt : ∀ {b o}, h.get? b = some o → b < n := fun e => Nat.lt_of_lt_of_le (Heap.lt_size e) hn
  have a' : Un fs [] H H0 h (cutH n h0) := ⟨fun b o e n hb hx => (cutH_get (lt e)).trans (a.keep b o e n hb hx), fun b o e n hb hx => by
      obtain ⟨sl, q⟩ := a.slot b o e n hb hx
      exact ⟨sl, (cutH_get (lt e)).trans q⟩, a.free, fun b o e hx => by
      obtain ⟨o', q⟩ := a.there b o e hx
      exact ⟨o', (cutH_get (lt e)).trans q⟩, a.tups, a.frzs, a.tbls⟩
  exact a'.trans b

/-! ### list(g) -/
def tListG2 (tg : TGen2) : TE := fun σ H Q => tg σ H fun sp H1 => ∃ PP : List V → Hp → Prop, PP [] H1 ∧ ∀ C ads, sp { N := sizeLine, C := C, it := (fun i Hw x H2 => ∀ ys, ys.length = i → PP ys Hw → PP (ys ++ [x]) H2), fin := (fun i Hw H2 => ∀ ys, ys.length = i → PP ys Hw → ∀ p, H2 p = none → Q (.ref p) (upd H2 p (.lst ys))), Z := (fun H H' => H' = H), ads := ads }
section
variable {X : Cx} {k : Nat} {p pos : Pos}
theorem pe_listG2 {e : Expr} {tg : TGen2} {nm : Str} (h : PGen2 X k e tg) (hr : Room (k + 3) X.A) (hg : Gl X nm) (hmg : X.mg nm = none) (hv : bootBuiltins nm = some (.type "list")) (hnm : nm ≠ "__name__" := by decide) (hdb : (nm == ("__debug__" : Str)) = false := by decide)
    (he : starEach [e] X.env = (false, eval e X.env) :: starEach [] X.env := by rfl) : PE X (.Call (.Name nm p) [e] [] pos) (tListG2 tg) := by
  refine ⟨fun pins s σ H Q I hq => ?_⟩
  refine wpAny_Call_Name_kw (ld_blt I hg hmg hv ?_ hnm hdb)
  refine PyProof.Rows.callWith_type1 ?_ he rfl
  rw [he]
  show wpAny _ _ (spliced ((false, eval e X.env) :: backTo pos (starEach [] X.env))) _ _ s
  refine Calls.spliced_cons (thn (h.run pins s σ H _ I hq) fun u s1 ⟨H1, sc, sp, I1, hG, PP, pp0, hsp⟩ => ?_)
  refine Calls.spliced_nil ?_
  obtain ⟨a, g, go, co, rfl, h1, h2, hgen, hgo, hgs, hos, hba, hlim, hkp, wake⟩ := hG
  have hsz : sc.heap.objs.size ≤ s1.heap.objs.size := Nat.le_trans h1 (Nat.le_of_lt h2)
  have made : GMade X.prog X.w k X.stack H1 sc [] (fun ys H2 => ∀ p, H2 p = none → Q (.ref p) (upd H2 p (.lst ys))) (fun _ _ _ => False) (.ref a) s1 := by
    refine ⟨a, g, co, rfl, h1, h2, hgen _ hgo, hgs, hos, hba, hlim, hkp, fun A S s2 hrA hfA hS hk2 hS2 hos2 hba2 => ?_⟩
    obtain ⟨cS, heS⟩ := hS2
    have env : ∀ {H' : Hp} {s' : Shared}, s'.os = sc.os → Un (frs X.stack) [] H1 H' sc.heap s'.heap → HOk X.prog X.w H' s'.heap → AllBare s'.gens → Env0 X.prog X.w X.K X.mg X.base A X.stack s' H' := fun {H' s'} q1 q2 q3 q4 => by
      have I' : Inv X pins σ H' s' := I1.call' (ch := []) q1 q2 q3 q4 fun b z => by simp at z
      have e' := I'.env0
      exact ⟨hfA, e'.mod, e'.bs, e'.bsz, e'.funs, e'.frf, e'.hok, e'.bare⟩
    have hHS : H1 S = none := I1.hok.fresh (Nat.le_trans hsz hS)
    let CH : Con := { N := sizeLine, C := fun i H' cp s' => ∃ acc cc ys, cp = [(S, lstObj acc cc)] ∧ Vals ys acc.toList ∧ ys.length = i ∧ PP ys H' ∧ Un (frs X.stack) [] H1 H' sc.heap s'.heap ∧ s'.os = sc.os, it := (fun i Hw x H2 => ∀ ys, ys.length = i → PP ys Hw → PP (ys ++ [x]) H2), fin := (fun i Hw H2 => ∀ ys, ys.length = i → PP ys Hw → ∀ p, H2 p = none → Q (.ref p) (upd H2 p (.lst ys))), Z := (fun H H' => H' = H), ads := [S] }
    have kk : ∀ b o, sc.heap.get? b = some o → s2.heap.get? b = some o := fun b o e => hk2 b o (hkp b o e)
    have sg := wake A CH s2 [(S, lstObj #[] cS)] hrA hfA (hsp _ _) hk2 hos2 hba2 ⟨#[], cS, [], rfl, .nil, rfl, pp0, Un.kept kk, hos2⟩ rfl fun p hp => by
      rw [List.mem_singleton.mp hp]
      exact ⟨heS, hS, fun v q => by cases q⟩
    refine seg_imp (fun n s₀ r s' hR => ?_) (fun n s₀ v s' kap kap' hkk hY => ?_) sizeLine sg
    · obtain ⟨rfl, i, H0, cp, kp, H', hn, ⟨acc, cc, ys, rfl, rv, hl, hp, hu, ho⟩, O, _, hf⟩ := hR
      obtain ⟨q1, q2⟩ := O.cp (S, lstObj acc cc) List.mem_cons_self
      have hn' : n + i = sizeLine := hn
      exact .inl ⟨.inl rfl, H', ys, acc, cc, O.os.trans ho, O.bare, un_cut (Nat.le_refl _) hu O.un, O.hok, q2, q1, rv, by omega, hf ys hl hp⟩
    · obtain ⟨i, H0, cp, kp, H', x, hn, ⟨acc, cc, ys, rfl, rv, hl, hp, hu, ho⟩, O, hgk, hka, rx, hit, hk⟩ := hY
      obtain ⟨q1, q2⟩ := O.cp (S, lstObj acc cc) List.mem_cons_self
      have hn' : n + 1 + i = sizeLine := hn
      have hac : acc.size = i := by
        have e1 := rv.length
        have e2 : acc.toList.length = acc.size := by simp
        omega
      refine ⟨O.os.trans ho, O.bare, O.lim, hgen _ (O.kp _ hgk).1, ⟨acc, cc, q1, by rw [hac]; exact hn'⟩, fun s3 z => hkk _ _ ?_⟩
      obtain ⟨c', eS'⟩ := z.own acc cc q1
      have nt : ∀ b u, H' b = some u → b ≠ S := fun b u q hb => by rw [hb, q2] at q; cases q
      have hok3 : HOk X.prog X.w H' s3.heap := fun b u q => (O.hok b u q).stay (fun c v hc y => z.keep c v (by
        rcases hc with y' | y'
        · rw [y']; exact nt b u q
        · exact nt c _ y') y) (fun _ y => y) fun _ _ y => y
      have un1 := un_cut (Nat.le_refl _) hu O.un
      have ltS : ∀ b o, sc.heap.get? b = some o → b ≠ S := fun b o e => Nat.ne_of_lt (Nat.lt_of_lt_of_le (Heap.lt_size e) (Nat.le_trans hsz hS))
      have un3 : Un (frs X.stack) [] H1 H' sc.heap s3.heap := ⟨fun b o e n hb hx => z.keep b o (ltS b o e) (un1.keep b o e n hb hx), fun b o e n hb hx => by
          obtain ⟨sl, q⟩ := un1.slot b o e n hb hx
          exact ⟨sl, z.keep b _ (ltS b o e) q⟩, un1.free, fun b o e hx => by
          obtain ⟨o', q⟩ := un1.there b o e hx
          exact ⟨o', z.keep b _ (ltS b o e) q⟩, un1.tups, un1.frzs, un1.tbls⟩
      have os3 : s3.os = sc.os := z.os.trans (O.os.trans ho)
      refine hk s3 H' [(S, lstObj (acc.push v) c')] ⟨acc.push v, c', ys ++ [x], rfl, ?_, by rw [List.length_append, hl]; rfl, hit ys hl hp, un3, os3⟩ rfl (env os3 un3 hok3 z.bare) ?_ rfl (fun p hp => ?_) fun p hp => ?_
      · rw [Array.toList_push]
        exact rv.append (.cons rx .nil)
      · exact Nat.le_of_lt (Nat.lt_of_le_of_lt (Nat.le_trans hsz hS) (Heap.lt_size eS'))
      · rw [List.mem_singleton.mp hp]
        exact ⟨eS', q2, fun v q => by cases q⟩
      · obtain ⟨w1, w2, _, _⟩ := O.kp p hp
        refine ⟨z.keep p.1 p.2 (fun e => hka p hp ?_) w1, w2⟩
        show p.1 ∈ [S]
        rw [e]; exact List.mem_singleton.mpr rfl
  refine call_list_new hr I1.ok.frames made (fun S s' acc c H' ys q0 q1 q2 hl q3 q4 q5 q6 q7 q8 => ?_) fun e s' g hc => ?_
  · exact ⟨.ref S, upd H' S (.lst ys), I1.drained (Nat.le_trans hsz q0) hl q1 q2 .nil q3 q4 q5 q6 q7, rfl, q8 S q7⟩
  · obtain ⟨_, _, _, _, _, _, _, _, _, _, _, _, z⟩ := hc
    exact z.elim
end
end K10

namespace K10
open PySem PySem.Spec PyProof.Rows GenW L2
section
variable {X : Cx} {A0 : Around} {gp : Addr × Obj} {c : Con} {st : Stmt} {rest : List Stmt}
/-- with a word of what holds between -/
def t2Cut (t u : TG2) : TG2 := fun D i Hw σ H => ∃ M : Nat → Hp → L2.St → Hp → Prop, t { D with nx := M } i Hw σ H ∧ ∀ i Hw σ H, M i Hw σ H → u D i Hw σ H
theorem gss2_cut {t u : TG2} (a : GS2 X A0 gp c st t) (b : GSs2 X A0 gp c rest u) : GSs2 X A0 gp c (st :: rest) (t2Cut t u) := by
  refine ⟨fun A ip R n i Hw s₀ co fs K J gd lv s σ H D G g hn k hI ⟨M, ht, hu⟩ => ?_⟩
  refine seg_execs_cons ?_
  refine a.run A ip R n i Hw s₀ co fs _ J gd lv s σ H { D with nx := M } G g hn (fun n' i' Hw' s₀' s' f hn' hs => ?_) hI ht
  cases f with
  | next =>
    obtain ⟨σ', H', I', q⟩ := hs
    exact b.run A ip R n' i' Hw' s₀' co fs K J gd lv s' σ' H' D G g hn' k I' (hu _ _ _ _ q)
  | brk => exact k n' i' Hw' s₀' s' .brk hn' hs
  | cont => exact k n' i' Hw' s₀' s' .cont hn' hs
  | ret u => exact k n' i' Hw' s₀' s' (.ret u) hn' hs
def t2One (t : TG2) : TG2 := t
theorem gss2_one {t : TG2} (a : GS2 X A0 gp c st t) : GSs2 X A0 gp c [st] t := by
  refine ⟨fun A ip R n i Hw s₀ co fs K J gd lv s σ H D G g hn k hI ht => ?_⟩
  refine seg_execs_cons ?_
  refine a.run A ip R n i Hw s₀ co fs _ J gd lv s σ H D G g hn (fun n' i' Hw' s₀' s' f hn' hs => ?_) hI ht
  cases f with
  | next => exact seg_execs_nil (k n' i' Hw' s₀' s' .next hn' hs)
  | brk => exact k n' i' Hw' s₀' s' .brk hn' hs
  | cont => exact k n' i' Hw' s₀' s' .cont hn' hs
  | ret u => exact k n' i' Hw' s₀' s' (.ret u) hn' hs
end
section
variable {X : Cx} {tg l e : Expr} {es : List Expr} {te tl ta : TE} {t : TA} {p pos : Pos} {K : PySem.W.Frag}
def rLenK (K : PySem.W.Frag) : List V → Hp → VK → Prop := fun xs H Q => ∃ p ys, xs = [V.ref p] ∧ (SqL K H p ys ∨ SqT K H p ys) ∧ Q (.int (ys.length : Nat)) H
theorem pi_listK (hK : X.K = K) (hl : PE X l tl) : PI X tg l (iList K tl) := hK ▸ pi_list hl
theorem pi_tupK (hK : X.K = K) (hl : PE X l tl) : PI X tg l (iTup K tl) := hK ▸ pi_tup hl
theorem pe_fldK {f : Str} (hK : X.K = K) (he : PE X e ta) (hb : attributeBase e f X.env (eval e X.env) = eval e X.env) : PE X (.Attribute e f pos) (tFld K ta f) := hK ▸ pe_fld he hb
theorem pa_starK (hK : X.K = K) (he : PE X e te) (hr : PA X es t) (hs : starEach (.Starred e p :: es) X.env = (true, eval e X.env) :: starEach es X.env := by rfl) : PA X (.Starred e p :: es) (StX.tStar K te t) := hK ▸ StX.pa_star he hr hs
end
end K10

namespace K5
open PySem L2 K5S
/-! the generator of a file's slips -/
abbrev sRSl : Stmt := inClass (top 26) 11
abbrev nRSl : List Str := ["self", "file", "words", "numbers", "seconds", "look", "written", "at", "kind", "token"]
abbrev pRSl : List Str := ["self", "file", "words", "numbers"]
abbrev Row : Type := Str × Nat × Option Str
def kinds3 : List Str := ["left", "doubled", "swapped"]
section
variable (ks : List Str) (ls : List (Str × Str)) (ts ws : List Str)
def rowK (a : Nat) (l : List Str) : List Row := (l.filter fun k => allowB ks ls ts k a none).map fun k => (k, a, none)
def rowW (a : Nat) (l : List Str) : List Row := (l.filter fun z => allowB ks ls ts "written" a (some z)).map fun z => (("written" : Str), a, some z)
def rowAt (a : Nat) : List Row := rowK ks ls ts a kinds3 ++ rowW ks ls ts a ws
def rowsTo (n : Nat) : List Row := (List.range n).flatMap (rowAt ks ls ts ws)
theorem rows_succ (n : Nat) : rowsTo ks ls ts ws (n + 1) = rowsTo ks ls ts ws n ++ rowAt ks ls ts ws n := by
  unfold rowsTo
  rw [List.range_succ, List.flatMap_append]
  simp
theorem rowK_snoc (a : Nat) (l : List Str) (k : Str) : rowK ks ls ts a (l ++ [k]) = rowK ks ls ts a l ++ (if allowB ks ls ts k a none = true then [(k, a, none)] else []) := by
  unfold rowK
  rw [List.filter_append, List.map_append]
  by_cases c : allowB ks ls ts k a none = true
  · rw [if_pos c, List.filter_cons_of_pos (by exact c)]; rfl
  · rw [if_neg c, List.filter_cons_of_neg (by exact c)]; rfl
theorem rowW_snoc (a : Nat) (l : List Str) (z : Str) : rowW ks ls ts a (l ++ [z]) = rowW ks ls ts a l ++ (if allowB ks ls ts "written" a (some z) = true then [(("written" : Str), a, some z)] else []) := by
  unfold rowW
  rw [List.filter_append, List.map_append]
  by_cases c : allowB ks ls ts "written" a (some z) = true
  · rw [if_pos c, List.filter_cons_of_pos (by exact c)]; rfl
  · rw [if_neg c, List.filter_cons_of_neg (by exact c)]; rfl
theorem rows_pre {m n : Nat} (h : m ≤ n) : rowsTo ks ls ts ws m <+: rowsTo ks ls ts ws n := by
  induction n with
  | zero => rw [show m = 0 by omega]; exact List.prefix_refl _
  | succ n ih =>
    by_cases e : m = n + 1
    · rw [e]; exact List.prefix_refl _
    · rw [rows_succ]
      exact (ih (by omega)).trans (List.prefix_append _ _)
end
/-- what may be written: the signs, the words, the numbers, the looks' seconds, each once -/
def menuW (ws ns : List Str) (ls : List (Str × Str)) : List Str := dd (K5S.signs ++ (ws ++ (ns ++ ls.map (·.2))))
def RowV (CS : Addr) (H : Hp) (y : Addr) (r : Row) : Prop := SlipV CS H y r.1 r.2.1 r.2.2
structure SlipsP (K : PySem.W.Frag) (CR CS : Addr) (T : Hp) (x : Addr) (v wv nv : V) (ks : List Str) (ls : List (Str × Str)) (ts ws ns : List Str) : Prop where
  rule : RuleV K CR T x ks ls
  good : RuleG ks ls
  file : FileV K T v ts
  words : FileV K T wv ws
  numbers : FileV K T nv ns
  tok : ∀ z ∈ ts, TokOk z
  wtok : ∀ z ∈ ws, TokOk z
  ntok : ∀ z ∈ ns, TokOk z
  lt : ts.length ≤ 20
  lw : ws.length ≤ 20
  ln : ns.length ≤ 20
/-- N: what the consumer may change; T: what is known and stays -/
def spSlips (K : PySem.W.Frag) (CR CS : Addr) : K10.SpG2 := fun vs H c => ∃ (x : Addr) (v wv nv : V) (ks : List Str) (ls : List (Str × Str)) (ts ws ns : List Str) (N : Addr → Prop) (T : Hp), vs = [.ref x, v, wv, nv] ∧ SlipsP K CR CS T x v wv nv ks ls ts ws ns ∧ Same T H ∧
  (∀ b, N b → T b = none ∧ H b ≠ none) ∧ (∀ H1 H2, c.Z H1 H2 → ∀ b, N b → H1 b ≠ none → H2 b ≠ none) ∧ (∀ H1 H2, c.Z H1 H2 → ∀ b o, ¬ N b → H1 b = some o → H2 b = some o) ∧ (rowsTo ks ls ts (menuW ws ns ls) ts.length).length ≤ c.N ∧
  (∀ i Hw y H2 r, (rowsTo ks ls ts (menuW ws ns ls) ts.length)[i]? = some r → Same Hw H2 → RowV CS H2 y r → c.it i Hw (.ref y) H2) ∧
  (∀ Hw H2, Same Hw H2 → c.fin (rowsTo ks ls ts (menuW ws ns ls) ts.length).length Hw H2)
def BT (T : Hp) (N : Addr → Prop) (H : Hp) : Prop := Same T H ∧ ∀ b, N b → H b ≠ none
theorem BT.on {T : Hp} {N : Addr → Prop} {H H' : Hp} (h : BT T N H) (s : Same H H') : BT T N H' := ⟨h.1.trans s, fun b hb => by
  cases e : H b with
  | none => exact absurd e (h.2 b hb)
  | some o => rw [s b o e]; simp⟩
theorem BT.new {T : Hp} {N : Addr → Prop} {H : Hp} {g : Addr} (h : BT T N H) (hg : H g = none) : ¬ N g := fun hn => h.2 g hn hg
/-- what is known of making slips -/
structure MkS (P : Program) (w : World) (K : PySem.W.Frag) (mg : Str → Option Value) (base : Heap) (CS : Addr) : Prop where
  ex : ∃ (f : Addr) (fd : FuncData) (ds : List Value), Mk K CS f ∧ FnOk P w K mg base CX0 5 f fd ["self", "kind", "at", "token"] (spSInit CS) ∧ Binds K fd ["self", "kind", "at", "token"] [] ∧ Vals [.non] ds ∧ Binds K fd ["self", "kind", "at", "token"] ds
theorem mk_slip {CS : Addr} {H : Hp} {W : Hp → Prop} {E : XK} {k : Str} {a : Nat} {t : Option Str} {x dx : Addr} (g : GoodSlip k t) (hx : H x = none) (hdx : H dx = none) (ne : dx ≠ x) (q : ∀ H', Same H H' → SlipV CS H' x k a t → W H') :
    spSInit CS [.ref x, .str k, .int a, tokV t] (upd (upd H dx (.own x)) x (.ins CS dx [])) (fun v H2 => v = .non ∧ W H2) E := by
  refine ⟨x, dx, k, a, t, rfl, upd_same, g, fun H' b h => ⟨rfl, q H' (fun c o e => ?_) ⟨dx, h⟩⟩⟩
  have nx : c ≠ x := ne_of_none e hx
  refine b c o nx ?_
  rw [upd_ne nx, upd_ne (ne_of_none e hdx)]
  exact e
theorem good3 {k : Str} (h : k ∈ kinds3) : GoodSlip k none := by
  refine .inr ⟨?_, rfl⟩
  rcases List.mem_cons.mp h with e | h
  · exact .inl e
  · rcases List.mem_cons.mp h with e | h
    · exact .inr (.inl e)
    · exact .inr (.inr (List.mem_singleton.mp h))
/-- a loop by its turns -/
theorem for2_by {J : It} {n i : Nat} {Hw H1 : Hp} {σ : L2.St} {g : TG} {tb : K10.TG2} {D : K10.GEnds2} (Pv : Nat → Nat → Hp → L2.St → Hp → Prop) (h0 : Pv 0 i Hw σ H1) (hd : ∀ i Hw σ H, Pv n i Hw σ H → J.stop n H ∧ D.nx i Hw σ H)
    (hs : ∀ k i Hw σ H, k < n → Pv k i Hw σ H → J.go k H ∧ ∀ x H', J.yld k H x H' → g x σ H' fun σ2 H2 => tb { D with nx := Pv (k + 1), ct := Pv (k + 1), bk := D.nx } i Hw σ2 H2) :
    ∃ W : Nat → Nat → Nat → Hp → L2.St → Hp → Prop, (∃ m, W 0 m i Hw σ H1) ∧ ∀ k m i Hw σ H, W k m i Hw σ H →
      (J.stop k H ∧ D.nx i Hw σ H) ∨ (J.go k H ∧ ∃ N : Nat → Hp → L2.St → Hp → Prop, (∀ i' Hw' σ' H', N i' Hw' σ' H' → ∃ m', m' < m ∧ W (k + 1) m' i' Hw' σ' H') ∧ ∀ x H', J.yld k H x H' → g x σ H' fun σ2 H2 => tb { D with nx := N, ct := N, bk := D.nx } i Hw σ2 H2) := by
  refine ⟨fun k m i Hw σ H => m = n - k ∧ k ≤ n ∧ Pv k i Hw σ H, ⟨n, by simp, Nat.zero_le _, h0⟩, ?_⟩
  rintro k m i Hw σ H ⟨rfl, hk, p⟩
  by_cases hlt : k < n
  · obtain ⟨go, st⟩ := hs k i Hw σ H hlt p
    exact .inr ⟨go, Pv (k + 1), fun i' Hw' σ' H' p' => ⟨n - (k + 1), by omega, rfl, hlt, p'⟩, st⟩
  · have e : k = n := by omega
    subst e
    exact .inl (hd i Hw σ H p)
def tokB2 (z : Str) : Bool := tokB z && (decide (z.length ≤ 400) && PyData.strOk z)
theorem tok_of {z : Str} (h : tokB2 z = true) : TokOk z := by
  unfold tokB2 at h
  rw [Bool.and_eq_true, Bool.and_eq_true] at h
  exact ⟨h.1, of_decide_eq_true h.2.1, h.2.2⟩
theorem tok_signs : ∀ z ∈ K5S.signs, TokOk z := by
  have h : (K5S.signs.all tokB2) = true := by decide +kernel
  exact fun z hz => tok_of (List.all_eq_true.mp h z hz)
theorem tok_look : ∀ p ∈ looks10, TokOk p.1 ∧ TokOk p.2 := by
  have h : (looks10.all fun p => tokB2 p.1 && tokB2 p.2) = true := by decide +kernel
  intro p hp
  have z := List.all_eq_true.mp h p hp
  rw [Bool.and_eq_true] at z
  exact ⟨tok_of z.1, tok_of z.2⟩
section
variable {P : Program} {w : World} {K : PySem.W.Frag} {mg : Str → Option Value} {base : Heap} {CR CS aK aS : Addr}
theorem scRSl : GScope nRSl pRSl (defScope sRSl) := ⟨rfl, rfl, rfl, by decide +kernel, rfl, by decide +kernel, by decide +kernel⟩
theorem cells_rsl (n : Nat) : cellsFrom n (defScope sRSl).names [] = [] := rfl
abbrev stS (x : Addr) (v wv nv : V) (a b d e f g : Option V) : L2.St := [some (.ref x), some v, some wv, some nv, a, b, d, e, f, g]
theorem ok_rslips {params : Arguments} {dvs : List V} {kws : List (Str × V)} {f fA : Addr} {fd fdA : FuncData} (F : FunD K "slips" "SlipRule.slips" params (defBody sRSl) (defScope sRSl) dvs kws f fd) (T : Bare mg) (RC : RuleC K mg CR) (SC : SlipC K mg CS aK) (MS : MkS P w K mg base CS) (MM : K5S.Mod K mg aS)
    (GO : Fn P w K mg base 1 "each_once" ["things"] (spOnce K)) (FA : FnOk P w K mg base CX0 6 fA fdA ["self", "file", "slip"] (spAllow K CR CS)) (mA : Meth K CR "allows" fA) (bA : Binds K fdA ["self", "file", "slip"] []) :
    K10.GFn2 P w K mg base 8 f fd pRSl (spSlips K CR CS) := by
  obtain ⟨fI, fdI, dsI, MI, FI, bI, vI, bI2⟩ := MS.ex
  refine K10.FunD.okG2 F scRSl cells_rsl fun cdv A outer s H vs c pn A0 gp hr h => ?_
  obtain ⟨x, v, wv, nv, ks, ls, ts, ws, ns, N, T0, rfl, G, sT, hN, hZN, hZ, hlen, hit, hfin⟩ := h
  have hr6 : Room 6 _ := hr.mono (by decide)
  have hr1 : Room 1 _ := hr.mono (by decide)
  refine ⟨_, (K10.gss2_cut (K10.g2_ps (fun s0 H0 => (ps_setLc (i := 4) rfl scRSl.nd rfl rfl (by rfl) (own := [("look", 5)]) (g := gName 5) (tt := tYes) (te := tOp (rIxT K) (tVar 5) (tC (.int 1))) (K10.pi_tupK (K := K) rfl (K10.pe_fldK (K := K) rfl (pv 0) rfl)) (blkOk_by (own := [("look", 5)]) (N := nRSl) (sc := defScope sRSl) (by decide +kernel)) (fun _ _ _ _ _ => pg_name (i := 5) scRSl.nd rfl (Or.inl rfl)) (fun _ _ _ _ _ => pts_nil) (fun _ _ _ _ _ => pe_ix (show IxR _ (rIxT K) from ix_tup) (pv 5) pe_int (fun _ _ => rfl)))))
        (K10.gss2_cut (K10.g2_ps (fun s0 H0 => (ps_set (i := 6) scRSl.nd rfl (.inl rfl) (pe_fn GO hr1 rfl (pa_cons (pe_lst (K10.pa_starK (K := K) rfl (pe_glob (v := .ref aS) (by rfl) MM.sgn rfl) (K10.pa_starK (K := K) rfl (pv 2) (K10.pa_starK (K := K) rfl (pv 3) (K10.pa_starK (K := K) rfl (pv 4) pa_nil))))) pa_nil)))))
        (K10.gss2_one (K10.g2_for (fun s0 H0 => (pi_range1 (by rfl) T.range (pa_cons (pe_callB (show CallR _ _ (K10.rLenK K) from call_len_seq) (by rfl) T.len PySem.boot_len (pa_cons (pv 1) pa_nil)) pa_nil))) (fun s0 H0 => (pg_name (i := 7) scRSl.nd rfl (.inl rfl)))
        (K10.gss2_cut (K10.g2_for (fun s0 H0 => (K10.pi_tupK (K := K) rfl (pe_tup (pa_cons pe_str (pa_cons pe_str (pa_cons pe_str pa_nil)))))) (fun s0 H0 => (pg_name (i := 8) scRSl.nd rfl (.inl rfl)))
        (K10.gss2_one (K10.g2_if (fun s0 H0 => (pt_val (pe_meth (E := fun _ _ _ => False) (pv 0) RC.cl mA FA hr6 bA .nil pass0 (pa_cons (pv 1) (pa_cons (pe_make MI FI hr6 (by rfl) SC.gC bI2 vI pass0 (pa_cons (pv 8) (pa_cons (pv 7) pa_nil))) pa_nil))))) (K10.gss2_one (K10.g2_yield (fun s0 H0 => (pe_make MI FI hr6 (by rfl) SC.gC bI2 vI pass0 (pa_cons (pv 8) (pa_cons (pv 7) pa_nil)))))) K10.gss2_nil)))
        (K10.gss2_one (K10.g2_for (fun s0 H0 => (K10.pi_listK (K := K) rfl (pv 6))) (fun s0 H0 => (pg_name (i := 9) scRSl.nd rfl (.inl rfl)))
        (K10.gss2_one (K10.g2_if (fun s0 H0 => (pt_val (pe_meth (E := fun _ _ _ => False) (pv 0) RC.cl mA FA hr6 bA .nil pass0 (pa_cons (pv 1) (pa_cons (pe_make MI FI hr6 (by rfl) SC.gC bI .nil pass0 (pa_cons pe_str (pa_cons (pv 7) (pa_cons (pv 9) pa_nil)))) pa_nil))))) (K10.gss2_one (K10.g2_yield (fun s0 H0 => (pe_make MI FI hr6 (by rfl) SC.gC bI .nil pass0 (pa_cons pe_str (pa_cons (pv 7) (pa_cons (pv 9) pa_nil))))))) K10.gss2_nil))))))))), ?_⟩
  have bt : BT T0 N H := ⟨sT, fun b hb => (hN b hb).2⟩
  have lA : ∀ {n : Nat}, n ≤ 1000 → n ≤ sizeLine := fun h => line_ge (by omega)
  have hmenu : (menuW ws ns ls).length ≤ 100 := by
    have h1 := dd_len (K5S.signs ++ (ws ++ (ns ++ ls.map (·.2))))
    have h2 : K5S.signs.length = 5 := rfl
    have h3 := G.good.ll
    have h4 := G.lw
    have h5 := G.ln
    rw [List.length_append, List.length_append, List.length_append, List.length_map] at h1
    unfold menuW
    omega
  have tokM : ∀ z ∈ menuW ws ns ls, TokOk z := fun z hz => by
    have hz := (dd_mem _ z).mp hz
    rcases List.mem_append.mp hz with h | h
    · exact tok_signs z h
    · rcases List.mem_append.mp h with h | h
      · exact G.wtok z h
      · rcases List.mem_append.mp h with h | h
        · exact G.ntok z h
        · obtain ⟨p, hp, rfl⟩ := List.mem_map.mp h
          exact (tok_look p (G.good.m p hp)).2
  refine ⟨fun i Hw σ H' => ∃ sec, i = 0 ∧ Hw = H ∧ σ = stS x v wv nv (some (.ref sec)) none none none none none ∧ Same H H' ∧ H' sec = some (.lst ((ls.map (·.2)).map V.str)), ?_, ?_⟩
  · obtain ⟨dx, kk, l, p, hx, hk, hl, hp⟩ := G.rule.same sT
    cases hl with
    | @tup a xs _ h1 h2 =>
    have lx : xs.length ≤ 10 := by rw [DpAll.len h2, loD, List.length_map]; exact G.good.ll
    refine ⟨_, rfl, x, CR, dx, _, _, rfl, hx, RC.cl, RC.lo, fu_lo _ _ _, a, rfl, ⟨xs, h1⟩, fun D hD => lc_tup (K := K) (a := a) (xs := xs) (fun i H' => Same H H' ∧ H' D = some (.lst (((ls.take i).map (·.2)).map V.str))) ⟨Same.new (Same.refl _) hD, upd_same⟩ (fun i H' _ h => SqT.ext h1 h.1) (fun i z H2 hz h => ?_) (fun H2 h => ?_)⟩
    · obtain ⟨s2, hd2⟩ := h
      obtain ⟨d, hd, dz⟩ := DpAll.at2 h2 hz
      have hd' := hd
      unfold loD at hd'
      rw [List.getElem?_map] at hd'
      cases hls : ls[i]? with
      | none => rw [hls] at hd'; cases hd'
      | some pr =>
      rw [hls] at hd'
      obtain rfl : lkP pr = d := Option.some.inj hd'
      have li : i < xs.length := (List.getElem?_eq_some_iff.mp hz).1
      cases dz with
      | @tup b us _ g1 g2 =>
      cases g2 with
      | cons q1 q2 =>
      cases q1
      cases q2 with
      | cons q3 q4 =>
      cases q3
      cases q4
      refine ⟨rfl, ⟨_, rfl, b, _, 1, .str pr.2, rfl, rfl, SqT.ext g1 s2, rfl, _, hd2, ?_, Same.put s2 hD, ?_⟩⟩
      · rw [List.length_map, List.length_map, List.length_take]
        exact Nat.lt_of_le_of_lt (show _ ≤ 900 by omega) (by decide)
      · rw [upd_same, take_some hls, List.map_append, List.map_append]
        rfl
    · obtain ⟨s2, hd2⟩ := h
      have e : xs.length = ls.length := by rw [DpAll.len h2, loD, List.length_map]
      rw [e, List.take_length] at hd2
      exact ⟨D, rfl, rfl, rfl, s2, hd2⟩
  rintro i Hw σ H1 ⟨sec, rfl, rfl, rfl, s1, hsec⟩
  have sT1 : Same T0 H1 := sT.trans s1
  obtain ⟨wp, rfl, hwp⟩ := G.words.same sT1
  obtain ⟨np, rfl, hnp⟩ := G.numbers.same sT1
  have sq : ∀ {p xs}, SqL K H1 p xs ∨ SqT K H1 p xs → SqT K H1 p xs ∨ SqL K H1 p xs := fun h => h.elim .inr .inl
  refine ⟨fun i Hw' σ H' => ∃ wr q4, i = 0 ∧ Hw' = Hw ∧ σ = stS x v (.ref wp) (.ref np) q4 none (some (.ref wr)) none none none ∧ Same Hw H' ∧ ¬ N wr ∧ H' wr = some (.lst ((menuW ws ns ls).map V.str)), ?_, ?_⟩
  · refine ⟨aS, _, rfl, .inl (MM.sq H1), _, rfl, wp, _, rfl, sq hwp, _, rfl, np, _, rfl, sq hnp, _, rfl, sec, _, rfl, .inr (SqL.of hsec), ?_, fun g hg => ⟨g, K5S.signs ++ (ws ++ (ns ++ ls.map (·.2))), rfl, SqL.of ?_, ?_, fun p H' s hp hl => ?_⟩⟩
    · have h2 : K5S.signs.length = 5 := rfl
      have h3 := G.good.ll
      have h4 := G.lw
      have h5 := G.ln
      refine lA ?_
      simp only [List.length_append, List.length_map, List.length_nil]
      omega
    · rw [upd_same]
      simp only [List.map_append, List.append_nil]
    · have h2 : K5S.signs.length = 5 := rfl
      have h3 := G.good.ll
      have h4 := G.lw
      have h5 := G.ln
      simp only [List.length_append, List.length_map]
      omega
    · have sg := Same.new (o := .lst (K5S.signs.map V.str ++ (ws.map V.str ++ (ns.map V.str ++ ((ls.map (·.2)).map V.str ++ []))))) (Same.refl H1) hg
      refine ⟨p, some (.ref sec), rfl, rfl, rfl, (s1.trans sg).trans s, fun hn => ?_, hl⟩
      exact (hN p hn).2 (Same.free (s1.trans sg) hp)
  rintro i Hw' σ H2 ⟨wr, q4, rfl, rfl, rfl, s2, nwr, hwr⟩
  -- between two items
  have after : ∀ {H4 H5 : Hp}, c.Z H4 H5 → BT T0 N H4 → BT T0 N H5 := fun {H4 H5} z s => ⟨fun b o e => hZ _ _ z b o (fun hn => by rw [(hN b hn).1] at e; cases e) (s.1 b o e), fun b hb => hZN _ _ z b hb (s.2 b hb)⟩
  obtain ⟨fp, rfl, hfp⟩ := id G.file
  have rg : ∀ n : Nat, (((ts.map V.str).length : Nat) : Int).toNat = ts.length := fun n => by rw [List.length_map]; omega
  have hfp2 : SqL K H2 fp (ts.map V.str) ∨ SqT K H2 fp (ts.map V.str) := hfp.elim (fun h => .inl (SqL.ext h (sT.trans s2))) fun h => .inr (SqT.ext h (sT.trans s2))
  refine ⟨_, rfl, fp, _, rfl, hfp2, _, rfl, by omega, ?_, ?_⟩
  · have := G.lt
    rw [List.length_map]
    omega
  refine for2_by (n := ts.length) (fun k i Hw σ H' => ∃ q4 qa qk qt, σ = stS x (.ref fp) (.ref wp) (.ref np) q4 none (some (.ref wr)) qa qk qt ∧ i = (rowsTo ks ls ts (menuW ws ns ls) k).length ∧ BT T0 N H' ∧ Same Hw H' ∧ H' wr = some (.lst ((menuW ws ns ls).map V.str)))
    ⟨q4, none, none, none, rfl, rfl, bt.on s2, s2, hwr⟩ (fun i Hw σ H' h => ?_) (fun k i Hw σ H' hk h => ?_)
  · obtain ⟨q4, qa, qk, qt, rfl, rfl, h1, h2, h3⟩ := h
    refine ⟨?_, hfin _ _ h2⟩
    show (((ts.map V.str).length : Nat) : Int).toNat ≤ ts.length
    rw [rg 0]
    exact Nat.le_refl _
  obtain ⟨q4, qa, qk, qt, rfl, rfl, sA, sW, hwr⟩ := h
  refine ⟨?_, fun xx H'' y => ?_⟩
  · show k < (((ts.map V.str).length : Nat) : Int).toNat
    rw [rg 0]
    exact hk
  obtain ⟨rfl, rfl⟩ := y
  have ek : (V.int (0 + (k : Int))) = V.int (k : Int) := by rw [Int.zero_add]
  rw [ek]
  -- the item
  have item : ∀ (pre : List Row) (r : Row) (Hw H4 : Hp) (y : Addr), pre ++ [r] <+: rowsTo ks ls ts (menuW ws ns ls) (k + 1) → Same Hw H4 → RowV CS H4 y r → pre.length < c.N ∧ c.it pre.length Hw (.ref y) H4 := fun pre r Hw H4 y hp s hy => by
    have hp' := hp.trans (rows_pre ks ls ts (menuW ws ns ls) (show k + 1 ≤ ts.length by omega))
    obtain ⟨rest, e⟩ := hp'
    have e1 : (rowsTo ks ls ts (menuW ws ns ls) ts.length)[pre.length]? = some r := by
      rw [← e, List.append_assoc, List.getElem?_append_right (Nat.le_refl _), Nat.sub_self]
      rfl
    have l1 := (List.getElem?_eq_some_iff.mp e1).1
    exact ⟨Nat.lt_of_lt_of_le l1 hlen, hit _ _ _ _ _ e1 s hy⟩
  refine ⟨fun i Hw σ H' => ∃ q4 qk qt, σ = stS x (.ref fp) (.ref wp) (.ref np) q4 none (some (.ref wr)) (some (.int k)) qk qt ∧ i = (rowsTo ks ls ts (menuW ws ns ls) k ++ rowK ks ls ts k kinds3).length ∧ BT T0 N H' ∧ Same Hw H' ∧ H' wr = some (.lst ((menuW ws ns ls).map V.str)), ?_, ?_⟩
  · refine ⟨by show 3 ≤ sizeLine; decide, fun g hg => ⟨g, rfl, ⟨_, SqT.of upd_same⟩, ?_⟩⟩
    have ng : ¬ N g := sA.new hg
    have sg := Same.new (o := .tup (kinds3.map V.str)) (Same.refl _) hg
    refine for2_by (n := 3) (fun j i Hw σ H' => ∃ q4 qk qt, σ = stS x (.ref fp) (.ref wp) (.ref np) q4 none (some (.ref wr)) (some (.int k)) qk qt ∧ i = (rowsTo ks ls ts (menuW ws ns ls) k ++ rowK ks ls ts k (kinds3.take j)).length ∧ BT T0 N H' ∧ Same Hw H' ∧ H' wr = some (.lst ((menuW ws ns ls).map V.str)) ∧ H' g = some (.tup (kinds3.map V.str)))
      ⟨q4, qk, qt, rfl, by rw [List.take_zero]; show _ = (_ ++ []).length; rw [List.append_nil], sA.on sg, sW.trans sg, sg _ _ hwr, upd_same⟩ (fun i Hw σ H' h => ?_) (fun j i Hw σ H' hj h => ?_)
    · obtain ⟨q4, qk, qt, rfl, rfl, h1, h2, h3, h4⟩ := h
      exact ⟨⟨_, SqT.of h4, Nat.le_refl _⟩, q4, qk, qt, rfl, rfl, h1, h2, h3⟩
    obtain ⟨q4, qk, qt, rfl, rfl, s4, w4, hw4, hg4⟩ := h
    obtain ⟨kd, hkd⟩ : ∃ kd, kinds3[j]? = some kd := ⟨_, List.getElem?_eq_getElem (show j < kinds3.length from hj)⟩
    have km : kd ∈ kinds3 := List.mem_of_getElem? hkd
    have hjv : (kinds3.map V.str)[j]? = some (.str kd) := by rw [List.getElem?_map, hkd]; rfl
    refine ⟨⟨_, _, SqT.of hg4, hjv⟩, fun xx H'' y => ?_⟩
    obtain ⟨rfl, y⟩ := y
    obtain rfl : V.str kd = xx := Option.some.inj ((hjv.symm).trans (y _ (SqT.of hg4)))
    have R4 := G.rule.same s4.1
    obtain ⟨dx, kk, l, p, hx, _⟩ := id R4
    have gs : GoodSlip kd none := good3 km
    have pre : rowsTo ks ls ts (menuW ws ns ls) k ++ rowK ks ls ts k (kinds3.take (j + 1)) <+: rowsTo ks ls ts (menuW ws ns ls) (k + 1) := by
      rw [rows_succ]
      refine (List.prefix_append_right_inj _).mpr (List.IsPrefix.trans ?_ (List.prefix_append _ _))
      exact ((List.take_prefix _ _).filter _).map _
    rw [take_some hkd, rowK_snoc] at pre
    refine ⟨_, rfl, x, dx, _, rfl, hx, rfl, _, rfl, _, rfl, _, rfl, fun y5 dy5 hy5 hdy5 ne5 => mk_slip gs hy5 hdy5 ne5 fun H5 s5 v5 => ⟨x, y5, .ref fp, ks, ls, ts, kd, k, none, rfl, R4.same s5, G.good, G.file.same (s4.1.trans s5), G.tok, v5, gs, fun H6 s6 => ⟨_, rfl, ?_⟩⟩⟩
    have s46 := s5.trans s6
    by_cases ca : allowB ks ls ts kd k none = true
    · rw [ca]
      rw [if_pos ca] at pre
      refine iteT ?_
      refine ⟨(item _ (kd, k, none) Hw H6 y5 (by rw [List.append_assoc]; exact pre) (w4.trans s46) (v5.same s6)).1, ?_⟩
      refine ⟨_, rfl, _, rfl, fun y7 dy7 hy7 hdy7 ne7 => mk_slip gs hy7 hdy7 ne7 fun H7 s7 v7 => ⟨(item _ (kd, k, none) Hw H7 y7 (by rw [List.append_assoc]; exact pre) (w4.trans (s46.trans s7)) v7).2, fun H8 z => ?_⟩⟩
      have s47 := s46.trans s7
      refine ⟨q4, _, qt, rfl, ?_, after z (s4.on s47), Same.refl _, hZ _ _ z _ _ nwr (s47 _ _ hw4), hZ _ _ z _ _ ng (s47 _ _ hg4)⟩
      rw [take_some hkd, rowK_snoc, if_pos ca]
      simp only [List.length_append, List.length_cons, List.length_nil]
      omega
    · rw [Bool.not_eq_true _ |>.mp ca]
      refine iteF ⟨q4, _, qt, rfl, ?_, s4.on s46, w4.trans s46, s46 _ _ hw4, s46 _ _ hg4⟩
      rw [take_some hkd, rowK_snoc, if_neg ca, List.append_nil]
  rintro i Hw σ H1 ⟨q4, qk, qt, rfl, rfl, s1, w1, hw1⟩
  refine ⟨_, rfl, wr, rfl, ⟨_, SqL.of hw1⟩, ?_⟩
  refine for2_by (n := (menuW ws ns ls).length) (fun j i Hw σ H' => ∃ q4 qk qt, σ = stS x (.ref fp) (.ref wp) (.ref np) q4 none (some (.ref wr)) (some (.int k)) qk qt ∧ i = ((rowsTo ks ls ts (menuW ws ns ls) k ++ rowK ks ls ts k kinds3) ++ rowW ks ls ts k ((menuW ws ns ls).take j)).length ∧ BT T0 N H' ∧ Same Hw H' ∧ H' wr = some (.lst ((menuW ws ns ls).map V.str)))
    ⟨q4, qk, qt, rfl, by rw [List.take_zero]; show _ = (_ ++ []).length; rw [List.append_nil], s1, w1, hw1⟩ (fun i Hw σ H' h => ?_) (fun j i Hw σ H' hj h => ?_)
  · obtain ⟨q4, qk, qt, rfl, rfl, h1, h2, h3⟩ := h
    refine ⟨⟨_, SqL.of h3, by rw [List.length_map]; exact Nat.le_refl _⟩, q4, _, qk, qt, rfl, ?_, h1, h2, h3⟩
    rw [List.take_length, rows_succ, List.append_assoc]
    rfl
  obtain ⟨q4, qk, qt, rfl, rfl, s4, w4, hw4⟩ := h
  obtain ⟨zt, hzt⟩ : ∃ zt, (menuW ws ns ls)[j]? = some zt := ⟨_, List.getElem?_eq_getElem hj⟩
  have hjv : ((menuW ws ns ls).map V.str)[j]? = some (.str zt) := by rw [List.getElem?_map, hzt]; rfl
  refine ⟨⟨_, _, SqL.of hw4, hjv⟩, fun xx H'' y => ?_⟩
  obtain ⟨rfl, y⟩ := y
  obtain rfl : V.str zt = xx := Option.some.inj ((hjv.symm).trans (y _ (SqL.of hw4)))
  have R4 := G.rule.same s4.1
  obtain ⟨dx, kk, l, p, hx, _⟩ := id R4
  have gs : GoodSlip "written" (some zt) := .inl ⟨rfl, zt, rfl, tokM zt (List.mem_of_getElem? hzt)⟩
  have pre : (rowsTo ks ls ts (menuW ws ns ls) k ++ rowK ks ls ts k kinds3) ++ rowW ks ls ts k ((menuW ws ns ls).take (j + 1)) <+: rowsTo ks ls ts (menuW ws ns ls) (k + 1) := by
    rw [rows_succ, List.append_assoc]
    refine (List.prefix_append_right_inj _).mpr ((List.prefix_append_right_inj _).mpr ?_)
    exact ((List.take_prefix _ _).filter _).map _
  rw [take_some hzt, rowW_snoc] at pre
  refine ⟨_, rfl, x, dx, _, rfl, hx, rfl, _, rfl, _, rfl, _, rfl, fun y5 dy5 hy5 hdy5 ne5 => mk_slip gs hy5 hdy5 ne5 fun H5 s5 v5 => ⟨x, y5, .ref fp, ks, ls, ts, "written", k, some zt, rfl, R4.same s5, G.good, G.file.same (s4.1.trans s5), G.tok, v5, gs, fun H6 s6 => ⟨_, rfl, ?_⟩⟩⟩
  have s46 := s5.trans s6
  by_cases ca : allowB ks ls ts "written" k (some zt) = true
  · rw [ca]
    rw [if_pos ca] at pre
    refine iteT ?_
    refine ⟨(item _ (("written" : Str), k, some zt) Hw H6 y5 (by rw [List.append_assoc]; exact pre) (w4.trans s46) (v5.same s6)).1, ?_⟩
    refine ⟨_, rfl, _, rfl, fun y7 dy7 hy7 hdy7 ne7 => mk_slip gs hy7 hdy7 ne7 fun H7 s7 v7 => ⟨(item _ (("written" : Str), k, some zt) Hw H7 y7 (by rw [List.append_assoc]; exact pre) (w4.trans (s46.trans s7)) v7).2, fun H8 z => ?_⟩⟩
    have s47 := s46.trans s7
    refine ⟨q4, _, _, rfl, ?_, after z (s4.on s47), Same.refl _, hZ _ _ z _ _ nwr (s47 _ _ hw4)⟩
    rw [take_some hzt, rowW_snoc, if_pos ca]
    simp only [List.length_append, List.length_cons, List.length_nil]
    omega
  · rw [Bool.not_eq_true _ |>.mp ca]
    refine iteF ⟨q4, _, _, rfl, ?_, s4.on s46, w4.trans s46, s46 _ _ hw4⟩
    rw [take_some hzt, rowW_snoc, if_neg ca, List.append_nil]
end
end K5

namespace L2
open PySem PySem.Spec PyProof.Rows
/-- a text many times (twice or more) -/
def mulS (a : Str) (n : Nat) : Str := ⟨(List.replicate n a.cps).foldl (· ++ ·) #[]⟩
def rMulS : R2 := fun x y H Q => ∃ (a : Str) (n : Nat), x = .str a ∧ y = .int n ∧ 2 ≤ n ∧ n ≤ 1000 ∧ 1 ≤ a.length ∧ a.length ≤ 1000 ∧ (mulS a n).length ≤ sizeLine ∧ Q (.str (mulS a n)) H
theorem op_mulS {X : Cx} : OpR X (binaryOp .Mult) rMulS := by
  intro pins s σ H x y v u Q I rx ry h
  obtain ⟨a, n, rfl, rfl, h1, h2, h3, h4, h5, q⟩ := h
  obtain ⟨t, rfl⟩ := rx
  obtain ⟨t2, rfl⟩ := ry
  have hn : ((n : Int) == 1 || a.length == 0) = false := by
    rw [Bool.or_eq_false_iff]
    exact ⟨beq_eq_false_iff_ne.mpr (by omega), beq_eq_false_iff_ne.mpr (by omega)⟩
  refine P.mul_str ?_ (fun _ _ => ?_) (fun _ _ => ?_) ?_
  · rw [decide_eq_false (by omega), decide_eq_false (by omega)]
    rfl
  · intro h
    have n0 : (0 : Int) < (n : Int) := Int.natCast_pos.mpr (Nat.lt_of_lt_of_le (by decide) h1)
    have b : a.length * n ≤ 1000 * 1000 := Nat.mul_le_mul h4 h2
    have c : ((a.length : Int)) * (n : Int) ≤ 1000000 := by
      rw [← Int.natCast_mul]
      exact Int.ofNat_le.mpr b
    have d := Int.lt_mul_of_ediv_lt n0 h
    exact absurd (Int.lt_of_lt_of_le d c) (by decide)
  · show decide _ = false
    refine decide_eq_false ?_
    have : a.length * (n : Int).toNat ≤ 1000 * 1000 := Nat.mul_le_mul h4 (by omega)
    have h6 : (1000 * 1000 : Nat) ≤ sizeLine := by decide
    omega
  · rw [if_neg (by omega), if_neg (by rw [hn]; decide), Int.toNat_natCast]
    exact ⟨h5, .str (mulS a n), H, I.tok _, ⟨_, rfl⟩, q⟩
end L2

namespace K5
open PySem L2
/-- the expression gives these data, whatever stands in the heap -/
def Giv (K : PySem.W.Frag) (te : TE) (d : PyData) : Prop := ∀ σ H Q, (∀ v H', Same H H' → Dp K H' v d → Q v H') → te σ H Q
def Givs (K : PySem.W.Frag) (ta : TA) (ds : List PyData) : Prop := ∀ σ H Q, (∀ vs H', Same H H' → DpAll K H' vs ds → Q vs H') → ta σ H Q
variable {K : PySem.W.Frag}
theorem g_str (z : Str) : Giv K (tC (.str z)) (.str z) := fun σ H Q h => h _ H (Same.refl H) (.str z)
theorem g_int (i : Int) : Giv K (tC (.int i)) (.int i) := fun σ H Q h => h _ H (Same.refl H) (.int i)
theorem g_bl (i : Bool) : Giv K (tC (.bl i)) (.bool i) := fun σ H Q h => h _ H (Same.refl H) (.bl i)
theorem g_non : Giv K (tC .non) .none := fun σ H Q h => h _ H (Same.refl H) .non
theorem g_nine : Giv K (tOp rMulS (tC (.str "9")) (tC (.int 9))) (.str "999999999") := fun σ H Q h => ⟨"9", 9, rfl, rfl, by decide, by decide, by decide +kernel, by decide +kernel, line_ge (by decide +kernel), by
  rw [show mulS "9" 9 = "999999999" by decide +kernel]
  exact h _ H (Same.refl H) (.str _)⟩
theorem gs_nil : Givs K tNil [] := fun σ H Q h => h [] H (Same.refl H) .nil
theorem gs_cons {te : TE} {ta : TA} {d : PyData} {ds : List PyData} (a : Giv K te d) (b : Givs K ta ds) : Givs K (tCons te ta) (d :: ds) := fun σ H Q h => a σ H _ fun v H1 s1 h1 => b σ H1 _ fun vs H2 s2 h2 => h (v :: vs) H2 (s1.trans s2) (.cons (dp_same s2 _ h1) h2)
theorem g_tup {ta : TA} {ds : List PyData} (a : Givs K ta ds) (l : ds.length ≤ 100) : Giv K (tTup ta) (.tuple ds) := fun σ H Q h => a σ H _ fun vs H1 s1 h1 => ⟨by rw [DpAll.len h1]; exact line_ge (by omega), fun p hp => by
  have s2 := Same.new (o := .tup vs) (Same.refl H1) hp
  exact h _ _ (s1.trans s2) (.tup (SqT.of upd_same) (dpAll_same s2 _ h1))⟩
theorem lst_new {ta : TA} {ds : List PyData} {σ : St} {H : Hp} {Q : VK} (a : Givs K ta ds) (l : ds.length ≤ 100) (h : ∀ p vs H', H p = none → H' p = some (.lst vs) → DpAll K H' vs ds → Same H H' → Q (.ref p) H') : tLst ta σ H Q := a σ H _ fun vs H1 s1 h1 => ⟨by rw [DpAll.len h1]; exact line_ge (by omega), fun p hp => by
  have s2 := Same.new (o := .lst vs) (Same.refl H1) hp
  exact h _ vs _ (s1.free hp) upd_same (dpAll_same s2 _ h1) (s1.trans s2)⟩
theorem g_lst {ta : TA} {ds : List PyData} (a : Givs K ta ds) (l : ds.length ≤ 100) : Giv K (tLst ta) (.list ds) := fun σ H Q h => lst_new a l fun p vs H' _ h1 h2 s => h _ _ s (.lst (SqL.of h1) h2)
theorem DpAll.mem {H : Hp} : ∀ {ds : List PyData} {vs : List V} {v : V}, DpAll K H vs ds → v ∈ vs → ∃ d, d ∈ ds ∧ Dp K H v d := fun {ds vs v} h hv => by
  obtain ⟨i, hi, e⟩ := List.getElem_of_mem hv
  obtain ⟨d, h1, h2⟩ := DpAll.at2 h (show vs[i]? = some v by rw [List.getElem?_eq_getElem hi, e])
  exact ⟨d, List.mem_of_getElem? h1, h2⟩
/-! data that a pool's change leaves as they are -/
def atomB : PyData → Bool
  | .list _ => false
  | .tuple _ => false
  | .dict _ => false
  | _ => true
def oddD : PyData → Bool
  | .list (.str _ :: es) => es.all atomB
  | .list _ => false
  | .tuple es => es.all atomB
  | .dict _ => false
  | _ => true
theorem atom_any {H H' : Hp} {v : V} {d : PyData} (a : atomB d = true) (h : Dp K H v d) : Dp K H' v d := by
  cases h with
  | str x => exact .str x
  | non => exact .non
  | bl b => exact .bl b
  | int i => exact .int i
  | lst _ _ => cases a
  | tup _ _ => cases a
theorem atoms_any {H H' : Hp} : ∀ {vs : List V} {ds : List PyData}, ds.all atomB = true → DpAll K H vs ds → DpAll K H' vs ds
  | _, [], _, h => by
    cases h
    exact .nil
  | _, d :: ds, a, h => by
    rw [List.all_cons, Bool.and_eq_true] at a
    cases h with
    | cons h1 h2 => exact .cons (atom_any a.1 h1) (atoms_any a.2 h2)
theorem keep_sqt {H H' : Hp} {p a : Addr} {L xs : List V} (hp : H p = some (.lst L)) (k : Keep p H H') (h : SqT K H a xs) : SqT K H' a xs := by
  rcases h with (h | ⟨o, h⟩) | h
  · exact .inl (.inl (k _ _ (fun e => by rw [e, hp] at h; cases h) h))
  · exact .inl (.inr ⟨o, k _ _ (fun e => by rw [e, hp] at h; cases h) h⟩)
  · exact .inr h
theorem odd_keep {H H' : Hp} {p : Addr} {c : Nat} {v : V} {d : PyData} (o : oddD d = true) (hp : Pool H p c) (k : Keep p H H') (h : Dp K H v d) : Dp K H' v d := by
  obtain ⟨g, m, j, hp, _⟩ := hp
  cases h with
  | str x => exact .str x
  | non => exact .non
  | bl b => exact .bl b
  | int i => exact .int i
  | @tup a xs ds h1 h2 => exact .tup (keep_sqt hp k h1) (atoms_any o h2)
  | @lst a xs ds h1 h2 =>
    cases ds with
    | nil => cases o
    | cons d ds =>
      cases d with
      | str z =>
        cases h2 with
        | cons h3 h4 =>
          cases h3
          refine .lst ?_ (.cons (.str z) (atoms_any o h4))
          rcases h1 with (h1 | ⟨o', h1⟩) | h1
          · exact .inl (.inl (k _ _ (fun e => by rw [e, hp] at h1; cases h1) h1))
          · exact .inl (.inr ⟨o', k _ _ (fun e => by rw [e, hp] at h1; cases h1) h1⟩)
          · exact .inr h1
      | _ => cases o
theorem odds_keep {H H' : Hp} {p : Addr} {c : Nat} (hp : Pool H p c) (k : Keep p H H') : ∀ {vs : List V} {ds : List PyData}, (∀ d ∈ ds, oddD d = true) → DpAll K H vs ds → DpAll K H' vs ds
  | _, [], _, h => by
    cases h
    exact .nil
  | _, d :: ds, o, h => by
    cases h with
    | cons h1 h2 => exact .cons (odd_keep (o d List.mem_cons_self) hp k h1) (odds_keep hp k (fun e he => o e (List.mem_cons_of_mem _ he)) h2)
theorem look_odd (p : Str × Str) : oddD (lkP p) = true := rfl
end K5

/-! what stays where a list changes; a heap without one object -/
namespace K5
open PySem L2 K5S
/-- a list grows: what are looks stay looks -/
theorem look_put {K : PySem.W.Frag} {H : Hp} {D : Addr} {L M : List V} (hD : H D = some (.lst L)) {x : V} {y : Str × Str} (h : Dp K H x (lkP y)) : Dp K (upd H D (.lst M)) x (lkP y) := by
  cases h with
  | @tup a xs ds h1 h2 =>
    refine .tup ?_ (atoms_any rfl h2)
    rcases h1 with (h1 | ⟨o, h1⟩) | h1
    · exact .inl (.inl (by rw [upd_ne (fun e => by rw [e, hD] at h1; cases h1)]; exact h1))
    · exact .inl (.inr ⟨o, by rw [upd_ne (fun e => by rw [e, hD] at h1; cases h1)]; exact h1⟩)
    · exact .inr h1
theorem looks_put {K : PySem.W.Frag} {H : Hp} {D : Addr} {L M : List V} (hD : H D = some (.lst L)) : ∀ {ls : List (Str × Str)} {vs : List V}, DpAll K H vs (loD ls) → DpAll K (upd H D (.lst M)) vs (loD ls)
  | [], _, h => by
    cases h
    exact .nil
  | p :: ls, _, h => by
    cases h with
    | cons h1 h2 => exact .cons (look_put hD h1) (looks_put hD h2)
/-- what are looks stay looks where a list changes -/
theorem look_but {K : PySem.W.Frag} {H H' : Hp} {D : Addr} {L : List V} (hD : H D = some (.lst L)) (k : But D H H') {x : V} {y : Str × Str} (h : Dp K H x (lkP y)) : Dp K H' x (lkP y) := by
  cases h with
  | @tup a xs ds h1 h2 =>
    refine .tup ?_ (atoms_any rfl h2)
    rcases h1 with (h1 | ⟨o, h1⟩) | h1
    · exact .inl (.inl (k _ _ (fun e => by rw [e, hD] at h1; cases h1) h1))
    · exact .inl (.inr ⟨o, k _ _ (fun e => by rw [e, hD] at h1; cases h1) h1⟩)
    · exact .inr h1
theorem looks_but {K : PySem.W.Frag} {H H' : Hp} {D : Addr} {L : List V} (hD : H D = some (.lst L)) (k : But D H H') : ∀ {vs : List V} {ls : List (Str × Str)}, DpAll K H vs (loD ls) → DpAll K H' vs (loD ls)
  | _, [], h => by
    cases h
    exact .nil
  | _, p :: ls, h => by
    cases h with
    | cons h1 h2 => exact .cons (look_but hD k h1) (looks_but hD k h2)
theorem rule_but {K : PySem.W.Frag} {CR : Addr} {H H' : Hp} {D x : Addr} {L : List V} {ks : List Str} {ls : List (Str × Str)} (hD : H D = some (.lst L)) (k : But D H H') (h : RuleV K CR H x ks ls) : RuleV K CR H' x ks ls := by
  obtain ⟨dx, kk, l, p, h1, h2, h3, h4⟩ := h
  have t : ∀ {a : Addr} {xs : List V}, SqT K H a xs → SqT K H' a xs := fun h => keep_sqt (p := D) hD (fun b o n e => k b o n e) h
  have hk : Dp K H' kk (.tuple (kiD ks)) := by
    cases h2 with
    | tup a b =>
      rw [txts_of b] at a
      exact .tup (t a) (of_txts ks)
  have hl : Dp K H' l (.tuple (loD ls)) := by
    cases h3 with
    | tup a b => exact .tup (t a) (looks_but hD k b)
  have hp : Dp K H' p (.tuple (paD ks ls)) := by
    cases h4 with
    | tup a b => exact .tup (t a) (parts_but hD k b)
  exact ⟨dx, kk, l, p, k _ _ (fun e => by rw [e, hD] at h1; cases h1) h1, hk, hl, hp⟩
where
  parts_but {K : PySem.W.Frag} {H H' : Hp} {D : Addr} {L : List V} {ls : List (Str × Str)} (hD : H D = some (.lst L)) (k : But D H H') : ∀ {ks : List Str} {us : List V}, DpAll K H us (paD ks ls) → DpAll K H' us (paD ks ls)
    | [], _, h => looks_but hD k h
    | _ :: _, _, h => by
      cases h with
      | cons h1 h2 =>
        cases h1
        exact .cons (.str _) (parts_but hD k h2)
/-- the heap without one object -/
def hid (p : Addr) (H : Hp) : Hp := fun b => if b = p then none else H b
theorem hid_at {p b : Addr} {H : Hp} (h : b ≠ p) : hid p H b = H b := if_neg h
theorem hid_self {p : Addr} {H : Hp} : hid p H p = none := if_pos rfl
theorem hid_but (p : Addr) (H : Hp) : But p H (hid p H) := fun b o n e => by rw [hid_at n]; exact e
theorem hid_same (p : Addr) (H : Hp) : Same (hid p H) H := fun b o e => by
  unfold hid at e
  split at e
  · cases e
  · exact e
theorem same_hid {p : Addr} {Z H : Hp} (s : Same Z H) (hz : Z p = none) : Same Z (hid p H) := fun b o e => by
  have n : b ≠ p := fun z => by rw [z, hz] at e; cases e
  rw [hid_at n]
  exact s _ _ e
section
variable {K : PySem.W.Frag} {CR : Addr}
/-- two rules under an own operator -/
theorem op_rules {H : Hp} {Q : VK} {E : XK} {x y : Addr} {k1 k2 : List Str} {l1 l2 : List (Str × Str)} {fk : List Str → List Str → List Str} {fl : List (Str × Str) → List (Str × Str) → List (Str × Str)} (hx : RuleV K CR H x k1 l1) (hy : RuleV K CR H y k2 l2) (G1 : RuleG k1 l1) (G2 : RuleG k2 l2)
    (q : ∀ z ls H', LooksOf (fl l1 l2) ls → H z = none → Same H H' → RuleV K CR H' z (kinds6 (fk k1 k2)) ls → Q (.ref z) H') : rOpO CR (spROp K CR fk fl) E (.ref x) (.ref y) H Q := by
  obtain ⟨dx, k, l, p, h1, _⟩ := id hx
  obtain ⟨dy, k', l', p', h2, _⟩ := id hy
  exact ⟨x, y, dx, dy, _, _, rfl, rfl, h1, h2, x, y, k1, k2, l1, l2, rfl, hx, G1, hy, G2, q⟩
end
end K5

namespace K5S
open PySem L2 K5
abbrev sOf : Stmt := top 31
abbrev sLawWord : Stmt := top 32
abbrev sLawWords : Stmt := top 33
def spOf : Sp := fun vs H Q _ => ∃ (p : Addr) (c : Nat) (a : Addr) (xs : List V), vs = [.ref p, .ref a] ∧ Pool H p c ∧ c ≤ 900000 ∧ H a = some (.lst xs) ∧ a ≠ p ∧ xs ≠ [] ∧ xs.length ≤ 1000 ∧
  ∀ (v : V) (H' : Hp), v ∈ xs → Keep p H H' → Pool H' p (c + 1) → Q v H'
theorem at_mem {xs : List V} {r : Int} (h0 : 0 ≤ r) (h1 : r < (xs.length : Int)) : ∃ v, atI xs r = some v ∧ v ∈ xs := by
  have hk : r.toNat < xs.length := by omega
  refine ⟨xs[r.toNat], at_of (j := r.toNat) (by omega) (List.getElem?_eq_getElem hk), List.getElem_mem hk⟩
theorem lstS_eq (ts : List (List Nat)) : lstS ts = (ts.map S).map V.str := by unfold lstS; rw [List.map_map]; rfl
theorem inS (y : List Nat) (ts : List (List Nat)) : inV (.str (S y)) (lstS ts) = decide (y ∈ ts) := by
  rw [lstS_eq, inV_strs]
  have : S y ∈ ts.map S ↔ y ∈ ts := by
    rw [List.mem_map]
    exact ⟨fun ⟨x, hx, e⟩ => S_inj e ▸ hx, fun h => ⟨y, h, rfl⟩⟩
  by_cases h : y ∈ ts
  · rw [decide_eq_true h, decide_eq_true (this.mpr h)]
  · rw [decide_eq_false h, decide_eq_false fun x => h (this.mp x)]
def abc : List Nat := [97, 98, 99, 100, 101, 102, 103, 104, 105, 106, 107, 108, 109, 110, 111, 112, 113, 114, 115, 116, 117, 118, 119, 120, 121, 122]
/-- what may be taken for a word m -/
def cands (m : List Nat) : List (List Nat) := m :: abc.map fun c => m ++ [c]
theorem cands_lt {m : List Nat} (h : m.all lt = true) : ∀ t ∈ cands m, t.all lt = true ∧ t.length ≤ m.length + 1 := by
  intro t ht
  rcases List.mem_cons.mp ht with rfl | ht
  · exact ⟨h, by omega⟩
  · obtain ⟨c, hc, rfl⟩ := List.mem_map.mp ht
    refine ⟨?_, by simp⟩
    rw [List.all_append, h, Bool.true_and]
    have : abc.all lt = true := all_lt
    simp [List.all_eq_true.mp this c hc]
theorem cands_ne {m : List Nat} (h : m ≠ []) : ∀ t ∈ cands m, t ≠ [] := by
  intro t ht
  rcases List.mem_cons.mp ht with rfl | ht
  · exact h
  · obtain ⟨c, _, rfl⟩ := List.mem_map.mp ht
    simp
theorem cands_free {m : List Nat} {tk : List (List Nat)} (h : tk.length ≤ 2) : ((cands m).filter fun t => !decide (t ∈ tk)) ≠ [] := by
  intro e
  have all : ∀ y ∈ cands m, y ∈ tk := fun y hy => by
    apply Classical.byContradiction
    intro n
    have : y ∈ (cands m).filter fun t => !decide (t ∈ tk) := List.mem_filter.mpr ⟨hy, by rw [decide_eq_false n]; rfl⟩
    rw [e] at this
    cases this
  have h1 := all m (List.mem_cons_self ..)
  have h2 := all (m ++ [97]) (List.mem_cons_of_mem _ (List.mem_map.mpr ⟨97, by decide, rfl⟩))
  have h3 := all (m ++ [98]) (List.mem_cons_of_mem _ (List.mem_map.mpr ⟨98, by decide, rfl⟩))
  have n12 : m ≠ m ++ [97] := fun q => by have := congrArg List.length q; simp at this
  have n13 : m ≠ m ++ [98] := fun q => by have := congrArg List.length q; simp at this
  have n23 : m ++ [97] ≠ m ++ [98] := fun q => by simp at q
  match tk, h with
  | [], _ => cases h1
  | [x], _ => exact n12 ((List.mem_singleton.mp h1).trans (List.mem_singleton.mp h2).symm)
  | [x, y], _ =>
    simp only [List.mem_cons, List.not_mem_nil, or_false] at h1 h2 h3
    rcases h1 with h1 | h1 <;> rcases h2 with h2 | h2 <;> rcases h3 with h3 | h3
    all_goals first | exact n12 (h1.trans h2.symm) | exact n13 (h1.trans h3.symm) | exact n23 (h2.trans h3.symm)
/-- a drawn word that is not taken -/
def spLawWord : Sp := fun vs H Q _ => ∃ (p : Addr) (c : Nat) (a : Addr) (tk : List (List Nat)), vs = [.ref p, .ref a] ∧ Pool H p c ∧ c ≤ 800000 ∧ H a = some (.lst (lstS tk)) ∧ a ≠ p ∧ tk.length ≤ 2 ∧
  ∀ (r : List Nat) (H' : Hp), r.all lt = true → r ≠ [] → r.length ≤ 12 → Keep p H H' → Pool H' p (c + 12) → Q (.str (S r)) H'
section
variable {P : Program} {w : World} {K : PySem.W.Frag} {mg : Str → Option Value} {base : Heap} {aS : Addr}
theorem scOf : FnScope ["_law_pool_here", "_law_some"] ["_law_pool_here", "_law_some"] (defScope sOf) := ⟨rfl, rfl, rfl, by decide +kernel, rfl, by decide +kernel, by decide +kernel⟩
theorem ok_of {f fP : Addr} {fd fdP : FuncData} (F : Fun K "_law_of" "_law_of" sOf f fd) (T : Mod K mg aS)
    (kP : PySem.W.keepIn K (.ref fP) = true) (GP : FnOk P w K mg base CX0 1 fP fdP ["_law_pool_here", "_law_many"] spPick) (bP : Binds K fdP ["_law_pool_here", "_law_many"] []) (mP : mg "_law_pick" = some (.ref fP)) :
    FnOk P w K mg base CX0 2 f fd ["_law_pool_here", "_law_some"] spOf := by
  refine F.ok scOf (fun vs H Q E h => ?_) (fun cdv A outer s H vs Q E hr h => ?_)
  · obtain ⟨p, c, a, xs, rfl, _⟩ := h
    rfl
  · obtain ⟨p, c, a, xs, rfl, hp, hc, ha, hap, hn, hl, q⟩ := h
    refine ⟨_, pss_one (ps_ret (pe_ix ix_list (pv 1) (pe_call GP hr rfl mP kP bP .nil pass0 (pa_cons (pv 0) (pa_cons (pe_callB call_len_seq (by rfl) T.len PySem.boot_len (pa_cons (pv 1) pa_nil)) pa_nil))) (fun _ _ => rfl))), ?_⟩
    have := List.length_pos_iff.mpr hn
    refine ⟨_, rfl, _, rfl, _, rfl, a, xs, rfl, .inl (SqL.of ha), p, c, _, rfl, hp, by omega, by omega, by omega, fun r H' r0 r1 hk hp' => ?_⟩
    obtain ⟨v, hv, hm⟩ := at_mem r0 r1
    exact ⟨a, xs, r, v, rfl, rfl, SqL.of (hk _ _ hap ha), hv, q v H' hm hk hp'⟩
abbrev nWord : List Str := ["_law_pool_here", "_law_taken", "_law_letters", "_law_many", "_law_wide", "_law_made", "_law_k", "_law_letter", "_law_one"]
theorem scLawWord : FnScope nWord ["_law_pool_here", "_law_taken"] (defScope sLawWord) := ⟨rfl, rfl, rfl, by decide +kernel, rfl, by decide +kernel, by decide +kernel⟩
theorem at_many {r : Int} (h0 : 0 ≤ r) (h1 : r < 6) : ∃ m : Nat, 1 ≤ m ∧ m ≤ 11 ∧ atI [V.int 1, V.int 1, V.int 1, V.int 2, V.int 3, V.int 11] r = some (V.int m) := by
  rcases (show r = 0 ∨ r = 1 ∨ r = 2 ∨ r = 3 ∨ r = 4 ∨ r = 5 by omega) with h | h | h | h | h | h <;> subst h
  · exact ⟨1, by decide, by decide, rfl⟩
  · exact ⟨1, by decide, by decide, rfl⟩
  · exact ⟨1, by decide, by decide, rfl⟩
  · exact ⟨2, by decide, by decide, rfl⟩
  · exact ⟨3, by decide, by decide, rfl⟩
  · exact ⟨11, by decide, by decide, rfl⟩
theorem ok_lawWord {f fP : Addr} {fd fdP : FuncData} (F : Fun K "_law_word" "_law_word" sLawWord f fd) (T : Mod K mg aS)
    (kP : PySem.W.keepIn K (.ref fP) = true) (GP : FnOk P w K mg base CX0 1 fP fdP ["_law_pool_here", "_law_many"] spPick) (bP : Binds K fdP ["_law_pool_here", "_law_many"] []) (mP : mg "_law_pick" = some (.ref fP)) :
    FnOk P w K mg base CX0 2 f fd ["_law_pool_here", "_law_taken"] spLawWord := by
  refine F.ok scLawWord (fun vs H Q E h => ?_) (fun cdv A outer s H vs Q E hr h => ?_)
  · obtain ⟨p, c, a, tk, rfl, _⟩ := h
    rfl
  · obtain ⟨p, c, a, tk, rfl, hp, hc, ha, hap, htk, q⟩ := h
    refine ⟨_, pss_cons (ps_set (i := 2) scLawWord.nd rfl (.inr rfl) pe_str)
      (C8.pss_cut (ps_set (i := 3) scLawWord.nd rfl (.inl rfl) (pe_ix ix_list (pe_lst (pa_cons pe_int (pa_cons pe_int (pa_cons pe_int (pa_cons pe_int (pa_cons pe_int (pa_cons pe_int pa_nil))))))) (pe_call GP hr rfl mP kP bP .nil pass0 (pa_cons (pv 0) (pa_cons pe_int pa_nil))) (fun _ _ => rfl)))
      (C8.pss_cut (ps_set (i := 4) scLawWord.nd rfl (.inr rfl) (pe_ifExp (pt_cmpR op_eq (pv 3) pe_int (nomark _)) pe_int pe_int))
      (C8.pss_cut (ps_set (i := 5) scLawWord.nd rfl (.inr rfl) (pe_join pe_str (pe_lc (own := [("_law_k", 6)]) (g := gName 6) (tt := tYes) (by rfl) scLawWord.nd (pi_range1 (by rfl) T.range (pa_cons (pv 3) pa_nil))
        (blkOk_by (own := [("_law_k", 6)]) (N := nWord) (sc := defScope sLawWord) (by decide +kernel)) (fun _ _ _ _ _ => pg_name (i := 6) scLawWord.nd rfl (Or.inl rfl))
        (fun _ _ _ _ _ => pts_nil) (fun _ _ _ _ _ => pe_ix ix_str (pv 2) (pe_call GP hr rfl mP kP bP .nil pass0 (pa_cons (pv 0) (pa_cons (pv 4) pa_nil))) (fun _ _ => rfl)))))
      (pss_one (ps_ret (pe_ix ix_list (pe_lc (own := [("_law_one", 8)]) (g := gName 8) (tt := tTest (tOp (rIn K true) (tVar 8) (tVar 1))) (by rfl) scLawWord.nd (pi_list (pe_op op_cat (pe_lst (pa_cons (pv 5) pa_nil)) (pe_lc (own := [("_law_letter", 7)]) (g := gName 7) (tt := tYes) (by rfl) scLawWord.nd (pi_str (pv 2))
            (blkOk_by (own := [("_law_letter", 7)]) (N := nWord) (sc := defScope sLawWord) (by decide +kernel)) (fun _ _ _ _ _ => pg_name (i := 7) scLawWord.nd rfl (Or.inl rfl)) (fun _ _ _ _ _ => pts_nil) (fun _ _ _ _ _ => pe_op op_add_str (pv 5) (pv 7)))))
          (blkOk_by (own := [("_law_one", 8)]) (N := nWord) (sc := defScope sLawWord) (by decide +kernel)) (fun _ _ _ _ _ => pg_name (i := 8) scLawWord.nd rfl (Or.inl rfl)) (fun _ _ _ _ _ => pts_one (pt_cmpR op_notIn_seq (pv 8) (pv 1) (by rfl))) (fun _ _ _ _ _ => pv 8)) pe_int (fun _ _ => rfl))))))), ?_⟩
    refine ⟨fun σ H' => ∃ m : Nat, 1 ≤ m ∧ m ≤ 11 ∧ σ = [some (.ref p), some (.ref a), some (.str "abcdefghijklmnopqrstuvwxyz"), some (.int m), none, none, none, none, none] ∧ Keep p H H' ∧ Pool H' p (c + 1), ?_, ?_⟩
    · refine ⟨by show 6 ≤ sizeLine; decide, fun l hl => ⟨_, rfl, p, c, 6, rfl, hp.new hl, by omega, by decide, by decide, fun r H2 r0 r1 hk hp2 => ?_⟩⟩
      obtain ⟨m, m1, m2, hm⟩ := at_many r0 r1
      exact ⟨l, _, r, _, rfl, rfl, SqL.of (hk _ _ (pool_ne hp hl) upd_same), hm, m, m1, m2, rfl, ((Keep.refl p H).new hl).trans hk, hp2⟩
    rintro σ H1 ⟨m, m1, m2, rfl, k1, p1⟩
    refine ⟨fun σ H' => ∃ x : Nat, 1 ≤ x ∧ x ≤ 26 ∧ σ = [some (.ref p), some (.ref a), some (.str "abcdefghijklmnopqrstuvwxyz"), some (.int m), some (.int x), none, none, none, none] ∧ H' = H1, ?_, ?_⟩
    · refine ⟨_, rfl, rfl, _, rfl, ite2 (fun _ => ⟨4, by decide, by decide, rfl, rfl⟩) (fun _ => ⟨26, by decide, by decide, rfl, rfl⟩)⟩
    rintro σ H1' ⟨x, x1, x2, rfl, rfl⟩
    refine ⟨fun σ H' => ∃ ls : List Nat, ls.length = m ∧ ls.all lt = true ∧ σ = [some (.ref p), some (.ref a), some (.str "abcdefghijklmnopqrstuvwxyz"), some (.int m), some (.int x), some (.str (S ls)), none, none, none] ∧ Keep p H H' ∧ Pool H' p (c + 1 + m), ?_, ?_⟩
    · refine ⟨⟨_, rfl⟩, _, rfl, m, rfl, by omega, by omega, fun D hD => ?_⟩
      have hDp := pool_ne p1 hD
      refine lc_range (lo := 0) (n := m) (Ones p D H1' (c + 1) lt) ⟨[], rfl, rfl, upd_same, (Keep.refl p H1').new hD, p1.new hD⟩ ?_ ?_
      · intro i H' hi O
        obtain ⟨_, _, _, _, _, pi⟩ := id O
        refine ⟨rfl, ?_⟩
        refine ⟨_, rfl, _, rfl, _, rfl, p, c + 1 + i, x, rfl, pi, by omega, by omega, by omega, fun r H'' r0 r1 hk hp' => ?_⟩
        obtain ⟨d, hd, hl⟩ := at_sign cps_lits all_lt r0 (by simp; omega)
        exact ⟨_, r, d, rfl, rfl, by decide +kernel, hd, O.next hD hDp hk hp' hl hi (by omega)⟩
      · rintro H' ⟨rs, h1, h2, h3, h4, h5⟩
        refine ⟨_, D, (rs.map fun c => [c]).map S, rfl, rfl, .inl (SqL.of (by rw [h3, onesV_eq])), ?_, ?_⟩
        · rw [ones_sum, str_none, S_len]
          simp
          omega
        · rw [str_none, glue, flat_ones]
          exact ⟨rs, h1, h2, rfl, k1.trans h4, h5⟩
    rintro σ H2 ⟨ls, l1, l2, rfl, k2, p2⟩
    have pk2 := k2
    refine ⟨_, rfl, by show 1 ≤ sizeLine; decide, fun m1' hm1 => ⟨_, rfl, _, rfl, fun D hD => ?_⟩⟩
    have h1n : H2 m1' = none := hm1
    refine lc_it walk_str (fun i H' => Same H2 H' ∧ H' m1' = some (.lst [V.str (S ls)]) ∧ H' D = some (.lst (((("abcdefghijklmnopqrstuvwxyz" : Str).cps.toList.take i).map fun c => V.str (S (ls ++ [c])))))) ?_ (fun _ _ _ _ => trivial) ?_ ?_
    · exact ⟨Same.new (Same.new (Same.refl H2) hm1) hD, by rw [upd_ne (ne_of_none upd_same hD)]; exact upd_same, upd_same⟩
    · rintro i x0 H3 H4 hi ⟨s3, h3, h4⟩ ⟨rfl, c0, hc0, rfl⟩
      refine ⟨rfl, ?_⟩
      have hi' : i < 26 := hi
      refine ⟨_, rfl, _, rfl, _, _, rfl, rfl, ?_, _, h4, ?_, fun b o e => ?_, ?_, ?_⟩
      · rw [S_len]
        show ls.length + 1 ≤ sizeLine
        exact line_ge (by omega)
      · rw [List.length_map, List.length_take]
        exact Nat.lt_of_lt_of_le (show _ < 1000 by omega) (by decide)
      · rw [upd_ne (ne_of_none ((Same.new (o := .lst [V.str (S ls)]) (Same.refl H2) hm1) _ _ e |> fun z => by
          exact z) hD)]
        exact s3 b o e
      · rw [upd_ne (ne_of_none upd_same hD)]; exact h3
      · have : S ls ++ (⟨#[c0]⟩ : Str) = S (ls ++ [c0]) := S_app ls [c0]
        rw [upd_same, this, ← take_more (fun c => V.str (S (ls ++ [c]))) (cps_at hc0)]
    · rintro H3 ⟨s3, h3, h4⟩
      have e26 : ("abcdefghijklmnopqrstuvwxyz" : Str).cps.toList.take ("abcdefghijklmnopqrstuvwxyz" : Str).cps.size = abc := by
        rw [List.take_of_length_le (by simp), cps_lits]
        rfl
      have key : ([V.str (S ls)] : List V) ++ ((("abcdefghijklmnopqrstuvwxyz" : Str).cps.toList.take ("abcdefghijklmnopqrstuvwxyz" : Str).cps.size).map fun c => V.str (S (ls ++ [c]))) = lstS (cands ls) := by
        rw [e26]
        unfold lstS cands
        rw [List.map_cons, List.map_map]
        rfl
      have hap2 : H2 a = some (.lst (lstS tk)) := k2 _ _ hap ha
      refine ⟨m1', D, _, _, rfl, rfl, h3, h4, ?_, fun L hL => ⟨L, rfl, ⟨_, SqL.of upd_same⟩, fun D2 hD2 => ?_⟩⟩
      · rw [e26]
        show 1 + 26 ≤ sizeLine
        decide
      rw [key] at hD2 ⊢
      have t0 : Same H2 (upd H3 L (.lst (lstS (cands ls)))) := Same.new s3 hL
      have hcl : (lstS (cands ls)).length = 27 := by unfold lstS; rw [List.length_map]; rfl
      refine lc_list (K := K) (a := L) (xs := lstS (cands ls)) (fun i H' => Same (upd H3 L (.lst (lstS (cands ls)))) H' ∧ H' D2 = some (.lst (lstS (((cands ls).take i).filter fun t => !decide (t ∈ tk))))) ⟨Same.new (Same.refl _) hD2, upd_same⟩ (fun i H' _ ⟨s', _⟩ => SqL.of (s' _ _ upd_same)) ?_ ?_
      · rintro i y H5 hi ⟨s5, h5⟩
        obtain ⟨r, hr0, rfl⟩ := lst_at hi
        have hi27 : i < 27 := (List.getElem?_eq_some_iff.mp hr0).1
        refine ⟨rfl, ?_⟩
        refine ⟨_, rfl, _, rfl, a, _, rfl, .inl (SqL.of (s5 _ _ (t0 _ _ hap2))), rfl, (by rw [lstS_eq]; exact flat_strs _), _, rfl, ?_⟩
        show if (!inV (.str (S r)) (lstS tk)) = true then _ else _
        rw [inS]
        have tk1 : (cands ls).take (i + 1) = (cands ls).take i ++ [r] := by rw [List.take_add_one, hr0]; rfl
        by_cases hm : r ∈ tk
        · rw [decide_eq_true hm]
          refine iteF ⟨s5, ?_⟩
          rw [tk1, List.filter_append, List.filter_cons_of_neg (by rw [decide_eq_true hm]; decide), List.filter_nil, List.append_nil]
          exact h5
        · rw [decide_eq_false hm]
          refine iteT ⟨_, rfl, _, h5, ?_, Same.put s5 hD2, ?_⟩
          · refine lst_short (n := 27) ?_ (by decide)
            refine Nat.le_trans (List.length_filter_le _ _) ?_
            rw [List.length_take]; omega
          · rw [upd_same, lstS_add, tk1, List.filter_append, List.filter_cons_of_pos (by rw [decide_eq_false hm]; rfl), List.filter_nil]
      · rintro H5 ⟨s5, h5⟩
        rw [hcl, List.take_of_length_le (show (cands ls).length ≤ 27 from Nat.le_refl _)] at h5
        have hn := cands_free (m := ls) htk
        cases hL2 : (cands ls).filter fun t => !decide (t ∈ tk) with
        | nil => exact absurd hL2 hn
        | cons r rs =>
          rw [hL2] at h5
          have hr0 : r ∈ cands ls := (List.mem_filter.mp (by rw [hL2]; exact List.mem_cons_self ..)).1
          obtain ⟨r1, r2⟩ := cands_lt l2 r hr0
          refine ⟨D2, _, 0, _, rfl, rfl, SqL.of h5, atI_nat (j := 0) rfl, q r H5 r1 (cands_ne (fun e => by rw [e] at l1; simp at l1; omega) r hr0) (by omega) (k2.trans (Same.keep (t0.trans s5))) ((p2.same (t0.trans s5)).mono (by omega))⟩
end
end K5S

namespace K5S
open PySem L2 K5
abbrev sTokens : Stmt := top 34
/-- tokens of a file -/
def TokL (ts : List (List Nat)) : Prop := ∀ r ∈ ts, TokOk (S r)
theorem cp_let {c : Nat} (h : lt c = true) : c ∈ cLetters.cps.toList := by
  have z : ∀ n : Fin 128, lt n.1 = true → n.1 ∈ cLetters.cps.toList := by decide +kernel
  unfold lt at h
  rw [Bool.and_eq_true] at h
  have h2 := of_decide_eq_true h.2
  exact z ⟨c, by omega⟩ (by unfold lt; rw [Bool.and_eq_true]; exact h)
theorem word_in {r : List Nat} (h : r.all lt = true) (hn : r ≠ []) (hl : r.length ≤ 12) : inAll (S r) cLetters = true := by
  unfold inAll
  have h1 : 1 ≤ r.length := List.length_pos_iff.mpr hn
  rw [S_len, decide_eq_true h1, decide_eq_true hl, S_cps, Bool.true_and, Bool.true_and, List.all_eq_true]
  exact fun c hc => decide_eq_true (cp_let (List.all_eq_true.mp h c hc))
theorem lt_tok {r : List Nat} (h : r.all lt = true) (hn : r ≠ []) (hl : r.length ≤ 12) : TokOk (S r) := by
  have hw := word_in h hn hl
  refine ⟨decide_eq_true fun e => ?_, by rw [S_len]; omega, ?_⟩
  · unfold sortV at e
    by_cases c : S r ∈ signs
    · rw [if_pos c] at e; cases e
    · rw [if_neg c, if_pos hw] at e; cases e
  · have hs : (S r).cps.all (· < 0x110000) = r.all (· < 0x110000) := by
      show r.toArray.all (· < 0x110000) = _
      simp
    show (S r).cps.all (· < 0x110000) = true
    rw [hs, List.all_eq_true]
    intro c hc
    have z := List.all_eq_true.mp h c hc
    unfold lt at z
    rw [Bool.and_eq_true] at z
    have := of_decide_eq_true z.2
    exact decide_eq_true (by omega)
def spLawWords : Sp := fun vs H Q _ => ∃ (p : Addr) (c : Nat) (a : Addr), vs = [.ref p, .int 2, .ref a] ∧ Pool H p c ∧ c ≤ 700000 ∧ H a = some (.lst []) ∧ a ≠ p ∧
  ∀ (D : Addr) (ts : List (List Nat)) (H' : Hp), H D = none → H' D = some (.lst (lstS ts)) → ts.length = 2 → TokL ts → Keep p H H' → Pool H' p (c + 24) → Q (.ref D) H'
def spTokens : Sp := fun vs H Q _ => ∃ (p : Addr) (c : Nat), vs = [.ref p, .int 10] ∧ Pool H p c ∧ c ≤ 600000 ∧
  ∀ (D : Addr) (ts : List (List Nat)) (H' : Hp), H D = none → D ≠ p → H' D = some (.lst (lstS ts)) → ts.length ≤ 10 → TokL ts → Keep p H H' → Pool H' p (c + 60) → Q (.ref D) H'
section
variable {P : Program} {w : World} {K : PySem.W.Frag} {mg : Str → Option Value} {base : Heap} {aS : Addr}
theorem scLawWords : FnScope ["_law_pool_here", "_law_many", "_law_taken", "_law_found", "_law_k"] ["_law_pool_here", "_law_many", "_law_taken"] (defScope sLawWords) := ⟨rfl, rfl, rfl, by decide +kernel, rfl, by decide +kernel, by decide +kernel⟩
theorem ok_lawWords {f fW : Addr} {fd fdW : FuncData} (F : Fun K "_law_words" "_law_words" sLawWords f fd) (T : Mod K mg aS)
    (kW : PySem.W.keepIn K (.ref fW) = true) (GW : FnOk P w K mg base CX0 2 fW fdW ["_law_pool_here", "_law_taken"] spLawWord) (bW : Binds K fdW ["_law_pool_here", "_law_taken"] []) (mW : mg "_law_word" = some (.ref fW)) :
    FnOk P w K mg base CX0 3 f fd ["_law_pool_here", "_law_many", "_law_taken"] spLawWords := by
  refine F.ok scLawWords (fun vs H Q E h => ?_) (fun cdv A outer s H vs Q E hr h => ?_)
  · obtain ⟨p, c, a, rfl, _⟩ := h
    rfl
  · obtain ⟨p, c, a, rfl, hp, hc, ha, hap, q⟩ := h
    refine ⟨_, pss_cons (ps_set (i := 3) scLawWords.nd rfl (.inl rfl) (pe_lst pa_nil))
      (pss_cons (ps_for PassesOwn.never rfl (pi_range1 (by rfl) T.range (pa_cons (pv 1) pa_nil)) (pg_name (i := 4) scLawWords.nd rfl (.inl rfl))
        (pss_one (ps_expr (pe_bm PySem.F.plainAttrs_list PySem.F.slot_list_append PySem.F.type_list_append mt_append (pv 3) (pa_cons (pe_call GW hr rfl mW kW bW .nil pass0 (pa_cons (pv 0) (pa_cons (pe_op op_cat (pv 2) (pv 3)) pa_nil))) pa_nil)))))
      (pss_one (ps_ret (pv 3)))), ?_⟩
    refine ⟨Nat.zero_le _, fun D hD => ⟨_, rfl, 2, rfl, by decide, by decide, for_range (lo := 0) (n := 2) (fun i σ H' => ∃ (v : Option V) (ts : List (List Nat)), σ = [some (.ref p), some (.int 2), some (.ref a), some (.ref D), v] ∧ ts.length = i ∧ TokL ts ∧ H' D = some (.lst (lstS ts)) ∧ Keep p H H' ∧ Pool H' p (c + 12 * i))
      ⟨none, [], rfl, rfl, fun _ h => (nomatch h), upd_same, (Keep.refl p H).new hD, hp.new hD⟩ ?_ ?_⟩⟩
    · rintro i σ H1 hi ⟨v, ts, rfl, ht, hty, h1, k1, p1⟩
      have hDp : D ≠ p := pool_ne hp hD
      have hDa : a ≠ D := ne_of_none ha hD
      have ha1 := k1 _ _ hap ha
      refine ⟨_, rfl, .inl ⟨rfl, _, SqL.of h1⟩, _, rfl, _, rfl, _, rfl, a, D, [], _, rfl, rfl, ha1, h1, ?_, fun L hL => ?_⟩
      · unfold lstS; rw [List.length_map]; exact line_ge (by show 0 + ts.length ≤ _; omega)
      refine ⟨p, c + 12 * i, L, ts, rfl, p1.new hL, by omega, upd_same, pool_ne p1 hL, by omega, fun r H2 r1 r0 r2 k2 p2 => ?_⟩
      have h2 : H2 D = some (.lst (lstS ts)) := k2 _ _ hDp (by rw [upd_ne (ne_of_none h1 hL)]; exact h1)
      refine ⟨D, _, _, rfl, rfl, h2, lst_short (n := i) (by omega) (by omega), _, ts ++ [r], rfl, by simp [ht], ?_, by rw [upd_same, lstS_add], ?_, (p2.other (Ne.symm hDp)).mono (by omega)⟩
      · intro x hx
        rcases List.mem_append.mp hx with hx | hx
        · exact hty x hx
        · rw [List.mem_singleton.mp hx]; exact lt_tok r1 r0 r2
      · intro b o n e
        rw [upd_ne (ne_of_none e hD)]
        exact ((k1.new hL).trans k2) b o n e
    · rintro σ H1 ⟨v, ts, rfl, ht, hty, h1, k1, p1⟩
      exact ⟨_, rfl, q D ts H1 hD h1 ht hty k1 p1⟩
abbrev nTok : List Str := ["_law_pool_here", "_law_many", "_law_menu", "_law_k"]
theorem scTok : FnScope nTok ["_law_pool_here", "_law_many"] (defScope sTokens) := ⟨rfl, rfl, rfl, by decide +kernel, rfl, by decide +kernel, by decide +kernel⟩
theorem mem_lst {v : V} {ts : List (List Nat)} (h : v ∈ lstS ts) : ∃ r ∈ ts, v = V.str (S r) := by
  unfold lstS at h
  obtain ⟨r, hr, e⟩ := List.mem_map.mp h
  exact ⟨r, hr, e.symm⟩
def menu10 : List (List Nat) := [[61], [59], [44], [91], [93], [97], [98], [121, 101, 115], [48], [49, 50]]
theorem menu10_eq : [V.str "=", V.str ";", V.str ",", V.str "[", V.str "]", V.str "a", V.str "b", V.str "yes", V.str "0", V.str "12"] = lstS menu10 := by decide +kernel
def menu5 : List (List Nat) := [[97], [98], [61], [59], [48]]
theorem menu5_eq : [V.str "a", V.str "b", V.str "=", V.str ";", V.str "0"] = lstS menu5 := by decide +kernel
theorem tiny10 : TokL menu10 := by
  have h : (menu10.all fun r => tokB2 (S r)) = true := by decide +kernel
  exact fun r hr => tok_of (List.all_eq_true.mp h r hr)
theorem tiny5 : TokL menu5 := by
  have h : (menu5.all fun r => tokB2 (S r)) = true := by decide +kernel
  exact fun r hr => tok_of (List.all_eq_true.mp h r hr)
theorem TokL.app {ts us : List (List Nat)} (h : TokL ts) (h' : TokL us) : TokL (ts ++ us) := fun r hr => (List.mem_append.mp hr).elim (h r) (h' r)
theorem ok_tokens {f fP fO fW : Addr} {fd fdP fdO fdW : FuncData} (F : Fun K "_law_tokens" "_law_tokens" sTokens f fd) (T : Mod K mg aS)
    (kP : PySem.W.keepIn K (.ref fP) = true) (GP : FnOk P w K mg base CX0 1 fP fdP ["_law_pool_here", "_law_many"] spPick) (bP : Binds K fdP ["_law_pool_here", "_law_many"] []) (mP : mg "_law_pick" = some (.ref fP))
    (kO : PySem.W.keepIn K (.ref fO) = true) (GO : FnOk P w K mg base CX0 2 fO fdO ["_law_pool_here", "_law_some"] spOf) (bO : Binds K fdO ["_law_pool_here", "_law_some"] []) (mO : mg "_law_of" = some (.ref fO))
    (kW : PySem.W.keepIn K (.ref fW) = true) (GW : FnOk P w K mg base CX0 3 fW fdW ["_law_pool_here", "_law_many", "_law_taken"] spLawWords) (bW : Binds K fdW ["_law_pool_here", "_law_many", "_law_taken"] []) (mW : mg "_law_words" = some (.ref fW)) :
    FnOk P w K mg base CX0 4 f fd ["_law_pool_here", "_law_many"] spTokens := by
  refine F.ok scTok (fun vs H Q E h => ?_) (fun cdv A outer s H vs Q E hr h => ?_)
  · obtain ⟨p, c, rfl, _⟩ := h
    rfl
  · obtain ⟨p, c, rfl, hp, hc, q⟩ := h
    have hr1 : Room 1 _ := hr.mono (by decide)
    have hr2 : Room 2 _ := hr.mono (by decide)
    refine ⟨_, C8.pss_cut (ps_set (i := 2) scTok.nd rfl (.inr rfl) (pe_op op_cat (pe_lst (pa_cons pe_str (pa_cons pe_str (pa_cons pe_str (pa_cons pe_str (pa_cons pe_str (pa_cons pe_str (pa_cons pe_str (pa_cons pe_str (pa_cons pe_str (pa_cons pe_str pa_nil))))))))))) (pe_call GW hr rfl mW kW bW .nil pass0 (pa_cons (pv 0) (pa_cons pe_int (pa_cons (pe_lst pa_nil) pa_nil))))))
      (C8.pss_cut (ps_if (pt_cmpR op_eq (pe_call GP hr1 rfl mP kP bP .nil pass0 (pa_cons (pv 0) (pa_cons pe_int pa_nil))) pe_int (nomark _))
          (pss_one (ps_set (i := 2) scTok.nd rfl (.inr rfl) (pe_lst (pa_cons (pe_call GO hr2 rfl mO kO bO .nil pass0 (pa_cons (pv 0) (pa_cons (pv 2) pa_nil))) (pa_cons (pe_call GO hr2 rfl mO kO bO .nil pass0 (pa_cons (pv 0) (pa_cons (pe_lst (pa_cons pe_str (pa_cons pe_str (pa_cons pe_str (pa_cons pe_str (pa_cons pe_str pa_nil)))))) pa_nil))) pa_nil))))) pss_nil)
      (pss_one (ps_ret (pe_lc (own := [("_law_k", 3)]) (g := gName 3) (tt := tYes) (by rfl) scTok.nd (pi_range1 (by rfl) T.range (pa_cons (pe_call GP hr1 rfl mP kP bP .nil pass0 (pa_cons (pv 0) (pa_cons (pe_op op_add (pv 1) pe_int) pa_nil))) pa_nil))
        (blkOk_by (own := [("_law_k", 3)]) (N := nTok) (sc := defScope sTokens) (by decide +kernel)) (fun _ _ _ _ _ => pg_name (i := 3) scTok.nd rfl (Or.inl rfl)) (fun _ _ _ _ _ => pts_nil)
        (fun _ _ _ _ _ => pe_call GO hr2 rfl mO kO bO .nil pass0 (pa_cons (pv 0) (pa_cons (pv 2) pa_nil))))))), ?_⟩
    refine ⟨fun σ H' => ∃ (M : Addr) (ts : List (List Nat)), σ = [some (.ref p), some (.int 10), some (.ref M), none] ∧ H' M = some (.lst (lstS ts)) ∧ M ≠ p ∧ ts ≠ [] ∧ ts.length ≤ 12 ∧ TokL ts ∧ Keep p H H' ∧ Pool H' p (c + 24), ?_, ?_⟩
    · refine ⟨by show 10 ≤ sizeLine; decide, fun l hl => ⟨_, rfl, Nat.zero_le _, fun e he => ?_⟩⟩
      refine ⟨p, c, e, rfl, (hp.new hl).new he, by omega, upd_same, pool_ne (hp.new hl) he, fun D ts H2 hD hD2 htl hty k2 p2 => ?_⟩
      have hlp := pool_ne hp hl
      have hl2 := k2 _ _ hlp (by rw [upd_ne (ne_of_none upd_same he)]; exact upd_same)
      refine ⟨l, D, _, _, rfl, rfl, hl2, hD2, ?_, fun M hM => ⟨M, menu10 ++ ts, rfl, ?_, pool_ne p2 hM, by simp [menu10], by rw [List.length_append, htl]; decide, tiny10.app hty, (((Keep.refl p H).new hl).new he).trans (k2.new hM), p2.new hM⟩⟩
      · unfold lstS; rw [List.length_map, htl]; show 10 + 2 ≤ sizeLine; decide
      · rw [upd_same, menu10_eq]
        unfold lstS
        rw [List.map_append]
    rintro σ H1 ⟨M, ts, rfl, hM, hMp, htn, htl, hty, k1, p1⟩
    refine ⟨fun σ H' => ∃ (M : Addr) (ts : List (List Nat)), σ = [some (.ref p), some (.int 10), some (.ref M), none] ∧ H' M = some (.lst (lstS ts)) ∧ M ≠ p ∧ ts ≠ [] ∧ ts.length ≤ 12 ∧ TokL ts ∧ Keep p H H' ∧ Pool H' p (c + 27), ?_, ?_⟩
    · refine ⟨_, rfl, p, c + 24, 2, rfl, p1, by omega, by decide, by decide, fun r H2 r0 r1 k2 p2 => ⟨rfl, _, rfl, ite2 (fun _ => ?_) (fun _ => ⟨M, ts, rfl, k2 _ _ hMp hM, hMp, htn, htl, hty, k1.trans k2, p2.mono (by omega)⟩)⟩⟩
      have hM2 := k2 _ _ hMp hM
      have nn : ∀ us : List (List Nat), us ≠ [] → lstS us ≠ [] := fun us h e => h (List.map_eq_nil_iff.mp e)
      have ll : ∀ us : List (List Nat), us.length ≤ 12 → (lstS us).length ≤ 1000 := fun us h => by unfold lstS; rw [List.length_map]; omega
      refine ⟨_, rfl, _, rfl, p, c + 25, M, _, rfl, p2.mono (by omega), by omega, hM2, hMp, nn _ htn, ll _ htl, fun v H3 hv k3 p3 => ?_⟩
      obtain ⟨x, hx, rfl⟩ := mem_lst hv
      refine ⟨_, rfl, by show 5 ≤ sizeLine; decide, fun l hl => ?_⟩
      refine ⟨p, c + 26, l, lstS menu5, rfl, p3.new hl, by omega, by rw [upd_same, menu5_eq], pool_ne p3 hl, nn _ (by decide), ll _ (by decide), fun v H4 hv k4 p4 => ?_⟩
      obtain ⟨y, hy, rfl⟩ := mem_lst hv
      refine ⟨by show 2 ≤ sizeLine; decide, fun N hN => ⟨N, [x, y], rfl, upd_same, pool_ne p4 hN, by simp, by simp, ?_, (((k1.trans k2).trans k3).new hl).trans (k4.new hN), p4.new hN⟩⟩
      intro z hz
      rcases List.mem_cons.mp hz with rfl | hz
      · exact hty _ hx
      · rw [List.mem_singleton.mp hz]; exact tiny5 _ hy
    rintro σ H2 ⟨M, ts, rfl, hM, hMp, htn, htl, hty, k2, p2⟩
    refine ⟨_, rfl, _, rfl, 10, 1, rfl, rfl, p, c + 27, 11, rfl, p2, by omega, by decide, by decide, fun n H3 n0 n1 k3 p3 => ⟨n, rfl, by omega, by omega, fun D hD => ?_⟩⟩
    have hDp := pool_ne p3 hD
    have hM3 := k3 _ _ hMp hM
    have hDM : M ≠ D := ne_of_none hM3 hD
    refine lc_range (lo := 0) (n := n.toNat) (fun i H' => ∃ us : List (List Nat), us.length = i ∧ TokL us ∧ H' D = some (.lst (lstS us)) ∧ Keep p H3 H' ∧ Pool H' p (c + 28 + i)) ⟨[], rfl, fun _ h => (nomatch h), upd_same, (Keep.refl p H3).new hD, p3.new hD⟩ ?_ ?_
    · rintro i H' hi ⟨us, a1, a2, a3, a4, a5⟩
      refine ⟨rfl, ?_⟩
      refine ⟨_, rfl, _, rfl, p, c + 28 + i, M, _, rfl, a5, by omega, a4 _ _ hMp hM3, hMp, (fun e => htn (List.map_eq_nil_iff.mp e)), by unfold lstS; rw [List.length_map]; omega, fun v H4 hv k4 p4 => ?_⟩
      obtain ⟨x, hx, rfl⟩ := mem_lst hv
      refine ⟨_, k4 _ _ hDp a3, lst_short (n := i) (by omega) (by omega), us ++ [x], by simp [a1], ?_, by rw [upd_same, lstS_add], ?_, (p4.mono (by omega)).other (Ne.symm hDp)⟩
      · intro z hz
        rcases List.mem_append.mp hz with hz | hz
        · exact a2 z hz
        · rw [List.mem_singleton.mp hz]; exact hty _ hx
      · intro b o n' e
        rw [upd_ne (ne_of_none e hD)]
        exact k4 b o n' (a4 b o n' e)
    · rintro H' ⟨us, a1, a2, a3, a4, a5⟩
      exact q D us H' ((k2.trans k3).free hDp hD) hDp a3 (by omega) a2 ((k2.trans k3).trans a4) (a5.mono (by omega))
end
end K5S

namespace K5
open PySem L2 K5S
/-! a drawn rule -/
abbrev sLRule : Stmt := top 35
abbrev nLRule : List Str := ["_law_pool_here", "_law_first", "_law_second", "_law_menu", "_law_given", "_law_rule_here", "_law_one", "_law_k"]
def spLRule (K : PySem.W.Frag) (CR : Addr) : Sp := fun vs H Q _ => ∃ (p : Addr) (c : Nat), vs = [.ref p] ∧ Pool H p c ∧ c ≤ 100000 ∧
  ∀ (t A G x : Addr) (ps : List Str) (us : List V) (gs ls : List (Str × Str)) (ks : List Str) (H' : Hp), H' t = some (.tup [.ref A, .ref G, .ref x]) → H A = none → H G = none → A ≠ G → H' A = some (.lst (ps.map V.str)) → (∀ z ∈ ps, z ∈ words6) → ps.length ≤ 6 → H' G = some (.lst us) → DpAll K H' us (loD gs) → (∀ q ∈ gs, q ∈ looks10) → gs.length ≤ 3 →
    RuleV K CR H' x ks ls → RuleG ks ls → (∀ z ∈ words6, (z ∈ ks ↔ z ∈ ps)) → LooksOf gs ls → Keep p H H' → Pool H' p (c + 20) → Q (.ref t) H'
/-- | of rules -/
structure RuleO (P : Program) (w : World) (K : PySem.W.Frag) (mg : Str → Option Value) (base : Heap) (CR : Addr) : Prop where
  or_ : ∃ f fd, FnOk P w K mg base CX0 8 f fd ["self", "other"] (spROp K CR (· ++ ·) (· ++ ·)) ∧ OpO K CR f .BitOr "__or__" ∧ Binds K fd ["self", "other"] []
abbrev stR (p : Addr) (a b m g r o : Option V) : L2.St := [some (.ref p), a, b, m, g, r, o, none]
section
variable {P : Program} {w : World} {K : PySem.W.Frag} {mg : Str → Option Value} {base : Heap} {CR CX : Addr}
theorem scLRule : FnScope nLRule ["_law_pool_here"] (defScope sLRule) := ⟨rfl, rfl, rfl, by decide +kernel, rfl, by decide +kernel, by decide +kernel⟩
theorem ok_lrule {f : Addr} {fd : FuncData} (F : Fun K "_law_rule" "_law_rule" sLRule f fd) (T : Bare mg) (RC : RuleC K mg CR) (MR : MkR P w K mg base CR CX) (RO : RuleO P w K mg base CR) (GP : Fn P w K mg base 1 "_law_pick" ["_law_pool_here", "_law_many"] spPick) (GO : Fn P w K mg base 2 "_law_of" ["_law_pool_here", "_law_some"] K5.spOf) :
    FnOk P w K mg base CX0 9 f fd ["_law_pool_here"] (spLRule K CR) := by
  obtain ⟨fI, fdI, u0, v0, M, FI, SB, SB0, rv, hv0⟩ := MR.ex
  obtain ⟨fO, fdO, FO, oO, bO⟩ := RO.or_
  refine F.ok scLRule (fun vs H Q E h => ?_) (fun cdv A outer s H vs Q E hr h => ?_)
  · obtain ⟨p, c, rfl, _⟩ := h
    rfl
  · obtain ⟨p, c, rfl, hp, hc, q⟩ := h
    have hr8 : Room 8 _ := hr
    have hr6 : Room 6 _ := hr.mono (by decide)
    have hr2 : Room 2 _ := hr.mono (by decide)
    have hr1 : Room 1 _ := hr.mono (by decide)
    refine ⟨_, (C8.pss_cut (ps_setLc (i := 1) rfl scLRule.nd rfl rfl (by rfl) (own := [("_law_one", 6)]) (g := gName 6) (te := tVar 6) (pi_list (pe_lst (pa_cons pe_str (pa_cons pe_str (pa_cons pe_str pa_nil))))) (blkOk_by (own := [("_law_one", 6)]) (N := nLRule) (sc := defScope sLRule) (by decide +kernel)) (fun _ _ _ _ _ => pg_name (i := 6) scLRule.nd rfl (Or.inl rfl)) (fun _ _ _ _ _ => pts_one (pt_cmpR op_eq (pe_fn GP hr1 rfl (pa_cons (pv 0) (pa_cons pe_int pa_nil))) pe_int (nomark _))) (fun _ _ _ _ _ => pv 6))
        (C8.pss_cut (ps_setLc (i := 2) rfl scLRule.nd rfl rfl (by rfl) (own := [("_law_one", 6)]) (g := gName 6) (te := tVar 6) (pi_list (pe_lst (pa_cons pe_str (pa_cons pe_str (pa_cons pe_str pa_nil))))) (blkOk_by (own := [("_law_one", 6)]) (N := nLRule) (sc := defScope sLRule) (by decide +kernel)) (fun _ _ _ _ _ => pg_name (i := 6) scLRule.nd rfl (Or.inl rfl)) (fun _ _ _ _ _ => pts_one (pt_cmpR op_eq (pe_fn GP hr1 rfl (pa_cons (pv 0) (pa_cons pe_int pa_nil))) pe_int (nomark _))) (fun _ _ _ _ _ => pv 6))
        (C8.pss_cut (ps_set (i := 3) scLRule.nd rfl (.inr rfl) (pe_lst (pa_cons (pe_tup (pa_cons pe_str (pa_cons pe_str pa_nil))) (pa_cons (pe_tup (pa_cons pe_str (pa_cons pe_str pa_nil))) (pa_cons (pe_tup (pa_cons pe_str (pa_cons pe_str pa_nil))) (pa_cons (pe_tup (pa_cons pe_str (pa_cons pe_str pa_nil))) (pa_cons (pe_tup (pa_cons pe_str (pa_cons pe_str pa_nil))) (pa_cons (pe_tup (pa_cons pe_str (pa_cons pe_str pa_nil))) (pa_cons (pe_tup (pa_cons pe_str (pa_cons pe_str pa_nil))) (pa_cons (pe_tup (pa_cons pe_str (pa_cons pe_str pa_nil))) pa_nil))))))))))
        (C8.pss_cut (ps_setLc (i := 4) rfl scLRule.nd rfl rfl (by rfl) (own := [("_law_k", 7)]) (g := gName 7) (tt := tYes) (pi_range1 (by rfl) T.range (pa_cons (pe_fn GP hr1 rfl (pa_cons (pv 0) (pa_cons pe_int pa_nil))) pa_nil)) (blkOk_by (own := [("_law_k", 7)]) (N := nLRule) (sc := defScope sLRule) (by decide +kernel)) (fun _ _ _ _ _ => pg_name (i := 7) scLRule.nd rfl (Or.inl rfl)) (fun _ _ _ _ _ => pts_nil) (fun _ _ _ _ _ => (pe_fn GO hr2 rfl (pa_cons (pv 0) (pa_cons (pv 3) pa_nil)))))
        (C8.pss_cut (ps_set (i := 5) scLRule.nd rfl (.inl rfl) (pe_makeX0 M FI hr6 (by rfl) RC.gC SB (fun σ => noPass σ) (pk_cons (pv 4) pk_nil)))
        (C8.pss_cut (ps_for PassesOwn.never rfl (pi_list (pe_op op_cat (pv 1) (pv 2))) (pg_name (i := 6) scLRule.nd rfl (.inl rfl))
        (pss_one (ps_set (i := 5) scLRule.nd rfl (.inl rfl) (pe_op (op_own (E := fun _ _ _ => False) FO hr8 oO bO (fun _ => fun _ _ _ _ _ _ h => h.elim)) (pe_makeD M FI hr6 (by rfl) RC.gC SB0 rv (fun σ => noPass σ) (pa_cons (pv 6) pa_nil)) (pv 5)))))
        (pss_one (ps_ret (pe_tup (pa_cons (pe_op op_cat (pv 1) (pv 2)) (pa_cons (pv 4) (pa_cons (pv 5) pa_nil)))))))))))), ?_⟩
    -- half of three words
    refine ⟨fun σ H' => ∃ (A : Addr) (fs : List Str), σ = stR p (some (.ref A)) none none none none none ∧ H A = none ∧ H' A = some (.lst (fs.map V.str)) ∧ (∀ z ∈ fs, z ∈ words6) ∧ fs.length ≤ 3 ∧ Keep p H H' ∧ Pool H' p (c + 3), ?_, ?_⟩
    · refine ⟨by show 3 ≤ sizeLine; decide, fun l hl => ⟨l, rfl, ⟨_, SqL.of upd_same⟩, fun D hD => ?_⟩⟩
      have sl := Same.new (o := .lst ((["left","doubled","swapped"] : List Str).map V.str)) (Same.refl H) hl
      have nlp := pool_ne hp hl
      have nDp := pool_ne (hp.new hl) hD
      refine lc_list (K := K) (a := l) (xs := (["left","doubled","swapped"] : List Str).map V.str) (fun i H' => ∃ fs : List Str, H' D = some (.lst (fs.map V.str)) ∧ (∀ z ∈ fs, z ∈ words6) ∧ fs.length ≤ i ∧ H' l = some (.lst ((["left","doubled","swapped"] : List Str).map V.str)) ∧ Keep p H H' ∧ Pool H' p (c + i)) ⟨[], upd_same, (fun _ h => nomatch h), Nat.le_refl _, by rw [upd_ne (ne_of_none upd_same hD)]; exact upd_same, ((Keep.refl p _).new hl).new hD, (hp.new hl).new hD⟩ (fun i H' _ h => by obtain ⟨_, _, _, _, h, _⟩ := h; exact SqL.of h) (fun i y H' hy h => ?_) (fun H' h => ?_)
      · obtain ⟨fs, h1, h2, h3, h4, h5, h6⟩ := h
        rw [List.getElem?_map] at hy
        cases hz : (["left","doubled","swapped"] : List Str)[i]? with
        | none => rw [hz] at hy; cases hy
        | some z =>
        rw [hz] at hy
        obtain rfl : V.str z = y := Option.some.inj hy
        have zw : z ∈ words6 := (show ∀ z ∈ (["left","doubled","swapped"] : List Str), z ∈ words6 by decide +kernel) z (List.mem_of_getElem? hz)
        have li : i < 3 := (List.getElem?_eq_some_iff.mp hz).1
        refine ⟨rfl, _, rfl, p, c + i, 2, rfl, h6, by omega, by decide, by decide, fun r H4 r0 r1 k4 p4 => ⟨rfl, _, rfl, ?_⟩⟩
        have hD4 := k4 _ _ nDp h1
        have hl4 := k4 _ _ nlp h4
        have nlD : l ≠ D := ne_of_none upd_same hD
        refine ite2 (fun _ => ⟨_, rfl, _, hD4, ?_, fs ++ [z], by rw [upd_same, List.map_append]; rfl, fun y hy => ?_, by rw [List.length_append]; exact Nat.succ_le_succ h3, by rw [upd_ne nlD]; exact hl4, fun b o nb e => ?_, (p4.other (Ne.symm nDp)).mono (by omega)⟩) (fun _ => ⟨fs, hD4, h2, Nat.le_succ_of_le h3, hl4, h5.trans k4, p4.mono (by omega)⟩)
        · rw [List.length_map]; exact Nat.lt_of_le_of_lt (show fs.length ≤ 900 by omega) (by decide)
        · rcases List.mem_append.mp hy with hy | hy
          · exact h2 y hy
          · rw [List.mem_singleton.mp hy]; exact zw
        · rw [upd_ne (ne_of_none e (show H D = none from sl.free hD))]
          exact (h5.trans k4) b o nb e
      · obtain ⟨fs, h1, h2, h3, h4, h5, h6⟩ := h
        exact ⟨D, fs, rfl, sl.free hD, h1, h2, h3, h5, h6⟩
    rintro σ H1 ⟨A1, fs, rfl, hA0, hA1, hfs, lfs, k1, p1⟩
    have nA : A1 ≠ p := pool_ne hp hA0
    refine ⟨fun σ H' => ∃ (B : Addr) (ss : List Str), σ = stR p (some (.ref A1)) (some (.ref B)) none none none none ∧ H1 B = none ∧ H' B = some (.lst (ss.map V.str)) ∧ (∀ z ∈ ss, z ∈ words6) ∧ ss.length ≤ 3 ∧ Keep p H1 H' ∧ Pool H' p (c + 3 + 3), ?_, ?_⟩
    · refine ⟨by show 3 ≤ sizeLine; decide, fun l hl => ⟨l, rfl, ⟨_, SqL.of upd_same⟩, fun D hD => ?_⟩⟩
      have sl := Same.new (o := .lst ((["word","number","sign"] : List Str).map V.str)) (Same.refl H1) hl
      have nlp := pool_ne p1 hl
      have nDp := pool_ne (p1.new hl) hD
      refine lc_list (K := K) (a := l) (xs := (["word","number","sign"] : List Str).map V.str) (fun i H' => ∃ fs : List Str, H' D = some (.lst (fs.map V.str)) ∧ (∀ z ∈ fs, z ∈ words6) ∧ fs.length ≤ i ∧ H' l = some (.lst ((["word","number","sign"] : List Str).map V.str)) ∧ Keep p H1 H' ∧ Pool H' p (c + 3 + i)) ⟨[], upd_same, (fun _ h => nomatch h), Nat.le_refl _, by rw [upd_ne (ne_of_none upd_same hD)]; exact upd_same, ((Keep.refl p _).new hl).new hD, (p1.new hl).new hD⟩ (fun i H' _ h => by obtain ⟨_, _, _, _, h, _⟩ := h; exact SqL.of h) (fun i y H' hy h => ?_) (fun H' h => ?_)
      · obtain ⟨fs, h1, h2, h3, h4, h5, h6⟩ := h
        rw [List.getElem?_map] at hy
        cases hz : (["word","number","sign"] : List Str)[i]? with
        | none => rw [hz] at hy; cases hy
        | some z =>
        rw [hz] at hy
        obtain rfl : V.str z = y := Option.some.inj hy
        have zw : z ∈ words6 := (show ∀ z ∈ (["word","number","sign"] : List Str), z ∈ words6 by decide +kernel) z (List.mem_of_getElem? hz)
        have li : i < 3 := (List.getElem?_eq_some_iff.mp hz).1
        refine ⟨rfl, _, rfl, p, c + 3 + i, 2, rfl, h6, by omega, by decide, by decide, fun r H4 r0 r1 k4 p4 => ⟨rfl, _, rfl, ?_⟩⟩
        have hD4 := k4 _ _ nDp h1
        have hl4 := k4 _ _ nlp h4
        have nlD : l ≠ D := ne_of_none upd_same hD
        refine ite2 (fun _ => ⟨_, rfl, _, hD4, ?_, fs ++ [z], by rw [upd_same, List.map_append]; rfl, fun y hy => ?_, by rw [List.length_append]; exact Nat.succ_le_succ h3, by rw [upd_ne nlD]; exact hl4, fun b o nb e => ?_, (p4.other (Ne.symm nDp)).mono (by omega)⟩) (fun _ => ⟨fs, hD4, h2, Nat.le_succ_of_le h3, hl4, h5.trans k4, p4.mono (by omega)⟩)
        · rw [List.length_map]; exact Nat.lt_of_le_of_lt (show fs.length ≤ 900 by omega) (by decide)
        · rcases List.mem_append.mp hy with hy | hy
          · exact h2 y hy
          · rw [List.mem_singleton.mp hy]; exact zw
        · rw [upd_ne (ne_of_none e (show H1 D = none from sl.free hD))]
          exact (h5.trans k4) b o nb e
      · obtain ⟨fs, h1, h2, h3, h4, h5, h6⟩ := h
        exact ⟨D, fs, rfl, sl.free hD, h1, h2, h3, h5, h6⟩
    rintro σ H2 ⟨B1, ss, rfl, hB0, hB1, hss, lss, k2, p2⟩
    have nB : B1 ≠ p := pool_ne p1 hB0
    refine ⟨fun σ H' => ∃ (M : Addr) (us : List V), σ = stR p (some (.ref A1)) (some (.ref B1)) (some (.ref M)) none none none ∧ Same H2 H' ∧ H2 M = none ∧ H' M = some (.lst us) ∧ DpAll K H' us (loD looks10), lst_new (ds := loD looks10) (by repeat (first | exact gs_nil | exact g_str _ | refine gs_cons ?_ ?_ | refine g_tup ?_ (by decide))) (by decide) fun M us H' h1 h2 h3 s => ⟨M, us, rfl, s, h1, h2, h3⟩, ?_⟩
    rintro σ H3 ⟨M1, us, rfl, s3, hM0, hM, hus⟩
    have lus : us.length = 8 := DpAll.len hus
    have nMp : M1 ≠ p := pool_ne p2 hM0
    have p3 := p2.same s3
    refine ⟨fun σ H' => ∃ (G : Addr) (vs : List V) (gs : List (Str × Str)), σ = stR p (some (.ref A1)) (some (.ref B1)) (some (.ref M1)) (some (.ref G)) none none ∧ H3 G = none ∧ H' G = some (.lst vs) ∧ DpAll K H' vs (loD gs) ∧ (∀ z ∈ gs, z ∈ looks10) ∧ gs.length ≤ 3 ∧ Keep p H3 H' ∧ Pool H' p (c + 10), ?_, ?_⟩
    · refine ⟨_, rfl, p, c + 3 + 3, 4, rfl, p3, by omega, by decide, by decide, fun r H4 r0 r1 k4 p4 => ?_⟩
      have hM4 := k4 _ _ nMp hM
      have hus4 := odds_keep p3 k4 (fun d hd => by obtain ⟨y, _, rfl⟩ := List.mem_map.mp hd; rfl) hus
      refine ⟨r, rfl, by omega, by omega, fun D hD => lc_range (lo := 0) (n := r.toNat) (fun i H' => Keep p H4 H' ∧ Pool H' p (c + 7 + i) ∧ ∃ (vs : List V) (ls : List (Str × Str)), H' D = some (.lst vs) ∧ DpAll K H' vs (loD ls) ∧ (∀ z ∈ ls, z ∈ looks10) ∧ ls.length = i) ⟨(Keep.refl p H4).new hD, (p4.new hD).mono (by omega), [], [], upd_same, .nil, (fun _ h => nomatch h), rfl⟩ (fun i H5 hi h => ?_) (fun H5 h => ?_)⟩
      · obtain ⟨k5, p5, vs, ls, hk, hd, hw, lk⟩ := h
        have nDp := pool_ne p4 hD
        refine ⟨rfl, _, rfl, _, rfl, p, _, M1, us, rfl, p5, by omega, k5 _ _ nMp hM4, nMp, (fun e => by rw [e] at lus; cases lus), by omega, fun v H6 hv k6 p6 => ?_⟩
        obtain ⟨d, hdm, hdv⟩ := DpAll.mem hus4 hv
        obtain ⟨z, hz, rfl⟩ := List.mem_map.mp hdm
        have hk6 := k6 _ _ nDp hk
        have hv6 := odd_keep (look_odd z) p4 (k5.trans k6) hdv
        have hd6 := odds_keep p5 k6 (fun d hd => by obtain ⟨y, _, rfl⟩ := List.mem_map.mp hd; rfl) hd
        have lvs := DpAll.len hd
        rw [loD, List.length_map] at lvs
        have nD : ∀ {x : V} {y : Str × Str}, Dp K H6 x (lkP y) → Dp K (upd H6 D (.lst (vs ++ [v]))) x (lkP y) := fun h => look_put hk6 h
        refine ⟨_, hk6, Nat.lt_of_le_of_lt (show vs.length ≤ 6 by omega) (by decide), fun b o nb e => ?_, (p6.other (Ne.symm nDp)).mono (by omega), vs ++ [v], ls ++ [z], upd_same, ?_, fun y hy => ?_, by rw [List.length_append, lk]; rfl⟩
        · rw [upd_ne (ne_of_none e hD)]
          exact (k5.trans k6) b o nb e
        · rw [← lo_app]
          exact DpAll.app (looks_put hk6 hd6) (.cons (nD hv6) .nil)
        · rcases List.mem_append.mp hy with hy | hy
          · exact hw y hy
          · rw [List.mem_singleton.mp hy]; exact hz
      · obtain ⟨k5, p5, vs, ls, hk, hd, hw, lk⟩ := h
        exact ⟨D, vs, ls, rfl, Keep.free k4 (pool_ne p4 hD) hD, hk, hd, hw, by omega, k4.trans k5, p5.mono (by omega)⟩
    rintro σ H4 ⟨G1, vs, gs, rfl, hG0, hG, hgs, mgs, lgs, k4, p4⟩
    have k02 : Keep p H H2 := k1.trans k2
    have k04 : Keep p H H4 := (k02.trans (Same.keep s3)).trans k4
    have hA4 : H4 A1 = some (.lst (fs.map V.str)) := k4 _ _ nA (s3 _ _ (k2 _ _ nA hA1))
    have hB4 : H4 B1 = some (.lst (ss.map V.str)) := k4 _ _ nB (s3 _ _ hB1)
    have nG : G1 ≠ p := pool_ne p3 hG0
    have hG00 : H G1 = none := Keep.free (k02.trans (Same.keep s3)) nG hG0
    refine ⟨fun σ H' => ∃ (x : Addr) (ls : List (Str × Str)), σ = stR p (some (.ref A1)) (some (.ref B1)) (some (.ref M1)) (some (.ref G1)) (some (.ref x)) none ∧ Same H4 H' ∧ RuleV K CR H' x (kinds6 []) ls ∧ LooksOf gs ls, ?_, ?_⟩
    · refine ⟨_, rfl, _, rfl, goodQ (ks := []) (ls0 := gs) .nil (.inl (.lst (SqL.of hG) hgs)) (fun z h => nomatch h) mgs (by omega) (by decide) fun x ls H' h1 h2 h3 r => ⟨x, ls, rfl, h3, r, h1⟩⟩
    rintro σ H5 ⟨x0, ls, rfl, s5, R5, lo⟩
    -- one word after another
    have lsum : (fs ++ ss).length ≤ 6 := by rw [List.length_append]; omega
    have wsum : ∀ z ∈ fs ++ ss, z ∈ words6 := fun z hz => (List.mem_append.mp hz).elim (hfs z) (hss z)
    refine ⟨fun σ H' => ∃ (x : Addr) (ks : List Str) (o : Option V), σ = stR p (some (.ref A1)) (some (.ref B1)) (some (.ref M1)) (some (.ref G1)) (some (.ref x)) o ∧ Same H4 H' ∧ RuleV K CR H' x ks ls ∧ RuleG ks ls ∧ (∀ z ∈ words6, (z ∈ ks ↔ z ∈ fs ++ ss)), ?_, ?_⟩
    · refine ⟨_, rfl, _, rfl, A1, B1, _, _, rfl, rfl, s5 _ _ hA4, s5 _ _ hB4, by rw [List.length_map, List.length_map]; exact line_ge (by omega), fun L hL => ⟨L, rfl, ⟨_, SqL.of upd_same⟩, ?_⟩⟩
      have sL := Same.new (o := .lst (fs.map V.str ++ ss.map V.str)) (Same.refl _) hL
      refine for_list (K := K) (a := L) (xs := (fs ++ ss).map V.str) (fun i σ H' => ∃ (x : Addr) (ks : List Str) (o : Option V), σ = stR p (some (.ref A1)) (some (.ref B1)) (some (.ref M1)) (some (.ref G1)) (some (.ref x)) o ∧ Same H4 H' ∧ H' L = some (.lst ((fs ++ ss).map V.str)) ∧ RuleV K CR H' x ks ls ∧ RuleG ks ls ∧ (∀ z ∈ words6, (z ∈ ks ↔ z ∈ (fs ++ ss).take i)))
        ⟨x0, kinds6 [], none, rfl, s5.trans sL, by rw [upd_same, List.map_append], R5.same sL, lo.good mgs, fun z hz => by rw [mem_k6, List.take_zero]; exact ⟨fun h => h.2, fun h => ⟨hz, h⟩⟩⟩ (fun i σ H' _ h => ?_) (fun i y σ H' hy h => ?_) (fun σ H' h => ?_)
      · obtain ⟨_, _, _, _, _, h, _⟩ := h
        exact SqL.of h
      · obtain ⟨x, ks, o, rfl, s6, hL6, R6, G6, m6⟩ := h
        rw [List.getElem?_map] at hy
        cases hz : (fs ++ ss)[i]? with
        | none => rw [hz] at hy; cases hy
        | some z =>
        rw [hz] at hy
        obtain rfl : V.str z = y := Option.some.inj hy
        have zw : z ∈ words6 := wsum z (List.mem_of_getElem? hz)
        refine ⟨_, rfl, ?_⟩
        delta tNil
        refine goodQ (ks := [z]) (ls0 := []) (.cons (.str z) .nil) (.inr (hv0 _)) (fun y hy => by rw [List.mem_singleton.mp hy]; exact zw) (fun _ h => nomatch h) (by decide) (by show 1 ≤ 100; decide) fun y ls2 H7 h1 h2 s7 r7 => ⟨_, rfl, ?_⟩
        have e2 : ls2 = [] := by
          cases ls2 with
          | nil => rfl
          | cons p ls => exact absurd ((h1.mem p).mp List.mem_cons_self) (by simp)
        subst e2
        have G7 : RuleG (kinds6 [z]) [] := h1.good (fun _ h => nomatch h)
        refine op_rules r7 (R6.same s7) G7 G6 fun y2 ls3 H8 h3 hy2 s8 r8 => ?_
        have e3 : ls3 = ls := h3.one lo (fun q => by rw [List.nil_append]; exact lo.mem q)
        subst e3
        refine ⟨y2, _, _, rfl, s6.trans (s7.trans s8), s8 _ _ (s7 _ _ hL6), r8, (h3.good fun q hq => by rw [List.nil_append] at hq; exact G6.m q hq), fun y hy => ?_⟩
        rw [mem_k6, List.mem_append, mem_k6, take_some hz, List.mem_append, List.mem_singleton, m6 y hy]
        constructor
        · rintro ⟨_, h | h⟩
          · exact .inr h.2
          · exact .inl h
        · rintro (h | h)
          · exact ⟨hy, .inr h⟩
          · exact ⟨hy, .inl ⟨hy, h⟩⟩
      · obtain ⟨x, ks, o, rfl, s6, hL6, R6, G6, m6⟩ := h
        rw [List.length_map, List.take_length] at m6
        exact ⟨x, ks, o, rfl, s6, R6, G6, m6⟩
    rintro σ H6 ⟨x, ks, o, rfl, s6, R6, G6, m6⟩
    have hG6 := s6 _ _ hG
    refine ⟨_, rfl, _, rfl, A1, B1, _, _, rfl, rfl, s6 _ _ hA4, s6 _ _ hB4, by rw [List.length_map, List.length_map]; exact line_ge (by omega), fun L hL => ⟨_, rfl, _, rfl, by show 3 ≤ sizeLine; decide, fun t ht => ?_⟩⟩
    have sL := Same.new (o := .lst (fs.map V.str ++ ss.map V.str)) (Same.refl _) hL
    have sT := Same.new (o := .tup [.ref L, .ref G1, .ref x]) sL ht
    have pF : Pool _ p (c + 20) := ((p4.same (s6.trans sT)).mono (by omega))
    have hL4 : H4 L = none := s6.free hL
    have nL : L ≠ p := pool_ne p4 hL4
    refine q t L G1 x (fs ++ ss) vs gs ls ks _ upd_same (Keep.free k04 nL hL4) hG00 ?_ ?_ wsum lsum (sT _ _ hG6) (dpAll_same (s6.trans sT) _ hgs) mgs lgs (R6.same sT) G6 m6 lo (k04.trans (Same.keep (s6.trans sT))) pF
    · exact (ne_of_none hG6 hL).symm
    · rw [upd_ne (ne_of_none upd_same ht), upd_same, List.map_append]
end
end K5

namespace K5
open PySem L2 K5S
/-! the law's own word of what a rule allows -/
abbrev sLFam : Stmt := top 36
abbrev sLMay : Stmt := top 37
abbrev nLMay : List Str := ["_law_parts", "_law_given", "_law_file", "_law_slip", "_law_kind", "_law_spot", "_law_one", "_law_old", "_law_family_here"]
abbrev pLMay : List Str := ["_law_parts", "_law_given", "_law_file", "_law_slip"]
theorem let_dig : ∀ c ∈ K5S.cLetters.cps.toList, c ∉ K5S.cDigits.cps.toList := by decide +kernel
theorem head_in {z cs : Str} (h : K5S.inAll z cs = true) : 1 ≤ z.length ∧ z.cps.toList.headD 0 ∈ cs.cps.toList := by
  unfold K5S.inAll at h
  rw [Bool.and_eq_true, Bool.and_eq_true] at h
  have l1 := of_decide_eq_true h.1.1
  refine ⟨l1, ?_⟩
  have l2 : 1 ≤ z.cps.toList.length := by rw [K5S.str_len]; exact l1
  cases e : z.cps.toList with
  | nil => rw [e] at l2; exact absurd l2 (by decide)
  | cons c l =>
    have h2 := h.2
    rw [e, List.all_cons, Bool.and_eq_true] at h2
    exact of_decide_eq_true h2.1
theorem fam_head {z : Str} (h : TokOk z) (n : z ∉ K5S.signs) : 1 ≤ z.length ∧ famS z = (if z.cps.toList.headD 0 ∈ K5S.cDigits.cps.toList then "number" else "word") := by
  have t := of_decide_eq_true h.tok
  unfold sortV at t
  rw [if_neg n] at t
  unfold famS
  rw [if_neg n]
  by_cases cl : K5S.inAll z K5S.cLetters = true
  · obtain ⟨h1, h2⟩ := head_in cl
    rw [if_pos cl, if_neg (let_dig _ h2)]
    exact ⟨h1, rfl⟩
  · rw [if_neg cl] at t ⊢
    by_cases cn : K5S.numOk z = true
    · unfold K5S.numOk at cn
      rw [Bool.and_eq_true] at cn
      obtain ⟨h1, h2⟩ := head_in cn.1
      rw [if_pos h2]
      exact ⟨h1, rfl⟩
    · rw [if_neg cn] at t
      exact absurd rfl t
def spLFam : Sp := fun vs H Q _ => ∃ z : Str, vs = [.str z] ∧ TokOk z ∧ ∀ H', Same H H' → Q (.str (famS z)) H'
/-- what the law's defs are given: the drawn parts and looks, a file -/
structure PartsV (K : PySem.W.Frag) (H : Hp) (A G : Addr) (us : List V) (ps : List Str) (gs : List (Str × Str)) : Prop where
  a : H A = some (.lst (ps.map V.str))
  w : ∀ z ∈ ps, z ∈ words6
  g : H G = some (.lst us)
  d : DpAll K H us (loD gs)
  m : ∀ q ∈ gs, q ∈ looks10
  l : gs.length ≤ 3
theorem PartsV.same {K : PySem.W.Frag} {H H' : Hp} {A G : Addr} {us : List V} {ps : List Str} {gs : List (Str × Str)} (h : PartsV K H A G us ps gs) (s : Same H H') : PartsV K H' A G us ps gs := ⟨s _ _ h.a, h.w, s _ _ h.g, dpAll_same s _ h.d, h.m, h.l⟩
def spLMay (K : PySem.W.Frag) : Sp := fun vs H Q _ => ∃ (A G f t : Addr) (us : List V) (ps : List Str) (gs : List (Str × Str)) (ts : List Str) (k : Str) (a : Nat) (o : Option Str), vs = [.ref A, .ref G, .ref f, .ref t] ∧ PartsV K H A G us ps gs ∧ SqL K H f (ts.map V.str) ∧ (∀ z ∈ ts, TokOk z) ∧
  SqT K H t [.str k, .int a, tokV o] ∧ GoodSlip k o ∧ ∀ H', Same H H' → Q (.bl (allowB ps gs ts k a o)) H'
section
variable {P : Program} {w : World} {K : PySem.W.Frag} {mg : Str → Option Value} {base : Heap}
theorem signs_any (z : Str) : ((K5S.signs.map PyData.str).any fun y => PyData.eqv y (.str z)) = decide (z ∈ K5S.signs) := any_ki _ _
theorem scLFam : FnScope ["_law_one"] ["_law_one"] (defScope sLFam) := ⟨rfl, rfl, rfl, by decide +kernel, rfl, by decide +kernel, by decide +kernel⟩
theorem ok_lfam {f : Addr} {fd : FuncData} (F : Fun K "_law_family" "_law_family" sLFam f fd) (T : Bare mg) : FnOk P w K mg base CX0 1 f fd ["_law_one"] spLFam := by
  refine F.ok scLFam (fun vs H Q E h => ?_) (fun cdv A outer s H vs Q E hr h => ?_)
  · obtain ⟨z, rfl, _⟩ := h
    rfl
  · obtain ⟨z, rfl, hz, q⟩ := h
    refine ⟨_, (C8.pss_cut (ps_if (pt_cmpR op_in_seq (pv 0) (pe_lst (pa_cons pe_str (pa_cons pe_str (pa_cons pe_str (pa_cons pe_str (pa_cons pe_str pa_nil)))))) (by rfl)) (pss_one (ps_ret pe_str)) pss_nil)
        (pss_one (ps_ret (pe_ifExp (pt_cmpR op_in_sign (pe_ix ix_str (pv 0) pe_int (fun _ _ => rfl)) pe_str rfl) pe_str pe_str)))), ?_⟩
    refine ⟨fun σ H' => z ∉ K5S.signs ∧ σ = [some (.str z)] ∧ Same H H', ?_, ?_⟩
    · refine ⟨_, rfl, by show 5 ≤ sizeLine; decide, fun g hg => ⟨g, K5S.signs.map V.str, rfl, .inl (SqL.of upd_same), rfl, flat_strs _, _, rfl, ?_⟩⟩
      have s1 := Same.new (o := .lst (K5S.signs.map V.str)) (Same.refl H) hg
      show if (inV (.str z) (K5S.signs.map V.str)) = true then _ else _
      rw [inV_strs]
      by_cases c : z ∈ K5S.signs
      · rw [decide_eq_true c]
        refine iteT ?_
        have e := q _ s1
        unfold famS at e
        rw [if_pos c] at e
        exact e
      · rw [decide_eq_false c]
        exact iteF ⟨c, rfl, s1⟩
    rintro σ H1 ⟨c, rfl, s1⟩
    obtain ⟨h1, e⟩ := fam_head hz c
    have q1 := q H1 s1
    rw [e] at q1
    refine ⟨_, rfl, z, 0, z.cps.toList.headD 0, rfl, rfl, hz.line, K5S.at_zero h1, z.cps.toList.headD 0, "0123456789", rfl, rfl, _, rfl, ?_⟩
    by_cases cd : z.cps.toList.headD 0 ∈ K5S.cDigits.cps.toList
    · rw [if_pos cd] at q1
      exact iteT' (decide_eq_true cd) q1
    · rw [if_neg cd] at q1
      exact iteF' (decide_eq_false cd) q1
theorem scLMay : FnScope nLMay pLMay (defScope sLMay) := ⟨rfl, rfl, rfl, by decide +kernel, rfl, by decide +kernel, by decide +kernel⟩
abbrev stM (A G f t : Addr) (k : Str) (a : Nat) (o : Option Str) (x y : Option V) : L2.St := [some (.ref A), some (.ref G), some (.ref f), some (.ref t), some (.str k), some (.int a), some (tokV o), x, y]
theorem ok_lmay {f : Addr} {fd : FuncData} (F : Fun K "_law_may" "_law_may" sLMay f fd) (T : Bare mg) (GF : Fn P w K mg base 1 "_law_family" ["_law_one"] spLFam) : FnOk P w K mg base CX0 2 f fd pLMay (spLMay K) := by
  refine F.ok scLMay (fun vs H Q E h => ?_) (fun cdv A0 outer s H vs Q E hr h => ?_)
  · obtain ⟨A, G, f, t, us, ps, gs, ts, k, a, o, rfl, _⟩ := h
    rfl
  · obtain ⟨A, G, f, t, us, ps, gs, ts, k, a, o, rfl, V1, hf, hts, ht, g, q⟩ := h
    have hr1 : Room 1 _ := hr
    have dpA : ∀ {H'}, Same H H' → SeqD K H' (.ref A) (kiD ps) := fun s => .inl (.lst (SqL.of (s _ _ V1.a)) (of_txts ps))
    have dpG : ∀ {H'}, Same H H' → SeqD K H' (.ref G) (loD gs) := fun s => .inl (.lst (SqL.of (s _ _ V1.g)) (dpAll_same s _ V1.d))
    have shA : SeqAt.shaped (.tuple (kiD ps)) = true := fair_shaped_t (ki_fair V1.w)
    have shG : SeqAt.shaped (.tuple (loD gs)) = true := fair_shaped_t (lo_fair V1.m)
    refine ⟨_, (C8.pss_cut (ps_asg (pv 3) (pg_tup (by rfl) (pgs_cons (pg_name (i := 4) scLMay.nd rfl (.inl rfl)) (pgs_cons (pg_name (i := 5) scLMay.nd rfl (.inl rfl)) (pgs_cons (pg_name (i := 6) scLMay.nd rfl (.inl rfl)) pgs_nil)))))
        (C8.pss_cut (ps_if (pt_cmpR op_ge (pv 5) (pe_callB call_len_seq (by rfl) T.len PySem.boot_len (pa_cons (pv 2) pa_nil)) (nomark _)) (pss_one (ps_ret pe_bl)) pss_nil)
        (C8.pss_cut (ps_if (pt_cmpR op_eq (pv 4) pe_str (nomark _)) (pss_one (ps_ret (pe_and (pe_cmpR (op_inA (Room.units5 hr)) (pv 4) (pv 0) (by rfl)) (pe_and (pe_cmpR op_lt (pe_op op_add (pv 5) pe_int) (pe_callB call_len_seq (by rfl) T.len PySem.boot_len (pa_cons (pv 2) pa_nil)) (nomark _)) (pe_one (pe_cmpR op_ne (pe_ix ix_list (pv 2) (pv 5) (fun _ _ => rfl)) (pe_ix ix_list (pv 2) (pe_op op_add (pv 5) pe_int) (fun _ _ => rfl)) (nomark _))))))) pss_nil)
        (C8.pss_cut (ps_if (pt_cmpR op_ne (pv 4) pe_str (nomark _)) (pss_one (ps_ret (pe_cmpR (op_inA (Room.units5 hr)) (pv 4) (pv 0) (by rfl)))) pss_nil)
        (C8.pss_cut (ps_set (i := 7) scLMay.nd rfl (.inl rfl) (pe_ix ix_list (pv 2) (pv 5) (fun _ _ => rfl)))
        (C8.pss_cut (ps_set (i := 8) scLMay.nd rfl (.inl rfl) (pe_fn GF hr1 rfl (pa_cons (pv 7) pa_nil)))
        (pss_one (ps_ret (pe_and (pe_cmpR op_ne (pv 7) (pv 6) (nomark _)) (pe_one (pe_or (pe_and (pe_cmpR op_eq (pv 8) (pe_fn GF hr1 rfl (pa_cons (pv 6) pa_nil)) (nomark _)) (pe_one (pe_cmpR (op_inA (Room.units5 hr)) (pv 8) (pv 0) (by rfl)))) (pe_one (pe_cmpR (op_inA (Room.units5 hr)) (pe_tup (pa_cons (pv 7) (pa_cons (pv 6) pa_nil))) (pv 1) (by rfl)))))))))))))), ?_⟩
    refine ⟨fun σ H' => σ = stM A G f t k a o none none ∧ H' = H, ?_, ?_⟩
    · exact ⟨_, rfl, t, _, rfl, ht, rfl, _, _, rfl, _, _, rfl, _, _, rfl, rfl, rfl, rfl⟩
    rintro σ H0 ⟨rfl, rfl⟩
    unfold allowB fitsB at q
    refine ⟨fun σ H' => ¬ ts.length ≤ a ∧ σ = stM A G f t k a o none none ∧ H' = H0, ?_, ?_⟩
    · refine ⟨_, rfl, _, rfl, f, _, rfl, .inl hf, _, _, rfl, rfl, _, rfl, ?_⟩
      by_cases c : ts.length ≤ a
      · rw [if_pos c, Bool.false_and] at q
        rw [show decide (((ts.map V.str).length : Int) ≤ (a : Int)) = true from decide_eq_true (by rw [List.length_map]; omega)]
        exact iteT (q H0 (Same.refl _))
      · rw [show decide (((ts.map V.str).length : Int) ≤ (a : Int)) = false from decide_eq_false (by rw [List.length_map]; omega)]
        exact iteF ⟨c, rfl, rfl⟩
    rintro σ H1 ⟨c, rfl, rfl⟩
    rw [if_neg c] at q
    have la : a < ts.length := by omega
    have ea : ts[a]? = some ts[a] := List.getElem?_eq_getElem la
    have iat : ∀ {n : Nat} {z : Str}, ts[n]? = some z → atI (ts.map V.str) (n : Int) = some (.str z) := fun {n z} h => at_of (j := n) (by omega) (by rw [List.getElem?_map, h]; rfl)
    refine ⟨fun σ H' => ¬ k = "swapped" ∧ σ = stM A G f t k a o none none ∧ H' = H1, ?_, ?_⟩
    · refine ⟨_, rfl, rfl, _, rfl, ?_⟩
      rw [eq_strB]
      by_cases ck : k = "swapped"
      · rw [if_pos ck, if_neg (show ¬ k = "written" by rw [ck]; decide +kernel)] at q
        rw [decide_eq_true ck]
        refine iteT ⟨_, rfl, _, rfl, .str k, _, .str k, dpA (Same.refl _), kind_shaped g.kind, shA, _, rfl, ?_⟩
        rw [any_ki, Bool.false_bne]
        have q0 := q H1 (Same.refl _)
        cases cp : decide (k ∈ ps) with
        | false =>
          rw [cp, Bool.and_false] at q0
          exact iteF q0
        | true =>
          rw [cp, Bool.and_true] at q0
          refine iteT ⟨_, rfl, _, _, rfl, rfl, _, rfl, f, _, rfl, .inl hf, _, _, rfl, rfl, _, rfl, ?_⟩
          by_cases c1 : a + 1 < ts.length
          · have e1 : ts[a + 1]? = some ts[a + 1] := List.getElem?_eq_getElem c1
            rw [show decide (((a : Int) + 1) < ((ts.map V.str).length : Int)) = true from decide_eq_true (by rw [List.length_map]; omega)]
            refine iteT ⟨_, rfl, _, rfl, f, _, _, _, rfl, rfl, hf, iat ea, _, rfl, _, rfl, _, _, rfl, rfl, f, _, _, _, rfl, rfl, hf, iat e1, rfl, ?_⟩
            rw [eq_strB]
            rw [decide_eq_true c1, Bool.true_and, e1, ea] at q0
            rw [show decide (ts[a] = ts[a + 1]) = decide (some ts[a + 1] = some ts[a]) from decide_eq_decide.mpr ⟨fun e => by rw [e], fun e => (Option.some.inj e).symm⟩]
            exact q0
          · rw [show decide (((a : Int) + 1) < ((ts.map V.str).length : Int)) = false from decide_eq_false (by rw [List.length_map]; omega)]
            rw [decide_eq_false c1, Bool.false_and] at q0
            exact iteF q0
      · rw [decide_eq_false ck]
        exact iteF ⟨ck, rfl, rfl⟩
    rintro σ H2 ⟨ck, rfl, rfl⟩
    rw [if_neg ck] at q
    refine ⟨fun σ H' => k = "written" ∧ σ = stM A G f t k a o none none ∧ H' = H2, ?_, ?_⟩
    · refine ⟨_, rfl, rfl, _, rfl, ?_⟩
      rw [eq_strB]
      by_cases cw : k = "written"
      · rw [decide_eq_true cw]
        exact iteF ⟨cw, rfl, rfl⟩
      · rw [decide_eq_false cw]
        rw [if_neg cw, decide_eq_false cw, Bool.not_false, Bool.true_or, Bool.true_and] at q
        refine iteT ⟨_, rfl, _, rfl, .str k, _, .str k, dpA (Same.refl _), kind_shaped g.kind, shA, ?_⟩
        rw [any_ki, Bool.false_bne]
        exact q H2 (Same.refl _)
    rintro σ H3 ⟨cw, rfl, rfl⟩
    rw [if_pos cw, decide_eq_true cw, Bool.not_true, Bool.false_or, ea] at q
    rcases g with ⟨_, z, rfl, hz⟩ | ⟨hk, _⟩
    case inr => rw [cw] at hk; rcases hk with h | h | h <;> exact absurd h (by decide +kernel)
    have hoz : TokOk ts[a] := hts _ (List.getElem_mem la)
    refine ⟨fun σ H' => σ = stM A G f t k a (some z) (some (.str ts[a])) none ∧ H' = H3, ?_, ?_⟩
    · exact ⟨_, rfl, _, rfl, f, _, _, _, rfl, rfl, hf, iat ea, rfl, rfl⟩
    rintro σ H4 ⟨rfl, rfl⟩
    refine ⟨fun σ H' => σ = stM A G f t k a (some z) (some (.str ts[a])) (some (.str (famS ts[a]))) ∧ Same H4 H', ?_, ?_⟩
    · exact ⟨_, rfl, _, rfl, hoz, fun H' s' => ⟨rfl, s'⟩⟩
    rintro σ H5 ⟨rfl, s5⟩
    have q' : ∀ H', Same H4 H' → Q (.bl (!decide (ts[a] = z) && ((decide (famS ts[a] = famS z) && decide (famS z ∈ ps)) || decide ((ts[a], z) ∈ gs)))) H' := fun H' s' => by
      have e := q H' s'
      unfold mayB at e
      rw [show decide (some ts[a] = some z) = decide (ts[a] = z) from decide_eq_decide.mpr ⟨Option.some.inj, fun e => by rw [e]⟩] at e
      exact e
    refine ⟨_, rfl, _, rfl, rfl, _, rfl, ?_⟩
    show if (!decide (V.str ts[a] = V.str z)) = true then _ else _
    rw [eq_strB]
    cases cn : decide (ts[a] = z) with
    | true =>
      have e := q' H5 s5
      rw [cn, Bool.not_true, Bool.false_and] at e
      exact iteF e
    | false =>
      have q2 : ∀ H', Same H4 H' → Q (.bl ((decide (famS ts[a] = famS z) && decide (famS z ∈ ps)) || decide ((ts[a], z) ∈ gs))) H' := fun H' s' => by
        have e := q' H' s'
        rw [cn, Bool.not_false, Bool.true_and] at e
        exact e
      refine iteT ?_
      have look : ∀ H', Same H4 H' → (decide (famS ts[a] = famS z) && decide (famS z ∈ ps)) = false → tOp (rInA K false) (tTup (tCons (tVar 7) (tCons (tVar 6) tNil))) (tVar 1) (stM A G f t k a (some z) (some (.str ts[a])) (some (.str (famS ts[a])))) H' Q := fun H6 s6 cc => by
        refine ⟨_, rfl, _, rfl, by show 2 ≤ sizeLine; decide, fun g hg => ?_⟩
        have s7 := Same.new (o := .tup [.str ts[a], .str z]) s6 hg
        refine ⟨_, rfl, lkP (ts[a], z), _, .tup (SqT.of upd_same) (.cons (.str _) (.cons (.str _) .nil)), dpG s7, pair_shaped hoz hz, shG, ?_⟩
        rw [any_lo, Bool.false_bne]
        have e := q2 _ s7
        rw [cc, Bool.false_or] at e
        exact e
      refine ⟨_, rfl, _, rfl, _, rfl, hz, fun H6 s6 => ⟨rfl, _, rfl, ?_⟩⟩
      rw [eq_strB]
      have s46 := s5.trans s6
      cases cf : decide (famS ts[a] = famS z) with
      | false => exact iteF ⟨_, rfl, iteF (look H6 s46 (by rw [cf]; rfl))⟩
      | true =>
        have ef := of_decide_eq_true cf
        refine iteT ⟨_, rfl, _, rfl, .str (famS ts[a]), _, .str _, dpA s46, fam_shaped _, shA, ?_⟩
        rw [any_ki, Bool.false_bne, ef]
        refine ⟨_, rfl, ?_⟩
        cases cp : decide (famS z ∈ ps) with
        | true =>
          have e := q2 _ s46
          rw [cf, cp] at e
          exact iteT e
        | false => exact iteF (look H6 s46 (by rw [cf, cp]; rfl))
end
end K5

namespace K5
open PySem L2 K5S
/-! each once, and what is done to it -/
section
variable {α β : Type} [DecidableEq α] [DecidableEq β]
theorem dd_filter (p : α → Bool) (l : List α) : dd (l.filter p) = (dd l).filter p := by
  refine snoc_ind (p := fun l => dd (l.filter p) = (dd l).filter p) rfl (fun l x ih => ?_) l
  rw [List.filter_append, dd_snoc]
  by_cases c : p x = true
  · rw [List.filter_cons_of_pos c, List.filter_nil, dd_snoc, ih]
    by_cases h : x ∈ dd l
    · rw [if_pos h, if_pos (List.mem_filter.mpr ⟨h, c⟩)]
    · rw [if_neg h, if_neg (fun z => h (List.mem_filter.mp z).1), List.filter_append, List.filter_cons_of_pos c, List.filter_nil]
  · rw [List.filter_cons_of_neg c, List.filter_nil, List.append_nil, ih]
    by_cases h : x ∈ dd l
    · rw [if_pos h]
    · rw [if_neg h, List.filter_append, List.filter_cons_of_neg c, List.filter_nil, List.append_nil]
theorem dd_map {f : α → β} (hf : ∀ x y, f x = f y → x = y) (l : List α) : dd (l.map f) = (dd l).map f := by
  refine snoc_ind (p := fun l => dd (l.map f) = (dd l).map f) rfl (fun l x ih => ?_) l
  rw [List.map_append, List.map_cons, List.map_nil, dd_snoc, dd_snoc, ih]
  by_cases h : x ∈ dd l
  · rw [if_pos h, if_pos (List.mem_map.mpr ⟨x, h, rfl⟩)]
  · rw [if_neg h, if_neg (fun z => by obtain ⟨y, hy, e⟩ := List.mem_map.mp z; exact h (hf _ _ e ▸ hy)), List.map_append]
    rfl
/-- what comes twice in the list comes twice in its images -/
theorem dd_app_map (A : List β) (f : α → β) (l : List α) : dd (A ++ l.map f) = dd (A ++ (dd l).map f) := by
  refine snoc_ind (p := fun l => dd (A ++ l.map f) = dd (A ++ (dd l).map f)) rfl (fun l x ih => ?_) l
  rw [List.map_append, List.map_cons, List.map_nil, ← List.append_assoc, dd_snoc, dd_snoc, ih]
  by_cases h : x ∈ dd l
  · rw [if_pos h, if_pos ((dd_mem _ _).mpr (List.mem_append_right _ (List.mem_map.mpr ⟨x, h, rfl⟩)))]
  · rw [if_neg h, List.map_append, ← List.append_assoc]
    exact (dd_snoc _ _).symm
theorem dd_of (l : List α) (h : l.Nodup) : dd l = l := by
  have key : ∀ l : List α, l.Nodup → dd l = l := fun l => by
    refine snoc_ind (p := fun l => l.Nodup → dd l = l) (fun _ => rfl) (fun l x ih hn => ?_) l
    rw [List.nodup_append] at hn
    rw [dd_snoc, ih hn.1, if_neg (fun z => hn.2.2 x z x (by simp) rfl)]
  exact key l h
theorem dd_app (A B : List α) (hA : A.Nodup) (h : ∀ x ∈ B, x ∉ A) : dd (A ++ B) = A ++ dd B := by
  have key : ∀ B : List α, (∀ x ∈ B, x ∉ A) → dd (A ++ B) = A ++ dd B := fun B => by
    refine snoc_ind (p := fun B => (∀ x ∈ B, x ∉ A) → dd (A ++ B) = A ++ dd B) (fun _ => ?_) (fun B x ih hB => ?_) B
    · rw [List.append_nil, dd_of A hA]; show _ = A ++ []; rw [List.append_nil]
    · rw [← List.append_assoc, dd_snoc, dd_snoc, ih fun y hy => hB y (List.mem_append_left _ hy)]
      have hx : x ∉ A := hB x (List.mem_append_right _ (by simp))
      by_cases c : x ∈ dd B
      · rw [if_pos c, if_pos (List.mem_append_right _ c)]
      · rw [if_neg c, if_neg (fun z => (List.mem_append.mp z).elim hx c), List.append_assoc]
  exact key B h
/-- what the law's loop does to what is found so far -/
def stepF (p : α → Bool) (acc : List α) (x : α) : List α := if p x && !decide (x ∈ acc) then acc ++ [x] else acc
theorem fold_dd (p : α → Bool) (acc : List α) (l : List α) (h : ∀ x ∈ l, x ∉ acc) : l.foldl (stepF p) acc = acc ++ dd (l.filter p) := by
  have key : ∀ l : List α, (∀ x ∈ l, x ∉ acc) → l.foldl (stepF p) acc = acc ++ dd (l.filter p) := fun l => by
    refine snoc_ind (p := fun l => (∀ x ∈ l, x ∉ acc) → l.foldl (stepF p) acc = acc ++ dd (l.filter p)) (fun _ => ?_) (fun l x ih hl => ?_) l
    · show acc = acc ++ []; rw [List.append_nil]
    · rw [List.foldl_append, ih fun y hy => hl y (List.mem_append_left _ hy)]
      have hx : x ∉ acc := hl x (List.mem_append_right _ (by simp))
      show stepF p (acc ++ dd (l.filter p)) x = _
      unfold stepF
      rw [List.filter_append]
      by_cases c : p x = true
      · rw [List.filter_cons_of_pos c, List.filter_nil, dd_snoc, c, Bool.true_and]
        by_cases d : x ∈ dd (l.filter p)
        · rw [if_pos d, decide_eq_true (List.mem_append_right _ d), if_neg (by simp)]
        · rw [if_neg d, decide_eq_false (fun z => (List.mem_append.mp z).elim hx d), if_pos (by rfl), List.append_assoc]
      · rw [List.filter_cons_of_neg c, List.filter_nil, List.append_nil, Bool.not_eq_true _ |>.mp c, Bool.false_and, if_neg Bool.false_ne_true]
  exact key l h
end
/-! the rows that are due -/
def tokP : Option Str → PyData
  | some z => .str z
  | none => .none
def rowD (r : Row) : PyData := .tuple [.str r.1, .int (r.2.1 : Nat), tokP r.2.2]
def rowsD (rs : List Row) : List PyData := rs.map rowD
theorem eqv_tok : ∀ a b : Option Str, PyData.eqv (tokP a) (tokP b) = decide (a = b)
  | none, none => rfl
  | none, some _ => rfl
  | some _, none => rfl
  | some a, some b => by
    show PyData.eqv (.str a) (.str b) = _
    rw [eqv_str, decide_eq_decide]
    exact ⟨fun e => by rw [e], Option.some.inj⟩
theorem eqv_row (r q : Row) : PyData.eqv (rowD r) (rowD q) = decide (r = q) := by
  obtain ⟨k, a, t⟩ := r
  obtain ⟨k', a', t'⟩ := q
  show (PyData.eqv (.str k) (.str k') && (PyData.eqv (.int (a : Nat)) (.int (a' : Nat)) && (PyData.eqv (tokP t) (tokP t') && true))) = _
  rw [eqv_str, eqv_tok, Bool.and_true]
  have e : PyData.eqv (.int (a : Nat)) (.int (a' : Nat)) = decide (a = a') := by
    show decide (((a : Nat) : Int) = ((a' : Nat) : Int)) = _
    rw [decide_eq_decide]
    exact Int.natCast_inj
  rw [e, ← Bool.decide_and, ← Bool.decide_and, decide_eq_decide]
  constructor
  · rintro ⟨rfl, rfl, rfl⟩; rfl
  · intro h; cases h; exact ⟨rfl, rfl, rfl⟩
theorem any_rows (rs : List Row) (r : Row) : ((rowsD rs).any fun y => PyData.eqv y (rowD r)) = decide (r ∈ rs) := by
  unfold rowsD
  rw [List.any_map, Bool.eq_iff_iff, List.any_eq_true, decide_eq_true_eq]
  constructor
  · rintro ⟨y, hy, h⟩
    have h' : PyData.eqv (rowD y) (rowD r) = true := h
    rw [eqv_row] at h'
    rw [← of_decide_eq_true h']; exact hy
  · intro h
    refine ⟨r, h, ?_⟩
    show PyData.eqv (rowD r) (rowD r) = true
    rw [eqv_row]
    exact decide_eq_true rfl
theorem eqvAll_iff : ∀ {ds es : List PyData}, (∀ d ∈ ds, ∀ e ∈ es, (PyData.eqv d e = true ↔ d = e)) → (PyData.eqvAll ds es = true ↔ ds = es)
  | [], [], _ => by rw [PyData.eqvAll]; simp
  | [], _ :: _, _ => by rw [PyData.eqvAll] <;> simp
  | _ :: _, [], _ => by rw [PyData.eqvAll] <;> simp
  | d :: ds, e :: es, h => by
    rw [PyData.eqvAll, Bool.and_eq_true, h d List.mem_cons_self e List.mem_cons_self, eqvAll_iff fun x hx y hy => h x (List.mem_cons_of_mem _ hx) y (List.mem_cons_of_mem _ hy), List.cons.injEq]

theorem rowD_inj {r q : Row} (e : rowD r = rowD q) : r = q := by
  have h := eqv_row r r
  rw [decide_eq_true rfl] at h
  have h2 := eqv_row r q
  rw [← e, h] at h2
  exact of_decide_eq_true h2.symm
theorem eqv_rows (a b : List Row) : PyData.eqv (.list (rowsD a)) (.list (rowsD b)) = decide (a = b) := by
  have h : PyData.eqvAll (rowsD a) (rowsD b) = true ↔ rowsD a = rowsD b := eqvAll_iff fun d hd e he => by
    obtain ⟨r, _, rfl⟩ := List.mem_map.mp hd
    obtain ⟨q, _, rfl⟩ := List.mem_map.mp he
    rw [eqv_row, decide_eq_true_eq]
    exact ⟨fun e => by rw [e], rowD_inj⟩
  have h2 : rowsD a = rowsD b ↔ a = b := List.map_inj_right fun p q e => rowD_inj e
  show PyData.eqvAll (rowsD a) (rowsD b) = _
  rw [Bool.eq_iff_iff, h, h2, decide_eq_true_eq]
section
variable (ps : List Str) (gs : List (Str × Str)) (ts : List Str)
def allowR (r : Row) : Bool := allowB ps gs ts r.1 r.2.1 r.2.2
def lrows (a : Nat) (L : List Str) : List Row := kinds3.map (fun k => (k, a, none)) ++ L.map (fun z => (("written" : Str), a, some z))
def dueTo (L : List Str) (n : Nat) : List Row := (List.range n).foldl (fun acc a => (lrows a L).foldl (stepF (allowR ps gs ts)) acc) []
theorem lrows_at {a : Nat} {L : List Str} {r : Row} (h : r ∈ lrows a L) : r.2.1 = a := by
  rcases List.mem_append.mp h with h | h
  · obtain ⟨k, _, rfl⟩ := List.mem_map.mp h; rfl
  · obtain ⟨k, _, rfl⟩ := List.mem_map.mp h; rfl
theorem rowAt_at {ws : List Str} {a : Nat} {r : Row} (h : r ∈ rowAt ps gs ts ws a) : r.2.1 = a := by
  rcases List.mem_append.mp h with h | h
  · obtain ⟨k, _, rfl⟩ := List.mem_map.mp h; rfl
  · obtain ⟨k, _, rfl⟩ := List.mem_map.mp h; rfl
theorem rowsTo_at {ws : List Str} {n : Nat} {r : Row} (h : r ∈ rowsTo ps gs ts ws n) : r.2.1 < n := by
  unfold rowsTo at h
  obtain ⟨a, ha, h⟩ := List.mem_flatMap.mp h
  rw [rowAt_at ps gs ts h]
  exact List.mem_range.mp ha
theorem dd_lrows (L : List Str) (a : Nat) : dd ((lrows a L).filter (allowR ps gs ts)) = rowAt ps gs ts (dd L) a := by
  unfold lrows rowAt rowK rowW
  rw [List.filter_append, List.filter_map, List.filter_map, dd_app, dd_map, dd_filter]
  · rfl
  · intro x y e; cases e; rfl
  · have e : (kinds3.map fun k => ((k, a, none) : Row)).Nodup := by
      refine List.Pairwise.map _ (fun x y h e => h ?_) (show kinds3.Nodup by decide +kernel)
      cases e; rfl
    rw [← List.filter_map]
    exact e.sublist List.filter_sublist
  · intro x hx hy
    obtain ⟨z, _, rfl⟩ := List.mem_map.mp hx
    obtain ⟨k, hk, e⟩ := List.mem_map.mp hy
    cases e
theorem due_rows (L : List Str) (n : Nat) : dueTo ps gs ts L n = rowsTo ps gs ts (dd L) n := by
  induction n with
  | zero => rfl
  | succ n ih =>
    unfold dueTo at ih ⊢
    rw [List.range_succ, List.foldl_append, ih, rows_succ]
    show (lrows n L).foldl (stepF (allowR ps gs ts)) (rowsTo ps gs ts (dd L) n) = _
    rw [fold_dd _ _ _ fun x hx hy => by
      have h1 := lrows_at hx
      have h2 := rowsTo_at ps gs ts hy
      omega]
    rw [dd_lrows]
theorem due_succ (L : List Str) (n : Nat) : dueTo ps gs ts L (n + 1) = (lrows n L).foldl (stepF (allowR ps gs ts)) (dueTo ps gs ts L n) := by
  unfold dueTo
  rw [List.range_succ, List.foldl_append]
  rfl
theorem rows_good {ws : List Str} (hw : ∀ z ∈ ws, TokOk z) {n : Nat} : ∀ r ∈ rowsTo ps gs ts ws n, GoodSlip r.1 r.2.2 := fun r h => by
  unfold rowsTo at h
  obtain ⟨a, _, h⟩ := List.mem_flatMap.mp h
  rcases List.mem_append.mp h with h | h
  · obtain ⟨k, hk, rfl⟩ := List.mem_map.mp h
    exact good3 (List.mem_filter.mp hk).1
  · obtain ⟨k, hk, rfl⟩ := List.mem_map.mp h
    exact .inl ⟨rfl, k, rfl, hw k (List.mem_filter.mp hk).1⟩
theorem rowAt_len (ws : List Str) (a : Nat) : (rowAt ps gs ts ws a).length ≤ 3 + ws.length := by
  unfold rowAt rowK rowW
  rw [List.length_append, List.length_map, List.length_map]
  have h1 : (kinds3.filter fun k => allowB ps gs ts k a none).length ≤ 3 := List.length_filter_le _ _
  have h2 := List.length_filter_le (fun z => allowB ps gs ts "written" a (some z)) ws
  omega
theorem rowsTo_len (ws : List Str) (n : Nat) : (rowsTo ps gs ts ws n).length ≤ n * (3 + ws.length) := by
  induction n with
  | zero => simp [rowsTo]
  | succ n ih =>
    rw [rows_succ, List.length_append, Nat.succ_mul]
    have := rowAt_len ps gs ts ws n
    omega
end
theorem words_kind {k : Str} (h : k ∈ kinds3) : k ∈ words6 := (show ∀ k ∈ kinds3, k ∈ words6 by decide +kernel) k h
theorem words_fam (z : Str) : famS z ∈ words6 := by
  rcases fam_three z with e | e | e <;> rw [e] <;> decide +kernel
section
variable {ks ps : List Str} {ls gs : List (Str × Str)}
theorem allow_same (hk : ∀ z ∈ words6, (z ∈ ks ↔ z ∈ ps)) (hl : ∀ q, q ∈ ls ↔ q ∈ gs) {ts : List Str} {k : Str} {a : Nat} {t : Option Str} (h : k = "written" ∨ k ∈ kinds3) : allowB ks ls ts k a t = allowB ps gs ts k a t := by
  unfold allowB mayB
  congr 1
  by_cases c : k = "written"
  · rw [if_pos c, if_pos c]
    congr 1
    · congr 1
      exact decide_eq_decide.mpr (hk _ (words_fam _))
    · exact decide_eq_decide.mpr (hl _)
  · rw [if_neg c, if_neg c]
    exact decide_eq_decide.mpr (hk _ (words_kind (h.resolve_left c)))
theorem rows_same (hk : ∀ z ∈ words6, (z ∈ ks ↔ z ∈ ps)) (hl : ∀ q, q ∈ ls ↔ q ∈ gs) (ts ws : List Str) (n : Nat) : rowsTo ks ls ts ws n = rowsTo ps gs ts ws n := by
  induction n with
  | zero => rfl
  | succ n ih =>
    rw [rows_succ, rows_succ, ih]
    congr 1
    unfold rowAt rowK rowW
    congr 2
    · exact List.filter_congr fun k h => allow_same hk hl (.inr h)
    · exact List.filter_congr fun k h => allow_same hk hl (.inl rfl)
end
/-- the looks sorted, each once, are the rule's -/
theorem sorted_dd {gs ls sg : List (Str × Str)} (lo : LooksOf gs ls) (hm : ∀ q, q ∈ sg ↔ q ∈ gs) (hs : K9.srt (sg.map pairL)) : dd sg = ls := by
  have h : LooksOf gs (dd sg) := ⟨dd_nodup _, List.Pairwise.sublist ((dd_sub sg).map pairL) hs, fun q => (dd_mem sg q).trans (hm q)⟩
  exact h.one lo fun _ => Iff.rfl
theorem menu_sorted {ws ns : List Str} {gs ls sg : List (Str × Str)} (lo : LooksOf gs ls) (hm : ∀ q, q ∈ sg ↔ q ∈ gs) (hs : K9.srt (sg.map pairL)) : dd (K5S.signs ++ ((ws ++ ns) ++ sg.map (·.2))) = menuW ws ns ls := by
  unfold menuW
  rw [← sorted_dd lo hm hs, ← List.append_assoc, dd_app_map]
  simp only [List.append_assoc]
end K5

namespace K5
open PySem L2 K5S
/-! the rows that are due, found by the law -/
abbrev sLDue : Stmt := top 38
abbrev sLRows : Stmt := top 39
abbrev nLDue : List Str := ["_law_parts", "_law_given", "_law_file", "_law_some", "_law_found", "_law_spot", "_law_rows_here", "_law_one", "_law_look", "_law_row"]
abbrev pLDue : List Str := ["_law_parts", "_law_given", "_law_file", "_law_some"]
theorem tok_atom (o : Option Str) : atomB (tokP o) = true := by cases o <;> rfl
theorem row_keep {K : PySem.W.Frag} {H H' : Hp} (t : ∀ {a xs}, SqT K H a xs → SqT K H' a xs) {v : V} {r : Row} (h : Dp K H v (rowD r)) : Dp K H' v (rowD r) := by
  cases h with
  | tup h1 h2 =>
    refine .tup (t h1) (atoms_any ?_ h2)
    show (true && (true && (atomB (tokP r.2.2) && true))) = true
    rw [tok_atom]; rfl
theorem rows_keep {K : PySem.W.Frag} {H H' : Hp} (t : ∀ {a xs}, SqT K H a xs → SqT K H' a xs) : ∀ {rs : List Row} {us : List V}, DpAll K H us (rowsD rs) → DpAll K H' us (rowsD rs)
  | [], _, h => by
    cases h
    exact .nil
  | r :: rs, _, h => by
    cases h with
    | cons h1 h2 => exact .cons (row_keep t h1) (rows_keep t h2)
theorem put_sqt {K : PySem.W.Frag} {H : Hp} {D : Addr} {L M : List V} (hD : H D = some (.lst L)) {a : Addr} {xs : List V} (h : SqT K H a xs) : SqT K (upd H D (.lst M)) a xs := keep_sqt hD (fun b o n e => by rw [upd_ne n]; exact e) h
theorem tok_val {K : PySem.W.Frag} {H : Hp} {v : V} {o : Option Str} (h : Dp K H v (tokP o)) : v = tokV o := by
  cases o with
  | none => cases h; rfl
  | some z => cases h; rfl
theorem row_val {K : PySem.W.Frag} {H : Hp} {v : V} {r : Row} (h : Dp K H v (rowD r)) : ∃ t, v = .ref t ∧ SqT K H t [.str r.1, .int (r.2.1 : Nat), tokV r.2.2] := by
  cases h with
  | @tup a us _ h1 h2 =>
    cases h2 with
    | cons q1 q2 =>
    cases q1
    cases q2 with
    | cons q3 q4 =>
    cases q3
    cases q4 with
    | cons q5 q6 =>
    cases q6
    rw [tok_val q5] at h1
    exact ⟨a, rfl, h1⟩
theorem row_of {K : PySem.W.Frag} {H : Hp} {t : Addr} {r : Row} (h : SqT K H t [.str r.1, .int (r.2.1 : Nat), tokV r.2.2]) : Dp K H (.ref t) (rowD r) := by
  refine .tup h (.cons (.str _) (.cons (.int _) (.cons ?_ .nil)))
  cases r.2.2 with
  | none => exact .non
  | some z => exact .str z
theorem row_lay {r : Row} (g : GoodSlip r.1 r.2.2) : (rowD r).canLay0 = true := by
  have hk : PyData.strOk r.1 = true := (show ∀ k ∈ kinds4, PyData.strOk k = true by decide +kernel) _ g.kind
  show (PyData.strOk r.1 && (true && ((tokP r.2.2).canLay0 && true))) = true
  rcases g with ⟨_, z, e, hz⟩ | ⟨_, e⟩
  · rw [hk, e]
    show (true && (true && (PyData.strOk z && true))) = true
    rw [hz.ok]; rfl
  · rw [hk, e]; rfl
theorem row_depth (r : Row) : (rowD r).depth ≤ 2 := by
  obtain ⟨k, a, o⟩ := r
  cases o with
  | none => show PyData.depth (.tuple [.str ⟨#[]⟩, .int 0, .none]) ≤ 2; decide
  | some z => show PyData.depth (.tuple [.str ⟨#[]⟩, .int 0, .str ⟨#[]⟩]) ≤ 2; decide
theorem row_shaped {r : Row} (g : GoodSlip r.1 r.2.2) : SeqAt.shaped (rowD r) = true := by
  unfold SeqAt.shaped
  rw [row_lay g, Bool.true_and]
  exact decide_eq_true (Nat.le_trans (row_depth r) (by decide))
theorem rows_lay : ∀ {rs : List Row}, (∀ r ∈ rs, GoodSlip r.1 r.2.2) → PyData.canLayAll0 (rowsD rs) = true
  | [], _ => rfl
  | r :: rs, h => by
    show ((rowD r).canLay0 && PyData.canLayAll0 (rowsD rs)) = true
    rw [row_lay (h r List.mem_cons_self), rows_lay fun q hq => h q (List.mem_cons_of_mem _ hq)]
    rfl
theorem rows_depth : ∀ rs : List Row, PyData.depthAll (rowsD rs) ≤ 2
  | [] => by show PyData.depthAll [] ≤ 2; decide
  | r :: rs => by
    show max (rowD r).depth (PyData.depthAll (rowsD rs)) ≤ 2
    exact Nat.max_le.mpr ⟨row_depth r, rows_depth rs⟩
theorem rows_shaped {rs : List Row} (h : ∀ r ∈ rs, GoodSlip r.1 r.2.2) : SeqAt.shaped (.tuple (rowsD rs)) = true := by
  unfold SeqAt.shaped
  rw [show (PyData.tuple (rowsD rs)).canLay0 = PyData.canLayAll0 (rowsD rs) from rfl, rows_lay h, Bool.true_and]
  refine decide_eq_true ?_
  have := rows_depth rs
  show PyData.depthAll (rowsD rs) + 1 ≤ 64
  omega
/-- the looks in another order -/
theorem perm_looks {K : PySem.W.Frag} {H : Hp} {ys us : List V} (p : ys.Perm us) : ∀ {gs : List (Str × Str)}, DpAll K H us (loD gs) → ∃ sg : List (Str × Str), sg.Perm gs ∧ DpAll K H ys (loD sg) := by
  induction p with
  | nil => exact fun {gs} h => ⟨gs, List.Perm.refl _, h⟩
  | @cons x a b _ ih =>
    intro gs h
    cases gs with
    | nil => cases h
    | cons g gs =>
      cases h with
      | cons h1 h2 =>
        obtain ⟨sg, p1, h3⟩ := ih h2
        exact ⟨g :: sg, p1.cons g, .cons h1 h3⟩
  | @swap x y l =>
    intro gs h
    match gs, h with
    | [], h => cases h
    | [_], .cons _ h => cases h
    | g1 :: g2 :: gs, .cons h1 (.cons h2 h3) => exact ⟨g2 :: g1 :: gs, List.Perm.swap _ _ _, .cons h2 (.cons h1 h3)⟩
  | trans _ _ ih1 ih2 =>
    intro gs h
    obtain ⟨s1, p1, h1⟩ := ih2 h
    obtain ⟨s2, p2, h2⟩ := ih1 h1
    exact ⟨s2, p2.trans p1, h2⟩
theorem look_txt {K : PySem.W.Frag} {H : Hp} {x : V} {p : Str × Str} (h : Dp K H x (lkP p)) : TxT K H x (pairL p) := by
  cases h with
  | @tup a us _ h1 h2 =>
    cases h2 with
    | cons q1 q2 =>
    cases q1
    cases q2 with
    | cons q3 q4 =>
    cases q3
    cases q4
    exact ⟨a, rfl, h1⟩
theorem looks_srt {K : PySem.W.Frag} {H : Hp} : ∀ {ys : List V} {sg : List (Str × Str)}, DpAll K H ys (loD sg) → ys.Pairwise (fun x y => ∀ n m, TxT K H x n → TxT K H y m → K9.ltx m n = false) → K9.srt (sg.map pairL)
  | _, [], _, _ => List.Pairwise.nil
  | _, g :: sg, .cons h1 h2, hp => by
    have hp := List.pairwise_cons.mp hp
    refine List.pairwise_cons.mpr ⟨fun z hz => ?_, looks_srt h2 hp.2⟩
    obtain ⟨q, hq, rfl⟩ := List.mem_map.mp hz
    obtain ⟨i, hi, e⟩ := List.getElem_of_mem hq
    obtain ⟨v, hv, hd⟩ := DpAll.at h2 (k := i) (d := lkP q) (by rw [List.getElem?_map, List.getElem?_eq_getElem hi, e]; rfl)
    exact hp.1 v (List.mem_of_getElem? hv) _ _ (look_txt h1) (look_txt hd)
theorem step_no {α : Type} [DecidableEq α] {p : α → Bool} {acc : List α} {x : α} (h : p x = false ∨ x ∈ acc) : stepF p acc x = acc := by
  unfold stepF
  rcases h with h | h
  · rw [h, Bool.false_and, if_neg Bool.false_ne_true]
  · rw [decide_eq_true h, Bool.not_true, Bool.and_false, if_neg Bool.false_ne_true]
theorem step_yes {α : Type} [DecidableEq α] {p : α → Bool} {acc : List α} {x : α} (h : p x = true) (n : x ∉ acc) : stepF p acc x = acc ++ [x] := by
  unfold stepF
  rw [h, decide_eq_false n, Bool.not_false, Bool.and_true, if_pos rfl]
theorem fold_mem {α : Type} [DecidableEq α] (p : α → Bool) : ∀ (l acc : List α) (q : α), q ∈ l.foldl (stepF p) acc → q ∈ acc ∨ q ∈ l
  | [], _, _, h => .inl h
  | x :: l, acc, q, h => by
    rcases fold_mem p l _ q h with h | h
    · unfold stepF at h
      split at h
      · rcases List.mem_append.mp h with h | h
        · exact .inl h
        · rw [List.mem_singleton.mp h]; exact .inr List.mem_cons_self
      · exact .inl h
    · exact .inr (List.mem_cons_of_mem _ h)
def spLDue (K : PySem.W.Frag) : Sp := fun vs H Q _ => ∃ (A G f s : Addr) (us : List V) (ps : List Str) (gs ls : List (Str × Str)) (ts ss : List Str), vs = [.ref A, .ref G, .ref f, .ref s] ∧ PartsV K H A G us ps gs ∧ LooksOf gs ls ∧ H f = some (.lst (ts.map V.str)) ∧ (∀ z ∈ ts, TokOk z) ∧ H s = some (.lst (ss.map V.str)) ∧ (∀ z ∈ ss, TokOk z) ∧ ts.length ≤ 10 ∧ ss.length ≤ 10 ∧
  ∀ p us' H', Same H H' → H p = none → H' p = some (.lst us') → DpAll K H' us' (rowsD (rowsTo ps gs ts (dd (K5S.signs ++ (ss ++ ls.map (·.2)))) ts.length)) → Q (.ref p) H'
abbrev stD (A G f s : Addr) (a b c d : Option V) : L2.St := [some (.ref A), some (.ref G), some (.ref f), some (.ref s), a, b, c, none, none, d]
section
variable {P : Program} {w : World} {K : PySem.W.Frag} {mg : Str → Option Value} {base : Heap}
theorem scLDue : FnScope nLDue pLDue (defScope sLDue) := ⟨rfl, rfl, rfl, by decide +kernel, rfl, by decide +kernel, by decide +kernel⟩
theorem ok_ldue {f : Addr} {fd : FuncData} (F : Fun K "_law_due" "_law_due" sLDue f fd) (T : Bare mg) (hSo : mg "sorted" = none) (GM : Fn P w K mg base 2 "_law_may" pLMay (spLMay K)) : FnOk P w K mg base CX0 3 f fd pLDue (spLDue K) := by
  refine F.ok scLDue (fun vs H Q E h => ?_) (fun cdv A0 outer s0 H vs Q E hr h => ?_)
  · obtain ⟨A, G, f, s, us, ps, gs, ls, ts, ss, rfl, _⟩ := h
    rfl
  · obtain ⟨A, G, f, s, us, ps, gs, ls, ts, ss, rfl, V0, lo, hf, hts, hs, hss, lt, lss, q⟩ := h
    have hr2 : Room 2 _ := hr
    refine ⟨_, (C8.pss_cut (ps_set (i := 4) scLDue.nd rfl (.inl rfl) (pe_lst pa_nil))
        (C8.pss_cut (ps_for PassesOwn.never rfl (pi_range1 (by rfl) T.range (pa_cons (pe_callB call_len_seq (by rfl) T.len PySem.boot_len (pa_cons (pv 2) pa_nil)) pa_nil)) (pg_name (i := 5) scLDue.nd rfl (.inr rfl))
        (C8.pss_cut (ps_set (i := 6) scLDue.nd rfl (.inl rfl) (pe_lst (pa_cons (pe_tup (pa_cons pe_str (pa_cons (pv 5) (pa_cons pe_non pa_nil)))) (pa_cons (pe_tup (pa_cons pe_str (pa_cons (pv 5) (pa_cons pe_non pa_nil)))) (pa_cons (pe_tup (pa_cons pe_str (pa_cons (pv 5) (pa_cons pe_non pa_nil)))) pa_nil)))))
        (C8.pss_cut (ps_set (i := 6) scLDue.nd rfl (.inl rfl) (pe_op op_cat (pv 6) (pe_lc (own := [("_law_one", 7)]) (g := gName 7) (tt := tYes) (te := tTup (tCons (tC (.str "written")) (tCons (tVar 5) (tCons (tVar 7) tNil)))) (by rfl) scLDue.nd (pi_list (pe_op op_cat (pe_op op_cat (pe_lst (pa_cons pe_str (pa_cons pe_str (pa_cons pe_str (pa_cons pe_str (pa_cons pe_str pa_nil)))))) (pv 3)) (pe_lc (own := [("_law_look", 8)]) (g := gName 8) (tt := tYes) (te := tOp (rIxT K) (tVar 8) (tC (.int 1))) (by rfl) scLDue.nd (pi_list (pe_callB (show CallR _ _ (rSortX K 2) from cr_sortX (by decide)) (by rfl) hSo (by decide +kernel) (pa_cons (pv 1) pa_nil))) (blkOk_by (own := [("_law_look", 8)]) (N := nLDue) (sc := defScope sLDue) (by decide +kernel)) (fun _ _ _ _ _ => pg_name (i := 8) scLDue.nd rfl (Or.inl rfl)) (fun _ _ _ _ _ => pts_nil) (fun _ _ _ _ _ => (pe_ix (show IxR _ (rIxT K) from ix_tup) (pv 8) pe_int (fun _ _ => rfl)))))) (blkOk_by (own := [("_law_one", 7)]) (N := nLDue) (sc := defScope sLDue) (by decide +kernel)) (fun _ _ _ _ _ => pg_name (i := 7) scLDue.nd rfl (Or.inl rfl)) (fun _ _ _ _ _ => pts_nil) (fun _ _ _ _ _ => (pe_tup (pa_cons pe_str (pa_cons (pv 5) (pa_cons (pv 7) pa_nil))))))))
        (pss_one (ps_for PassesOwn.never rfl (pi_list (pv 6)) (pg_name (i := 9) scLDue.nd rfl (.inl rfl))
        (pss_one (ps_if (PW.pt (pw_and (pt_val (pe_fn GM hr2 rfl (pa_cons (pv 0) (pa_cons (pv 1) (pa_cons (pv 2) (pa_cons (pv 9) pa_nil)))))) (pw_and1 (pt_cmpR (op_ninA (Room.units5 hr)) (pv 9) (pv 4) (by rfl))))) (pss_one (ps_expr (pe_bm PySem.F.plainAttrs_list PySem.F.slot_list_append PySem.F.type_list_append mt_append (pv 4) (pa_cons (pv 9) pa_nil)))) pss_nil)))))))
        (pss_one (ps_ret (pv 4))))), ?_⟩
    refine ⟨fun σ H' => ∃ D, σ = stD A G f s (some (.ref D)) none none none ∧ Same H H' ∧ H D = none ∧ H' D = some (.lst []), ⟨Nat.zero_le _, fun D hD => ⟨D, rfl, Same.new (Same.refl _) hD, hD, upd_same⟩⟩, ?_⟩
    rintro σ H1 ⟨D, rfl, s1, hD0, hD1⟩
    have mgs : ∀ q ∈ gs, q ∈ looks10 := V0.m
    have lsg : ls.length ≤ 3 := by
      have := nodup_le lo.nd (fun q hq => (lo.mem q).mp hq)
      have := V0.l
      omega
    have mls : ∀ q ∈ ls, q ∈ looks10 := fun q hq => mgs q ((lo.mem q).mp hq)
    have tokL : ∀ z ∈ K5S.signs ++ (ss ++ ls.map (·.2)), TokOk z := fun z hz => by
      rcases List.mem_append.mp hz with h | h
      · exact tok_signs z h
      · rcases List.mem_append.mp h with h | h
        · exact hss z h
        · obtain ⟨p, hp, rfl⟩ := List.mem_map.mp h
          exact (tok_look p (mls p hp)).2
    -- after n spots
    refine ⟨fun σ H' => ∃ (a b d : Option V) (fus : List V), σ = stD A G f s (some (.ref D)) a b d ∧ Same H H' ∧ H' D = some (.lst fus) ∧ DpAll K H' fus (rowsD (rowsTo ps gs ts (dd (K5S.signs ++ (ss ++ ls.map (·.2)))) ts.length)), ?_, ?_⟩
    · refine ⟨_, rfl, f, _, rfl, .inl (SqL.of (s1 _ _ hf)), ((ts.map V.str).length : Nat), rfl, by omega, ?_, ?_⟩
      · rw [List.length_map]; omega
      have rg : (((ts.map V.str).length : Nat) : Int).toNat = ts.length := by rw [List.length_map]; omega
      refine for_range (lo := 0) (n := (((ts.map V.str).length : Nat) : Int).toNat) (fun n σ H' => ∃ (a b d : Option V) (fus : List V), σ = stD A G f s (some (.ref D)) a b d ∧ Same H H' ∧ H' D = some (.lst fus) ∧ DpAll K H' fus (rowsD (rowsTo ps gs ts (dd (K5S.signs ++ (ss ++ ls.map (·.2)))) n))) ⟨none, none, none, [], rfl, s1, hD1, .nil⟩ (fun n σ H2 hn h => ?_) (fun σ H2 h => by rw [rg] at h; exact h)
      rw [rg] at hn
      obtain ⟨a, b, d, fus, rfl, s2, hD2, hfu⟩ := h
      have en : (V.int (0 + (n : Int))) = V.int (n : Nat) := by rw [Int.zero_add]
      rw [en]
      have lfu : fus.length ≤ 400 := by
        have e1 := DpAll.len hfu
        have e2 := rowsTo_len ps gs ts (dd (K5S.signs ++ (ss ++ ls.map (·.2)))) n
        have e3 := dd_len (K5S.signs ++ (ss ++ ls.map (·.2)))
        have e4 : K5S.signs.length = 5 := rfl
        rw [rowsD, List.length_map] at e1
        rw [List.length_append, List.length_append, List.length_map] at e3
        have e5 : n * (3 + (dd (K5S.signs ++ (ss ++ ls.map (·.2)))).length) ≤ 10 * 30 := Nat.mul_le_mul (by omega) (by omega)
        omega
      -- three rows
      refine ⟨fun σ H' => ∃ (R : Addr) (rus : List V), σ = stD A G f s (some (.ref D)) (some (.int (n : Nat))) (some (.ref R)) d ∧ Same H2 H' ∧ H' R = some (.lst rus) ∧ DpAll K H' rus (rowsD (kinds3.map fun k => (k, n, none))), ?_, ?_⟩
      · refine ⟨_, rfl, by show 3 ≤ sizeLine; decide, fun g1 hg1 => ⟨_, rfl, by show 3 ≤ sizeLine; decide, fun g2 hg2 => ⟨_, rfl, by show 3 ≤ sizeLine; decide, fun g3 hg3 => ⟨by show 3 ≤ sizeLine; decide, fun R hR => ?_⟩⟩⟩⟩
        have t1 := Same.new (o := .tup [.str "left", .int (n : Nat), .non]) (Same.refl _) hg1
        have t2 := Same.new (o := .tup [.str "doubled", .int (n : Nat), .non]) (Same.refl _) hg2
        have t3 := Same.new (o := .tup [.str "swapped", .int (n : Nat), .non]) (Same.refl _) hg3
        have t4 := Same.new (o := .lst [.ref g1, .ref g2, .ref g3]) (Same.refl _) hR
        refine ⟨R, [.ref g1, .ref g2, .ref g3], rfl, t1.trans (t2.trans (t3.trans t4)), upd_same, .cons ?_ (.cons ?_ (.cons ?_ .nil))⟩
        · exact row_of (r := (("left" : Str), n, none)) (SqT.of (t4 _ _ (t3 _ _ (t2 _ _ upd_same))))
        · exact row_of (r := (("doubled" : Str), n, none)) (SqT.of (t4 _ _ (t3 _ _ upd_same)))
        · exact row_of (r := (("swapped" : Str), n, none)) (SqT.of (t4 _ _ upd_same))
      rintro σ H3 ⟨R, rus, rfl, s3, hR, hru⟩
      have lru : rus.length = 3 := DpAll.len hru
      -- the written ones behind
      refine ⟨fun σ H' => ∃ (R2 : Addr) (rus2 : List V) (sg : List (Str × Str)), σ = stD A G f s (some (.ref D)) (some (.int (n : Nat))) (some (.ref R2)) d ∧ Same H3 H' ∧ H3 R2 = none ∧ H' R2 = some (.lst rus2) ∧ DpAll K H' rus2 (rowsD (lrows n (K5S.signs ++ (ss ++ sg.map (·.2))))) ∧ (∀ q, q ∈ sg ↔ q ∈ gs) ∧ sg.length = gs.length ∧ K9.srt (sg.map pairL), ?_, ?_⟩
      · have s03 := s2.trans s3
        refine ⟨_, rfl, by show 5 ≤ sizeLine; decide, fun l hl => ⟨_, rfl, l, s, _, ss.map V.str, rfl, rfl, upd_same, ?_, ?_, fun M1 hM1 => ⟨_, rfl, G, us, rfl, SqL.of ?_, by have := DpAll.len V0.d; rw [loD, List.length_map] at this; have := V0.l; omega, fun x hx => ?_, fun ys p hpm hpw hp => ?_⟩⟩⟩
        · exact (Same.new (o := .lst (K5S.signs.map V.str)) (Same.refl _) hl) _ _ (s03 _ _ hs)
        · rw [List.length_map]
          exact line_ge (by show 5 + ss.length ≤ _; omega)
        · exact (Same.new (Same.new (o := .lst (K5S.signs.map V.str)) (Same.refl _) hl) hM1) _ _ (s03 _ _ V0.g)
        · have dG := dpAll_same ((s03.trans (Same.new (o := .lst (K5S.signs.map V.str)) (Same.refl _) hl)).trans (Same.new (o := .lst (K5S.signs.map V.str ++ ss.map V.str)) (Same.refl _) hM1)) _ V0.d
          obtain ⟨dq, hdq, hv⟩ := DpAll.mem dG hx
          obtain ⟨q, _, rfl⟩ := List.mem_map.mp hdq
          exact ⟨pairL q, look_txt hv, rfl⟩
        have sl := Same.new (o := .lst (K5S.signs.map V.str)) (Same.refl _) hl
        have sM := Same.new (o := .lst (K5S.signs.map V.str ++ ss.map V.str)) (Same.refl _) hM1
        have dG := dpAll_same ((s03.trans sl).trans sM) _ V0.d
        obtain ⟨sg, pg, hsg⟩ := perm_looks hpm dG
        have srt := looks_srt hsg hpw
        have sp := Same.new (o := .lst ys) (Same.refl _) hp
        have hsg' := dpAll_same sp _ hsg
        have lys : ys.length = sg.length := by rw [DpAll.len hsg, loD, List.length_map]
        have lsg2 : sg.length = gs.length := pg.length_eq
        refine ⟨p, rfl, ⟨_, SqL.of upd_same⟩, fun D2 hD2 => ?_⟩
        refine lc_list (K := K) (a := p) (xs := ys) (fun i H' => Same (upd (upd (upd H3 l (.lst (K5S.signs.map V.str))) M1 (.lst (K5S.signs.map V.str ++ ss.map V.str))) p (.lst ys)) H' ∧ H' D2 = some (.lst (((sg.take i).map (·.2)).map V.str))) ⟨Same.new (Same.refl _) hD2, upd_same⟩ (fun i H' _ h => SqL.of (h.1 _ _ upd_same)) (fun i x H4 hx h => ?_) (fun H4 h => ?_)
        · obtain ⟨s4, hd4⟩ := h
          obtain ⟨dq, hdq, hv⟩ := DpAll.at2 hsg' hx
          unfold loD at hdq
          rw [List.getElem?_map] at hdq
          cases hq : sg[i]? with
          | none => rw [hq] at hdq; cases hdq
          | some q =>
          rw [hq] at hdq
          obtain rfl : lkP q = dq := Option.some.inj hdq
          obtain ⟨t, rfl, ht⟩ := look_txt hv
          have li : i < sg.length := (List.getElem?_eq_some_iff.mp hq).1
          have := V0.l
          refine ⟨rfl, ⟨_, rfl, t, _, 1, .str q.2, rfl, rfl, SqT.ext ht s4, rfl, _, hd4, ?_, Same.put s4 hD2, ?_⟩⟩
          · rw [List.length_map, List.length_map, List.length_take]
            exact Nat.lt_of_le_of_lt (show _ ≤ 900 by omega) (by decide)
          · rw [upd_same, take_some hq, List.map_append, List.map_append]
            rfl
        obtain ⟨s4, hd4⟩ := h
        rw [lys, List.take_length] at hd4
        have hM4 := s4 _ _ (sp _ _ (show upd (upd H3 l (.lst (K5S.signs.map V.str))) M1 (.lst (K5S.signs.map V.str ++ ss.map V.str)) M1 = _ from upd_same))
        have := V0.l
        refine ⟨M1, D2, _, _, rfl, rfl, hM4, hd4, ?_, fun M2 hM2 => ⟨M2, rfl, ⟨_, SqL.of upd_same⟩, fun D3 hD3 => ?_⟩⟩
        · simp only [List.length_append, List.length_map]
          exact line_ge (by show 5 + ss.length + sg.length ≤ _; omega)
        have eL : K5S.signs.map V.str ++ ss.map V.str ++ (sg.map (·.2)).map V.str = (K5S.signs ++ (ss ++ sg.map (·.2))).map V.str := by simp only [List.map_append, List.append_assoc]
        rw [eL] at hD3 ⊢
        have s5 := Same.new (o := .lst ((K5S.signs ++ (ss ++ sg.map (·.2))).map V.str)) (Same.refl _) hM2
        have s35 : Same H3 (upd H4 M2 (.lst ((K5S.signs ++ (ss ++ sg.map (·.2))).map V.str))) := (((sl.trans sM).trans sp).trans s4).trans s5
        have lL : (K5S.signs ++ (ss ++ sg.map (·.2))).length ≤ 20 := by
          simp only [List.length_append, List.length_map]
          show 5 + (ss.length + sg.length) ≤ 20
          omega
        refine lc_list (K := K) (a := M2) (xs := (K5S.signs ++ (ss ++ sg.map (·.2))).map V.str) (fun i H' => Same (upd H4 M2 (.lst ((K5S.signs ++ (ss ++ sg.map (·.2))).map V.str))) H' ∧ ∃ wus, H' D3 = some (.lst wus) ∧ DpAll K H' wus (rowsD (((K5S.signs ++ (ss ++ sg.map (·.2))).take i).map fun z => (("written" : Str), n, some z)))) ⟨Same.new (Same.refl _) hD3, [], upd_same, .nil⟩ (fun i H' _ h => SqL.of (h.1 _ _ upd_same)) (fun i x H5 hx h => ?_) (fun H5 h => ?_)
        · obtain ⟨s6, wus, hd6, hw6⟩ := h
          rw [List.getElem?_map] at hx
          cases hz : (K5S.signs ++ (ss ++ sg.map (·.2)))[i]? with
          | none => rw [hz] at hx; cases hx
          | some z =>
          rw [hz] at hx
          obtain rfl : V.str z = x := Option.some.inj hx
          have lw := DpAll.len hw6
          rw [rowsD, List.length_map, List.length_map, List.length_take] at lw
          refine ⟨rfl, ⟨_, rfl, _, rfl, by show 3 ≤ sizeLine; decide, fun g hg => ?_⟩⟩
          have s7 := Same.new (o := .tup [.str "written", .int (n : Nat), .str z]) (Same.refl _) hg
          have hd7 := s7 _ _ hd6
          refine ⟨wus, hd7, Nat.lt_of_le_of_lt (show _ ≤ 900 by omega) (by decide), Same.put (s6.trans s7) hD3, wus ++ [.ref g], upd_same, ?_⟩
          rw [take_some hz, List.map_append]
          unfold rowsD
          rw [List.map_append]
          refine DpAll.app (rows_keep (put_sqt hd7) (dpAll_same s7 _ hw6)) (.cons (row_keep (put_sqt hd7) (row_of (r := (("written" : Str), n, some z)) (SqT.of upd_same))) .nil)
        obtain ⟨s6, wus, hd6, hw6⟩ := h
        rw [List.length_map, List.take_length] at hw6
        have lw := DpAll.len hw6
        rw [rowsD, List.length_map, List.length_map] at lw
        have s36 := s35.trans s6
        refine ⟨R, D3, _, _, rfl, rfl, s36 _ _ hR, hd6, line_ge (by omega), fun M3 hM3 => ?_⟩
        have s8 := Same.new (o := .lst (rus ++ wus)) (Same.refl _) hM3
        refine ⟨M3, rus ++ wus, sg, rfl, s36.trans s8, s36.free hM3, upd_same, ?_, fun q => pg.mem_iff, lsg2, srt⟩
        unfold lrows rowsD
        rw [List.map_append]
        exact DpAll.app (dpAll_same (s36.trans s8) _ hru) (dpAll_same s8 _ hw6)
      rintro σ H4 ⟨R2, rus2, sg, rfl, s4, hR20, hR2, hru2, msg, lsg2, srt⟩
      -- what is found
      have eD : dd (K5S.signs ++ (ss ++ sg.map (·.2))) = dd (K5S.signs ++ (ss ++ ls.map (·.2))) := by
        rw [← List.append_assoc, ← List.append_assoc, dd_app_map, sorted_dd lo msg srt]
      have s24 := s3.trans s4
      have hD4 := s24 _ _ hD2
      have nRD : D ≠ R2 := ne_of_none (s3 _ _ hD2) hR20
      have lr2 : rus2.length ≤ 40 := by
        have e := DpAll.len hru2
        have := V0.l
        rw [rowsD, List.length_map] at e
        unfold lrows at e
        simp only [List.length_append, List.length_map] at e
        have e1 : kinds3.length = 3 := rfl
        have e2 : K5S.signs.length = 5 := rfl
        omega
      have tok2 : ∀ r ∈ lrows n (K5S.signs ++ (ss ++ sg.map (·.2))), GoodSlip r.1 r.2.2 := fun r hr => by
        rcases List.mem_append.mp hr with h | h
        · obtain ⟨k, hk, rfl⟩ := List.mem_map.mp h
          exact good3 hk
        · obtain ⟨z, hz, rfl⟩ := List.mem_map.mp h
          refine .inl ⟨rfl, z, rfl, tokL z ?_⟩
          have h1 := (dd_mem (K5S.signs ++ (ss ++ ls.map (·.2))) z)
          rw [← eD] at h1
          exact h1.mp ((dd_mem _ _).mpr hz)
      have tokF : ∀ r ∈ rowsTo ps gs ts (dd (K5S.signs ++ (ss ++ ls.map (·.2)))) n, GoodSlip r.1 r.2.2 := rows_good ps gs ts (fun z hz => tokL z ((dd_mem _ _).mp hz))
      refine ⟨_, rfl, R2, rfl, ⟨_, SqL.of hR2⟩, ?_⟩
      refine for_list (K := K) (a := R2) (xs := rus2) (fun j σ H' => ∃ (d : Option V) (fus : List V), σ = stD A G f s (some (.ref D)) (some (.int (n : Nat))) (some (.ref R2)) d ∧ Same H H' ∧ H' R2 = some (.lst rus2) ∧ DpAll K H' rus2 (rowsD (lrows n (K5S.signs ++ (ss ++ sg.map (·.2))))) ∧ H' D = some (.lst fus) ∧ DpAll K H' fus (rowsD (((lrows n (K5S.signs ++ (ss ++ sg.map (·.2)))).take j).foldl (stepF (allowR ps gs ts)) (rowsTo ps gs ts (dd (K5S.signs ++ (ss ++ ls.map (·.2)))) n))) ∧ fus.length ≤ 400 + j)
        ⟨d, fus, rfl, s2.trans s24, hR2, hru2, hD4, dpAll_same s24 _ hfu, lfu⟩ (fun j σ H' _ h => by obtain ⟨_, _, _, _, h, _⟩ := h; exact SqL.of h) (fun j x σ H5 hx h => ?_) (fun σ H5 h => ?_)
      · obtain ⟨d, fus, rfl, s5, hR5, hru5, hD5, hfu5, lf5⟩ := h
        obtain ⟨dq, hdq, hv⟩ := DpAll.at2 hru5 hx
        unfold rowsD at hdq
        rw [List.getElem?_map] at hdq
        cases hr : (lrows n (K5S.signs ++ (ss ++ sg.map (·.2))))[j]? with
        | none => rw [hr] at hdq; cases hdq
        | some r =>
        rw [hr] at hdq
        obtain rfl : rowD r = dq := Option.some.inj hdq
        obtain ⟨t, rfl, ht⟩ := row_val hv
        have gr := tok2 r (List.mem_of_getElem? hr)
        have lj : j < rus2.length := (List.getElem?_eq_some_iff.mp hx).1
        have nx : ∀ {H'}, Same H5 H' → allowR ps gs ts r = false ∨ r ∈ ((lrows n (K5S.signs ++ (ss ++ sg.map (·.2)))).take j).foldl (stepF (allowR ps gs ts)) (rowsTo ps gs ts (dd (K5S.signs ++ (ss ++ ls.map (·.2)))) n) → ∃ d fus, stD A G f s (some (.ref D)) (some (.int (n : Nat))) (some (.ref R2)) (some (.ref t)) = stD A G f s (some (.ref D)) (some (.int (n : Nat))) (some (.ref R2)) d ∧ Same H H' ∧ H' R2 = some (.lst rus2) ∧ DpAll K H' rus2 (rowsD (lrows n (K5S.signs ++ (ss ++ sg.map (·.2))))) ∧ H' D = some (.lst fus) ∧ DpAll K H' fus (rowsD (((lrows n (K5S.signs ++ (ss ++ sg.map (·.2)))).take (j + 1)).foldl (stepF (allowR ps gs ts)) (rowsTo ps gs ts (dd (K5S.signs ++ (ss ++ ls.map (·.2)))) n))) ∧ fus.length ≤ 400 + (j + 1) := fun {H'} s6 hc => by
          refine ⟨_, fus, rfl, s5.trans s6, s6 _ _ hR5, dpAll_same s6 _ hru5, s6 _ _ hD5, ?_, by omega⟩
          rw [take_some hr, List.foldl_append]
          show DpAll K H' fus (rowsD (stepF (allowR ps gs ts) _ r))
          rw [step_no hc]
          exact dpAll_same s6 _ hfu5
        refine ⟨_, rfl, _, rfl, _, rfl, _, rfl, A, G, f, t, us, ps, gs, ts, r.1, r.2.1, r.2.2, rfl, V0.same s5, SqL.of (s5 _ _ hf), hts, ht, gr, fun H6 s6 => ⟨_, rfl, ?_⟩⟩
        cases ca : allowB ps gs ts r.1 r.2.1 r.2.2 with
        | false => exact iteF (iteF (nx s6 (.inl ca)))
        | true =>
          have good : ∀ q ∈ ((lrows n (K5S.signs ++ (ss ++ sg.map (·.2)))).take j).foldl (stepF (allowR ps gs ts)) (rowsTo ps gs ts (dd (K5S.signs ++ (ss ++ ls.map (·.2)))) n), GoodSlip q.1 q.2.2 := fun q hq => (fold_mem _ _ _ q hq).elim (tokF q) fun h => tok2 q (List.mem_of_mem_take h)
          refine iteT ⟨_, rfl, _, rfl, rowD r, _, row_of (SqT.ext ht s6), .inl (.lst (SqL.of (s6 _ _ hD5)) (dpAll_same s6 _ hfu5)), row_shaped gr, rows_shaped good, _, rfl, ?_⟩
          rw [any_rows, Bool.true_bne]
          cases cm : decide (r ∈ ((lrows n (K5S.signs ++ (ss ++ sg.map (·.2)))).take j).foldl (stepF (allowR ps gs ts)) (rowsTo ps gs ts (dd (K5S.signs ++ (ss ++ ls.map (·.2)))) n)) with
          | true => exact iteF (nx s6 (.inr (of_decide_eq_true cm)))
          | false =>
            have hD6 := s6 _ _ hD5
            have hR6 := s6 _ _ hR5
            refine iteT ⟨_, rfl, .inl ⟨rfl, _, SqL.of hD6⟩, _, rfl, D, fus, _, rfl, rfl, hD6, Nat.lt_of_le_of_lt (show fus.length ≤ 900 by omega) (by decide), _, fus ++ [.ref t], rfl, Same.put (s5.trans s6) hD0, by rw [upd_ne nRD.symm]; exact hR6, rows_keep (put_sqt hD6) (dpAll_same s6 _ hru5), upd_same, ?_, by rw [List.length_append]; show fus.length + 1 ≤ _; omega⟩
            rw [take_some hr, List.foldl_append]
            show DpAll K _ _ (rowsD (stepF (allowR ps gs ts) _ r))
            rw [step_yes (p := allowR ps gs ts) ca (of_decide_eq_false cm)]
            unfold rowsD
            rw [List.map_append]
            exact DpAll.app (rows_keep (put_sqt hD6) (dpAll_same s6 _ hfu5)) (.cons (row_keep (put_sqt hD6) (row_of (SqT.ext ht s6))) .nil)
      · obtain ⟨d, fus, rfl, s5, hR5, hru5, hD5, hfu5, lf5⟩ := h
        refine ⟨_, _, d, fus, rfl, s5, hD5, ?_⟩
        have el : rus2.length = (lrows n (K5S.signs ++ (ss ++ sg.map (·.2)))).length := by rw [DpAll.len hru2, rowsD, List.length_map]
        rw [el, List.take_length] at hfu5
        rw [← eD, ← due_rows, due_succ, due_rows, eD]
        exact hfu5
    rintro σ H5 ⟨a, b, d, fus, rfl, s5, hD5, hfu⟩
    exact ⟨_, rfl, q D fus H5 s5 hD0 hD5 hfu⟩
end
end K5

namespace K5
open PySem L2 K5S
/-- slips, one for each row -/
def SlipL (CS : Addr) (H : Hp) (xs : List V) (rs : List Row) : Prop := xs.length = rs.length ∧ ∀ (i : Nat) (r : Row), rs[i]? = some r → ∃ y : Addr, xs[i]? = some (V.ref y) ∧ RowV CS H y r
theorem SlipL.same {CS : Addr} {H H' : Hp} {xs : List V} {rs : List Row} (h : SlipL CS H xs rs) (s : Same H H') : SlipL CS H' xs rs := ⟨h.1, fun i r e => by
  obtain ⟨y, h1, h2⟩ := h.2 i r e
  exact ⟨y, h1, SlipV.same h2 s⟩⟩
theorem SlipL.nil {CS : Addr} {H : Hp} : SlipL CS H [] [] := ⟨rfl, fun i r e => by simp at e⟩
theorem SlipL.snoc {CS : Addr} {H : Hp} {xs : List V} {rs : List Row} {y : Addr} {r : Row} (h : SlipL CS H xs rs) (hy : RowV CS H y r) : SlipL CS H (xs ++ [.ref y]) (rs ++ [r]) := by
  refine ⟨by rw [List.length_append, List.length_append, h.1]; rfl, fun i q e => ?_⟩
  by_cases c : i < rs.length
  · rw [List.getElem?_append_left c] at e
    obtain ⟨z, h1, h2⟩ := h.2 i q e
    exact ⟨z, by rw [List.getElem?_append_left (by rw [h.1]; exact c)]; exact h1, h2⟩
  · rw [List.getElem?_append_right (by omega)] at e
    have e0 : i - rs.length = 0 := by
      cases z : i - rs.length with
      | zero => rfl
      | succ k => rw [z] at e; simp at e
    rw [e0] at e
    obtain rfl : r = q := Option.some.inj e
    exact ⟨y, by rw [List.getElem?_append_right (by rw [h.1]; omega), h.1, e0]; rfl, hy⟩
def spLRows (K : PySem.W.Frag) (CS : Addr) : Sp := fun vs H Q _ => ∃ (a : Addr) (xs : List V) (rs : List Row), vs = [.ref a] ∧ H a = some (.lst xs) ∧ SlipL CS H xs rs ∧ rs.length ≤ 900 ∧ ∀ p us H', Same H H' → H p = none → H' p = some (.lst us) → DpAll K H' us (rowsD rs) → Q (.ref p) H'
section
variable {P : Program} {w : World} {K : PySem.W.Frag} {mg : Str → Option Value} {base : Heap} {CS aK : Addr}
theorem scLRows : FnScope ["_law_slips", "_law_slip"] ["_law_slips"] (defScope sLRows) := ⟨rfl, rfl, rfl, by decide +kernel, rfl, by decide +kernel, by decide +kernel⟩
theorem ok_lrows {f : Addr} {fd : FuncData} (F : Fun K "_law_rows" "_law_rows" sLRows f fd) (T : Bare mg) (SC : SlipC K mg CS aK) : FnOk P w K mg base CX0 1 f fd ["_law_slips"] (spLRows K CS) := by
  refine F.ok scLRows (fun vs H Q E h => ?_) (fun cdv A0 outer s0 H vs Q E hr h => ?_)
  · obtain ⟨a, xs, rs, rfl, _⟩ := h
    rfl
  · obtain ⟨a, xs, rs, rfl, ha, hx, hl, q⟩ := h
    refine ⟨_, (pss_one (ps_ret (pe_lc (own := [("_law_slip", 1)]) (g := gName 1) (tt := tYes) (te := tTup (tCons (tFld K (tVar 1) "kind") (tCons (tFld K (tVar 1) "at") (tCons (tFld K (tVar 1) "token") tNil)))) (by rfl) scLRows.nd (pi_list (pv 0)) (blkOk_by (own := [("_law_slip", 1)]) (N := ["_law_slips", "_law_slip"]) (sc := defScope sLRows) (by decide +kernel)) (fun _ _ _ _ _ => pg_name (i := 1) scLRows.nd rfl (Or.inl rfl)) (fun _ _ _ _ _ => pts_nil) (fun _ _ _ _ _ => (pe_tup (pa_cons (pe_fld (pv 1) rfl) (pa_cons (pe_fld (pv 1) rfl) (pa_cons (pe_fld (pv 1) rfl) pa_nil)))))))), ?_⟩
    refine ⟨_, rfl, a, rfl, ⟨_, SqL.of ha⟩, fun D hD => ?_⟩
    refine lc_list (K := K) (a := a) (xs := xs) (fun i H' => Same H H' ∧ ∃ us, H' D = some (.lst us) ∧ DpAll K H' us (rowsD (rs.take i))) ⟨Same.new (Same.refl _) hD, [], upd_same, .nil⟩ (fun i H' _ h => SqL.of (h.1 _ _ ha)) (fun i x H1 hxi h => ?_) (fun H1 h => ?_)
    · obtain ⟨s1, us, hd, hu⟩ := h
      have li : i < rs.length := by rw [← hx.1]; exact (List.getElem?_eq_some_iff.mp hxi).1
      have er : rs[i]? = some rs[i] := List.getElem?_eq_getElem li
      obtain ⟨y, h1, dy, hy0⟩ := hx.2 i _ er
      rw [hxi] at h1
      obtain rfl := Option.some.inj h1
      have hy := s1 _ _ hy0
      have lu := DpAll.len hu
      rw [rowsD, List.length_map, List.length_take] at lu
      refine ⟨rfl, ⟨_, rfl, y, CS, dy, _, _, rfl, hy, SC.cl, SC.ki, fs_ki _ _ _, _, rfl, y, CS, dy, _, _, rfl, hy, SC.cl, SC.at_, fs_at _ _ _, _, rfl, y, CS, dy, _, _, rfl, hy, SC.cl, SC.to, fs_to _ _ _, by show 3 ≤ sizeLine; decide, fun g hg => ?_⟩⟩
      have s2 := Same.new (o := .tup [.str rs[i].1, .int (rs[i].2.1 : Nat), tokV rs[i].2.2]) (Same.refl _) hg
      have hd2 := s2 _ _ hd
      refine ⟨us, hd2, Nat.lt_of_le_of_lt (show us.length ≤ 900 by omega) (by decide), Same.put (s1.trans s2) hD, us ++ [.ref g], upd_same, ?_⟩
      rw [take_some er]
      unfold rowsD
      rw [List.map_append]
      exact DpAll.app (rows_keep (put_sqt hd2) (dpAll_same s2 _ hu)) (.cons (row_keep (put_sqt hd2) (row_of (SqT.of upd_same))) .nil)
    · obtain ⟨s1, us, hd, hu⟩ := h
      rw [hx.1, List.take_length] at hu
      exact q D us H1 s1 hD hd hu
end
end K5

/-! for over a generator, the body a few statements that leave all generators as they are. -/
namespace K10
open PySem PySem.Spec PyProof.Rows GenW L2

/-! ### expressions that leave the generators as they are -/
structure PEg (X : Cx) (e : Expr) (t : TE) : Prop where
  run : ∀ (pins : List (Addr × Obj)) (s : Shared) (σ : L2.St) (H : Hp) (Q : VK), Inv X pins σ H s → t σ H Q → wpAny (model X.prog X.w) X.A (eval e X.env) (fun u s' => s'.gens = s.gens ∧ EP X pins σ Q u s') X.xe s
structure PAg (X : Cx) (es : List Expr) (t : TA) : Prop where
  run : ∀ (pos : Pos) (pins : List (Addr × Obj)) (s : Shared) (σ : L2.St) (H : Hp) (Q : List V → Hp → Prop), Inv X pins σ H s → t σ H Q → wpAny (model X.prog X.w) X.A (spliced (backTo pos (starEach es X.env))) (fun us s' => s'.gens = s.gens ∧ AP X pins σ Q us s') X.xe s
structure PSsg (X : Cx) (st : List Stmt) (t : TS) : Prop where
  run : ∀ (pins : List (Addr × Obj)) (s : Shared) (σ : L2.St) (H : Hp) (D : Ends), Inv X pins σ H s → t D σ H → wpAny (model X.prog X.w) X.A (execs st X.env) (fun f s' => s'.gens = s.gens ∧ SP X pins D f s') X.xe s
section
variable {X : Cx} {pins : List (Addr × Obj)} {σ : L2.St} {H : Hp} {s : Shared} {e : Expr} {es : List Expr} {ta te : TE} {t : TA} {pos : Pos}
theorem peg_var {i : Nat} {x : Str} (hN : X.N[i]? = some x) (hv : X.env.scope.names.lookup x = some .local) (hd : (x == ("__debug__" : Str)) = false := by decide) : PEg X (.Name x pos) (tVar i) := by
  refine ⟨fun pins s σ H Q I h => ?_⟩
  obtain ⟨v, e, h⟩ := h
  obtain ⟨m, hn, hl⟩ := I.loc
  obtain ⟨u, r, l⟩ := hl i x v hN e (.inl hv)
  rcases l with ⟨hk, hm⟩ | ⟨hk, c, hc, hcell⟩
  · exact wpAny_Name (wpAny_loadName_local I.ok.kind hk hn hm ⟨rfl, v, H, I, r, h⟩) hd
  · have hk' : X.env.scope.names.lookup x = some .cell ∨ X.env.scope.names.lookup x = some .free := hk
    rw [hv] at hk'
    rcases hk' with z | z <;> cases z
theorem peg_fld {f : Str} (he : PEg X e ta) (hb : attributeBase e f X.env (eval e X.env) = eval e X.env) : PEg X (.Attribute e f pos) (tFld X.K ta f) := by
  refine ⟨fun pins s σ H Q I h => ?_⟩
  refine attr_of hb (thn (he.run pins s σ H _ I h) fun u s1 ⟨hg, x, H1, I1, rx, a, C, dx, fs, v, ex, ea, c, n, l, q⟩ => ?_)
  subst ex
  obtain rfl : u = Value.ref a := rx
  obtain ⟨mA, O, r, _, _, _⟩ := ins_get I1.hok ea
  obtain ⟨u', hu, ru⟩ := RelO.some_of (v := v) (o := mA f) (by rw [← l]; exact r f)
  exact get_map I1.kIn O (c.get f) c.hd n hu (handed_of ru) ⟨hg, v, H1, I1.tok _, ru, q⟩
theorem pag_nil : PAg X [] tNil := ⟨fun _ _ _ _ H Q I h => Calls.spliced_nil ⟨rfl, [], H, I, .nil, h⟩⟩
theorem pag_cons (ha : PEg X e te) (hr : PAg X es t) (hs : starEach (e :: es) X.env = (false, eval e X.env) :: starEach es X.env := by rfl) : PAg X (e :: es) (tCons te t) := by
  refine ⟨fun pos pins s σ H Q I h => ?_⟩
  rw [hs]
  show wpAny _ _ (spliced ((false, eval e X.env) :: backTo pos (starEach es X.env))) _ _ s
  refine Calls.spliced_cons (thn (ha.run pins s σ H _ I h) fun u s1 ⟨g1, x, H1, I1, r1, q1⟩ => ?_)
  exact thn (hr.run pos pins s1 σ H1 _ I1 q1) fun us s2 ⟨g2, xs, H2, I2, r2, q2⟩ => ⟨g2.trans g1, x :: xs, H2, I2, .cons r1 r2, q2⟩
theorem peg_tup {x1} (h : PAg X es t) : PEg X (.Tuple es x1 pos) (tTup t) := by
  refine ⟨fun pins s σ H Q I hq => ?_⟩
  refine wpAny_Tuple_spliced (thn (h.run pos pins s σ H _ I hq) fun us s1 ⟨g1, xs, H1, I1, r, z, q⟩ => ⟨by rw [← r.length]; exact z, ?_⟩)
  have hf : H1 s1.heap.objs.size = none := I1.hok.fresh (Nat.le_refl _)
  refine ⟨g1, .ref s1.heap.objs.size, upd H1 s1.heap.objs.size (.tup xs), I1.laid (t' := s1.toks) (fun b u e => Heap.get?_push_of_some _ e) (Nat.le_refl _) ?_, rfl, q _ hf⟩
  exact ⟨z, us, r, ⟨_, Heap.get?_push_size _ rfl, rfl, _, rfl⟩⟩
theorem mt_appendG {Q : VK} {x : V} {vs : List V} {v : Value} {us : List Value} (I : Inv X pins σ H s) (rx : RelV x v) (rv : Vals vs us) (h : rAppend x vs H Q) :
    wpAny (model X.prog X.w) X.A (call (.builtin "list.append") (v :: us)) (fun u s' => s'.gens = s.gens ∧ EP X pins σ Q u s') X.xe s := by
  obtain ⟨l, xs, y, rfl, rfl, hH, hz, q⟩ := h
  cases rx
  obtain ⟨u, rfl, ru⟩ := rv.one
  obtain ⟨z, its, n, r, hl, e⟩ := I.lstM hH
  refine call_meets PySem.F.slot_list_append ⟨_, e, rfl⟩ PySem.F.entry_list_append (PySem.F.args_list_append_2 _ _) (PySem.list_append l its.toArray n u (by rw [List.size_toArray]; omega)) ⟨e, ?_⟩
  refine ⟨rfl, .non, _, I.lset (its' := its ++ [u]) hH e (by simp) (r.append (.cons ru .nil)) ?_, rfl, q⟩
  rw [List.length_append, List.length_singleton]
  omega
theorem peg_append {o : Expr} {to : TE} {apos cpos : Pos} (ho : PEg X o to) (ha : PAg X (e :: es) t)
    (hbase : attributeBase o "append" X.env (eval o X.env) = eval o X.env := by rfl)
    (hfew : ((backTo cpos (starEach (e :: es) X.env)).all (fun x => !x.1) && (backToKw cpos (keywordEach [] X.env)).all (fun x => x.1.isSome)
      && decide ((e :: es).length + ([] : List Keyword).length + (if ([] : List Keyword).isEmpty then 0 else 1) < 30)) = true := by rfl)
    (hline : (apos.endLine == cpos.line) = true := by rfl) (hs : starEach (e :: es) X.env = (false, eval e X.env) :: starEach es X.env := by rfl) (hplain : (backTo cpos (starEach es X.env)).any (·.1) = false := by rfl) :
    PEg X (.Call (.Attribute o "append" apos) (e :: es) [] cpos) (tBM X.K "list" rAppend to t) := by
  refine ⟨fun pins s σ H Q I h => ?_⟩
  refine wpAny_Call_method_late hbase hfew hline rfl (thn (ho.run pins s σ H _ I h) fun v s1 ⟨g1, x, H1, I1, r1, ty, q1⟩ => ?_)
  obtain ⟨h1, h2⟩ := tyV_is I1 r1 ty
  refine ⟨"list", "list.append", PySem.F.plainAttrs_list, PySem.F.slot_list_append, PySem.F.type_list_append, h1, h2, ?_⟩
  have hA := ha.run cpos pins s1 σ H1 _ I1 q1
  rw [hs] at hA ⊢
  refine Calls.callWith_builtin (by show (false || (backTo cpos (starEach es X.env)).any (·.1)) = false; rw [hplain] <;> rfl) (Calls.evalArgs_plain ?_)
  exact thn hA fun us s2 ⟨g2, vs, H2, I2, r2, q2⟩ => thn (mt_appendG I2 r1 r2 q2) fun w s3 ⟨g3, q3⟩ => ⟨(g3.trans g2).trans g1, q3⟩
theorem pssg_expr (he : PEg X e te) (hs : swapsWith e none pos.line X.env = pure false := by rfl) : PSsg X [.Expr e pos] (tDrop te) := by
  refine ⟨fun pins s σ H D I h => ?_⟩
  refine wpAny_execs_cons (wpAny_Expr_any (thn (he.run pins s σ H _ I h) fun v s1 ⟨g1, x, H1, I1, r1, q1⟩ => ?_) I.quiet hs)
  exact wpAny_execs_nil ⟨g1, σ, H1, I1, q1⟩

theorem storeG {M : Model} {A : Around} {E : Value → Shared → Prop} {i : Nat} {x : Str} {v : V} {u : Value} {Q : Unit → Shared → Prop} (I : Inv X pins σ H s) (hN : X.N.Nodup) (hi : X.N[i]? = some x) (hk : X.env.scope.names.lookup x = some .local) (r : RelV v u)
    (h : ∀ s', Inv X pins (σ.set i (some v)) H s' → s'.gens = s.gens → Q () s') : wpAny M A (storeName X.env x u) Q E s := by
  obtain ⟨m, hn, hl⟩ := id I.loc
  have hcls : (X.env.scope.kind == .class || (X.env.scope.kind == .module && X.env.locals != X.env.globals)) = false := by rw [I.ok.kind]; rfl
  have hiσ : i < σ.length := by rw [I.len]; exact (List.getElem?_eq_some_iff.mp hi).1
  have cne := I.cne
  have tracked : ∀ {a : Addr} {h' : Heap}, (∃ o, s.heap.get? a = some o ∧ H a = none) → Heap.SameBut a s.heap h' → HOk X.prog X.w H h' := fun {a h'} ha hs b ob e => by
    obtain ⟨_, _, hfree⟩ := ha
    refine (I.hok b ob e).stay (fun c w' hc q => (hs.2 c ?_).trans q) (fun _ q => q) fun _ _ q => q
    rintro rfl
    rcases hc with rfl | hc
    · rw [hfree] at e; cases e
    · rw [hfree] at hc; cases hc
  refine wpAny_storeName_local hk hn (fun h' hn' hs => ?_) hcls
  obtain ⟨oL, _, _, hoL, _⟩ := id hn
  refine h _ ⟨I.ok, I.os, I.bare, ⟨fun b o e n hb hx => ?_, fun b o e n hb hx => ?_, I.base.free, fun b o e hx => ?_, I.base.tups, I.base.frzs, I.base.tbls⟩, ⟨_, hn', fun j y v' e1 e2 e3 => ?_⟩, fun y c e => ?_, I.free, I.freeC, fun p hp => ?_, tracked ⟨oL, hoL, I.free⟩ hs, by simpa using I.len⟩ rfl
  · exact (hs.2 b (Nat.ne_of_lt (Nat.lt_of_lt_of_le (Heap.lt_size e) I.ok.above))).trans (I.base.keep b o e n hb hx)
  · obtain ⟨sl, e1⟩ := I.base.slot b o e n hb hx
    exact ⟨sl, (hs.2 b (Nat.ne_of_lt (Nat.lt_of_lt_of_le (Heap.lt_size e) I.ok.above))).trans e1⟩
  · obtain ⟨o', e1⟩ := I.base.there b o e hx
    exact ⟨o', (hs.2 b (Nat.ne_of_lt (Nat.lt_of_lt_of_le (Heap.lt_size e) I.ok.above))).trans e1⟩
  · by_cases hj : j = i
    · subst hj
      rw [hi] at e1; cases e1
      rw [List.getElem?_set_self hiσ] at e2
      cases e2
      exact ⟨u, r, .inl ⟨hk, by simp⟩⟩
    · rw [List.getElem?_set_ne (Ne.symm hj)] at e2
      obtain ⟨u', r', q⟩ := hl j y v' e1 e2 e3
      refine ⟨u', r', ?_⟩
      rcases q with ⟨k, e⟩ | ⟨k, c, e, z⟩
      · refine .inl ⟨k, ?_⟩
        have : y ≠ x := fun e => hj (nodup_ix hN e1 (e ▸ hi))
        simp [this, e]
      · exact .inr ⟨k, c, e, z.sameBut hs (cne y c e)⟩
  · obtain ⟨w', z⟩ := I.cell y c e
    exact ⟨w', z.sameBut hs (cne y c e)⟩
  · obtain ⟨e, n, ne, nf, d⟩ := I.pin p hp
    exact ⟨(hs.2 p.1 ne).trans e, n, ne, nf, d⟩
theorem Inv.gens (I : L2.Inv X pins σ H s) {G : Array GenState} (hG : AllBare G) : L2.Inv X pins σ H { s with gens := G } :=
  L2.Inv.call' (ch := []) I rfl Un.refl I.hok hG fun b z => by simp at z
end

/-! ### for x in g -/
def tForG2 (tg : TGen2) (iv : Nat) (tb : TS) : TS := fun D σ H => tg σ H fun sp H1 => ∃ (N : Nat) (Z : Hp → Hp → Prop) (W : Nat → L2.St → Hp → Prop), W 0 σ H1 ∧ ∀ C, sp { N := N, C := C, it := (fun i Hw x H2 => ∀ σ, W i σ Hw → tb { nx := fun σ' H' => W (i + 1) σ' H' ∧ Z H2 H', rt := fun _ _ => False } (σ.set iv (some x)) H2), fin := (fun i Hw H2 => ∀ σ, W i σ Hw → D.nx σ H2), Z := Z, ads := [] }
section
variable {X : Cx} {k : Nat} {pos px : Pos}
theorem ps_forG2 {e : Expr} {tg : TGen2} {xv : Str} {iv : Nat} {body : List Stmt} {tb : TS} (hpo : PassesOwn (model X.prog X.w) X.A X.env X.xe) (he : PGen2 X k e tg) (hr : Room (k + 1) X.A) (hN : X.N.Nodup) (hi : X.N[iv]? = some xv) (hk : X.env.scope.names.lookup xv = some .local) (hb : PSsg X body tb)
    (hs : ∀ x, foldedSetIterable e X.env x = pure x := by intro _; rfl) : PS X (.For (.Name xv px) e body [] pos) (tForG2 tg iv tb) := by
  refine ⟨fun pins s σ H D I h => ?_⟩
  refine wpAny_For (thn (he.run pins s σ H _ I h) fun u s1 ⟨H1, sc, sp, I1, hG, N, Z, W, w0, hsp⟩ => ?_) hs
  obtain ⟨a, g, go, co, rfl, h1, h2, hgen, hgo, hgs, hos, hba, hlim, hkp, wake⟩ := hG
  refine wpAny_pyIter_gen (hgen _ hgo) ?_
  have hsz : sc.heap.objs.size ≤ s1.heap.objs.size := Nat.le_trans h1 (Nat.le_of_lt h2)
  let CH : Con := { N := N, C := (fun i H' cp s' => cp = [] ∧ ∃ σ', L2.Inv X pins σ' H' s' ∧ W i σ' H'), it := (fun i Hw x H2 => ∀ σ, W i σ Hw → tb { nx := fun σ' H' => W (i + 1) σ' H' ∧ Z H2 H', rt := fun _ _ => False } (σ.set iv (some x)) H2), fin := (fun i Hw H2 => ∀ σ, W i σ Hw → D.nx σ H2), Z := Z, ads := [] }
  let Y := GYc X.prog X.w X.K X.mg X.base X.A.in1 X.stack sc.heap.objs.size (a, go) CH
  let F : Nat → Shared → Shared → Prop := fun n s₀ s₁ => ∃ i H0 cp kp H', n + i = N ∧ CH.C i H0 cp s₀ ∧ OutOk X.prog X.w X.stack sc.heap.objs.size H0 H' s₀ s₁ cp kp ∧ (a, go) ∈ kp ∧ CH.fin i H0 H'
  let R : GenEnd := fun n s₀ r s₁ => ((r = .ok (.ret .none) ∨ r = .ok .next) ∧ F n s₀ s₁) ∨ ∃ e, r = .error e ∧ False
  have turned : ∀ {H0 H' : Hp} {s₀ s' : Shared} {σ' : L2.St} {cp kp : List (Addr × Obj)}, L2.Inv X pins σ' H0 s₀ → OutOk X.prog X.w X.stack sc.heap.objs.size H0 H' s₀ s' cp kp → L2.Inv X pins σ' H' s' := fun {H0 H' s₀ s' σ' cp kp} I' O => by
    have hlt : ∀ {b : Addr} {o : Obj}, s₀.heap.get? b = some o → b ∉ (List.range s₀.heap.objs.size).filter (fun b => decide (sc.heap.objs.size ≤ b)) → b < sc.heap.objs.size := fun {b o} e hn => by
      by_cases z : b < sc.heap.objs.size
      · exact z
      · exact absurd (List.mem_filter.mpr ⟨List.mem_range.mpr (Heap.lt_size e), decide_eq_true (Nat.le_of_not_lt z)⟩) hn
    refine L2.Inv.call' (ch := (List.range s₀.heap.objs.size).filter (fun b => decide (sc.heap.objs.size ≤ b))) I' O.os ⟨fun b o e n hb hx => ?_, fun b o e n hb hx => ?_, fun b o e n hx => ?_, fun b o e hx => ?_, O.un.tups, O.un.frzs, O.un.tbls⟩ O.hok O.bare fun b hb => ?_
    · exact O.un.keep b o ((cutH_get (hlt e hx)).trans e) n hb (by simp)
    · exact O.un.slot b o ((cutH_get (hlt e hx)).trans e) n hb (by simp)
    · exact O.un.free b o ((cutH_get (hlt e hx)).trans e) n (by simp)
    · exact O.un.there b o ((cutH_get (hlt e hx)).trans e) (by simp)
    · have hb' : sc.heap.objs.size ≤ b := of_decide_eq_true (List.mem_filter.mp hb).2
      refine ⟨.inr (Nat.le_trans I1.sz hb'), Nat.ne_of_gt (Nat.lt_of_lt_of_le I1.lt hb'), fun x c hc z => ?_, fun p hp z => ?_⟩
      · obtain ⟨v, q⟩ := I1.cell x c hc
        exact absurd (Nat.lt_of_lt_of_le q.lt (by rw [z]; exact hb')) (Nat.lt_irrefl _)
      · exact absurd (Nat.lt_of_lt_of_le (Heap.lt_size (I1.pin p hp).1) (by rw [z]; exact hb')) (Nat.lt_irrefl _)
  have I2 : L2.Inv X pins σ H1 s1 := I1.call' (ch := []) hos (Un.kept hkp) (I1.hok.kept hkp) hba fun b z => by simp at z
  have hr1 : Room k X.A.in1 := hr.in1
  have sg := wake X.A.in1 CH (s1.setGen g .running) [] hr1 I1.ok.frames (hsp _) (fun _ _ e => e) hos (allBare_setGen hba rfl) ⟨rfl, σ, Inv.gens I2 (allBare_setGen hba rfl), w0⟩ rfl fun p hp => by simp at hp
  have sg' : Seg (model X.prog X.w) X.A.in1 R Y N (s1.setGen g .running) co ((model X.prog X.w).den co) [] (s1.setGen g .running) := by
    refine seg_imp (fun n s₀ r s' hR => ?_) (fun n s₀ v s' kap kap' hkk hY => ?_) N sg
    · obtain ⟨rfl, q⟩ := hR
      exact .inl ⟨.inl rfl, q⟩
    · obtain ⟨i, H0, cp, kp, H', x, q1, q2, q3, q4, q5, q6, q7, q8⟩ := hY
      exact ⟨i, H0, cp, kp, H', x, q1, q2, q3, q4, q5, q6, q7, fun s'' H'' cp' z1 z2 z3 z4 z5 z6 z7 => hkk _ _ (q8 s'' H'' cp' z1 z2 z3 z4 z5 z6 z7)⟩
  refine codeAny_forLoop_any (fun n s' => s'.heap.IsGen a g ∧ s'.heap.NoLimit ∧ ∃ gs, s'.gens[g]? = some gs ∧ gs.Goes (model X.prog X.w) X.A.in1 R Y n (.send .none) (s'.setGen g .running)) ?_ N ⟨hgen _ hgo, hlim, _, hgs, rfl, sg'⟩
  rintro n s3 ⟨hg3, hl3, gs, hgs3, hgo3⟩
  have hgl : g < s3.gens.size := (Array.getElem?_eq_some_iff.mp hgs3).1
  refine wpAny_passesOwn hpo (wpAny_gsz (n := g + 1) hgl (next_genG (A := X.A) (Er := fun _ _ => False) hr.hd hl3 hr.depth hg3 hgs3 hgo3 (fun v s₁ gs' hbare hv => ?_) (fun s₁ hp h' hk' => ?_) fun e s₁ he' => he'.elim))
  · intro hsz2
    obtain ⟨i, H0, cp, kp, H', x, hn, ⟨rfl, σ', I', wi⟩, O, hgk, hka, rx, hit, hk2⟩ := hv
    have hsz1 : g < s₁.gens.size := by
      have q : (s₁.setGen g gs').gens.size = s₁.gens.size := setGen_size _ _ _
      have hsz' : g + 1 ≤ (s₁.setGen g gs').gens.size := hsz2
      omega
    have J1 : L2.Inv X pins σ' H' (s₁.setGen g gs') := Inv.gens (turned I' O) (allBare_setGen O.bare hbare)
    have J2 : L2.Inv X (pins ++ kp) σ' H' (s₁.setGen g gs') := J1.pins_of fun p hp => by
      rcases List.mem_append.mp hp with z | z
      · exact J1.pin p (List.mem_append_right _ z)
      · obtain ⟨w1, w2, w3, w4⟩ := O.kp p z
        refine ⟨w1, w2, Nat.ne_of_gt (Nat.lt_of_lt_of_le I1.lt w3), fun hf => ?_, w4⟩
        obtain ⟨_, o, ho, _⟩ := I1.ok.funs.mem hf
        exact absurd (Nat.lt_of_lt_of_le (Heap.lt_size ho) (Nat.le_trans I1.sz w3)) (Nat.lt_irrefl _)
    refine wpAny_passesOwn hpo ?_
    show wpAny _ _ (pure ()) _ _ _
    refine wpAny_pure ?_
    refine wpAny_passesOwn hpo (wpAny_assign_Name (storeG J2 hN hi hk rx fun s4 J4 g4 => ?_))
    refine wpAny_passesOwn hpo (thn (hb.run _ s4 _ H' _ J4 (hit σ' wi)) fun f s5 ⟨g5, q5⟩ => ?_)
    have gens5 : s5.gens = (s₁.setGen g gs').gens := g5.trans g4
    cases f with
    | next =>
      obtain ⟨σ5, H5, J5, w5, z5⟩ := q5
      have kp5 : ∀ p ∈ kp, s5.heap.get? p.1 = some p.2 ∧ H5 p.1 = none := fun p hp => by
        obtain ⟨w1, w2, _⟩ := J5.pin p (List.mem_append_right _ (List.mem_append_right _ hp))
        exact ⟨w1, w2⟩
      have J6 : L2.Inv X pins σ5 H5 s5 := J5.unpinned
      have b6 : AllBare (s5.setGen g .running).gens := allBare_setGen J6.bare rfl
      have J7 : L2.Inv X pins σ5 H5 (s5.setGen g .running) := Inv.gens J6 b6
      have e7 := J7.env0
      have goes := hk2 (s5.setGen g .running) H5 [] ⟨rfl, σ5, J7, w5⟩ rfl ⟨e7.frames, e7.mod, e7.bs, e7.bsz, e7.funs, e7.frf, e7.hok, e7.bare⟩ ?_ z5 (fun p hp => by simp at hp) kp5
      · cases n with
        | zero => exact goes.elim
        | succ m =>
          refine ⟨m, Nat.lt_succ_self m, hgen _ (kp5 _ hgk).1, J6.nolimit, gs', ?_, goes⟩
          rw [gens5]; exact setGen_at hsz1
      · exact Nat.le_trans h1 (Nat.le_of_lt (Heap.lt_size (kp5 _ hgk).1))
    | brk => obtain ⟨_, _, _, q⟩ := q5; exact q.elim
    | cont => obtain ⟨_, _, _, q⟩ := q5; exact q.elim
    | ret v => obtain ⟨_, _, _, _, _, q⟩ := q5; exact q.elim
  · intro _
    obtain ⟨i, H0, cp, kp, H', hn, ⟨rfl, σ', I', wi⟩, O, hgk, hf⟩ := hp
    have J1 : L2.Inv X pins σ' H' (s₁.setGen g .finished) := Inv.gens (turned I' O) (allBare_setGen O.bare rfl)
    exact wpAny_execs_nil ⟨σ', H', J1.kept (t' := (s₁.setGen g .finished).toks) hk', hf σ' wi⟩
end
end K10

namespace K5
open PySem L2 K5S
abbrev sLaw : Stmt := top 40
abbrev nLaw : List Str := ["_law_script", "_law_made", "_law_place", "_law_pool_here", "_law_parts", "_law_given", "_law_rule_here", "_law_file", "_law_some", "_law_k", "_law_more", "_law_turn", "_law_copies", "_law_told", "_law_slip", "_law_spot", "_law_one", "_law_row", "_law_kind"]
def spLaw (K : PySem.W.Frag) : Sp := fun vs H Q _ => ∃ (a : Addr) (ns : List Int), vs = [.ref a] ∧ SqL K H a (ns.map V.int) ∧ ns.length ≤ 63 ∧ ∀ H', Q (.bl true) H'
abbrev sl (a m : Addr) (z po pa gi ru fi so k mo tu co to sp st on ro ki : Option V) : St := [some (.ref a), some (.ref m), z, po, pa, gi, ru, fi, so, k, mo, tu, co, to, sp, st, on, ro, ki]
theorem PartsV.but {K : PySem.W.Frag} {H H' : Hp} {D A G : Addr} {L us : List V} {ps : List Str} {gs : List (Str × Str)} (h : PartsV K H A G us ps gs) (hD : H D = some (.lst L)) (k : But D H H') (nA : A ≠ D) (nG : G ≠ D) : PartsV K H' A G us ps gs := ⟨k _ _ nA h.a, h.w, k _ _ nG h.g, looks_but hD k h.d, h.m, h.l⟩
/-- one drawn case -/
structure CaseP (K : PySem.W.Frag) (CR : Addr) (Z : Hp) (A G x f s m : Addr) (us : List V) (ps : List Str) (gs ls : List (Str × Str)) (ks ts ss ms : List Str) : Prop where
  parts : PartsV K Z A G us ps gs
  rule : RuleV K CR Z x ks ls
  good : RuleG ks ls
  kin : ∀ z ∈ words6, (z ∈ ks ↔ z ∈ ps)
  looks : LooksOf gs ls
  file : Z f = some (.lst (ts.map V.str))
  some_ : Z s = some (.lst (ss.map V.str))
  more : Z m = some (.lst (ms.map V.str))
  tt : ∀ z ∈ ts, TokOk z
  st : ∀ z ∈ ss, TokOk z
  mt : ∀ z ∈ ms, TokOk z
  lt : ts.length ≤ 10
  ls_ : ss.length ≤ 3
  lm : ms.length ≤ 3
theorem CaseP.same {K : PySem.W.Frag} {CR : Addr} {Z Z' : Hp} {A G x f s m : Addr} {us : List V} {ps : List Str} {gs ls : List (Str × Str)} {ks ts ss ms : List Str} (h : CaseP K CR Z A G x f s m us ps gs ls ks ts ss ms) (w : Same Z Z') : CaseP K CR Z' A G x f s m us ps gs ls ks ts ss ms :=
  ⟨h.parts.same w, h.rule.same w, h.good, h.kin, h.looks, w _ _ h.file, w _ _ h.some_, w _ _ h.more, h.tt, h.st, h.mt, h.lt, h.ls_, h.lm⟩
def Case (K : PySem.W.Frag) (CR : Addr) (Z : Hp) (t : V) : Prop := ∃ (tt A G x f s m : Addr) (us : List V) (ps : List Str) (gs ls : List (Str × Str)) (ks ts ss ms : List Str), t = .ref tt ∧ SqT K Z tt [.ref A, .ref G, .ref x, .ref f, .ref s, .ref m] ∧ CaseP K CR Z A G x f s m us ps gs ls ks ts ss ms
theorem Case.same {K : PySem.W.Frag} {CR : Addr} {Z Z' : Hp} {t : V} (h : Case K CR Z t) (w : Same Z Z') : Case K CR Z' t := by
  obtain ⟨tt, A, G, x, f, s, m, us, ps, gs, ls, ks, ts, ss, ms, e, ht, c⟩ := h
  exact ⟨tt, A, G, x, f, s, m, us, ps, gs, ls, ks, ts, ss, ms, e, SqT.ext ht w, c.same w⟩
/-- what is known of the class of rules: its generator, allows -/
structure RuleS (P : Program) (w : World) (K : PySem.W.Frag) (mg : Str → Option Value) (base : Heap) (CR CS : Addr) : Prop where
  sl : ∃ (f : Addr) (fd : FuncData) (d1 d2 : V) (ds : List Value) (g : List Value → List Value → List Value), K10.GFn2 P w K mg base 8 f fd pRSl (spSlips K CR CS) ∧ Meth K CR "slips" f ∧ KBn K fd pRSl 2 ["words", "numbers"] g (fun vs zs => vs ++ zs) ∧ Vals [d1, d2] ds ∧ Binds K fd pRSl ds ∧ (∀ H, Dp K H d1 (.tuple [])) ∧ ∀ H, Dp K H d2 (.tuple [])
  al : ∃ f fd, FnOk P w K mg base CX0 6 f fd ["self", "file", "slip"] (spAllow K CR CS) ∧ Meth K CR "allows" f ∧ Binds K fd ["self", "file", "slip"] []
theorem empty_file {K : PySem.W.Frag} {d : V} (h : ∀ H, Dp K H d (.tuple [])) (H : Hp) : FileV K H d [] := by
  have z := h H
  cases z with
  | @tup a us _ h1 h2 =>
    cases h2
    exact ⟨a, rfl, .inr h1⟩
theorem texts_list {K : PySem.W.Frag} {H : Hp} {a : Addr} {ts : List Str} (h : H a = some (.lst (ts.map V.str))) : Dp K H (.ref a) (.list (kiD ts)) := .lst (SqL.of h) (of_txts ts)
theorem texts_lay : ∀ {ts : List Str}, (∀ z ∈ ts, TokOk z) → PyData.canLayAll0 (kiD ts) = true
  | [], _ => rfl
  | z :: ts, h => by
    show (PyData.strOk z && PyData.canLayAll0 (kiD ts)) = true
    rw [(h z List.mem_cons_self).ok, texts_lay fun y hy => h y (List.mem_cons_of_mem _ hy)]
    rfl
theorem texts_depth : ∀ ts : List Str, PyData.depthAll (kiD ts) ≤ 1
  | [] => by show PyData.depthAll [] ≤ 1; decide
  | z :: ts => by
    show max (PyData.depth (.str ⟨#[]⟩)) (PyData.depthAll (kiD ts)) ≤ 1
    exact Nat.max_le.mpr ⟨by decide, texts_depth ts⟩
theorem three_shaped {a b c : List Str} (ha : ∀ z ∈ a, TokOk z) (hb : ∀ z ∈ b, TokOk z) (hc : ∀ z ∈ c, TokOk z) : SeqAt.shaped (.list [.list (kiD a), .list (kiD b), .list (kiD c)]) = true := by
  unfold SeqAt.shaped
  have e : (PyData.list [.list (kiD a), .list (kiD b), .list (kiD c)]).canLay0 = true := by
    show (PyData.canLayAll0 (kiD a) && (PyData.canLayAll0 (kiD b) && (PyData.canLayAll0 (kiD c) && true))) = true
    rw [texts_lay ha, texts_lay hb, texts_lay hc]; rfl
  rw [e, Bool.true_and]
  refine decide_eq_true ?_
  have h1 := texts_depth a
  have h2 := texts_depth b
  have h3 := texts_depth c
  show max (PyData.depthAll (kiD a) + 1) (max (PyData.depthAll (kiD b) + 1) (max (PyData.depthAll (kiD c) + 1) 0)) + 1 ≤ 64
  omega
theorem rows_shapedL {rs : List Row} (h : ∀ r ∈ rs, GoodSlip r.1 r.2.2) : SeqAt.shaped (.list (rowsD rs)) = true := rows_shaped h
section
variable {P : Program} {w : World} {K : PySem.W.Frag} {mg : Str → Option Value} {base : Heap} {CR CS aK : Addr}
theorem scLaw : FnScope nLaw ["_law_script"] (defScope sLaw) := ⟨rfl, rfl, rfl, by decide +kernel, rfl, by decide +kernel, by decide +kernel⟩
theorem ok_law {f : Addr} {fd : FuncData} (F : Fun K "law" "law" sLaw f fd) (T : Bare mg) (RC : RuleC K mg CR) (SC : SlipC K mg CS aK) (MS : MkS P w K mg base CS) (RS : RuleS P w K mg base CR CS)
    (GPo : Fn P w K mg base 1 "_law_pool" ["_law_script", "_law_place"] (spPool K)) (GPi : Fn P w K mg base 1 "_law_pick" ["_law_pool_here", "_law_many"] spPick) (GO : Fn P w K mg base 2 "_law_of" ["_law_pool_here", "_law_some"] K5.spOf)
    (GRu : Fn P w K mg base 9 "_law_rule" ["_law_pool_here"] (spLRule K CR)) (GTo : Fn P w K mg base 4 "_law_tokens" ["_law_pool_here", "_law_many"] spTokens) (GM : Fn P w K mg base 2 "_law_may" pLMay (spLMay K)) (GD : Fn P w K mg base 3 "_law_due" pLDue (spLDue K)) (GRo : Fn P w K mg base 1 "_law_rows" ["_law_slips"] (spLRows K CS)) :
    FnG P w K mg base 13 f fd ["_law_script"] (spLaw K) := by
  refine F.okG scLaw (fun vs H Q E h => ?_) (fun cdv A0 outer s0 H vs Q hgu hr h => ?_)
  · obtain ⟨a, ns, rfl, _⟩ := h
    rfl
  · obtain ⟨a, ns, rfl, hS, hl, q⟩ := h
    have hr12 : Room 12 _ := hr
    have hr11 : Room 11 _ := hr.mono (by decide)
    have hr9 : Room 9 _ := hr.mono (by decide)
    have hr8 : Room 8 _ := hr.mono (by decide)
    have hr6 : Room 6 _ := hr.mono (by decide)
    have hr4 : Room 4 _ := hr.mono (by decide)
    have hr3 : Room 3 _ := hr.mono (by decide)
    have hr2 : Room 2 _ := hr.mono (by decide)
    have hr1 : Room 1 _ := hr.mono (by decide)
    obtain ⟨fI, fdI, dsI, MI, FI, bI, vI, bI2⟩ := MS.ex
    obtain ⟨fS, fdS, d1, d2, dsS, gS, FS, mS, kbS, vS, bS, hd1, hd2⟩ := RS.sl
    obtain ⟨fA, fdA, FA, mA, bA⟩ := RS.al
    refine ⟨_, (C8.pss_cut (ps_set (i := 1) scLaw.nd rfl (.inl rfl) (pe_lst pa_nil))
        (C8.pss_cut (ps_for PassesOwn.never rfl (pi_range1 (by rfl) T.range (pa_cons pe_int pa_nil)) (pg_name (i := 2) scLaw.nd rfl (.inl rfl))
        (C8.pss_cut (ps_set (i := 3) scLaw.nd rfl (.inr rfl) (pe_fn GPo hr1 rfl (pa_cons (pv 0) (pa_cons (pv 2) pa_nil))))
        (C8.pss_cut (ps_asg (pe_fn GRu hr9 rfl (pa_cons (pv 3) pa_nil)) (pg_tup (by rfl) (pgs_cons (pg_name (i := 4) scLaw.nd rfl (.inl rfl)) (pgs_cons (pg_name (i := 5) scLaw.nd rfl (.inl rfl)) (pgs_cons (pg_name (i := 6) scLaw.nd rfl (.inl rfl)) pgs_nil)))))
        (C8.pss_cut (ps_set (i := 7) scLaw.nd rfl (.inl rfl) (pe_fn GTo hr4 rfl (pa_cons (pv 3) (pa_cons pe_int pa_nil))))
        (C8.pss_cut (ps_setLc (i := 8) rfl scLaw.nd rfl rfl (by rfl) (own := [("_law_k", 9)]) (g := gName 9) (tt := tYes) (pi_range1 (by rfl) T.range (pa_cons (pe_fn GPi hr1 rfl (pa_cons (pv 3) (pa_cons pe_int pa_nil))) pa_nil)) (blkOk_by (own := [("_law_k", 9)]) (N := nLaw) (sc := defScope sLaw) (by decide +kernel)) (fun _ _ _ _ _ => pg_name (i := 9) scLaw.nd rfl (Or.inl rfl)) (fun _ _ _ _ _ => pts_nil) (fun _ _ _ _ _ => (pe_fn GO hr2 rfl (pa_cons (pv 3) (pa_cons (pe_lst (pa_cons pe_str (pa_cons pe_str (pa_cons pe_str (pa_cons pe_str (pa_cons pe_str pa_nil)))))) pa_nil)))))
        (C8.pss_cut (ps_setLc (i := 10) rfl scLaw.nd rfl rfl (by rfl) (own := [("_law_k", 9)]) (g := gName 9) (tt := tYes) (pi_range1 (by rfl) T.range (pa_cons (pe_fn GPi hr1 rfl (pa_cons (pv 3) (pa_cons pe_int pa_nil))) pa_nil)) (blkOk_by (own := [("_law_k", 9)]) (N := nLaw) (sc := defScope sLaw) (by decide +kernel)) (fun _ _ _ _ _ => pg_name (i := 9) scLaw.nd rfl (Or.inl rfl)) (fun _ _ _ _ _ => pts_nil) (fun _ _ _ _ _ => (pe_fn GO hr2 rfl (pa_cons (pv 3) (pa_cons (pe_lst (pa_cons pe_str (pa_cons pe_str (pa_cons pe_str (pa_cons pe_str pa_nil))))) pa_nil)))))
        (pss_one (ps_expr (pe_bm PySem.F.plainAttrs_list PySem.F.slot_list_append PySem.F.type_list_append mt_append (pv 1) (pa_cons (pe_tup (pa_cons (pv 4) (pa_cons (pv 5) (pa_cons (pv 6) (pa_cons (pv 7) (pa_cons (pv 8) (pa_cons (pv 10) pa_nil))))))) pa_nil))))))))))
        (C8.pss_cut (ps_for PassesOwn.never rfl (pi_range1 (by rfl) T.range (pa_cons pe_int pa_nil)) (pg_name (i := 11) scLaw.nd rfl (.inl rfl))
        (pss_one (ps_for PassesOwn.never rfl (pi_list (pv 1)) (pg_tup (by rfl) (pgs_cons (pg_name (i := 4) scLaw.nd rfl (.inl rfl)) (pgs_cons (pg_name (i := 5) scLaw.nd rfl (.inl rfl)) (pgs_cons (pg_name (i := 6) scLaw.nd rfl (.inl rfl)) (pgs_cons (pg_name (i := 7) scLaw.nd rfl (.inl rfl)) (pgs_cons (pg_name (i := 8) scLaw.nd rfl (.inl rfl)) (pgs_cons (pg_name (i := 10) scLaw.nd rfl (.inl rfl)) pgs_nil)))))))
        (C8.pss_cut (ps_set (i := 12) scLaw.nd rfl (.inl rfl) (pe_lst (pa_cons (pe_callTy call_list_of (by rfl) T.list (by decide +kernel) (pa_cons (pv 7) pa_nil)) (pa_cons (pe_callTy call_list_of (by rfl) T.list (by decide +kernel) (pa_cons (pv 8) pa_nil)) (pa_cons (pe_callTy call_list_of (by rfl) T.list (by decide +kernel) (pa_cons (pv 10) pa_nil)) pa_nil)))))
        (C8.pss_cut (ps_set (i := 13) scLaw.nd rfl (.inl rfl) (pe_lst pa_nil))
        (C8.pss_cut (K10.ps_forG2 (iv := 14) PassesOwn.never (K10.pgen2_methK (n := 1) (pv 6) RC.cl mS FS hr8 kbS (pa_cons (pv 7) pa_nil) (pk_cons (pv 8) (pk_cons (pe_callTy call_tuple_of (by rfl) T.tuple (by decide +kernel) (pa_cons (pv 10) pa_nil)) pk_nil))) hr9 scLaw.nd rfl rfl (K10.pssg_expr (K10.peg_append (K10.peg_var (i := 13) rfl rfl) (K10.pag_cons (K10.peg_tup (K10.pag_cons (K10.peg_fld (K10.peg_var (i := 14) rfl rfl) rfl) (K10.pag_cons (K10.peg_fld (K10.peg_var (i := 14) rfl rfl) rfl) (K10.pag_cons (K10.peg_fld (K10.peg_var (i := 14) rfl rfl) rfl) K10.pag_nil)))) K10.pag_nil))))
        (C8.pss_cut (ps_if (PW.pt (pw_or (pt_cmpR (op_neD hr.units) (pv 13) (pe_fn GD hr3 rfl (pa_cons (pv 4) (pa_cons (pv 5) (pa_cons (pe_ix ix_list (pv 12) pe_int (fun _ _ => rfl)) (pa_cons (pe_op op_cat (pe_ix ix_list (pv 12) pe_int (fun _ _ => rfl)) (pe_ix ix_list (pv 12) pe_int (fun _ _ => rfl))) pa_nil))))) (nomark _)) (pw_or1 (pt_cmpR (op_neD hr.units) (pe_lst (pa_cons (pv 7) (pa_cons (pv 8) (pa_cons (pv 10) pa_nil)))) (pv 12) (nomark _))))) (pss_one (ps_ret pe_bl)) pss_nil)
        (C8.pss_cut (ps_if (pt_cmpR (op_neD hr.units) (pe_fn GRo hr1 rfl (pa_cons (K10.pe_listG2 (K10.pgen2_meth (pv 6) RC.cl mS FS hr8 bS vS (pa_cons (pe_callTy call_tuple_of (by rfl) T.tuple (by decide +kernel) (pa_cons (pv 7) pa_nil)) pa_nil)) hr11 (by rfl) T.list (by decide +kernel)) pa_nil)) (pe_fn GD hr3 rfl (pa_cons (pv 4) (pa_cons (pv 5) (pa_cons (pe_ix ix_list (pv 12) pe_int (fun _ _ => rfl)) (pa_cons (pe_lst pa_nil) pa_nil))))) (nomark _)) (pss_one (ps_ret pe_bl)) pss_nil)
        (pss_one (ps_for PassesOwn.never rfl (pi_range1 (by rfl) T.range (pa_cons (pe_op op_add (pe_callB call_len_seq (by rfl) T.len PySem.boot_len (pa_cons (pv 7) pa_nil)) pe_int) pa_nil)) (pg_name (i := 15) scLaw.nd rfl (.inl rfl))
        (C8.pss_cut (ps_for PassesOwn.never rfl (pi_list (pe_lst (pa_cons pe_str (pa_cons pe_str (pa_cons pe_str (pa_cons pe_str (pa_cons pe_str (pa_cons pe_str (pa_cons pe_str (pa_cons pe_str (pa_cons pe_str pa_nil))))))))))) (pg_name (i := 16) scLaw.nd rfl (.inl rfl))
        (C8.pss_cut (ps_set (i := 17) scLaw.nd rfl (.inl rfl) (pe_tup (pa_cons pe_str (pa_cons (pv 15) (pa_cons (pv 16) pa_nil)))))
        (pss_one (ps_if (pt_cmpR op_ne (pe_callB (call_reprD hgu hr.units) (by rfl) T.repr (by decide +kernel) (pa_cons (pe_meth (E := fun _ _ _ => False) (pv 6) RC.cl mA FA hr6 bA .nil pass0 (pa_cons (pv 7) (pa_cons (pe_make MI FI hr6 (by rfl) SC.gC bI .nil pass0 (pa_cons pe_str (pa_cons (pv 15) (pa_cons (pv 16) pa_nil)))) pa_nil))) pa_nil)) (pe_callB (call_reprD hgu hr.units) (by rfl) T.repr (by decide +kernel) (pa_cons (pe_fn GM hr2 rfl (pa_cons (pv 4) (pa_cons (pv 5) (pa_cons (pv 7) (pa_cons (pv 17) pa_nil))))) pa_nil)) (nomark _)) (pss_one (ps_ret pe_bl)) pss_nil))))
        (pss_one (ps_for PassesOwn.never rfl (pi_list (pe_lst (pa_cons pe_str (pa_cons pe_str (pa_cons pe_str pa_nil))))) (pg_name (i := 18) scLaw.nd rfl (.inl rfl))
        (pss_one (ps_if (pt_cmpR op_ne (pe_callB (call_reprD hgu hr.units) (by rfl) T.repr (by decide +kernel) (pa_cons (pe_meth (E := fun _ _ _ => False) (pv 6) RC.cl mA FA hr6 bA .nil pass0 (pa_cons (pv 7) (pa_cons (pe_make MI FI hr6 (by rfl) SC.gC bI2 vI pass0 (pa_cons (pv 18) (pa_cons (pv 15) pa_nil))) pa_nil))) pa_nil)) (pe_callB (call_reprD hgu hr.units) (by rfl) T.repr (by decide +kernel) (pa_cons (pe_fn GM hr2 rfl (pa_cons (pv 4) (pa_cons (pv 5) (pa_cons (pv 7) (pa_cons (pe_tup (pa_cons (pv 18) (pa_cons (pv 15) (pa_cons pe_non pa_nil)))) pa_nil))))) pa_nil)) (nomark _)) (pss_one (ps_ret pe_bl)) pss_nil)))))))))))))))
        (pss_one (ps_ret pe_bl))))), ?_⟩
    have words_tok : ∀ {z : Str} {W : List Str}, (W.all tokB2) = true → z ∈ W → TokOk z := fun h hz => tok_of (List.all_eq_true.mp h _ hz)
    -- nothing is made yet
    refine ⟨fun σ H' => ∃ m, σ = sl a m none none none none none none none none none none none none none none none none none ∧ Same H H' ∧ H m = none ∧ H' m = some (.lst []), ⟨by show 0 ≤ sizeLine; decide, fun m hm => ⟨m, rfl, Same.new (Same.refl H) hm, hm, upd_same⟩⟩, ?_⟩
    rintro σ H0 ⟨m, rfl, s0, hm0', hm⟩
    -- two cases are drawn
    refine ⟨fun σ H' => (∃ z po pa gi ru fi so mo, σ = sl a m z po pa gi ru fi so none mo none none none none none none none none) ∧ ∃ (Z : Hp) (ts : List V), H' m = some (.lst ts) ∧ ts.length ≤ 2 ∧ Same Z H' ∧ Z m = none ∧ ∀ t ∈ ts, Case K CR Z t, ?_, ?_⟩
    · refine ⟨2, rfl, by decide, by decide, for_range (lo := 0) (n := 2) (fun i σ H' => (∃ z po pa gi ru fi so mo, σ = sl a m z po pa gi ru fi so none mo none none none none none none none none) ∧ Same H H' ∧ ∃ (Z : Hp) (ts : List V), H' m = some (.lst ts) ∧ ts.length ≤ i ∧ Same Z H' ∧ Z m = none ∧ ∀ t ∈ ts, Case K CR Z t) ⟨⟨_, _, _, _, _, _, _, _, rfl⟩, s0, fun _ => none, [], hm, Nat.le_refl _, (fun _ _ e => nomatch e), rfl, fun _ h => nomatch h⟩ (fun i σ H1 hi h => ?_) (fun σ H1 h => ⟨h.1, h.2.2⟩)⟩
      obtain ⟨⟨z, po, pa, gi, ru, fi, so, mo, rfl⟩, s1, Z, ts, hm1, lts, sZ, zm, en⟩ := h
      -- the pool
      refine ⟨fun σ H' => ∃ (z : Option V) (p : Addr), σ = sl a m z (some (.ref p)) pa gi ru fi so none mo none none none none none none none none ∧ Same H1 H' ∧ H1 p = none ∧ Pool H' p 0, ⟨_, rfl, _, rfl, a, ns, _, rfl, s1.seq hS, hl, by omega, by omega, fun p H2 hp s2 hP => ⟨_, p, rfl, s2, hp, hP⟩⟩, ?_⟩
      rintro σ H2 ⟨z', p, rfl, s2, hp1, hP2⟩
      have hm2 := s2 _ _ hm1
      have nmp : m ≠ p := ne_of_none hm1 hp1
      -- the rule
      refine ⟨fun σ H' => ∃ (A G x : Addr) (ps : List Str) (us : List V) (gs ls : List (Str × Str)) (ks : List Str), σ = sl a m z' (some (.ref p)) (some (.ref A)) (some (.ref G)) (some (.ref x)) fi so none mo none none none none none none none none ∧ PartsV K H' A G us ps gs ∧ RuleV K CR H' x ks ls ∧ RuleG ks ls ∧ (∀ z ∈ words6, (z ∈ ks ↔ z ∈ ps)) ∧ LooksOf gs ls ∧ H2 A = none ∧ H2 G = none ∧ Keep p H2 H' ∧ Pool H' p 20, ?_, ?_⟩
      · refine ⟨_, rfl, p, 0, rfl, hP2, by omega, fun t A G x ps us gs ls ks H3 ht hA0 hG0 nAG hA wps lps hG hgs mgs lgs hR Gd kin lo k3 p3 => ?_⟩
        exact ⟨t, _, rfl, SqT.of ht, rfl, _, _, rfl, _, _, rfl, _, _, rfl, rfl, A, G, x, ps, us, gs, ls, ks, rfl, ⟨hA, wps, hG, hgs, mgs, lgs⟩, hR, Gd, kin, lo, hA0, hG0, k3, p3.mono (by omega)⟩
      rintro σ H3 ⟨A, G, x, ps, us, gs, ls, ks, rfl, PV3, R3, Gd, kin, lo, hA0, hG0, k3, p3⟩
      have hm3 := k3 _ _ nmp hm2
      have nAp : A ≠ p := pool_ne hP2 hA0
      have nGp : G ≠ p := pool_ne hP2 hG0
      -- the file
      refine ⟨fun σ H' => ∃ (f : Addr) (fs : List (List Nat)), σ = sl a m z' (some (.ref p)) (some (.ref A)) (some (.ref G)) (some (.ref x)) (some (.ref f)) so none mo none none none none none none none none ∧ H3 f = none ∧ H' f = some (.lst (lstS fs)) ∧ fs.length ≤ 10 ∧ TokL fs ∧ Keep p H3 H' ∧ Pool H' p 80, ?_, ?_⟩
      · exact ⟨_, rfl, p, 20, rfl, p3, by omega, fun f fs H4 hf0 nfp hf lf tf k4 p4 => ⟨f, fs, rfl, hf0, hf, lf, tf, k4, p4⟩⟩
      rintro σ H4 ⟨f, fs, rfl, hf0, hf, lf, tf, k4, p4⟩
      have hm4 := k4 _ _ nmp hm3
      have nfp : f ≠ p := pool_ne p3 hf0
      refine ⟨fun σ H' => ∃ (s : Addr) (ss : List Str), σ = sl a m z' (some (.ref p)) (some (.ref A)) (some (.ref G)) (some (.ref x)) (some (.ref f)) (some (.ref s)) none mo none none none none none none none none ∧ H4 s = none ∧ H' s = some (.lst (ss.map V.str)) ∧ (∀ z ∈ ss, z ∈ (["a", "b", "yes", "c", "cat"] : List Str)) ∧ ss.length ≤ 3 ∧ Keep p H4 H' ∧ Pool H' p (80 + 10), ?_, ?_⟩
      · refine ⟨_, rfl, p, 80, 4, rfl, p4, by omega, by decide, by decide, fun r Hx r0 r1 kx px => ⟨r, rfl, by omega, by omega, fun D hD => lc_range (lo := 0) (n := r.toNat) (fun i H' => Keep p Hx H' ∧ Pool H' p (80 + 1 + i) ∧ ∃ ss : List Str, H' D = some (.lst (ss.map V.str)) ∧ (∀ z ∈ ss, z ∈ (["a", "b", "yes", "c", "cat"] : List Str)) ∧ ss.length = i) ⟨(Keep.refl p Hx).new hD, (px.new hD).mono (by omega), [], upd_same, (fun _ h => nomatch h), rfl⟩ (fun i Hy hi h => ?_) (fun Hy h => ?_)⟩⟩
        · obtain ⟨ky, py, ss, hk, hw, lk⟩ := h
          have nDp := pool_ne px hD
          refine ⟨rfl, ⟨_, rfl, by show (["a", "b", "yes", "c", "cat"] : List Str).length ≤ sizeLine; decide, fun l hl => ⟨p, _, l, (["a", "b", "yes", "c", "cat"] : List Str).map V.str, rfl, py.new hl, by omega, upd_same, pool_ne py hl, by decide, by decide, fun v Hz hv kz pz => ?_⟩⟩⟩
          obtain ⟨z, hz, rfl⟩ := List.mem_map.mp hv
          have hkz := kz _ _ nDp (by rw [upd_ne (ne_of_none hk hl)]; exact hk)
          refine ⟨_, hkz, by rw [List.length_map]; exact Nat.lt_of_le_of_lt (show ss.length ≤ 900 by omega) (by decide), fun b o nb e => ?_, (pz.other (Ne.symm nDp)).mono (by omega), ss ++ [z], by rw [upd_same, List.map_append]; rfl, fun y hy => ?_, by rw [List.length_append, lk]; rfl⟩
          · rw [upd_ne (ne_of_none e hD)]
            exact ((ky.new hl).trans kz) b o nb e
          · rcases List.mem_append.mp hy with hy | hy
            · exact hw y hy
            · rw [List.mem_singleton.mp hy]; exact hz
        · obtain ⟨ky, py, ss, hk, hw, lk⟩ := h
          exact ⟨D, ss, rfl, Keep.free kx (pool_ne px hD) hD, hk, hw, by omega, kx.trans ky, py.mono (by omega)⟩
      rintro σ H5 ⟨s, ss, rfl, s0_, hs, ws, lss_, k5, p5⟩
      have hm5 := k5 _ _ nmp hm4
      have nsp : s ≠ p := pool_ne p4 s0_
      refine ⟨fun σ H' => ∃ (mm : Addr) (mms : List Str), σ = sl a m z' (some (.ref p)) (some (.ref A)) (some (.ref G)) (some (.ref x)) (some (.ref f)) (some (.ref s)) none (some (.ref mm)) none none none none none none none none ∧ H5 mm = none ∧ H' mm = some (.lst (mms.map V.str)) ∧ (∀ z ∈ mms, z ∈ (["0", "12", "5", "999999999"] : List Str)) ∧ mms.length ≤ 3 ∧ Keep p H5 H' ∧ Pool H' p (90 + 10), ?_, ?_⟩
      · refine ⟨_, rfl, p, 90, 4, rfl, p5, by omega, by decide, by decide, fun r Hx r0 r1 kx px => ⟨r, rfl, by omega, by omega, fun D hD => lc_range (lo := 0) (n := r.toNat) (fun i H' => Keep p Hx H' ∧ Pool H' p (90 + 1 + i) ∧ ∃ ss : List Str, H' D = some (.lst (ss.map V.str)) ∧ (∀ z ∈ ss, z ∈ (["0", "12", "5", "999999999"] : List Str)) ∧ ss.length = i) ⟨(Keep.refl p Hx).new hD, (px.new hD).mono (by omega), [], upd_same, (fun _ h => nomatch h), rfl⟩ (fun i Hy hi h => ?_) (fun Hy h => ?_)⟩⟩
        · obtain ⟨ky, py, ss, hk, hw, lk⟩ := h
          have nDp := pool_ne px hD
          refine ⟨rfl, ⟨_, rfl, by show (["0", "12", "5", "999999999"] : List Str).length ≤ sizeLine; decide, fun l hl => ⟨p, _, l, (["0", "12", "5", "999999999"] : List Str).map V.str, rfl, py.new hl, by omega, upd_same, pool_ne py hl, by decide, by decide, fun v Hz hv kz pz => ?_⟩⟩⟩
          obtain ⟨z, hz, rfl⟩ := List.mem_map.mp hv
          have hkz := kz _ _ nDp (by rw [upd_ne (ne_of_none hk hl)]; exact hk)
          refine ⟨_, hkz, by rw [List.length_map]; exact Nat.lt_of_le_of_lt (show ss.length ≤ 900 by omega) (by decide), fun b o nb e => ?_, (pz.other (Ne.symm nDp)).mono (by omega), ss ++ [z], by rw [upd_same, List.map_append]; rfl, fun y hy => ?_, by rw [List.length_append, lk]; rfl⟩
          · rw [upd_ne (ne_of_none e hD)]
            exact ((ky.new hl).trans kz) b o nb e
          · rcases List.mem_append.mp hy with hy | hy
            · exact hw y hy
            · rw [List.mem_singleton.mp hy]; exact hz
        · obtain ⟨ky, py, ss, hk, hw, lk⟩ := h
          exact ⟨D, ss, rfl, Keep.free kx (pool_ne px hD) hD, hk, hw, by omega, kx.trans ky, py.mono (by omega)⟩
      rintro σ H6 ⟨mm, mms, rfl, mm0_, hmm, wmm, lmm, k6, p6⟩
      have hm6 := k6 _ _ nmp hm5
      have nmmp : mm ≠ p := pool_ne p5 mm0_
      have k36 : Keep p H3 H6 := (k4.trans k5).trans k6
      have s16 : Same H1 H6 := ((k3.trans k36)).same s2 hp1
      obtain ⟨Lp, hLp⟩ := pool_lst p3
      have PV6 : PartsV K H6 A G us ps gs := PV3.but hLp k36 nAp nGp
      have R6 : RuleV K CR H6 x ks ls := rule_but hLp k36 R3
      have hf6 := k6 _ _ nfp (k5 _ _ nfp hf)
      have hs6 := k6 _ _ nsp hs
      refine ⟨_, rfl, .inl ⟨rfl, _, SqL.of hm6⟩, _, rfl, _, rfl, _, rfl, _, rfl, _, rfl, _, rfl, by show 6 ≤ sizeLine; decide, fun g hg => ?_⟩
      have sg := Same.new (o := .tup [.ref A, .ref G, .ref x, .ref f, .ref s, .ref mm]) (Same.refl H6) hg
      have hm7 := sg _ _ hm6
      refine ⟨m, ts, .ref g, rfl, rfl, hm7, Nat.lt_of_le_of_lt (show ts.length ≤ 900 by omega) (by decide), ⟨_, _, _, _, _, _, _, _, rfl⟩, Same.put ((s1.trans s16).trans sg) hm0', hid m (upd H6 g (.tup [.ref A, .ref G, .ref x, .ref f, .ref s, .ref mm])), ts ++ [.ref g], upd_same, by rw [List.length_append]; exact Nat.succ_le_succ lts, fun b o e => ?_, hid_self, fun t ht => ?_⟩
      · have nb : b ≠ m := fun e' => by rw [e', hid_self] at e; cases e
        rw [upd_ne nb]
        rw [hid_at nb] at e
        exact e
      rcases List.mem_append.mp ht with ht | ht
      · exact (en t ht).same (same_hid ((sZ.trans s16).trans sg) zm)
      · rw [List.mem_singleton.mp ht]
        have nA : A ≠ m := (ne_of_none hm2 hA0).symm
        have nG : G ≠ m := (ne_of_none hm2 hG0).symm
        have nf : f ≠ m := (ne_of_none hm3 hf0).symm
        have ns' : s ≠ m := (ne_of_none hm4 s0_).symm
        have nmm : mm ≠ m := (ne_of_none hm5 mm0_).symm
        have kb := hid_but m (upd H6 g (.tup [.ref A, .ref G, .ref x, .ref f, .ref s, .ref mm]))
        refine ⟨g, A, G, x, f, s, mm, us, ps, gs, ls, ks, fs.map S, ss, mms, rfl, keep_sqt hm7 kb (SqT.of upd_same), (PV6.same sg).but hm7 kb nA nG, rule_but hm7 kb (R6.same sg), Gd, kin, lo, kb _ _ nf (sg _ _ ?_), kb _ _ ns' (sg _ _ hs6), kb _ _ nmm (sg _ _ hmm), fun z hz => ?_, fun z hz => words_tok (by decide +kernel) (ws z hz), fun z hz => words_tok (by decide +kernel) (wmm z hz), by rw [List.length_map]; exact lf, lss_, lmm⟩
        · rw [← lstS_eq]; exact hf6
        · obtain ⟨r, hr, rfl⟩ := List.mem_map.mp hz
          exact tf r hr
    rintro σ H1 ⟨⟨z, po, pa, gi, ru, fi, so, mo, rfl⟩, Z, ts, hm1, lts, sZ, zm, en⟩
    have en1 : ∀ t ∈ ts, Case K CR H1 t := fun t ht => (en t ht).same sZ
    -- each case is asked twice
    refine ⟨fun _ _ => True, ?_, fun σ H' _ => q H'⟩
    refine ⟨2, rfl, by decide, by decide, for_range (lo := 0) (n := 2) (fun i σ H' => (∃ z po pa gi ru fi so k mo tu co to sp st on ro ki, σ = sl a m z po pa gi ru fi so k mo tu co to sp st on ro ki) ∧ Same H1 H') ⟨⟨_, _, _, _, _, _, _, _, _, _, _, _, _, _, _, _, _, rfl⟩, Same.refl _⟩ (fun i σ H2 hi h => ?_) (fun _ _ _ => trivial)⟩
    obtain ⟨⟨z, po, pa, gi, ru, fi, so, k, mo, tu, co, to, sp, st, on, ro, ki, rfl⟩, s2⟩ := h
    refine ⟨_, rfl, m, rfl, ⟨_, SqL.of (s2 _ _ hm1)⟩, for_list (K := K) (a := m) (xs := ts) (fun i σ H' => (∃ z po pa gi ru fi so k mo tu co to sp st on ro ki, σ = sl a m z po pa gi ru fi so k mo tu co to sp st on ro ki) ∧ Same H1 H') ⟨⟨_, _, _, _, _, _, _, _, _, _, _, _, _, _, _, _, _, rfl⟩, s2⟩ (fun i σ H' _ h => SqL.of (h.2 _ _ hm1)) (fun i t σ H3 ht h => ?_) (fun σ H' h => h)⟩
    obtain ⟨⟨z, po, pa, gi, ru, fi, so, k, mo, tu, co, to, sp, st, on, ro, ki, rfl⟩, s3⟩ := h
    obtain ⟨tt, A, G, x, f, s, mm, us, ps, gs, ls, ks, ts', ss, ms, rfl, htt, C3⟩ := (en1 t (List.mem_of_getElem? ht)).same s3
    refine ⟨tt, _, rfl, htt, rfl, _, _, rfl, _, _, rfl, _, _, rfl, _, _, rfl, _, _, rfl, _, _, rfl, rfl, ?_⟩
    -- copies
    refine ⟨fun σ H' => ∃ (c1 c2 c3 C : Addr), σ = sl a m z po (some (.ref A)) (some (.ref G)) (some (.ref x)) (some (.ref f)) (some (.ref s)) k (some (.ref mm)) tu (some (.ref C)) to sp st on ro ki ∧ Same H3 H' ∧ H' C = some (.lst [.ref c1, .ref c2, .ref c3]) ∧ H' c1 = some (.lst (ts'.map V.str)) ∧ H' c2 = some (.lst (ss.map V.str)) ∧ H' c3 = some (.lst (ms.map V.str)), ?_, ?_⟩
    · refine ⟨_, rfl, f, _, rfl, .inl (SqL.of C3.file), fun c1 hc1 => ?_⟩
      have sa := Same.new (o := .lst (ts'.map V.str)) (Same.refl H3) hc1
      refine ⟨_, rfl, s, _, rfl, .inl (SqL.of (sa _ _ C3.some_)), fun c2 hc2 => ?_⟩
      have sb := Same.new (o := .lst (ss.map V.str)) (Same.refl _) hc2
      refine ⟨_, rfl, mm, _, rfl, .inl (SqL.of (sb _ _ (sa _ _ C3.more))), fun c3 hc3 => ⟨by show 3 ≤ sizeLine; decide, fun C hC => ?_⟩⟩
      have sc := Same.new (o := .lst (ms.map V.str)) (Same.refl _) hc3
      have sd := Same.new (o := .lst [.ref c1, .ref c2, .ref c3]) (Same.refl _) hC
      exact ⟨c1, c2, c3, C, rfl, sa.trans (sb.trans (sc.trans sd)), upd_same, (sb.trans (sc.trans sd)) _ _ upd_same, (sc.trans sd) _ _ upd_same, sd _ _ upd_same⟩
    rintro σ H4 ⟨c1, c2, c3, C, rfl, s4, hC4, hc1, hc2, hc3⟩
    have C4 := C3.same s4
    refine ⟨fun σ H' => ∃ L : Addr, σ = sl a m z po (some (.ref A)) (some (.ref G)) (some (.ref x)) (some (.ref f)) (some (.ref s)) k (some (.ref mm)) tu (some (.ref C)) (some (.ref L)) sp st on ro ki ∧ Same H4 H' ∧ H4 L = none ∧ H' L = some (.lst []), ⟨Nat.zero_le _, fun L hL => ⟨L, rfl, Same.new (Same.refl _) hL, hL, upd_same⟩⟩, ?_⟩
    rintro σ H5 ⟨L, rfl, s5, hL4, hL5⟩
    have C5 := C4.same s5
    have eR : rowsTo ks ls ts' (menuW ss ms ls) ts'.length = rowsTo ps gs ts' (menuW ss ms ls) ts'.length := rows_same C3.kin C3.looks.mem _ _ _
    have tokM : ∀ {ws ns : List Str}, (∀ z ∈ ws, TokOk z) → (∀ z ∈ ns, TokOk z) → ∀ z ∈ menuW ws ns ls, TokOk z := fun {ws ns} h1 h2 z hz => by
      have hz := (dd_mem _ z).mp hz
      rcases List.mem_append.mp hz with h | h
      · exact tok_signs z h
      · rcases List.mem_append.mp h with h | h
        · exact h1 z h
        · rcases List.mem_append.mp h with h | h
          · exact h2 z h
          · obtain ⟨p, hp, rfl⟩ := List.mem_map.mp h
            exact (tok_look p (C3.good.m p hp)).2
    have lls : ls.length ≤ 3 := by
      have h1 := nodup_le C3.looks.nd (fun q hq => (C3.looks.mem q).mp hq)
      have h2 := C3.parts.l
      omega
    have lenM : ∀ {ws ns : List Str}, ws.length ≤ 3 → ns.length ≤ 3 → ∀ n, n ≤ 10 → (rowsTo ps gs ts' (menuW ws ns ls) n).length ≤ 300 := fun {ws ns} h1 h2 n hn => by
      have e1 := rowsTo_len ps gs ts' (menuW ws ns ls) n
      have e2 := dd_len (K5S.signs ++ (ws ++ (ns ++ ls.map (·.2))))
      have e3 : K5S.signs.length = 5 := rfl
      rw [List.length_append, List.length_append, List.length_append, List.length_map] at e2
      have e4 : (menuW ws ns ls).length ≤ 14 := by
        unfold menuW
        omega
      have e5 : n * (3 + (menuW ws ns ls).length) ≤ 10 * 17 := Nat.mul_le_mul hn (by omega)
      omega
    -- the slips, one after another
    refine ⟨fun σ H' => ∃ (tus : List V) (sp : Option V), σ = sl a m z po (some (.ref A)) (some (.ref G)) (some (.ref x)) (some (.ref f)) (some (.ref s)) k (some (.ref mm)) tu (some (.ref C)) (some (.ref L)) sp st on ro ki ∧ Same H4 H' ∧ H' L = some (.lst tus) ∧ DpAll K H' tus (rowsD (rowsTo ps gs ts' (menuW ss ms ls) ts'.length)), ?_, ?_⟩
    · obtain ⟨dx, kk, l, pp, hx, _⟩ := id C5.rule
      refine ⟨_, rfl, x, dx, _, rfl, hx, rfl, _, rfl, _, rfl, _, rfl, mm, _, rfl, .inl ⟨SqL.of C5.more, fun M hM => ?_⟩⟩
      have sM := Same.new (o := .tup (ms.map V.str)) (Same.refl H5) hM
      have nML : M ≠ L := (ne_of_none hL5 hM).symm
      have hL6 := sM _ _ hL5
      have sh : Same H4 (hid L (upd H5 M (.tup (ms.map V.str)))) := same_hid (s5.trans sM) hL4
      refine ⟨rfl, rfl, rfl, sizeLine, fun Ha Hb => (∀ b o, b ≠ L → Ha b = some o → Hb b = some o) ∧ (Ha L ≠ none → Hb L ≠ none), fun i σ H' => ∃ (tus : List V) (sp : Option V), σ = sl a m z po (some (.ref A)) (some (.ref G)) (some (.ref x)) (some (.ref f)) (some (.ref s)) k (some (.ref mm)) tu (some (.ref C)) (some (.ref L)) sp st on ro ki ∧ Same H4 H' ∧ H' L = some (.lst tus) ∧ DpAll K H' tus (rowsD ((rowsTo ps gs ts' (menuW ss ms ls) ts'.length).take i)), ⟨[], _, rfl, s5.trans sM, hL6, .nil⟩, fun Cc => ?_⟩
      refine ⟨x, .ref f, .ref s, .ref M, ks, ls, ts', ss, ms, (fun b => b = L), hid L (upd H5 M (.tup (ms.map V.str))), rfl, ⟨C4.rule.same sh, C4.good, ⟨f, rfl, .inl (SqL.of (sh _ _ C4.file))⟩, ⟨s, rfl, .inl (SqL.of (sh _ _ C4.some_))⟩, ⟨M, rfl, .inr (SqT.of (by rw [hid_at nML]; exact upd_same))⟩, C4.tt, C4.st, C4.mt, Nat.le_trans C4.lt (by decide), Nat.le_trans C4.ls_ (by decide), Nat.le_trans C4.lm (by decide)⟩, hid_same _ _, fun b hb => ?_, fun Ha Hb zz b hb n => ?_, fun Ha Hb zz b o n e => zz.1 b o n e, ?_, fun i Hw y H7 r hr s7 hy σ hW => ?_, fun Hw H7 s7 σ hW => ?_⟩
      · subst hb
        exact ⟨hid_self, by rw [hL6]; simp⟩
      · subst hb
        exact zz.2 n
      · rw [eR]
        exact Nat.le_trans (lenM C3.ls_ C3.lm _ C3.lt) (show 300 ≤ sizeLine by decide)
      · obtain ⟨tus, sp, rfl, s8, hLw, htu⟩ := hW
        obtain ⟨dy, hy'⟩ := hy
        rw [eR] at hr
        have hL7 := s7 _ _ hLw
        have lt7 := DpAll.len htu
        have lR := lenM (ws := ss) (ns := ms) C3.ls_ C3.lm _ C3.lt
        rw [rowsD, List.length_map, List.length_take] at lt7
        refine ⟨_, rfl, .inl ⟨rfl, _, SqL.of hL7⟩, _, rfl, y, CS, dy, _, _, rfl, hy', SC.cl, SC.ki, fs_ki _ _ _, _, rfl, y, CS, dy, _, _, rfl, hy', SC.cl, SC.at_, fs_at _ _ _, _, rfl, y, CS, dy, _, _, rfl, hy', SC.cl, SC.to, fs_to _ _ _, by show 3 ≤ sizeLine; decide, fun g hg => ?_⟩
        have sg := Same.new (o := .tup [.str r.1, .int (r.2.1 : Nat), tokV r.2.2]) (Same.refl H7) hg
        have hLg := sg _ _ hL7
        refine ⟨L, tus, .ref g, rfl, rfl, hLg, Nat.lt_of_le_of_lt (show tus.length ≤ 900 by omega) (by decide), ⟨tus ++ [.ref g], _, rfl, Same.put ((s8.trans s7).trans sg) hL4, upd_same, ?_⟩, fun b o n e => ?_, fun _ => ?_⟩
        · rw [take_some hr]
          unfold rowsD
          rw [List.map_append]
          exact DpAll.app (rows_keep (put_sqt hLg) (dpAll_same (s7.trans sg) _ htu)) (.cons (row_keep (put_sqt hLg) (row_of (SqT.of upd_same))) .nil)
        · rw [upd_ne n]
          exact sg b o e
        · rw [upd_same]; simp
      · obtain ⟨tus, sp, rfl, s8, hLw, htu⟩ := hW
        rw [eR, List.take_length] at htu
        exact ⟨tus, sp, rfl, s8.trans s7, s7 _ _ hLw, dpAll_same s7 _ htu⟩
    rintro σ H6 ⟨tus, sp, rfl, s6, hL6, htu⟩
    have C6 := C4.same s6
    have hC6 := s6 _ _ hC4
    have shR : ∀ {ws ns : List Str}, (∀ z ∈ ws, TokOk z) → (∀ z ∈ ns, TokOk z) → SeqAt.shaped (.list (rowsD (rowsTo ps gs ts' (menuW ws ns ls) ts'.length))) = true := fun h1 h2 => rows_shapedL (rows_good ps gs ts' (tokM h1 h2))
    -- they are the due ones; nothing that was given has changed
    refine ⟨fun σ H' => σ = sl a m z po (some (.ref A)) (some (.ref G)) (some (.ref x)) (some (.ref f)) (some (.ref s)) k (some (.ref mm)) tu (some (.ref C)) (some (.ref L)) sp st on ro ki ∧ Same H4 H', ?_, ?_⟩
    · refine ⟨_, rfl, _, rfl, _, rfl, _, rfl, C, _, _, .ref c1, rfl, rfl, SqL.of hC6, rfl, _, rfl, C, _, _, .ref c2, rfl, rfl, SqL.of hC6, rfl, _, rfl, C, _, _, .ref c3, rfl, rfl, SqL.of hC6, rfl, c2, c3, _, _, rfl, rfl, s6 _ _ hc2, s6 _ _ hc3, ?_, fun cc hcc => ?_⟩
      · rw [List.length_map, List.length_map]
        have := C3.ls_
        have := C3.lm
        exact line_ge (by omega)
      have scc := Same.new (o := .lst (ss.map V.str ++ ms.map V.str)) (Same.refl H6) hcc
      refine ⟨A, G, c1, cc, us, ps, gs, ls, ts', ss ++ ms, rfl, C6.parts.same scc, C3.looks, scc _ _ (s6 _ _ hc1), C3.tt, by rw [upd_same, List.map_append], fun z hz => (List.mem_append.mp hz).elim (C3.st z) (C3.mt z), C3.lt, ?_, fun p us' H8 s8 hp hp8 hd8 => ?_⟩
      · rw [List.length_append]
        have := C3.ls_
        have := C3.lm
        omega
      have eM : dd (K5S.signs ++ ((ss ++ ms) ++ ls.map (·.2))) = menuW ss ms ls := by
        unfold menuW
        simp only [List.append_assoc]
      rw [eM] at hd8
      refine ⟨.list (rowsD (rowsTo ps gs ts' (menuW ss ms ls) ts'.length)), .list (rowsD (rowsTo ps gs ts' (menuW ss ms ls) ts'.length)), .lst (SqL.of (s8 _ _ (scc _ _ hL6))) (dpAll_same (scc.trans s8) _ htu), .lst (SqL.of hp8) hd8, shR C3.st C3.mt, shR C3.st C3.mt, _, rfl, iteF' (by rw [eqv_rows, decide_eq_true rfl]; rfl) ?_⟩
      have s68 := scc.trans s8
      have C8 := C6.same s68
      refine ⟨_, rfl, _, rfl, _, rfl, by show 3 ≤ sizeLine; decide, fun l hl => ?_⟩
      have s9 := Same.new (o := .lst [.ref f, .ref s, .ref mm]) (Same.refl H8) hl
      have C9 := C8.same s9
      have s69 := (s6.trans s68).trans s9
      have th := three_shaped C3.tt C3.st C3.mt
      refine ⟨_, rfl, .list [.list (kiD ts'), .list (kiD ss), .list (kiD ms)], .list [.list (kiD ts'), .list (kiD ss), .list (kiD ms)], .lst (SqL.of upd_same) (.cons (texts_list C9.file) (.cons (texts_list C9.some_) (.cons (texts_list C9.more) .nil))), .lst (SqL.of (s69 _ _ hC4)) (.cons (texts_list (s69 _ _ hc1)) (.cons (texts_list (s69 _ _ hc2)) (.cons (texts_list (s69 _ _ hc3)) .nil))), th, th, _, rfl, iteF' (by rw [eqv_self th]; rfl) ⟨rfl, s69⟩⟩
    rintro σ H7 ⟨rfl, s7⟩
    have C7 := C4.same s7
    have hC7 := s7 _ _ hC4
    -- without words and numbers
    have eR2 : rowsTo ks ls ts' (menuW [] [] ls) ts'.length = rowsTo ps gs ts' (menuW [] [] ls) ts'.length := rows_same C3.kin C3.looks.mem _ _ _
    have no : ∀ z ∈ ([] : List Str), TokOk z := fun z h => nomatch h
    refine ⟨fun σ H' => σ = sl a m z po (some (.ref A)) (some (.ref G)) (some (.ref x)) (some (.ref f)) (some (.ref s)) k (some (.ref mm)) tu (some (.ref C)) (some (.ref L)) sp st on ro ki ∧ Same H4 H', ?_, ?_⟩
    · obtain ⟨dx, kk, l, pp, hx, _⟩ := id C7.rule
      refine ⟨_, rfl, x, dx, _, rfl, hx, rfl, _, rfl, f, _, rfl, .inl ⟨SqL.of C7.file, fun ft hft => ?_⟩⟩
      have sF := Same.new (o := .tup (ts'.map V.str)) (Same.refl H7) hft
      refine ⟨rfl, fun ys H' => Same (upd H7 ft (.tup (ts'.map V.str))) H' ∧ SlipL CS H' ys ((rowsTo ps gs ts' (menuW [] [] ls) ts'.length).take ys.length), ⟨Same.refl _, SlipL.nil⟩, fun Cc ads => ?_⟩
      refine ⟨x, .ref ft, d1, d2, ks, ls, ts', [], [], (fun _ => False), upd H7 ft (.tup (ts'.map V.str)), rfl, ⟨C7.rule.same sF, C7.good, ⟨ft, rfl, .inr (SqT.of upd_same)⟩, empty_file hd1 _, empty_file hd2 _, C7.tt, no, no, Nat.le_trans C7.lt (by decide), by decide, by decide⟩, Same.refl _, fun b hb => hb.elim, fun Ha Hb zz b hb n => hb.elim, fun Ha Hb zz b o n e => ?_, ?_, fun i Hw y H8 r hr s8 hy ys hys hP => ?_, fun Hw H8 s8 ys hys hP p hp => ?_⟩
      · have zz' : Hb = Ha := zz
        rw [zz']; exact e
      · rw [eR2]
        exact Nat.le_trans (lenM (by decide) (by decide) _ C3.lt) (show 300 ≤ sizeLine by decide)
      · obtain ⟨sP, hP⟩ := hP
        rw [eR2] at hr
        refine ⟨sP.trans s8, ?_⟩
        rw [List.length_append]
        show SlipL CS H8 _ (List.take (ys.length + 1) _)
        rw [take_some (show _ = some r by rw [hys]; exact hr)]
        exact (hP.same s8).snoc hy
      · obtain ⟨sP, hP⟩ := hP
        rw [eR2] at hys
        rw [hys, List.take_length] at hP
        have sp8 := Same.new (o := .lst ys) (Same.refl H8) hp
        refine ⟨p, ys, _, rfl, upd_same, (hP.same s8).same sp8, Nat.le_trans (lenM (by decide) (by decide) _ C3.lt) (by decide), fun p2 us2 H9 s9 hp2 hus2 hd9 => ?_⟩
        have s79 := ((sF.trans sP).trans (s8.trans sp8)).trans s9
        have C9 := C7.same s79
        have hC9 := s79 _ _ hC7
        refine ⟨_, rfl, _, rfl, _, rfl, C, _, _, .ref c1, rfl, rfl, SqL.of hC9, rfl, Nat.zero_le _, fun nn hnn => ?_⟩
        have sn := Same.new (o := .lst []) (Same.refl H9) hnn
        refine ⟨A, G, c1, nn, us, ps, gs, ls, ts', [], rfl, C9.parts.same sn, C3.looks, sn _ _ (s79 _ _ (s7 _ _ hc1)), C3.tt, upd_same, no, C3.lt, by decide, fun p3 us3 Ha sa hp3 hus3 hda => ?_⟩
        have hda : DpAll K Ha us3 (rowsD (rowsTo ps gs ts' (menuW [] [] ls) ts'.length)) := hda
        exact ⟨.list (rowsD (rowsTo ps gs ts' (menuW [] [] ls) ts'.length)), .list (rowsD (rowsTo ps gs ts' (menuW [] [] ls) ts'.length)), .lst (SqL.of (sa _ _ (sn _ _ hus2))) (dpAll_same (sn.trans sa) _ hd9), .lst (SqL.of hus3) hda, shR no no, shR no no, _, rfl, iteF' (by rw [eqv_rows, decide_eq_true rfl]; rfl) ⟨rfl, ((s7.trans s79).trans sn).trans sa⟩⟩
    rintro σ H8 ⟨rfl, s8⟩
    have C8 := C4.same s8
    -- what is allowed at each spot
    have rg : (((ts'.map V.str).length : Nat) + 2 : Int).toNat = ts'.length + 2 := by rw [List.length_map]; omega
    refine ⟨_, rfl, f, _, rfl, .inl (SqL.of C8.file), _, _, rfl, rfl, _, rfl, by omega, ?_, ?_⟩
    · rw [List.length_map]
      have := C3.lt
      omega
    refine for_range (lo := 0) (n := (((ts'.map V.str).length : Nat) + 2 : Int).toNat) (fun n σ H' => (∃ sp st on ro ki, σ = sl a m z po (some (.ref A)) (some (.ref G)) (some (.ref x)) (some (.ref f)) (some (.ref s)) k (some (.ref mm)) tu (some (.ref C)) (some (.ref L)) sp st on ro ki) ∧ Same H4 H') ⟨⟨_, _, _, _, _, rfl⟩, s8⟩ (fun n σ H9 hn h => ?_) (fun σ H' ⟨⟨_, _, _, _, _, e⟩, sz⟩ => ⟨⟨_, _, _, _, _, _, _, _, _, _, _, _, _, _, _, _, _, e⟩, (s3.trans s4).trans sz⟩)
    obtain ⟨⟨sp, st, on, ro, ki, rfl⟩, s9⟩ := h
    have en : (V.int (0 + (n : Int))) = V.int (n : Nat) := by rw [Int.zero_add]
    rw [en]
    refine ⟨fun σ H' => (∃ on ro, σ = sl a m z po (some (.ref A)) (some (.ref G)) (some (.ref x)) (some (.ref f)) (some (.ref s)) k (some (.ref mm)) tu (some (.ref C)) (some (.ref L)) sp (some (.int (n : Nat))) on ro ki) ∧ Same H4 H', ?_, ?_⟩
    · refine ⟨by show 9 ≤ sizeLine; decide, fun g hg => ⟨g, rfl, ⟨_, SqL.of upd_same⟩, ?_⟩⟩
      have sg := Same.new (o := .lst ((["a", "b", "=", ";", ",", "]", "12", "0", "c"] : List Str).map V.str)) (Same.refl H9) hg
      refine for_list (K := K) (a := g) (xs := (["a", "b", "=", ";", ",", "]", "12", "0", "c"] : List Str).map V.str) (fun i σ H' => (∃ on ro, σ = sl a m z po (some (.ref A)) (some (.ref G)) (some (.ref x)) (some (.ref f)) (some (.ref s)) k (some (.ref mm)) tu (some (.ref C)) (some (.ref L)) sp (some (.int (n : Nat))) on ro ki) ∧ Same (upd H9 g (.lst ((["a", "b", "=", ";", ",", "]", "12", "0", "c"] : List Str).map V.str))) H') ⟨⟨_, _, rfl⟩, Same.refl _⟩ (fun i σ H' _ h => SqL.of (h.2 _ _ upd_same)) (fun i y σ Ha hy h => ?_) (fun σ H' h => ⟨h.1, (s9.trans sg).trans h.2⟩)
      obtain ⟨⟨on, ro, rfl⟩, sa⟩ := h
      rw [List.getElem?_map] at hy
      cases hz : (["a", "b", "=", ";", ",", "]", "12", "0", "c"] : List Str)[i]? with
      | none => rw [hz] at hy; cases hy
      | some w0 =>
      rw [hz] at hy
      obtain rfl : V.str w0 = y := Option.some.inj hy
      have tw : TokOk w0 := words_tok (show ((["a", "b", "=", ";", ",", "]", "12", "0", "c"] : List Str).all tokB2) = true by decide +kernel) (List.mem_of_getElem? hz)
      have gs1 : GoodSlip "written" (some w0) := .inl ⟨rfl, w0, rfl, tw⟩
      refine ⟨fun σ H' => ∃ r : Addr, σ = sl a m z po (some (.ref A)) (some (.ref G)) (some (.ref x)) (some (.ref f)) (some (.ref s)) k (some (.ref mm)) tu (some (.ref C)) (some (.ref L)) sp (some (.int (n : Nat))) (some (.str w0)) (some (.ref r)) ki ∧ Same Ha H' ∧ H' r = some (.tup [.str "written", .int (n : Nat), .str w0]), ⟨_, rfl, _, rfl, by show 3 ≤ sizeLine; decide, fun r hr => ⟨r, rfl, Same.new (Same.refl _) hr, upd_same⟩⟩, ?_⟩
      rintro σ Hb ⟨r, rfl, sb, hr⟩
      have s4b := ((s9.trans sg).trans sa).trans sb
      have Cb := C4.same s4b
      obtain ⟨dx, kk, l, pp, hx, _⟩ := id Cb.rule
      have bo := bool_ok (allowB ks ls ts' "written" n (some w0))
      have bo2 := bool_ok (allowB ps gs ts' "written" n (some w0))
      have eA : allowB ks ls ts' "written" n (some w0) = allowB ps gs ts' "written" n (some w0) := allow_same C3.kin C3.looks.mem (.inl rfl)
      refine ⟨_, rfl, x, dx, _, rfl, hx, rfl, _, rfl, _, rfl, _, rfl, fun y dy hy hdy ne => mk_slip gs1 hy hdy ne fun Hc sc vc => ⟨x, y, .ref f, ks, ls, ts', "written", n, some w0, rfl, Cb.rule.same sc, Cb.good, ⟨f, rfl, .inl (SqL.of (sc _ _ Cb.file))⟩, Cb.tt, vc, gs1, fun Hd sd => ⟨.bl _, .bool _, rfl, .bl _, bo.s, bo.n, bo.dp, bo.l, ?_⟩⟩⟩
      have Cd := Cb.same (sc.trans sd)
      refine ⟨_, rfl, _, rfl, _, rfl, _, rfl, A, G, f, r, us, ps, gs, ts', "written", n, some w0, rfl, Cd.parts, SqL.of Cd.file, Cd.tt, SqT.of ((sc.trans sd) _ _ hr), gs1, fun He se => ⟨.bl _, .bool _, rfl, .bl _, bo2.s, bo2.n, bo2.dp, bo2.l, rfl, _, rfl, iteF' (by rw [eA, decide_eq_true rfl]; rfl) ⟨⟨_, _, rfl⟩, ((sa.trans sb).trans (sc.trans sd)).trans se⟩⟩⟩
    rintro σ Hf ⟨⟨on, ro, rfl⟩, sf⟩
    refine ⟨by show 3 ≤ sizeLine; decide, fun g hg => ⟨g, rfl, ⟨_, SqL.of upd_same⟩, ?_⟩⟩
    have sg := Same.new (o := .lst (kinds3.map V.str)) (Same.refl Hf) hg
    refine for_list (K := K) (a := g) (xs := kinds3.map V.str) (fun i σ H' => (∃ ki, σ = sl a m z po (some (.ref A)) (some (.ref G)) (some (.ref x)) (some (.ref f)) (some (.ref s)) k (some (.ref mm)) tu (some (.ref C)) (some (.ref L)) sp (some (.int (n : Nat))) on ro ki) ∧ Same (upd Hf g (.lst (kinds3.map V.str))) H') ⟨⟨_, rfl⟩, Same.refl _⟩ (fun i σ H' _ h => SqL.of (h.2 _ _ upd_same)) (fun i y σ Ha hy h => ?_) (fun σ H' h => ?_)
    · obtain ⟨⟨ki, rfl⟩, sa⟩ := h
      rw [List.getElem?_map] at hy
      cases hz : kinds3[i]? with
      | none => rw [hz] at hy; cases hy
      | some kd =>
      rw [hz] at hy
      obtain rfl : V.str kd = y := Option.some.inj hy
      have km : kd ∈ kinds3 := List.mem_of_getElem? hz
      have gs1 : GoodSlip kd none := good3 km
      have s4a := (sf.trans sg).trans sa
      have Cb := C4.same s4a
      obtain ⟨dx, kk, l, pp, hx, _⟩ := id Cb.rule
      have bo := bool_ok (allowB ks ls ts' kd n none)
      have bo2 := bool_ok (allowB ps gs ts' kd n none)
      have eA : allowB ks ls ts' kd n none = allowB ps gs ts' kd n none := allow_same C3.kin C3.looks.mem (.inr km)
      refine ⟨_, rfl, x, dx, _, rfl, hx, rfl, _, rfl, _, rfl, _, rfl, fun y dy hy hdy ne => mk_slip gs1 hy hdy ne fun Hc sc vc => ⟨x, y, .ref f, ks, ls, ts', kd, n, none, rfl, Cb.rule.same sc, Cb.good, ⟨f, rfl, .inl (SqL.of (sc _ _ Cb.file))⟩, Cb.tt, vc, gs1, fun Hd sd => ⟨.bl _, .bool _, rfl, .bl _, bo.s, bo.n, bo.dp, bo.l, ?_⟩⟩⟩
      refine ⟨_, rfl, _, rfl, _, rfl, _, rfl, _, rfl, by show 3 ≤ sizeLine; decide, fun r hr => ?_⟩
      have sr := Same.new (o := .tup [.str kd, .int (n : Nat), .non]) (Same.refl Hd) hr
      have Cd := Cb.same ((sc.trans sd).trans sr)
      refine ⟨A, G, f, r, us, ps, gs, ts', kd, n, none, rfl, Cd.parts, SqL.of Cd.file, Cd.tt, SqT.of upd_same, gs1, fun He se => ⟨.bl _, .bool _, rfl, .bl _, bo2.s, bo2.n, bo2.dp, bo2.l, rfl, _, rfl, iteF' (by rw [eA, decide_eq_true rfl]; rfl) ⟨⟨_, rfl⟩, (sa.trans ((sc.trans sd).trans sr)).trans se⟩⟩⟩
    · obtain ⟨⟨ki, rfl⟩, sz⟩ := h
      exact ⟨⟨_, _, _, _, _, rfl⟩, (sf.trans sg).trans sz⟩
end
end K5

namespace K5
open PySem L2
/-- a def of the written part, under its own name -/
def Held (K : PySem.W.Frag) (mg : Str → Option Value) (x : Str) (st : Stmt) (f : Addr) (fd : FuncData) : Prop := Fun K x x st f fd ∧ mg x = some (.ref f)
def noArg : Arg := { arg := "", annotation := none, pos := ⟨0, 0, 0, 0⟩ }
theorem init_binds {K : PySem.W.Frag} {f : Addr} {fd : FuncData} {dv : V} (F : FunD K "__init__" "SlipRule.__init__" (defArgs sRInit) (defBody sRInit) (defScope sRInit) [] [(("looks" : Str), dv)] f fd) : StarBinds fd pRInit "looks" ∧ ∃ u, RelV dv u ∧ StarBinds0 K fd pRInit u :=
  FunD.starBinds (params := defArgs sRInit) (p := (defArgs sRInit).args.headD noArg) (q := (defArgs sRInit).kwonlyargs.headD noArg) (r := (defArgs sRInit).vararg.getD noArg) (dv := dv) F rfl (by decide +kernel)
abbrev kwsS (a1 a2 : Addr) : List (Str × V) := [(("words" : Str), .ref a1), (("numbers" : Str), .ref a2)]
/-- what the written part says of the classes and of constants -/
structure Rest (P : Program) (w : World) (K : PySem.W.Frag) (mg : Str → Option Value) (CR CSl CX fX aS aW aKi aLk aE1 aE2 fInit fSInit fMSl fMOr fMMay fMAl fMFi : Addr) : Prop where
  Z : K5S.Mod K mg aS
  RC : RuleC K mg CR
  SC : SlipC K mg CSl aKi
  TX : K9E.ErrTxt P K mg CX fX
  WC : WordsC K mg aW
  M : Mk K CR fInit
  MS : Mk K CSl fSInit
  dl : ∀ H, Dp K H (.ref aLk) (.tuple [])
  d1 : ∀ H, Dp K H (.ref aE1) (.tuple [])
  d2 : ∀ H, Dp K H (.ref aE2) (.tuple [])
  sf : PySem.W.selfFirst K CR = true
  mMSl : Meth K CR "slips" fMSl
  mMOr : Meth K CR "__or__" fMOr
  mMMay : Meth K CR "may_write" fMMay
  mMAl : Meth K CR "allows" fMAl
  mMFi : Meth K CSl "fits" fMFi
theorem all_of {P : Program} {w : World} {K : PySem.W.Frag} {mg : Str → Option Value} {base : Heap} {CR CSl CX fX aS aW aKi aLk aE1 aE2 fInit fSInit fMSl fMOr fMMay fMAl fMFi : Addr} {fOneOf fCons fIsW fIsN fIsI fIsS fSort fIsSl fLook fClassOf fOnce fMadeR fPool fPick fOf fWord fWords fToks fLRule fFam fMay fDue fRows fLaw : Addr} {dOneOf dCons dIsW dIsN dIsI dIsS dSort dIsSl dLook dClassOf dOnce dMadeR dPool dPick dOf dWord dWords dToks dLRule dFam dMay dDue dRows dMOr dMMay dMAl dMFi dInit dSInit dMSl dLaw : FuncData} (R : Rest P w K mg CR CSl CX fX aS aW aKi aLk aE1 aE2 fInit fSInit fMSl fMOr fMMay fMAl fMFi)
    (hOneOf : Held K mg "is_one_of" sOneOf fOneOf dOneOf) (hCons : Held K mg "consists_of" K5S.sConsists fCons dCons) (hIsW : Held K mg "is_word" K5S.sIsWord fIsW dIsW) (hIsN : Held K mg "is_numeral" K5S.sIsNumeral fIsN dIsN) (hIsI : Held K mg "is_integer" sInteger fIsI dIsI) (hIsS : Held K mg "is_sign" K5S.sIsSign fIsS dIsS) (hSort : Held K mg "sort_of" K5S.sSortOf fSort dSort) (hIsSl : Held K mg "is_slip" sIsSlip fIsSl dIsSl) (hLook : Held K mg "is_look" sLook fLook dLook) (hClassOf : Held K mg "class_of" sClassOf fClassOf dClassOf) (hOnce : Held K mg "each_once" sOnce fOnce dOnce) (hMadeR : Held K mg "made_rule" sMade fMadeR dMadeR) (hPool : Held K mg "_law_pool" sPool fPool dPool) (hPick : Held K mg "_law_pick" sPick fPick dPick) (hOf : Held K mg "_law_of" sOf fOf dOf) (hWord : Held K mg "_law_word" K5S.sLawWord fWord dWord) (hWords : Held K mg "_law_words" K5S.sLawWords fWords dWords) (hToks : Held K mg "_law_tokens" K5S.sTokens fToks dToks) (hLRule : Held K mg "_law_rule" sLRule fLRule dLRule) (hFam : Held K mg "_law_family" sLFam fFam dFam) (hMay : Held K mg "_law_may" sLMay fMay dMay) (hDue : Held K mg "_law_due" sLDue fDue dDue) (hRows : Held K mg "_law_rows" sLRows fRows dRows)
    (hMOr : Fun K "__or__" "SlipRule.__or__" sROr fMOr dMOr) (hMMay : Fun K "may_write" "SlipRule.may_write" sRMay fMMay dMMay) (hMAl : Fun K "allows" "SlipRule.allows" sRAl fMAl dMAl) (hMFi : Fun K "fits" "Slip.fits" sSFits fMFi dMFi) (hInit : FunD K "__init__" "SlipRule.__init__" (defArgs sRInit) (defBody sRInit) (defScope sRInit) [] [(("looks" : Str), .ref aLk)] fInit dInit) (hSInit : FunD K "__init__" "Slip.__init__" (defArgs sSInit) (defBody sSInit) (defScope sSInit) [.non] [] fSInit dSInit) (hMSl : FunD K "slips" "SlipRule.slips" (defArgs sRSl) (defBody sRSl) (defScope sRSl) [] (kwsS aE1 aE2) fMSl dMSl) (hLaw : Fun K "law" "law" sLaw fLaw dLaw)
    (bOneOf : Binds K dOneOf ["thing", "words"] []) (bCons : Binds K dCons ["thing", "characters"] []) (bIsW : Binds K dIsW ["thing"] []) (bIsN : Binds K dIsN ["thing"] []) (bIsI : Binds K dIsI ["thing"] []) (bIsS : Binds K dIsS ["thing"] []) (bSort : Binds K dSort ["thing"] []) (bIsSl : Binds K dIsSl ["kind", "at", "token"] []) (bLook : Binds K dLook ["thing"] []) (bClassOf : Binds K dClassOf ["token"] []) (bOnce : Binds K dOnce ["things"] []) (bMadeR : Binds K dMadeR ["kinds", "looks"] []) (bPool : Binds K dPool ["_law_script", "_law_place"] []) (bPick : Binds K dPick ["_law_pool_here", "_law_many"] []) (bOf : Binds K dOf ["_law_pool_here", "_law_some"] []) (bWord : Binds K dWord ["_law_pool_here", "_law_taken"] []) (bWords : Binds K dWords ["_law_pool_here", "_law_many", "_law_taken"] []) (bToks : Binds K dToks ["_law_pool_here", "_law_many"] []) (bLRule : Binds K dLRule ["_law_pool_here"] []) (bFam : Binds K dFam ["_law_one"] []) (bMay : Binds K dMay ["_law_parts", "_law_given", "_law_file", "_law_slip"] []) (bDue : Binds K dDue ["_law_parts", "_law_given", "_law_file", "_law_some"] []) (bRows : Binds K dRows ["_law_slips"] []) (bMOr : Binds K dMOr ["self", "other"] []) (bMMay : Binds K dMMay ["self", "old", "token"] []) (bMAl : Binds K dMAl ["self", "file", "slip"] []) (bMFi : Binds K dMFi ["self", "file"] []) : FnG P w K mg base 13 fLaw dLaw ["_law_script"] (spLaw K) := by
  have Z := R.Z
  have T0 : Bare mg := R.Z.toBare
  have RC := R.RC
  have SC := R.SC
  have GOneOf : FnOk P w K mg base CX0 1 fOneOf dOneOf ["thing", "words"] (K5.spOneOf K) := ok_oneOf hOneOf.1 T0
  have GIsW : FnOk P w K mg base CX0 2 fIsW dIsW ["thing"] (K5S.spWord K) := K5S.ok_word hIsW.1 Z hCons.1 bCons hCons.2
  have GIsN : FnOk P w K mg base CX0 2 fIsN dIsN ["thing"] (K5S.spNum K) := K5S.ok_num hIsN.1 Z hCons.1 bCons hCons.2
  have GIsI : FnOk P w K mg base CX0 1 fIsI dIsI ["thing"] spInt := ok_integer hIsI.1 T0
  have GIsS : FnOk P w K mg base CX0 2 fIsS dIsS ["thing"] (K5S.spSign K) := K5S.ok_sign hIsS.1 Z hOneOf.1 bOneOf hOneOf.2
  have GSort : FnOk P w K mg base CX0 3 fSort dSort ["thing"] (K5S.spSort K) := K5S.ok_sort hSort.1 hIsS.1.kp GIsS bIsS hIsS.2 hIsW.1.kp GIsW bIsW hIsW.2 hIsN.1.kp GIsN bIsN hIsN.2
  have GIsSl : FnOk P w K mg base CX0 4 fIsSl dIsSl ["kind", "at", "token"] spIsSlip := ok_isSlip hIsSl.1 T0 SC ⟨fOneOf, dOneOf, hOneOf.1.kp, GOneOf, bOneOf, hOneOf.2⟩ ⟨fIsI, dIsI, hIsI.1.kp, GIsI, bIsI, hIsI.2⟩ ⟨fSort, dSort, hSort.1.kp, GSort, bSort, hSort.2⟩
  have GSInit : FnOk P w K mg base CX0 5 fSInit dSInit ["self", "kind", "at", "token"] (spSInit CSl) := ok_sinit hSInit T0 SC ⟨fIsSl, dIsSl, hIsSl.1.kp, GIsSl, bIsSl, hIsSl.2⟩
  have GMFi : FnOk P w K mg base CX0 1 fMFi dMFi ["self", "file"] (spFits K CSl) := ok_sfits hMFi T0 SC
  have GLook : FnOk P w K mg base CX0 4 fLook dLook ["thing"] (spLook K) := ok_look hLook.1 T0 ⟨fSort, dSort, hSort.1.kp, GSort, bSort, hSort.2⟩
  have GClassOf : FnOk P w K mg base CX0 4 fClassOf dClassOf ["token"] spClass := ok_classOf hClassOf.1 T0 ⟨fIsS, dIsS, hIsS.1.kp, GIsS, bIsS, hIsS.2⟩ ⟨fSort, dSort, hSort.1.kp, GSort, bSort, hSort.2⟩
  have GOnce : FnOk P w K mg base CX0 1 fOnce dOnce ["things"] (spOnce K) := ok_once hOnce.1 T0
  have GInit : FnB P w K mg base (L2.CX P w) 5 fInit dInit pRInit (spRInit K CR CX) := ok_rinit hInit T0 RC R.TX R.WC ⟨fOneOf, dOneOf, hOneOf.1.kp, GOneOf, bOneOf, hOneOf.2⟩ ⟨fLook, dLook, hLook.1.kp, GLook, bLook, hLook.2⟩
  have SB := init_binds hInit
  obtain ⟨SB1, u0, ru0, SB0⟩ := SB
  have MR : MkR P w K mg base CR CX := ⟨fInit, dInit, u0, _, R.M, GInit, SB1, SB0, ru0, R.dl⟩
  obtain ⟨dsF, vF, bSF⟩ := hSInit.binds1 (ps := ["self", "kind", "at", "token"]) 4 1 (by simp) rfl fun _ _ _ _ _ _ _ us its h1 h2 => match us, its, h1, h2 with | [_, _, _, _], [_], _, _ => ⟨_, rfl, rfl⟩
  cases vF
  obtain ⟨dsD, vD, bSD⟩ := hSInit.binds1 (ps := ["self", "kind", "at", "token"]) 3 0 (by simp) rfl fun _ _ _ _ _ _ _ us its h1 h2 => match us, its, h1, h2 with | [_, _, _], [_], _, _ => ⟨_, rfl, rfl⟩
  have MS : MkS P w K mg base CSl := ⟨fSInit, dSInit, dsD, R.MS, GSInit, bSF, vD, bSD⟩
  have GMadeR : FnOk P w K mg base CX0 7 fMadeR dMadeR ["kinds", "looks"] (spMade K CR) := ok_made hMadeR.1 T0 RC MR
  have GMOr : FnOk P w K mg base CX0 8 fMOr dMOr ["self", "other"] (spROp K CR (· ++ ·) (· ++ ·)) := ok_ror hMOr T0 RC ⟨fMadeR, dMadeR, hMadeR.1.kp, GMadeR, bMadeR, hMadeR.2⟩
  have RO : RuleO P w K mg base CR := ⟨fMOr, dMOr, GMOr, ⟨by decide +kernel, R.sf, R.mMOr.at_, R.mMOr.fn⟩, bMOr⟩
  have GMMay : FnOk P w K mg base CX0 5 fMMay dMMay ["self", "old", "token"] (spMay K CR) := ok_rmay hMMay T0 RC ⟨fClassOf, dClassOf, hClassOf.1.kp, GClassOf, bClassOf, hClassOf.2⟩
  have GMAl : FnOk P w K mg base CX0 6 fMAl dMAl ["self", "file", "slip"] (spAllow K CR CSl) := ok_ral hMAl T0 RC SC GMFi R.mMFi bMFi GMMay R.mMMay bMMay
  have GMSl : K10.GFn2 P w K mg base 8 fMSl dMSl pRSl (spSlips K CR CSl) := ok_rslips hMSl T0 RC SC MS Z ⟨fOnce, dOnce, hOnce.1.kp, GOnce, bOnce, hOnce.2⟩ GMAl R.mMAl bMAl
  obtain ⟨mvK, kbK⟩ := hMSl.kbinds0 (ps := pRSl) 2 ["words", "numbers"] [] (fun us _ ws => us ++ ws) (by simp) (fun _ hq => (nomatch hq)) (fun r1 _ r3 => r1.append r3) fun D doc pm an cdv ct us mv ws l1 l2 l3 => match us, mv, ws, l1, l2, l3 with | [_, _], [], [_, _], _, _, _ => rfl
  obtain ⟨dsM, vM, bM⟩ := hMSl.binds0 (ps := pRSl) 2 (by simp) rfl fun D doc pm an cdv ct us ks l1 l2 => match us, ks, l1, l2 with | [_, _], [_, _], _, _ => ⟨_, _, _, _, _, _, rfl, rfl, ⟨_, _, _, _, _, _, rfl, rfl, rfl⟩⟩
  have RS : RuleS P w K mg base CR CSl := ⟨⟨fMSl, dMSl, _, _, dsM, _, GMSl, R.mMSl, kbK, vM, bM, R.d1, R.d2⟩, ⟨fMAl, dMAl, GMAl, R.mMAl, bMAl⟩⟩
  have GPool : FnOk P w K mg base CX0 1 fPool dPool ["_law_script", "_law_place"] (spPool K) := ok_pool hPool.1 T0
  have GPick : FnOk P w K mg base CX0 1 fPick dPick ["_law_pool_here", "_law_many"] spPick := ok_pick hPick.1 T0
  have GOf : FnOk P w K mg base CX0 2 fOf dOf ["_law_pool_here", "_law_some"] K5.spOf := ok_of hOf.1 T0 ⟨fPick, dPick, hPick.1.kp, GPick, bPick, hPick.2⟩
  have GWord : FnOk P w K mg base CX0 2 fWord dWord ["_law_pool_here", "_law_taken"] K5S.spLawWord := K5S.ok_lawWord hWord.1 Z hPick.1.kp GPick bPick hPick.2
  have GWords : FnOk P w K mg base CX0 3 fWords dWords ["_law_pool_here", "_law_many", "_law_taken"] K5S.spLawWords := K5S.ok_lawWords hWords.1 Z hWord.1.kp GWord bWord hWord.2
  have GToks : FnOk P w K mg base CX0 4 fToks dToks ["_law_pool_here", "_law_many"] K5S.spTokens := K5S.ok_tokens hToks.1 Z hPick.1.kp GPick bPick hPick.2 hOf.1.kp GOf bOf hOf.2 hWords.1.kp GWords bWords hWords.2
  have GLRule : FnOk P w K mg base CX0 9 fLRule dLRule ["_law_pool_here"] (spLRule K CR) := ok_lrule hLRule.1 T0 RC MR RO ⟨fPick, dPick, hPick.1.kp, GPick, bPick, hPick.2⟩ ⟨fOf, dOf, hOf.1.kp, GOf, bOf, hOf.2⟩
  have GFam : FnOk P w K mg base CX0 1 fFam dFam ["_law_one"] spLFam := ok_lfam hFam.1 T0
  have GMay : FnOk P w K mg base CX0 2 fMay dMay ["_law_parts", "_law_given", "_law_file", "_law_slip"] (spLMay K) := ok_lmay hMay.1 T0 ⟨fFam, dFam, hFam.1.kp, GFam, bFam, hFam.2⟩
  have GDue : FnOk P w K mg base CX0 3 fDue dDue ["_law_parts", "_law_given", "_law_file", "_law_some"] (spLDue K) := ok_ldue hDue.1 T0 R.WC.srt ⟨fMay, dMay, hMay.1.kp, GMay, bMay, hMay.2⟩
  have GRows : FnOk P w K mg base CX0 1 fRows dRows ["_law_slips"] (spLRows K CSl) := ok_lrows hRows.1 T0 SC
  exact ok_law hLaw T0 RC SC MS RS ⟨fPool, dPool, hPool.1.kp, GPool, bPool, hPool.2⟩ ⟨fPick, dPick, hPick.1.kp, GPick, bPick, hPick.2⟩ ⟨fOf, dOf, hOf.1.kp, GOf, bOf, hOf.2⟩ ⟨fLRule, dLRule, hLRule.1.kp, GLRule, bLRule, hLRule.2⟩ ⟨fToks, dToks, hToks.1.kp, GToks, bToks, hToks.2⟩ ⟨fMay, dMay, hMay.1.kp, GMay, bMay, hMay.2⟩ ⟨fDue, dDue, hDue.1.kp, GDue, bDue, hDue.2⟩ ⟨fRows, dRows, hRows.1.kp, GRows, bRows, hRows.2⟩
end K5

/-! the end of a law row for a promise that asks that no repr is under way -/
namespace L2
open PySem PySem.Spec PyProof.Rows
section
variable {P : Program} {w : World} {K : PySem.W.Frag} {mg mb : Str → Option Value} {k : Nat} {fa a : Addr} {fd : FuncData} {x : Str} {sp : Sp} {s : Shared} {vs : List Value} {ns : List Int}
/-- what the caller asks of the end -/
abbrev AskedK (s : Shared) : Result → Shared → Prop := fun r s' => r = .ok (.ret (.bool true)) ∧ OldK s.heap s'.heap ∧ s'.os = s.os ∧ AllBare s'.gens
theorem endG_of {H : Hp} (KX : K.In s.heap) (hns : s.heap.Ns mainGlobals mg) (hb : s.heap.Ns builtinsNs mb) (hbb : ∀ x : Str, x ≠ "__name__" → mb x = bootBuiltins x) (hlim : s.heap.NoLimit) (hg : s.gens = #[])
    (hobj : s.heap.get? a = some { cls := .type "list", data := .seq vs.toArray }) (hroom : Room k callerA)
    (F : ∀ base : Heap, K.In base → base.Ns mainGlobals mg → FnG P w K mg base k fa fd [x] sp) (hbind : ∀ (s : Shared) (u : Value), BindsTo s fd ⟨[u], []⟩ [(x, u)])
    (hO : Only H) (hok : HOk P w H s.heap) (one : ∀ b, H b ≠ none → b = a) (free : H a ≠ none → K.lookup a = none)
    (hsp : sp [.ref a] H (fun v _ => v = .bl true) E0) : codeAny (model P w) callerA (.call (.ref fa) ⟨[.ref a], []⟩) (AskedK s) s := by
  have base_of : ∀ {b : Addr} {o : Obj}, s.heap.get? b = some o → H b = none → (hidT s.heap H).get? b = some o := fun e n => hidT_get e n
  have apart : ∀ {b : Addr}, b ≠ a → H b = none := fun {b} hba => Classical.byContradiction fun z => hba (one b z)
  have notDict : ∀ {b : Addr} {o : Obj} {es : Array DictEntry} {ep : Nat}, s.heap.get? b = some o → o.data = .dict es ep → H b = none := by
    intro b o es ep e d
    refine apart fun z => ?_
    rw [z, hobj] at e
    cases e
    cases d
  have keepNs : ∀ {b : Addr} {m : Str → Option Value}, s.heap.Ns b m → (hidT s.heap H).Ns b m := by
    rintro b m ⟨o, es, ep, e, d, r⟩
    exact ⟨o, es, ep, base_of e (notDict e d), d, r⟩
  have inBase : K.In (hidT s.heap H) := by
    intro b o e
    refine base_of (KX b o e) (Classical.byContradiction fun z => ?_)
    have hba := one b z
    subst hba
    rw [free z] at e
    cases e
  have md : Mod K mg (hidT s.heap H) := by
    refine ⟨inBase, keepNs hns, ⟨mb, keepNs hb, hbb⟩, ?_⟩
    obtain ⟨mc, h1, h2⟩ := hlim
    exact ⟨mc, keepNs h1, h2⟩
  have env0 : Env0 P w K mg (hidT s.heap H) callerA [] s H := by
    refine ⟨rfl, md, fun b o e => of_hidT e, Nat.le_of_eq (hidT_size _ _), trivial, ?_, hok, .of_eq hg⟩
    intro b hb
    exact absurd (show b ∈ ([] : List Addr) from hb) (by simp)
  refine codeAny_mono ((F _ inBase (keepNs hns)).go callerA [] s H ⟨[.ref a], []⟩ [.ref a] [.ref a] _ rfl hroom env0 (hbind s (.ref a)) (.cons rfl .nil) hsp) ?_
  rintro (er | (_ | _ | _ | u)) s' h
  · exact h.elim
  · exact h.elim
  · exact h.elim
  · exact h.elim
  · obtain ⟨v, H', os, bare, un, hok', rv, q⟩ := h
    have q' : v = .bl true := q
    subst q'
    obtain rfl : u = Value.bool true := rv
    refine ⟨rfl, OldK.of_keep ?_, os, bare⟩
    intro b o e
    rcases hO b with z | ⟨ob, xs, z⟩
    · exact un.keep b o e z (by intro y; exact absurd (show b ∈ ([] : List Addr) from y) (by simp)) (by simp)
    · obtain ⟨e1, _⟩ := hok b _ z
      obtain ⟨e2, _⟩ := hok' b _ (un.frzs b ob _ z)
      rw [e] at e1
      cases e1
      exact e2
theorem law_callG (KX : K.In s.heap) (hns : s.heap.Ns mainGlobals mg) (hb : s.heap.Ns builtinsNs mb) (hbb : ∀ x : Str, x ≠ "__name__" → mb x = bootBuiltins x) (hlim : s.heap.NoLimit) (hg : s.gens = #[])
    (hobj : s.heap.get? a = some { cls := .type "list", data := .seq vs.toArray }) (hi : IntsAre vs ns) (hl : ns.length ≤ sizeLine) (hroom : Room k callerA)
    (F : ∀ base : Heap, K.In base → base.Ns mainGlobals mg → FnG P w K mg base k fa fd [x] sp) (hbind : ∀ (s : Shared) (u : Value), BindsTo s fd ⟨[u], []⟩ [(x, u)])
    (hsp : ∀ H : Hp, Only H → SqL K H a (ns.map V.int) → sp [.ref a] H (fun v _ => v = .bl true) E0) : codeAny (model P w) callerA (.call (.ref fa) ⟨[.ref a], []⟩) (AskedK s) s := by
  have rv := vals_ints hi
  have lenV := hi.length
  cases hk : K.lookup a with
  | some o =>
    have e := KX a o hk
    rw [hobj] at e
    cases e
    have sq : SqL K (fun _ => none) a (ns.map V.int) := .inr ⟨_, vs.toArray, _, hk, rfl, rfl, rfl, by rw [List.size_toArray, lenV]; exact hl, by simpa using rv⟩
    have only : Only (fun _ => none) := fun _ => .inl rfl
    have hok : HOk P w (fun _ => none) s.heap := by
      intro b u z
      have z' : (none : Option HO) = some u := z
      cases z'
    exact endG_of KX hns hb hbb hlim hg hobj hroom F hbind only hok (fun b z => absurd rfl z) (fun z => absurd rfl z) (hsp _ only sq)
  | none =>
    let O : Obj := { cls := .type "list", data := .seq vs.toArray }
    let H : Hp := fun b => if b = a then some (.frz O (.lst (ns.map V.int))) else none
    have atA : H a = some (.frz O (.lst (ns.map V.int))) := if_pos rfl
    have off : ∀ b, b ≠ a → H b = none := fun b n => if_neg n
    have only : Only H := by
      intro b
      by_cases n : b = a
      · exact .inr ⟨O, ns.map V.int, by rw [n]; exact atA⟩
      · exact .inl (off b n)
    have hok : HOk P w H s.heap := by
      intro b u z
      by_cases n : b = a
      · subst n
        rw [atA] at z
        cases z
        exact ⟨hobj, by rw [List.length_map]; exact hl, vs, _, rv, hobj⟩
      · rw [off b n] at z
        cases z
    have one : ∀ b, H b ≠ none → b = a := fun b z => Classical.byContradiction fun n => z (off b n)
    exact endG_of KX hns hb hbb hlim hg hobj hroom F hbind only hok one (fun _ => hk) (hsp _ only (.inl (.inr ⟨O, atA⟩)))
end
/-- the goal that k_head leaves, from the law's promise -/
theorem walk_ofG {l : PySem.W.OpenLaw} {n k : Nat} {q : Program} {loose : List Str} {XP : (Str → Option Value) → Heap → Prop} {YP : World → Heap → Prop} {d : DefRec} {K : Params → PySem.W.Frag} {sp : World → Sp} {x : Str}
    (hn : l.most = some n) (hn2 : n ≤ sizeLine) (hdf : d.params.defaults = []) (hr : Room k callerA) (hY : ∀ (w : World) (h : Heap), YP w h → (K w.params).In h)
    (F : ∀ (w : World) (mg : Str → Option Value) (fa : Addr) (h : Heap), (K w.params).In h → h.Ns mainGlobals mg → mg d.name = some (.ref fa) →
      ∃ fd : FuncData, (∀ (s : Shared) (u : Value), BindsTo s fd ⟨[u], []⟩ [(x, u)]) ∧ ∀ base : Heap, (K w.params).In base → base.Ns mainGlobals mg → FnG l.prog w (K w.params) mg base k fa fd [x] (sp w))
    (hsp : ∀ (w : World) (H : Hp) (a : Addr) (ns : List Int), ns.length ≤ n → Only H → SqL (K w.params) H a (ns.map V.int) → sp w [.ref a] H (fun v _ => v = .bl true) E0) :
    PySem.W.WalkO q loose XP YP l.row.toRowW d [] (fun f vs => PySem.call f vs) := by
  refine Att.attach_call hn hdf ?_
  intro w s₀ s₁ mg mb fa o pm cd doc a vs ns G Y ho hd hcd hmg hobj hints hlen hg
  have KX := hY w _ Y
  obtain ⟨fd, hb, hF⟩ := F w mg fa _ KX G.T.g hmg
  exact law_callG KX G.T.g G.T.b G.T.builtins G.T.nolimit hg hobj hints (Nat.le_trans hlen hn2) hr hF hb (fun H hO hS => hsp w H a ns hlen hO hS)
end L2

namespace K5
open PySem L2
section
variable {K : PySem.W.Frag} {h : Heap} {mg : Str → Option Value}
/-- a def that stands at the top, as the written part shows it -/
theorem held {x : Str} {st : Stmt} {f : Addr} {oc : Value} {od an : Option Addr} {osl : Array (Option Value)} {kV doc pm cdv ct : Value} (X : K.In h) (G : h.Ns mainGlobals mg) (a : PySem.W.nsIn K mainGlobals x = some (some (.ref f)))
    (l : K.lookup f = some ⟨oc, od, .func (PySem.W.fnOf x x (defArgs st) (defBody st) (defScope st) .none kV doc pm an cdv ct), osl⟩) (c : PySem.W.codeIn K cdv x = true) (k : PySem.W.keepIn K (.ref f) = true) : Held K mg x st f (PySem.W.fnOf x x (defArgs st) (defBody st) (defScope st) .none kV doc pm an cdv ct) :=
  ⟨fun_mk l c k, PySem.W.mg_of X G a⟩

theorem signs_vals {its : Array Value} {t1 t2 t3 t4 t5 : Tok} (e : its = #[.str "=" t1, .str ";" t2, .str "," t3, .str "[" t4, .str "]" t5]) : its.size ≤ sizeLine ∧ Vals (K5S.signs.map V.str) its.toList := by
  subst e
  exact ⟨by show 5 ≤ sizeLine; decide, .cons ⟨_, rfl⟩ (.cons ⟨_, rfl⟩ (.cons ⟨_, rfl⟩ (.cons ⟨_, rfl⟩ (.cons ⟨_, rfl⟩ .nil))))⟩
theorem words_vals {its : Array Value} {t1 t2 t3 t4 t5 t6 : Tok} (e : its = #[.str "left" t1, .str "doubled" t2, .str "swapped" t3, .str "word" t4, .str "number" t5, .str "sign" t6]) : its.size ≤ sizeLine ∧ Vals (words6.map V.str) its.toList := by
  subst e
  exact ⟨by show 6 ≤ sizeLine; decide, .cons ⟨_, rfl⟩ (.cons ⟨_, rfl⟩ (.cons ⟨_, rfl⟩ (.cons ⟨_, rfl⟩ (.cons ⟨_, rfl⟩ (.cons ⟨_, rfl⟩ .nil)))))⟩
theorem kinds_vals {its : Array Value} {t1 t2 t3 t4 : Tok} (e : its = #[.str "left" t1, .str "doubled" t2, .str "swapped" t3, .str "written" t4]) : its.size ≤ sizeLine ∧ Vals (kinds4.map V.str) its.toList := by
  subst e
  exact ⟨by show 4 ≤ sizeLine; decide, .cons ⟨_, rfl⟩ (.cons ⟨_, rfl⟩ (.cons ⟨_, rfl⟩ (.cons ⟨_, rfl⟩ .nil)))⟩
theorem empty_dp {a : Addr} {dd : Option Addr} {its : Array Value} {n : Nat} {sl : Array (Option Value)} (l : K.lookup a = some ⟨.type "tuple", dd, .seq its n, sl⟩) (e : its = #[]) (H : Hp) : Dp K H (.ref a) (.tuple []) := by
  subst e
  exact .tup (.inr ⟨_, _, n, l, rfl, rfl, Nat.zero_le _, .nil⟩) .nil
end
theorem all_mk {P : Program} {w : World} {K : PySem.W.Frag} {h : Heap} {mg : Str → Option Value} {fa CR CSl CX CS fX aS aW aKi aLk aKW aE1 aE2 aKM aDf : Addr} (X : K.In h) (G : h.Ns mainGlobals mg) (hfa : mg "law" = some (.ref fa))
    {nmX qX : Str} {NX : Addr} {bsX : List Value} {snX : List Str} {subX : List Value} {abX : Bool} {colX : Option Bool} {ddX : Option Addr} {m0X m1X m2X m3X m5X : Option Value} {oIX pmIX ctIX : Value} {odIX anIX : Option Addr} {slIX : Array (Option Value)} {docIX : Value} {cdaX ccX : Addr} {cclX : Value} {cddX : Option Addr} {vsX : Array Value} {ccsX : Array (Option Value)} {fileX : Str} {tfX : Tok} {clX : Value} {cldX : Option Addr} {cslX : Array (Option Value)}
    {g1 g2 g3 g4 g5 h1 h2 h3 h4 h5 h6 i1 i2 i3 i4 tL tD tM : Tok} {dS dW dKi dLk dE1 dE2 dDf : Option Addr} {iS iW iKi iLk iE1 iE2 iDf : Array Value} {nS nW nKi nLk nE1 nE2 nDf : Nat} {slS slW slKi slLk slE1 slE2 slDf : Array (Option Value)}
    {fOneOf fCons fIsW fIsN fIsI fIsS fSort fIsSl fLook fClassOf fOnce fMadeR fPool fPick fOf fWord fWords fToks fLRule fFam fMay fDue fRows fMOr fMMay fMAl fMFi fInit fSInit fMSl fLaw : Addr} {odOneOf anOneOf odCons anCons odIsW anIsW odIsN anIsN odIsI anIsI odIsS anIsS odSort anSort odIsSl anIsSl odLook anLook odClassOf anClassOf odOnce anOnce odMadeR anMadeR odPool anPool odPick anPick odOf anOf odWord anWord odWords anWords odToks anToks odLRule anLRule odFam anFam odMay anMay odDue anDue odRows anRows odMOr anMOr odMMay anMMay odMAl anMAl odMFi anMFi odInit anInit odSInit anSInit odMSl anMSl odLaw anLaw : Option Addr} {slOneOf slCons slIsW slIsN slIsI slIsS slSort slIsSl slLook slClassOf slOnce slMadeR slPool slPick slOf slWord slWords slToks slLRule slFam slMay slDue slRows slMOr slMMay slMAl slMFi slInit slSInit slMSl slLaw : Array (Option Value)}
    {ocOneOf kVOneOf dcOneOf pmOneOf cdOneOf ctOneOf ocCons kVCons dcCons pmCons cdCons ctCons ocIsW kVIsW dcIsW pmIsW cdIsW ctIsW ocIsN kVIsN dcIsN pmIsN cdIsN ctIsN ocIsI kVIsI dcIsI pmIsI cdIsI ctIsI ocIsS kVIsS dcIsS pmIsS cdIsS ctIsS ocSort kVSort dcSort pmSort cdSort ctSort ocIsSl kVIsSl dcIsSl pmIsSl cdIsSl ctIsSl ocLook kVLook dcLook pmLook cdLook ctLook ocClassOf kVClassOf dcClassOf pmClassOf cdClassOf ctClassOf ocOnce kVOnce dcOnce pmOnce cdOnce ctOnce ocMadeR kVMadeR dcMadeR pmMadeR cdMadeR ctMadeR ocPool kVPool dcPool pmPool cdPool ctPool ocPick kVPick dcPick pmPick cdPick ctPick ocOf kVOf dcOf pmOf cdOf ctOf ocWord kVWord dcWord pmWord cdWord ctWord ocWords kVWords dcWords pmWords cdWords ctWords ocToks kVToks dcToks pmToks cdToks ctToks ocLRule kVLRule dcLRule pmLRule cdLRule ctLRule ocFam kVFam dcFam pmFam cdFam ctFam ocMay kVMay dcMay pmMay cdMay ctMay ocDue kVDue dcDue pmDue cdDue ctDue ocRows kVRows dcRows pmRows cdRows ctRows ocMOr kVMOr dcMOr pmMOr cdMOr ctMOr ocMMay kVMMay dcMMay pmMMay cdMMay ctMMay ocMAl kVMAl dcMAl pmMAl cdMAl ctMAl ocMFi kVMFi dcMFi pmMFi cdMFi ctMFi ocInit dcInit pmInit cdInit ctInit ocSInit kVSInit dcSInit pmSInit cdSInit ctSInit ocMSl dcMSl pmMSl cdMSl ctMSl ocLaw kVLaw dcLaw pmLaw cdLaw ctLaw : Value}
    (aSE : PySem.W.nsIn K mainGlobals "SettingsError" = some (some (.ref CS)))
    (tp : PySem.W.nsIn K PySem.cStatics "thirdparty.any" = some none)
    (su : PySem.W.nsIn K mainGlobals "super" = some none)
    (topp : (P.main.scope.names.lookup ("super" : Str)).isSome = false)
    (agX : PySem.W.nsIn K mainGlobals "BadRule" = some (some (.ref CX)))
    (xLX : K.lookup CX = some (excClassObj nmX qX CX NX bsX [.ref CS, .type "ValueError", .type "Exception", .type "BaseException", .type "object"] true snX subX abX colX ddX m0X m1X m2X m3X m5X "ValueError.__new__"))
    (saX : PySem.W.findIn K (.ref CX) "__setattr__" = some (some (.builtin "object.__setattr__")))
    (nb0X : PySem.W.findIn K (.ref CX) "worth" = some none)
    (iCX : PySem.W.findIn K (.ref CX) "__init__" = some (some (.ref fX)))
    (tIX : PySem.W.typeIn K (.ref fX) = some (.type "function"))
    (kCX : PySem.W.keepIn K (.ref CX) = true)
    (eCX : PySem.W.subIn K (.ref CX) (.type "BaseException") = some true)
    (vCX : PySem.W.subIn K (.ref CX) (.type "ValueError") = some true)
    (tCX : PySem.W.typeIn K (.ref CX) = some (.type "type"))
    (hCX : PySem.W.hasDictIn K CX = true)
    (sCX : PySem.W.subIn K (.ref CX) (.ref CX) = some true)
    (mCX : PySem.W.mroIn K CX (.ref CX) = some true)
    (supX : PySem.W.ks_superIn K CX CX "__init__" = some (some (.builtin "ValueError.__init__")))
    (lIX : K.lookup fX = some ⟨oIX, odIX, .func (PySem.W.ksFn "__init__" "BadRule.__init__" (K9E.eA ⟨14, 17, 14, 21⟩ ⟨14, 23, 14, 28⟩) (K9E.eB "a part of a slip rule that is none" 0 ⟨15, 8, 15, 13⟩ ⟨15, 8, 15, 15⟩ ⟨15, 8, 15, 24⟩ ⟨15, 25, 15, 61⟩ ⟨15, 8, 15, 62⟩ ⟨15, 8, 15, 62⟩ ⟨16, 8, 16, 12⟩ ⟨16, 8, 16, 18⟩ ⟨16, 21, 16, 26⟩ ⟨16, 8, 16, 26⟩) K9E.eS .none .none docIX pmIX anIX (.ref cdaX) ctIX ccX), slIX⟩)
    (cIX : PySem.W.codeIn K (.ref cdaX) "BadRule.__init__" = true)
    (lDX : K.lookup cdaX = some ⟨cclX, cddX, .fields vsX, ccsX⟩)
    (vfX : vsX[2]? = some (.str fileX tfX))
    (pfX : ((P.main.file : Str) == fileX) = true)
    (lcX : K.lookup ccX = some ⟨clX, cldX, .cell (some (.ref CX)), cslX⟩)
    (aCcC : PySem.W.nsIn K mainGlobals "SlipRule" = some (some (.ref CR)))
    (pgC : PySem.W.plainGet K CR Str.empty = true)
    (hdC : PySem.W.hasDictIn K CR = true)
    (poC : PySem.W.plainOver K CR = true)
    (osaC : PySem.W.findIn K (.ref CR) "__setattr__" = some (some (.builtin "object.__setattr__")))
    (mkC : PySem.W.makesIn K CR = true)
    (kpC : PySem.W.keepIn K (.ref CR) = true)
    (nC0 : PySem.W.findIn K (.ref CR) "kinds" = some none)
    (nC1 : PySem.W.findIn K (.ref CR) "looks" = some none)
    (nC2 : PySem.W.findIn K (.ref CR) "parts" = some none)
    (aCcS : PySem.W.nsIn K mainGlobals "Slip" = some (some (.ref CSl)))
    (pgS : PySem.W.plainGet K CSl Str.empty = true)
    (hdS : PySem.W.hasDictIn K CSl = true)
    (poS : PySem.W.plainOver K CSl = true)
    (osaS : PySem.W.findIn K (.ref CSl) "__setattr__" = some (some (.builtin "object.__setattr__")))
    (mkS : PySem.W.makesIn K CSl = true)
    (kpS : PySem.W.keepIn K (.ref CSl) = true)
    (nS0 : PySem.W.findIn K (.ref CSl) "kind" = some none)
    (nS1 : PySem.W.findIn K (.ref CSl) "at" = some none)
    (nS2 : PySem.W.findIn K (.ref CSl) "token" = some none)
    (ohaC : PySem.W.findIn K (.ref CR) "__class__" = some (some (.builtin "object.__class__")))
    (ohmC : PySem.W.mroIn K CR (.type "object") = some true)
    (hn : PySem.W.specialIn K (.builtin "object.__class__") "__get__" = some (some (.builtin "getset_descriptor.__get__")))
    (htk : PySem.W.takesIn K (.builtin "object.__class__") = some true)
    (sfC : PySem.W.selfFirst K CR = true)
    (iInit : PySem.W.findIn K (.ref CR) "__init__" = some (some (.ref fInit)))
    (jInit : PySem.W.isFn K (.ref fInit) = true)
    (lInit : K.lookup fInit = some ⟨ocInit, odInit, .func (PySem.W.fnOf "__init__" "SlipRule.__init__" (defArgs sRInit) (defBody sRInit) (defScope sRInit) .none (.ref aKW) dcInit pmInit anInit cdInit ctInit), slInit⟩)
    (cInit : PySem.W.codeIn K cdInit "SlipRule.__init__" = true)
    (kInit : PySem.W.keepIn K (.ref fInit) = true)
    (w1 : PySem.W.nsIn K aKW "looks" = some (some (.ref aLk)))
    (lLk : K.lookup aLk = some ⟨.type "tuple", dLk, .seq iLk nLk, slLk⟩)
    (vLk : iLk = #[])
    (iSInit : PySem.W.findIn K (.ref CSl) "__init__" = some (some (.ref fSInit)))
    (jSInit : PySem.W.isFn K (.ref fSInit) = true)
    (lSInit : K.lookup fSInit = some ⟨ocSInit, odSInit, .func (PySem.W.fnOf "__init__" "Slip.__init__" (defArgs sSInit) (defBody sSInit) (defScope sSInit) (.ref aDf) kVSInit dcSInit pmSInit anSInit cdSInit ctSInit), slSInit⟩)
    (cSInit : PySem.W.codeIn K cdSInit "Slip.__init__" = true)
    (kSInit : PySem.W.keepIn K (.ref fSInit) = true)
    (lDf : K.lookup aDf = some ⟨.type "tuple", dDf, .seq iDf nDf, slDf⟩)
    (vDf : iDf = #[.none])
    (iMSl : PySem.W.findIn K (.ref CR) "slips" = some (some (.ref fMSl)))
    (jMSl : PySem.W.isFn K (.ref fMSl) = true)
    (lMSl : K.lookup fMSl = some ⟨ocMSl, odMSl, .func (PySem.W.fnOf "slips" "SlipRule.slips" (defArgs sRSl) (defBody sRSl) (defScope sRSl) .none (.ref aKM) dcMSl pmMSl anMSl cdMSl ctMSl), slMSl⟩)
    (cMSl : PySem.W.codeIn K cdMSl "SlipRule.slips" = true)
    (kMSl : PySem.W.keepIn K (.ref fMSl) = true)
    (w2 : PySem.W.nsIn K aKM "words" = some (some (.ref aE1)))
    (w3 : PySem.W.nsIn K aKM "numbers" = some (some (.ref aE2)))
    (lE1 : K.lookup aE1 = some ⟨.type "tuple", dE1, .seq iE1 nE1, slE1⟩)
    (vE1 : iE1 = #[])
    (lE2 : K.lookup aE2 = some ⟨.type "tuple", dE2, .seq iE2 nE2, slE2⟩)
    (vE2 : iE2 = #[])
    (iMOr : PySem.W.findIn K (.ref CR) "__or__" = some (some (.ref fMOr)))
    (jMOr : PySem.W.isFn K (.ref fMOr) = true)
    (lMOr : K.lookup fMOr = some ⟨ocMOr, odMOr, .func (PySem.W.fnOf "__or__" "SlipRule.__or__" (defArgs sROr) (defBody sROr) (defScope sROr) .none kVMOr dcMOr pmMOr anMOr cdMOr ctMOr), slMOr⟩)
    (cMOr : PySem.W.codeIn K cdMOr "SlipRule.__or__" = true)
    (kMOr : PySem.W.keepIn K (.ref fMOr) = true)
    (iMMay : PySem.W.findIn K (.ref CR) "may_write" = some (some (.ref fMMay)))
    (jMMay : PySem.W.isFn K (.ref fMMay) = true)
    (lMMay : K.lookup fMMay = some ⟨ocMMay, odMMay, .func (PySem.W.fnOf "may_write" "SlipRule.may_write" (defArgs sRMay) (defBody sRMay) (defScope sRMay) .none kVMMay dcMMay pmMMay anMMay cdMMay ctMMay), slMMay⟩)
    (cMMay : PySem.W.codeIn K cdMMay "SlipRule.may_write" = true)
    (kMMay : PySem.W.keepIn K (.ref fMMay) = true)
    (iMAl : PySem.W.findIn K (.ref CR) "allows" = some (some (.ref fMAl)))
    (jMAl : PySem.W.isFn K (.ref fMAl) = true)
    (lMAl : K.lookup fMAl = some ⟨ocMAl, odMAl, .func (PySem.W.fnOf "allows" "SlipRule.allows" (defArgs sRAl) (defBody sRAl) (defScope sRAl) .none kVMAl dcMAl pmMAl anMAl cdMAl ctMAl), slMAl⟩)
    (cMAl : PySem.W.codeIn K cdMAl "SlipRule.allows" = true)
    (kMAl : PySem.W.keepIn K (.ref fMAl) = true)
    (iMFi : PySem.W.findIn K (.ref CSl) "fits" = some (some (.ref fMFi)))
    (jMFi : PySem.W.isFn K (.ref fMFi) = true)
    (lMFi : K.lookup fMFi = some ⟨ocMFi, odMFi, .func (PySem.W.fnOf "fits" "Slip.fits" (defArgs sSFits) (defBody sSFits) (defScope sSFits) .none kVMFi dcMFi pmMFi anMFi cdMFi ctMFi), slMFi⟩)
    (cMFi : PySem.W.codeIn K cdMFi "Slip.fits" = true)
    (kMFi : PySem.W.keepIn K (.ref fMFi) = true)
    (gL : PySem.W.nsIn K mainGlobals "LETTERS" = some (some (.str K5S.cLetters tL)))
    (gDi : PySem.W.nsIn K mainGlobals "DIGITS" = some (some (.str K5S.cDigits tD)))
    (gM : PySem.W.nsIn K mainGlobals "LONGEST" = some (some (.int 12 tM)))
    (gG : PySem.W.nsIn K mainGlobals "SIGNS" = some (some (.ref aS)))
    (lS : K.lookup aS = some ⟨.type "tuple", dS, .seq iS nS, slS⟩)
    (vS : iS = #[.str "=" g1, .str ";" g2, .str "," g3, .str "[" g4, .str "]" g5])
    (gW : PySem.W.nsIn K mainGlobals "WORDS" = some (some (.ref aW)))
    (lW : K.lookup aW = some ⟨.type "tuple", dW, .seq iW nW, slW⟩)
    (vW : iW = #[.str "left" h1, .str "doubled" h2, .str "swapped" h3, .str "word" h4, .str "number" h5, .str "sign" h6])
    (gKi : PySem.W.nsIn K mainGlobals "KINDS" = some (some (.ref aKi)))
    (lKi : K.lookup aKi = some ⟨.type "tuple", dKi, .seq iKi nKi, slKi⟩)
    (vKi : iKi = #[.str "left" i1, .str "doubled" i2, .str "swapped" i3, .str "written" i4])
    (zint : PySem.W.nsIn K mainGlobals "int" = some none)
    (zlen : PySem.W.nsIn K mainGlobals "len" = some none)
    (zsum : PySem.W.nsIn K mainGlobals "sum" = some none)
    (zabs : PySem.W.nsIn K mainGlobals "abs" = some none)
    (zrange : PySem.W.nsIn K mainGlobals "range" = some none)
    (zstr : PySem.W.nsIn K mainGlobals "str" = some none)
    (zall : PySem.W.nsIn K mainGlobals "all" = some none)
    (zisi : PySem.W.nsIn K mainGlobals "isinstance" = some none)
    (zrepr : PySem.W.nsIn K mainGlobals "repr" = some none)
    (zlist : PySem.W.nsIn K mainGlobals "list" = some none)
    (ztuple : PySem.W.nsIn K mainGlobals "tuple" = some none)
    (zset : PySem.W.nsIn K mainGlobals "set" = some none)
    (zdict : PySem.W.nsIn K mainGlobals "dict" = some none)
    (zbool : PySem.W.nsIn K mainGlobals "bool" = some none)
    (zsorted : PySem.W.nsIn K mainGlobals "sorted" = some none)
    (aOneOf : PySem.W.nsIn K mainGlobals "is_one_of" = some (some (.ref fOneOf)))
    (lOneOf : K.lookup fOneOf = some ⟨ocOneOf, odOneOf, .func (PySem.W.fnOf "is_one_of" "is_one_of" (defArgs sOneOf) (defBody sOneOf) (defScope sOneOf) .none kVOneOf dcOneOf pmOneOf anOneOf cdOneOf ctOneOf), slOneOf⟩)
    (cOneOf : PySem.W.codeIn K cdOneOf "is_one_of" = true)
    (kOneOf : PySem.W.keepIn K (.ref fOneOf) = true)
    (aCons : PySem.W.nsIn K mainGlobals "consists_of" = some (some (.ref fCons)))
    (lCons : K.lookup fCons = some ⟨ocCons, odCons, .func (PySem.W.fnOf "consists_of" "consists_of" (defArgs K5S.sConsists) (defBody K5S.sConsists) (defScope K5S.sConsists) .none kVCons dcCons pmCons anCons cdCons ctCons), slCons⟩)
    (cCons : PySem.W.codeIn K cdCons "consists_of" = true)
    (kCons : PySem.W.keepIn K (.ref fCons) = true)
    (aIsW : PySem.W.nsIn K mainGlobals "is_word" = some (some (.ref fIsW)))
    (lIsW : K.lookup fIsW = some ⟨ocIsW, odIsW, .func (PySem.W.fnOf "is_word" "is_word" (defArgs K5S.sIsWord) (defBody K5S.sIsWord) (defScope K5S.sIsWord) .none kVIsW dcIsW pmIsW anIsW cdIsW ctIsW), slIsW⟩)
    (cIsW : PySem.W.codeIn K cdIsW "is_word" = true)
    (kIsW : PySem.W.keepIn K (.ref fIsW) = true)
    (aIsN : PySem.W.nsIn K mainGlobals "is_numeral" = some (some (.ref fIsN)))
    (lIsN : K.lookup fIsN = some ⟨ocIsN, odIsN, .func (PySem.W.fnOf "is_numeral" "is_numeral" (defArgs K5S.sIsNumeral) (defBody K5S.sIsNumeral) (defScope K5S.sIsNumeral) .none kVIsN dcIsN pmIsN anIsN cdIsN ctIsN), slIsN⟩)
    (cIsN : PySem.W.codeIn K cdIsN "is_numeral" = true)
    (kIsN : PySem.W.keepIn K (.ref fIsN) = true)
    (aIsI : PySem.W.nsIn K mainGlobals "is_integer" = some (some (.ref fIsI)))
    (lIsI : K.lookup fIsI = some ⟨ocIsI, odIsI, .func (PySem.W.fnOf "is_integer" "is_integer" (defArgs sInteger) (defBody sInteger) (defScope sInteger) .none kVIsI dcIsI pmIsI anIsI cdIsI ctIsI), slIsI⟩)
    (cIsI : PySem.W.codeIn K cdIsI "is_integer" = true)
    (kIsI : PySem.W.keepIn K (.ref fIsI) = true)
    (aIsS : PySem.W.nsIn K mainGlobals "is_sign" = some (some (.ref fIsS)))
    (lIsS : K.lookup fIsS = some ⟨ocIsS, odIsS, .func (PySem.W.fnOf "is_sign" "is_sign" (defArgs K5S.sIsSign) (defBody K5S.sIsSign) (defScope K5S.sIsSign) .none kVIsS dcIsS pmIsS anIsS cdIsS ctIsS), slIsS⟩)
    (cIsS : PySem.W.codeIn K cdIsS "is_sign" = true)
    (kIsS : PySem.W.keepIn K (.ref fIsS) = true)
    (aSort : PySem.W.nsIn K mainGlobals "sort_of" = some (some (.ref fSort)))
    (lSort : K.lookup fSort = some ⟨ocSort, odSort, .func (PySem.W.fnOf "sort_of" "sort_of" (defArgs K5S.sSortOf) (defBody K5S.sSortOf) (defScope K5S.sSortOf) .none kVSort dcSort pmSort anSort cdSort ctSort), slSort⟩)
    (cSort : PySem.W.codeIn K cdSort "sort_of" = true)
    (kSort : PySem.W.keepIn K (.ref fSort) = true)
    (aIsSl : PySem.W.nsIn K mainGlobals "is_slip" = some (some (.ref fIsSl)))
    (lIsSl : K.lookup fIsSl = some ⟨ocIsSl, odIsSl, .func (PySem.W.fnOf "is_slip" "is_slip" (defArgs sIsSlip) (defBody sIsSlip) (defScope sIsSlip) .none kVIsSl dcIsSl pmIsSl anIsSl cdIsSl ctIsSl), slIsSl⟩)
    (cIsSl : PySem.W.codeIn K cdIsSl "is_slip" = true)
    (kIsSl : PySem.W.keepIn K (.ref fIsSl) = true)
    (aLook : PySem.W.nsIn K mainGlobals "is_look" = some (some (.ref fLook)))
    (lLook : K.lookup fLook = some ⟨ocLook, odLook, .func (PySem.W.fnOf "is_look" "is_look" (defArgs sLook) (defBody sLook) (defScope sLook) .none kVLook dcLook pmLook anLook cdLook ctLook), slLook⟩)
    (cLook : PySem.W.codeIn K cdLook "is_look" = true)
    (kLook : PySem.W.keepIn K (.ref fLook) = true)
    (aClassOf : PySem.W.nsIn K mainGlobals "class_of" = some (some (.ref fClassOf)))
    (lClassOf : K.lookup fClassOf = some ⟨ocClassOf, odClassOf, .func (PySem.W.fnOf "class_of" "class_of" (defArgs sClassOf) (defBody sClassOf) (defScope sClassOf) .none kVClassOf dcClassOf pmClassOf anClassOf cdClassOf ctClassOf), slClassOf⟩)
    (cClassOf : PySem.W.codeIn K cdClassOf "class_of" = true)
    (kClassOf : PySem.W.keepIn K (.ref fClassOf) = true)
    (aOnce : PySem.W.nsIn K mainGlobals "each_once" = some (some (.ref fOnce)))
    (lOnce : K.lookup fOnce = some ⟨ocOnce, odOnce, .func (PySem.W.fnOf "each_once" "each_once" (defArgs sOnce) (defBody sOnce) (defScope sOnce) .none kVOnce dcOnce pmOnce anOnce cdOnce ctOnce), slOnce⟩)
    (cOnce : PySem.W.codeIn K cdOnce "each_once" = true)
    (kOnce : PySem.W.keepIn K (.ref fOnce) = true)
    (aMadeR : PySem.W.nsIn K mainGlobals "made_rule" = some (some (.ref fMadeR)))
    (lMadeR : K.lookup fMadeR = some ⟨ocMadeR, odMadeR, .func (PySem.W.fnOf "made_rule" "made_rule" (defArgs sMade) (defBody sMade) (defScope sMade) .none kVMadeR dcMadeR pmMadeR anMadeR cdMadeR ctMadeR), slMadeR⟩)
    (cMadeR : PySem.W.codeIn K cdMadeR "made_rule" = true)
    (kMadeR : PySem.W.keepIn K (.ref fMadeR) = true)
    (aPool : PySem.W.nsIn K mainGlobals "_law_pool" = some (some (.ref fPool)))
    (lPool : K.lookup fPool = some ⟨ocPool, odPool, .func (PySem.W.fnOf "_law_pool" "_law_pool" (defArgs sPool) (defBody sPool) (defScope sPool) .none kVPool dcPool pmPool anPool cdPool ctPool), slPool⟩)
    (cPool : PySem.W.codeIn K cdPool "_law_pool" = true)
    (kPool : PySem.W.keepIn K (.ref fPool) = true)
    (aPick : PySem.W.nsIn K mainGlobals "_law_pick" = some (some (.ref fPick)))
    (lPick : K.lookup fPick = some ⟨ocPick, odPick, .func (PySem.W.fnOf "_law_pick" "_law_pick" (defArgs sPick) (defBody sPick) (defScope sPick) .none kVPick dcPick pmPick anPick cdPick ctPick), slPick⟩)
    (cPick : PySem.W.codeIn K cdPick "_law_pick" = true)
    (kPick : PySem.W.keepIn K (.ref fPick) = true)
    (aOf : PySem.W.nsIn K mainGlobals "_law_of" = some (some (.ref fOf)))
    (lOf : K.lookup fOf = some ⟨ocOf, odOf, .func (PySem.W.fnOf "_law_of" "_law_of" (defArgs sOf) (defBody sOf) (defScope sOf) .none kVOf dcOf pmOf anOf cdOf ctOf), slOf⟩)
    (cOf : PySem.W.codeIn K cdOf "_law_of" = true)
    (kOf : PySem.W.keepIn K (.ref fOf) = true)
    (aWord : PySem.W.nsIn K mainGlobals "_law_word" = some (some (.ref fWord)))
    (lWord : K.lookup fWord = some ⟨ocWord, odWord, .func (PySem.W.fnOf "_law_word" "_law_word" (defArgs K5S.sLawWord) (defBody K5S.sLawWord) (defScope K5S.sLawWord) .none kVWord dcWord pmWord anWord cdWord ctWord), slWord⟩)
    (cWord : PySem.W.codeIn K cdWord "_law_word" = true)
    (kWord : PySem.W.keepIn K (.ref fWord) = true)
    (aWords : PySem.W.nsIn K mainGlobals "_law_words" = some (some (.ref fWords)))
    (lWords : K.lookup fWords = some ⟨ocWords, odWords, .func (PySem.W.fnOf "_law_words" "_law_words" (defArgs K5S.sLawWords) (defBody K5S.sLawWords) (defScope K5S.sLawWords) .none kVWords dcWords pmWords anWords cdWords ctWords), slWords⟩)
    (cWords : PySem.W.codeIn K cdWords "_law_words" = true)
    (kWords : PySem.W.keepIn K (.ref fWords) = true)
    (aToks : PySem.W.nsIn K mainGlobals "_law_tokens" = some (some (.ref fToks)))
    (lToks : K.lookup fToks = some ⟨ocToks, odToks, .func (PySem.W.fnOf "_law_tokens" "_law_tokens" (defArgs K5S.sTokens) (defBody K5S.sTokens) (defScope K5S.sTokens) .none kVToks dcToks pmToks anToks cdToks ctToks), slToks⟩)
    (cToks : PySem.W.codeIn K cdToks "_law_tokens" = true)
    (kToks : PySem.W.keepIn K (.ref fToks) = true)
    (aLRule : PySem.W.nsIn K mainGlobals "_law_rule" = some (some (.ref fLRule)))
    (lLRule : K.lookup fLRule = some ⟨ocLRule, odLRule, .func (PySem.W.fnOf "_law_rule" "_law_rule" (defArgs sLRule) (defBody sLRule) (defScope sLRule) .none kVLRule dcLRule pmLRule anLRule cdLRule ctLRule), slLRule⟩)
    (cLRule : PySem.W.codeIn K cdLRule "_law_rule" = true)
    (kLRule : PySem.W.keepIn K (.ref fLRule) = true)
    (aFam : PySem.W.nsIn K mainGlobals "_law_family" = some (some (.ref fFam)))
    (lFam : K.lookup fFam = some ⟨ocFam, odFam, .func (PySem.W.fnOf "_law_family" "_law_family" (defArgs sLFam) (defBody sLFam) (defScope sLFam) .none kVFam dcFam pmFam anFam cdFam ctFam), slFam⟩)
    (cFam : PySem.W.codeIn K cdFam "_law_family" = true)
    (kFam : PySem.W.keepIn K (.ref fFam) = true)
    (aMay : PySem.W.nsIn K mainGlobals "_law_may" = some (some (.ref fMay)))
    (lMay : K.lookup fMay = some ⟨ocMay, odMay, .func (PySem.W.fnOf "_law_may" "_law_may" (defArgs sLMay) (defBody sLMay) (defScope sLMay) .none kVMay dcMay pmMay anMay cdMay ctMay), slMay⟩)
    (cMay : PySem.W.codeIn K cdMay "_law_may" = true)
    (kMay : PySem.W.keepIn K (.ref fMay) = true)
    (aDue : PySem.W.nsIn K mainGlobals "_law_due" = some (some (.ref fDue)))
    (lDue : K.lookup fDue = some ⟨ocDue, odDue, .func (PySem.W.fnOf "_law_due" "_law_due" (defArgs sLDue) (defBody sLDue) (defScope sLDue) .none kVDue dcDue pmDue anDue cdDue ctDue), slDue⟩)
    (cDue : PySem.W.codeIn K cdDue "_law_due" = true)
    (kDue : PySem.W.keepIn K (.ref fDue) = true)
    (aRows : PySem.W.nsIn K mainGlobals "_law_rows" = some (some (.ref fRows)))
    (lRows : K.lookup fRows = some ⟨ocRows, odRows, .func (PySem.W.fnOf "_law_rows" "_law_rows" (defArgs sLRows) (defBody sLRows) (defScope sLRows) .none kVRows dcRows pmRows anRows cdRows ctRows), slRows⟩)
    (cRows : PySem.W.codeIn K cdRows "_law_rows" = true)
    (kRows : PySem.W.keepIn K (.ref fRows) = true)
    (aLaw : PySem.W.nsIn K mainGlobals "law" = some (some (.ref fLaw)))
    (lLaw : K.lookup fLaw = some ⟨ocLaw, odLaw, .func (PySem.W.fnOf "law" "law" (defArgs sLaw) (defBody sLaw) (defScope sLaw) .none kVLaw dcLaw pmLaw anLaw cdLaw ctLaw), slLaw⟩)
    (cLaw : PySem.W.codeIn K cdLaw "law" = true)
    (kLaw : PySem.W.keepIn K (.ref fLaw) = true) :
    ∃ fd : FuncData, (∀ (s : Shared) (v : Value), BindsTo s fd ⟨[v], []⟩ [("_law_script", v)]) ∧ ∀ base : Heap, K.In base → base.Ns mainGlobals mg → FnG P w K mg base 13 fa fd ["_law_script"] (spLaw K) := by
  have e := hfa.symm.trans (PySem.W.mg_of X G aLaw)
  cases e
  have M0 : Bare mg := { int := PySem.W.mg_none_of X G zint, len := PySem.W.mg_none_of X G zlen, sum := PySem.W.mg_none_of X G zsum, abs := PySem.W.mg_none_of X G zabs, range := PySem.W.mg_none_of X G zrange, str := PySem.W.mg_none_of X G zstr, all := PySem.W.mg_none_of X G zall, isi := PySem.W.mg_none_of X G zisi, repr := PySem.W.mg_none_of X G zrepr, list := PySem.W.mg_none_of X G zlist, tuple := PySem.W.mg_none_of X G ztuple, set := PySem.W.mg_none_of X G zset, dict := PySem.W.mg_none_of X G zdict, bool := PySem.W.mg_none_of X G zbool }
  have Z : K5S.Mod K mg aS := { M0 with letters := ⟨_, PySem.W.mg_of X G gL⟩, digits := ⟨_, PySem.W.mg_of X G gDi⟩, longest := ⟨_, PySem.W.mg_of X G gM⟩, sgn := PySem.W.mg_of X G gG, tup := ⟨_, iS, nS, lS, rfl, rfl, (signs_vals vS).1, (signs_vals vS).2⟩ }
  have TX : K9E.ErrTxt P K mg CX fX :=
    { gC := PySem.W.mg_of X G agX, cls := ⟨nmX, qX, NX, bsX, _, snX, subX, abX, colX, ddX, m0X, m1X, m2X, m3X, m5X, xLX, by rfl⟩, sa := saX, noN := nb0X, iC := iCX, tC := tIX, kC := kCX, exC := eCX, vaC := vCX, tyC := tCX, te := PySem.W.exm_ref eCX hCX tCX sCX, sub := mCX, sup := supX, tp := tp, su := PySem.W.mg_none_of X G su, top := topp,
      fn := ⟨_, _, _, _, _, cdaX, ccX, _, _, _, _, _, _, _, _, _, _, _, _, _, _, _, _, lIX, cIX, ⟨_, _, vsX, _, fileX, tfX, lDX, vfX, pfX⟩, fun env => ⟨_, rfl⟩, _, _, _, lcX⟩ }
  have WC : WordsC K mg aW := ⟨PySem.W.mg_of X G gW, PySem.W.mg_none_of X G zsorted, ⟨_, iW, nW, lW, rfl, rfl, (words_vals vW).1, (words_vals vW).2⟩⟩
  have RC : RuleC K mg CR := ⟨⟨pgC, hdC, poC, osaC⟩, nC0, nC1, nC2, PySem.W.mg_of X G aCcC, ohaC, hn, htk, ohmC⟩
  have SC : SlipC K mg CSl aKi := ⟨⟨pgS, hdS, poS, osaS⟩, nS0, nS1, nS2, PySem.W.mg_of X G aCcS, PySem.W.mg_of X G gKi, ⟨_, iKi, nKi, lKi, rfl, rfl, (kinds_vals vKi).1, (kinds_vals vKi).2⟩⟩
  have R : Rest P w K mg CR CSl CX fX aS aW aKi aLk aE1 aE2 fInit fSInit fMSl fMOr fMMay fMAl fMFi := ⟨Z, RC, SC, TX, WC, ⟨mkC, iInit, jInit, kpC⟩, ⟨mkS, iSInit, jSInit, kpS⟩, empty_dp lLk vLk, empty_dp lE1 vE1, empty_dp lE2 vE2, sfC, ⟨iMSl, jMSl, kMSl⟩, ⟨iMOr, jMOr, kMOr⟩, ⟨iMMay, jMMay, kMMay⟩, ⟨iMAl, jMAl, kMAl⟩, ⟨iMFi, jMFi, kMFi⟩⟩
  have hInit : FunD K "__init__" "SlipRule.__init__" (defArgs sRInit) (defBody sRInit) (defScope sRInit) [] [(("looks" : Str), .ref aLk)] fInit (PySem.W.fnOf "__init__" "SlipRule.__init__" (defArgs sRInit) (defBody sRInit) (defScope sRInit) .none (.ref aKW) dcInit pmInit anInit cdInit ctInit) :=
    ⟨⟨_, _, _, _, _, _, _, _, _, _, rfl, lInit, cInit, .inl ⟨rfl, rfl⟩, .inr ⟨aKW, rfl, fun x hx => by
      rw [List.mem_singleton.mp hx]
      exact ⟨_, w1, rfl⟩⟩⟩, kInit⟩
  have hSInit : FunD K "__init__" "Slip.__init__" (defArgs sSInit) (defBody sSInit) (defScope sSInit) [.non] [] fSInit (PySem.W.fnOf "__init__" "Slip.__init__" (defArgs sSInit) (defBody sSInit) (defScope sSInit) (.ref aDf) kVSInit dcSInit pmSInit anSInit cdSInit ctSInit) :=
    ⟨⟨_, _, _, _, _, _, _, _, _, _, rfl, lSInit, cSInit, .inr ⟨by simp, aDf, _, [.none], nDf, rfl, lDf, by rw [vDf], .cons rfl .nil⟩, .inl rfl⟩, kSInit⟩
  have hMSl : FunD K "slips" "SlipRule.slips" (defArgs sRSl) (defBody sRSl) (defScope sRSl) [] (kwsS aE1 aE2) fMSl (PySem.W.fnOf "slips" "SlipRule.slips" (defArgs sRSl) (defBody sRSl) (defScope sRSl) .none (.ref aKM) dcMSl pmMSl anMSl cdMSl ctMSl) :=
    ⟨⟨_, _, _, _, _, _, _, _, _, _, rfl, lMSl, cMSl, .inl ⟨rfl, rfl⟩, .inr ⟨aKM, rfl, fun x hx => by
      rcases List.mem_cons.mp hx with rfl | hx
      · exact ⟨_, w2, rfl⟩
      · rw [List.mem_singleton.mp hx]
        exact ⟨_, w3, rfl⟩⟩⟩, kMSl⟩
  have hOneOf := held (st := sOneOf) X G aOneOf lOneOf cOneOf kOneOf
  have bOneOf := hOneOf.1.binds (ps := ["thing", "words"]) fun _ _ _ _ _ _ us hl => match us, hl with | [_, _], _ => rfl
  have hCons := held (st := K5S.sConsists) X G aCons lCons cCons kCons
  have bCons := hCons.1.binds (ps := ["thing", "characters"]) fun _ _ _ _ _ _ us hl => match us, hl with | [_, _], _ => rfl
  have hIsW := held (st := K5S.sIsWord) X G aIsW lIsW cIsW kIsW
  have bIsW := hIsW.1.binds (ps := ["thing"]) fun _ _ _ _ _ _ us hl => match us, hl with | [_], _ => rfl
  have hIsN := held (st := K5S.sIsNumeral) X G aIsN lIsN cIsN kIsN
  have bIsN := hIsN.1.binds (ps := ["thing"]) fun _ _ _ _ _ _ us hl => match us, hl with | [_], _ => rfl
  have hIsI := held (st := sInteger) X G aIsI lIsI cIsI kIsI
  have bIsI := hIsI.1.binds (ps := ["thing"]) fun _ _ _ _ _ _ us hl => match us, hl with | [_], _ => rfl
  have hIsS := held (st := K5S.sIsSign) X G aIsS lIsS cIsS kIsS
  have bIsS := hIsS.1.binds (ps := ["thing"]) fun _ _ _ _ _ _ us hl => match us, hl with | [_], _ => rfl
  have hSort := held (st := K5S.sSortOf) X G aSort lSort cSort kSort
  have bSort := hSort.1.binds (ps := ["thing"]) fun _ _ _ _ _ _ us hl => match us, hl with | [_], _ => rfl
  have hIsSl := held (st := sIsSlip) X G aIsSl lIsSl cIsSl kIsSl
  have bIsSl := hIsSl.1.binds (ps := ["kind", "at", "token"]) fun _ _ _ _ _ _ us hl => match us, hl with | [_, _, _], _ => rfl
  have hLook := held (st := sLook) X G aLook lLook cLook kLook
  have bLook := hLook.1.binds (ps := ["thing"]) fun _ _ _ _ _ _ us hl => match us, hl with | [_], _ => rfl
  have hClassOf := held (st := sClassOf) X G aClassOf lClassOf cClassOf kClassOf
  have bClassOf := hClassOf.1.binds (ps := ["token"]) fun _ _ _ _ _ _ us hl => match us, hl with | [_], _ => rfl
  have hOnce := held (st := sOnce) X G aOnce lOnce cOnce kOnce
  have bOnce := hOnce.1.binds (ps := ["things"]) fun _ _ _ _ _ _ us hl => match us, hl with | [_], _ => rfl
  have hMadeR := held (st := sMade) X G aMadeR lMadeR cMadeR kMadeR
  have bMadeR := hMadeR.1.binds (ps := ["kinds", "looks"]) fun _ _ _ _ _ _ us hl => match us, hl with | [_, _], _ => rfl
  have hPool := held (st := sPool) X G aPool lPool cPool kPool
  have bPool := hPool.1.binds (ps := ["_law_script", "_law_place"]) fun _ _ _ _ _ _ us hl => match us, hl with | [_, _], _ => rfl
  have hPick := held (st := sPick) X G aPick lPick cPick kPick
  have bPick := hPick.1.binds (ps := ["_law_pool_here", "_law_many"]) fun _ _ _ _ _ _ us hl => match us, hl with | [_, _], _ => rfl
  have hOf := held (st := sOf) X G aOf lOf cOf kOf
  have bOf := hOf.1.binds (ps := ["_law_pool_here", "_law_some"]) fun _ _ _ _ _ _ us hl => match us, hl with | [_, _], _ => rfl
  have hWord := held (st := K5S.sLawWord) X G aWord lWord cWord kWord
  have bWord := hWord.1.binds (ps := ["_law_pool_here", "_law_taken"]) fun _ _ _ _ _ _ us hl => match us, hl with | [_, _], _ => rfl
  have hWords := held (st := K5S.sLawWords) X G aWords lWords cWords kWords
  have bWords := hWords.1.binds (ps := ["_law_pool_here", "_law_many", "_law_taken"]) fun _ _ _ _ _ _ us hl => match us, hl with | [_, _, _], _ => rfl
  have hToks := held (st := K5S.sTokens) X G aToks lToks cToks kToks
  have bToks := hToks.1.binds (ps := ["_law_pool_here", "_law_many"]) fun _ _ _ _ _ _ us hl => match us, hl with | [_, _], _ => rfl
  have hLRule := held (st := sLRule) X G aLRule lLRule cLRule kLRule
  have bLRule := hLRule.1.binds (ps := ["_law_pool_here"]) fun _ _ _ _ _ _ us hl => match us, hl with | [_], _ => rfl
  have hFam := held (st := sLFam) X G aFam lFam cFam kFam
  have bFam := hFam.1.binds (ps := ["_law_one"]) fun _ _ _ _ _ _ us hl => match us, hl with | [_], _ => rfl
  have hMay := held (st := sLMay) X G aMay lMay cMay kMay
  have bMay := hMay.1.binds (ps := ["_law_parts", "_law_given", "_law_file", "_law_slip"]) fun _ _ _ _ _ _ us hl => match us, hl with | [_, _, _, _], _ => rfl
  have hDue := held (st := sLDue) X G aDue lDue cDue kDue
  have bDue := hDue.1.binds (ps := ["_law_parts", "_law_given", "_law_file", "_law_some"]) fun _ _ _ _ _ _ us hl => match us, hl with | [_, _, _, _], _ => rfl
  have hRows := held (st := sLRows) X G aRows lRows cRows kRows
  have bRows := hRows.1.binds (ps := ["_law_slips"]) fun _ _ _ _ _ _ us hl => match us, hl with | [_], _ => rfl
  have hMOr := fun_mk (st := sROr) lMOr cMOr kMOr
  have bMOr := hMOr.binds (ps := ["self", "other"]) fun _ _ _ _ _ _ us hl => match us, hl with | [_, _], _ => rfl
  have hMMay := fun_mk (st := sRMay) lMMay cMMay kMMay
  have bMMay := hMMay.binds (ps := ["self", "old", "token"]) fun _ _ _ _ _ _ us hl => match us, hl with | [_, _, _], _ => rfl
  have hMAl := fun_mk (st := sRAl) lMAl cMAl kMAl
  have bMAl := hMAl.binds (ps := ["self", "file", "slip"]) fun _ _ _ _ _ _ us hl => match us, hl with | [_, _, _], _ => rfl
  have hMFi := fun_mk (st := sSFits) lMFi cMFi kMFi
  have bMFi := hMFi.binds (ps := ["self", "file"]) fun _ _ _ _ _ _ us hl => match us, hl with | [_, _], _ => rfl
  exact ⟨PySem.W.fnOf "law" "law" (defArgs sLaw) (defBody sLaw) (defScope sLaw) .none kVLaw dcLaw pmLaw anLaw cdLaw ctLaw, fun s v => .of_eq rfl, fun base _ _ => all_of R hOneOf hCons hIsW hIsN hIsI hIsS hSort hIsSl hLook hClassOf hOnce hMadeR hPool hPick hOf hWord hWords hToks hLRule hFam hMay hDue hRows hMOr hMMay hMAl hMFi hInit hSInit hMSl (fun_mk (st := sLaw) lLaw cLaw kLaw) bOneOf bCons bIsW bIsN bIsI bIsS bSort bIsSl bLook bClassOf bOnce bMadeR bPool bPick bOf bWord bWords bToks bLRule bFam bMay bDue bRows bMOr bMMay bMAl bMFi⟩
theorem walk {l : PySem.W.OpenLaw} {q : Program} {loose : List Str} {XP : (Str → Option Value) → Heap → Prop} {YP : World → Heap → Prop} {d : DefRec} {K : Params → PySem.W.Frag} (hn : l.most = some 63) (hdf : d.params.defaults = [])
    (hY : ∀ (w : World) (h : Heap), YP w h → (K w.params).In h)
    (F : ∀ (w : World) (mg : Str → Option Value) (fa : Addr) (h : Heap), (K w.params).In h → h.Ns mainGlobals mg → mg d.name = some (.ref fa) →
      ∃ fd : FuncData, (∀ (s : Shared) (u : Value), BindsTo s fd ⟨[u], []⟩ [("_law_script", u)]) ∧ ∀ base : Heap, (K w.params).In base → base.Ns mainGlobals mg → FnG l.prog w (K w.params) mg base 13 fa fd ["_law_script"] (spLaw (K w.params))) :
    PySem.W.WalkO q loose XP YP l.row.toRowW d [] (fun f vs => PySem.call f vs) :=
  L2.walk_ofG (n := 63) (k := 13) (x := "_law_script") (sp := fun w => spLaw (K w.params)) hn (by decide) hdf ⟨rfl, by decide, by decide⟩ hY F fun _ _ a ns hl _ hS => ⟨a, ns, rfl, hS, hl, fun _ => rfl⟩
end K5

open PySem PySem.W PyProof.Rows in
set_option maxRecDepth 100000 in
set_option maxHeartbeats 0 in
theorem PySem.Challenge.cw_slipreach_k10_slips_of_a_file_in_order_holds : PySem.Challenge.rw_slipreach_k10_slips_of_a_file_in_order.Holds := by
  w_on
  o_law
  k_head
  (case hw => w_witness2)
  k_fill
  refine K5.walk (l := PySem.Challenge.rw_slipreach_k10_slips_of_a_file_in_order) rfl rfl (fun w h Y => kIn_of Y) ?F
  case F =>
    intro w mg fa h KX G hmg
    refine' K5.all_mk KX G hmg ?aSE ?tp ?su ?topp ?agX ?xLX ?saX ?nb0X ?iCX ?tIX ?kCX ?eCX ?vCX ?tCX ?hCX ?sCX ?mCX ?supX ?lIX ?cIX ?lDX ?vfX ?pfX ?lcX ?aCcC ?pgC ?hdC ?poC ?osaC ?mkC ?kpC ?nC0 ?nC1 ?nC2 ?aCcS ?pgS ?hdS ?poS ?osaS ?mkS ?kpS ?nS0 ?nS1 ?nS2 ?ohaC ?ohmC ?hn ?htk ?sfC ?iInit ?jInit ?lInit ?cInit ?kInit ?w1 ?lLk ?vLk ?iSInit ?jSInit ?lSInit ?cSInit ?kSInit ?lDf ?vDf ?iMSl ?jMSl ?lMSl ?cMSl ?kMSl ?w2 ?w3 ?lE1 ?vE1 ?lE2 ?vE2 ?iMOr ?jMOr ?lMOr ?cMOr ?kMOr ?iMMay ?jMMay ?lMMay ?cMMay ?kMMay ?iMAl ?jMAl ?lMAl ?cMAl ?kMAl ?iMFi ?jMFi ?lMFi ?cMFi ?kMFi ?gL ?gDi ?gM ?gG ?lS ?vS ?gW ?lW ?vW ?gKi ?lKi ?vKi ?zint ?zlen ?zsum ?zabs ?zrange ?zstr ?zall ?zisi ?zrepr ?zlist ?ztuple ?zset ?zdict ?zbool ?zsorted ?aOneOf ?lOneOf ?cOneOf ?kOneOf ?aCons ?lCons ?cCons ?kCons ?aIsW ?lIsW ?cIsW ?kIsW ?aIsN ?lIsN ?cIsN ?kIsN ?aIsI ?lIsI ?cIsI ?kIsI ?aIsS ?lIsS ?cIsS ?kIsS ?aSort ?lSort ?cSort ?kSort ?aIsSl ?lIsSl ?cIsSl ?kIsSl ?aLook ?lLook ?cLook ?kLook ?aClassOf ?lClassOf ?cClassOf ?kClassOf ?aOnce ?lOnce ?cOnce ?kOnce ?aMadeR ?lMadeR ?cMadeR ?kMadeR ?aPool ?lPool ?cPool ?kPool ?aPick ?lPick ?cPick ?kPick ?aOf ?lOf ?cOf ?kOf ?aWord ?lWord ?cWord ?kWord ?aWords ?lWords ?cWords ?kWords ?aToks ?lToks ?cToks ?kToks ?aLRule ?lLRule ?cLRule ?kLRule ?aFam ?lFam ?cFam ?kFam ?aMay ?lMay ?cMay ?kMay ?aDue ?lDue ?cDue ?kDue ?aRows ?lRows ?cRows ?kRows ?aLaw ?lLaw ?cLaw ?kLaw
    (case aSE => k_is)
    (case tp => k_is)
    (case su => k_is)
    (case topp => first | rfl | decide +kernel)
    (case agX => k_is)
    (case xLX => k_is)
    (case saX => k_is)
    (case nb0X => k_is)
    (case iCX => k_is)
    (case tIX => k_is)
    (case kCX => k_is)
    (case eCX => k_is)
    (case vCX => k_is)
    (case tCX => k_is)
    (case hCX => k_is)
    (case sCX => first | rfl | k_is)
    (case mCX => k_is)
    (case supX => ks_is)
    (case lIX => k_is)
    (case cIX => k_is)
    (case lDX => k_is)
    (case vfX => first | rfl | decide +kernel)
    (case pfX => first | rfl | decide +kernel)
    (case lcX => k_is)
    (case aCcC => k_is)
    (case pgC => k_is)
    (case hdC => k_is)
    (case poC => k_is)
    (case osaC => k_is)
    (case mkC => k_is)
    (case kpC => k_is)
    (case nC0 => k_is)
    (case nC1 => k_is)
    (case nC2 => k_is)
    (case aCcS => k_is)
    (case pgS => k_is)
    (case hdS => k_is)
    (case poS => k_is)
    (case osaS => k_is)
    (case mkS => k_is)
    (case kpS => k_is)
    (case nS0 => k_is)
    (case nS1 => k_is)
    (case nS2 => k_is)
    (case ohaC => k_is)
    (case ohmC => k_is)
    (case hn => k_is)
    (case htk => k_is)
    (case sfC => k_is)
    (case iInit => k_is)
    (case jInit => k_is)
    (case lInit => k_is)
    (case cInit => k_is)
    (case kInit => k_is)
    (case w1 => k_is)
    (case lLk => k_is)
    (case vLk => rfl)
    (case iSInit => k_is)
    (case jSInit => k_is)
    (case lSInit => k_is)
    (case cSInit => k_is)
    (case kSInit => k_is)
    (case lDf => k_is)
    (case vDf => rfl)
    (case iMSl => k_is)
    (case jMSl => k_is)
    (case lMSl => k_is)
    (case cMSl => k_is)
    (case kMSl => k_is)
    (case w2 => k_is)
    (case w3 => k_is)
    (case lE1 => k_is)
    (case vE1 => rfl)
    (case lE2 => k_is)
    (case vE2 => rfl)
    (case iMOr => k_is)
    (case jMOr => k_is)
    (case lMOr => k_is)
    (case cMOr => k_is)
    (case kMOr => k_is)
    (case iMMay => k_is)
    (case jMMay => k_is)
    (case lMMay => k_is)
    (case cMMay => k_is)
    (case kMMay => k_is)
    (case iMAl => k_is)
    (case jMAl => k_is)
    (case lMAl => k_is)
    (case cMAl => k_is)
    (case kMAl => k_is)
    (case iMFi => k_is)
    (case jMFi => k_is)
    (case lMFi => k_is)
    (case cMFi => k_is)
    (case kMFi => k_is)
    (case gL => k_is)
    (case gDi => k_is)
    (case gM => k_is)
    (case gG => k_is)
    (case lS => k_is)
    (case vS => rfl)
    (case gW => k_is)
    (case lW => k_is)
    (case vW => rfl)
    (case gKi => k_is)
    (case lKi => k_is)
    (case vKi => rfl)
    (case zint => k_is)
    (case zlen => k_is)
    (case zsum => k_is)
    (case zabs => k_is)
    (case zrange => k_is)
    (case zstr => k_is)
    (case zall => k_is)
    (case zisi => k_is)
    (case zrepr => k_is)
    (case zlist => k_is)
    (case ztuple => k_is)
    (case zset => k_is)
    (case zdict => k_is)
    (case zbool => k_is)
    (case zsorted => k_is)
    (case aOneOf => k_is)
    (case lOneOf => k_is)
    (case cOneOf => k_is)
    (case kOneOf => k_is)
    (case aCons => k_is)
    (case lCons => k_is)
    (case cCons => k_is)
    (case kCons => k_is)
    (case aIsW => k_is)
    (case lIsW => k_is)
    (case cIsW => k_is)
    (case kIsW => k_is)
    (case aIsN => k_is)
    (case lIsN => k_is)
    (case cIsN => k_is)
    (case kIsN => k_is)
    (case aIsI => k_is)
    (case lIsI => k_is)
    (case cIsI => k_is)
    (case kIsI => k_is)
    (case aIsS => k_is)
    (case lIsS => k_is)
    (case cIsS => k_is)
    (case kIsS => k_is)
    (case aSort => k_is)
    (case lSort => k_is)
    (case cSort => k_is)
    (case kSort => k_is)
    (case aIsSl => k_is)
    (case lIsSl => k_is)
    (case cIsSl => k_is)
    (case kIsSl => k_is)
    (case aLook => k_is)
    (case lLook => k_is)
    (case cLook => k_is)
    (case kLook => k_is)
    (case aClassOf => k_is)
    (case lClassOf => k_is)
    (case cClassOf => k_is)
    (case kClassOf => k_is)
    (case aOnce => k_is)
    (case lOnce => k_is)
    (case cOnce => k_is)
    (case kOnce => k_is)
    (case aMadeR => k_is)
    (case lMadeR => k_is)
    (case cMadeR => k_is)
    (case kMadeR => k_is)
    (case aPool => k_is)
    (case lPool => k_is)
    (case cPool => k_is)
    (case kPool => k_is)
    (case aPick => k_is)
    (case lPick => k_is)
    (case cPick => k_is)
    (case kPick => k_is)
    (case aOf => k_is)
    (case lOf => k_is)
    (case cOf => k_is)
    (case kOf => k_is)
    (case aWord => k_is)
    (case lWord => k_is)
    (case cWord => k_is)
    (case kWord => k_is)
    (case aWords => k_is)
    (case lWords => k_is)
    (case cWords => k_is)
    (case kWords => k_is)
    (case aToks => k_is)
    (case lToks => k_is)
    (case cToks => k_is)
    (case kToks => k_is)
    (case aLRule => k_is)
    (case lLRule => k_is)
    (case cLRule => k_is)
    (case kLRule => k_is)
    (case aFam => k_is)
    (case lFam => k_is)
    (case cFam => k_is)
    (case kFam => k_is)
    (case aMay => k_is)
    (case lMay => k_is)
    (case cMay => k_is)
    (case kMay => k_is)
    (case aDue => k_is)
    (case lDue => k_is)
    (case cDue => k_is)
    (case kDue => k_is)
    (case aRows => k_is)
    (case lRows => k_is)
    (case cRows => k_is)
    (case kRows => k_is)
    (case aLaw => k_is)
    (case lLaw => k_is)
    (case cLaw => k_is)
    (case kLaw => k_is)

