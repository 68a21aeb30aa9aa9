import PyProof.Rows.All
import Wide.All
import OpenK.AllK
import Wide.FinOn
import HandS.ForMost
import HandS.IsInst
import HandS.Wide
import PySem.Challenge.RW_slipreach_k06_spans_and_roles
import HandS.Codes
import HandS.Star
import HandS.OwnEq
import HandS.ForExc
import PyProof.ReprRoads
import PyProof.ReprText
import HandS.Walk
import HandS.Style
import HandS.Conv
import PyProof.ReprLen
import PyProof.EqAt
import PyProof.EqKinds
import PyProof.TupleCall
import HandS.Base
import HandS.Call
import HandS.List
import HandS.Set
import HandS.Strs
import KE.KDictLaws
import KE.KExcSuper
import HandS.ExcField
import HandS.ExcIs
import HandS.Defaults
import KE.KDictCopyH
import HandS.Dict
import HandS.Steps
import HandS.ExcInit
import HandS.Words
import HandS.ListItems
import KE.KDictZip
import KE.KTurns
import HandS.FStr
import KE.IntTextLaws
import HandS.StrMore
import HandS.MakeKwOnly
import PyProof.StrOps2
import HandS.Zip0
import PyProof.Draws
import PyProof.EnumMake
import HandS.RaiseMore
set_option Elab.async false
set_option linter.all false
set_option maxRecDepth 110000
set_option maxHeartbeats 8100000
namespace K5
open PySem L2
def top (i : Nat) : Stmt := PySem.Challenge.pw_slipreach_k06_spans_and_roles.main.body.getD i (.Pass ⟨0, 0, 0, 0⟩)
abbrev sPool : Stmt := top 45
abbrev sPick : Stmt := top 46
/-- built-in names that the top has left alone -/
structure Bare (mg : Str → Option Value) : Prop where
  int : mg "int" = none
  len : mg "len" = none
  sum : mg "sum" = none
  abs : mg "abs" = none
  range : mg "range" = none
  str : mg "str" = none
  all : mg "all" = none
  isi : mg "isinstance" = none
  repr : mg "repr" = none
  list : mg "list" = none
  tuple : mg "tuple" = none
  set : mg "set" = none
  dict : mg "dict" = none
  bool : mg "bool" = none
/-- all but the object at p is as it was -/
def Keep (p : Addr) (H H' : Hp) : Prop := ∀ b o, b ≠ p → H b = some o → H' b = some o
theorem Keep.refl (p : Addr) (H : Hp) : Keep p H H := fun _ _ _ h => h
theorem Keep.trans {p : Addr} {H H1 H2 : Hp} (a : Keep p H H1) (b : Keep p H1 H2) : Keep p H H2 := fun c o n h => b c o n (a c o n h)
theorem Keep.new {p l : Addr} {H H1 : Hp} {o : HO} (a : Keep p H H1) (hl : H1 l = none) : Keep p H (upd H1 l o) := fun b u n h => by
  rw [upd_ne (ne_of_none (a b u n h) hl)]
  exact a b u n h
theorem Keep.own {p : Addr} {H H1 : Hp} {o : HO} (a : Keep p H H1) : Keep p H (upd H1 p o) := fun b u n h => by
  rw [upd_ne n]
  exact a b u n h
/-- at p a pool: what is left of a great cell, a start, how many were drawn (at most c) -/
def Pool (H : Hp) (p : Addr) (c : Nat) : Prop := ∃ g m k : Int, H p = some (.lst [.int g, .int m, .int k]) ∧ 0 ≤ g ∧ 0 ≤ m ∧ m ≤ 16140901064500000000 ∧ 0 ≤ k ∧ k ≤ (c : Int)
theorem Pool.new {H : Hp} {p l : Addr} {c : Nat} {o : HO} (a : Pool H p c) (hl : H l = none) : Pool (upd H l o) p c := by
  obtain ⟨g, m, k, h, r⟩ := a
  exact ⟨g, m, k, by rw [upd_ne (ne_of_none h hl)]; exact h, r⟩
theorem Pool.mono {H : Hp} {p : Addr} {c d : Nat} (a : Pool H p c) (h : c ≤ d) : Pool H p d := by
  obtain ⟨g, m, k, h1, h2, h3, h4, h5, h6⟩ := a
  exact ⟨g, m, k, h1, h2, h3, h4, h5, by omega⟩
theorem Pool.other {H : Hp} {p l : Addr} {c : Nat} {o : HO} (a : Pool H p c) (hl : p ≠ l) : Pool (upd H l o) p c := by
  obtain ⟨g, m, k, h, r⟩ := a
  exact ⟨g, m, k, by rw [upd_ne hl]; exact h, r⟩
/-- a number below many is drawn -/
def spPick : Sp := fun vs H Q _ => ∃ (p : Addr) (c : Nat) (n : Int), vs = [.ref p, .int n] ∧ Pool H p c ∧ c ≤ 1000000 ∧ 0 < n ∧ n < 1000000000001 ∧
  ∀ (r : Int) (H' : Hp), 0 ≤ r → r < n → Keep p H H' → Pool H' p (c + 1) → Q (.int r) H'
section
variable {P : Program} {w : World} {K : PySem.W.Frag} {mg : Str → Option Value} {base : Heap}
theorem scPick : FnScope ["_law_pool_here", "_law_many", "_law_found", "_law_mixed"] ["_law_pool_here", "_law_many"] (defScope sPick) := ⟨rfl, rfl, rfl, by decide +kernel, rfl, by decide +kernel, by decide +kernel⟩
theorem pow_bound {m k : Int} (h0 : 0 ≤ m) (h1 : m ≤ 16140901064500000000) (h2 : 0 ≤ k) (h3 : k ≤ 1000001) : (m + 1500450271 * k).natAbs < 2 ^ 64 := by omega
theorem pow_bound2 {a k : Int} (h0 : 0 ≤ a) (h1 : a < 2305843009213693921) (h2 : 0 ≤ k) (h3 : k ≤ 1000001) : (a + 28657 * k).natAbs < 2 ^ 64 := by omega
theorem ok_pick {f : Addr} {fd : FuncData} (F : Fun K "_law_pick" "_law_pick" sPick f fd) (T : Bare mg) : FnOk P w K mg base CX0 1 f fd ["_law_pool_here", "_law_many"] spPick := by
  refine F.ok scPick (fun vs H Q E h => ?_) (fun cdv A outer s H vs Q E hr h => ?_)
  · obtain ⟨p, c, n, rfl, _⟩ := h
    rfl
  · obtain ⟨p, c, n, rfl, ⟨g, m, k, hp, hg, hm, hm', hk, hk'⟩, hc, hn, hn', q⟩ := h
    refine ⟨_, pss_cons (ps_if (pt_cmpR op_gt (pe_ix ix_list (pv 0) pe_int (fun _ _ => rfl)) pe_int (nomark _))
        (pss_cons (ps_set (i := 2) scPick.nd rfl (.inl rfl) (pe_op op_mod (pe_callTy call_int1 (by rfl) T.int (by decide +kernel) (pa_cons (pe_ix ix_list (pv 0) pe_int (fun _ _ => rfl)) pa_nil)) (pv 1)))
          (pss_cons (ps_asg (pe_op op_fdivW (pe_ix ix_list (pv 0) pe_int (fun _ _ => rfl)) (pv 1)) (pg_sub (pv 0) pe_int set_list))
            (pss_one (ps_ret (pv 2))))) pss_nil)
      (pss_cons (ps_asg (pe_op op_add (pe_ix ix_list (pv 0) pe_int (fun _ _ => rfl)) pe_int) (pg_sub (pv 0) pe_int set_list))
      (pss_cons (ps_set (i := 3) scPick.nd rfl (.inl rfl) (pe_op op_mod (pe_callTy call_int1 (by rfl) T.int (by decide +kernel) (pa_cons
          (pe_op op_pow (pe_op op_add (pe_ix ix_list (pv 0) pe_int (fun _ _ => rfl)) (pe_op op_mul pe_int (pe_ix ix_list (pv 0) pe_int (fun _ _ => rfl)))) pe_int) pa_nil)) pe_int))
      (pss_cons (ps_set (i := 3) scPick.nd rfl (.inl rfl) (pe_op op_mod (pe_callTy call_int1 (by rfl) T.int (by decide +kernel) (pa_cons
          (pe_op op_pow (pe_op op_add (pv 3) (pe_op op_mul pe_int (pe_ix ix_list (pv 0) pe_int (fun _ _ => rfl)))) pe_int) pa_nil)) pe_int))
      (pss_one (ps_ret (pe_op op_mod (pe_callTy call_int1 (by rfl) T.int (by decide +kernel) (pa_cons (pe_op op_fdiv (pv 3) pe_int) pa_nil)) (pv 1))))))), ?_⟩
    refine ⟨_, rfl, p, _, _, _, rfl, rfl, SqL.of hp, atI_nat rfl, _, _, rfl, rfl, _, rfl, ?_⟩
    refine ite2 (fun h0 => ?_) (fun h0 => ?_)
    · refine ⟨_, rfl, p, _, _, _, rfl, rfl, SqL.of hp, atI_nat rfl, .inl ⟨_, rfl, _, rfl, _, _, rfl, rfl, hn, ?_⟩⟩
      refine ⟨_, rfl, p, _, _, _, rfl, rfl, SqL.of hp, atI_nat rfl, _, rfl, _, _, rfl, rfl, wide_div (b := 40) hn (by omega) (by decide) (by decide), _, rfl, p, _, _, _, rfl, rfl, hp, rfl, ?_⟩
      refine ⟨_, rfl, ?_⟩
      refine q _ _ (Int.emod_nonneg _ (by omega)) (Int.emod_lt_of_pos _ hn) (Keep.refl p H).own ⟨g / n, m, k, upd_same, Int.ediv_nonneg hg (by omega), hm, hm', hk, by omega⟩
    · have e1 : ∀ H' : Hp, H' p = some (.lst [.int g, .int m, .int (k + 1)]) → SqL K H' p [.int g, .int m, .int (k + 1)] := fun _ e => SqL.of e
      refine ⟨_, rfl, p, _, _, _, rfl, rfl, SqL.of hp, atI_nat rfl, _, _, rfl, rfl, _, rfl, p, _, _, _, rfl, rfl, hp, rfl, ?_⟩
      refine ⟨_, rfl, p, [.int g, .int m, .int (k + 1)], _, _, rfl, rfl, e1 _ upd_same, atI_nat rfl, _, rfl, p, [.int g, .int m, .int (k + 1)], _, _, rfl, rfl, e1 _ upd_same, atI_nat rfl, _, _, rfl, rfl, .inl (by decide), _, _, rfl, rfl, _, _, rfl, rfl, ⟨by decide, by decide, pow_bound hm hm' (by omega) (by omega)⟩, .inl ⟨_, rfl, _, _, rfl, rfl, (by show (0 : Int) < 2305843009213693921; decide), ?_⟩⟩
      refine ⟨_, rfl, _, rfl, p, [.int g, .int m, .int (k + 1)], _, _, rfl, rfl, e1 _ upd_same, atI_nat rfl, _, _, rfl, rfl, .inl (by decide), _, _, rfl, rfl, _, _, rfl, rfl, ⟨by decide, by decide, pow_bound2 (Int.emod_nonneg _ (by decide)) (Int.emod_lt_of_pos _ (by decide)) (by omega) (by omega)⟩, .inl ⟨_, rfl, _, _, rfl, rfl, (by show (0 : Int) < 2305843009213693951; decide), ?_⟩⟩
      refine ⟨_, rfl, _, _, rfl, rfl, ⟨by decide, by decide⟩, .inl ⟨_, rfl, _, rfl, _, _, rfl, rfl, hn, ?_⟩⟩
      exact q _ _ (Int.emod_nonneg _ (by omega)) (Int.emod_lt_of_pos _ hn) (Keep.refl p H).own ⟨g, m, k + 1, upd_same, hg, hm, hm', by omega, by omega⟩
end
end K5

namespace K5
open PySem L2
/-- a new pool for one place of the script -/
def spPool (K : PySem.W.Frag) : Sp := fun vs H Q _ => ∃ (a : Addr) (ns : List Int) (k : Int), vs = [.ref a, .int k] ∧ SqL K H a (ns.map V.int) ∧ ns.length ≤ 63 ∧ 0 ≤ k ∧ k ≤ 63 ∧
  ∀ (p : Addr) (H' : Hp), H p = none → Same H H' → Pool H' p 0 → Q (.ref p) H'
section
variable {P : Program} {w : World} {K : PySem.W.Frag} {mg : Str → Option Value} {base : Heap}
theorem Same.new {H H1 : Hp} {l : Addr} {o : HO} (a : Same H H1) (hl : H1 l = none) : Same H (upd H1 l o) := fun b u h => by
  rw [upd_ne (ne_of_none (a b u h) hl)]
  exact a b u h
theorem at_int {ns : List Int} {k : Int} (h0 : 0 ≤ k) (h1 : k < (ns.length : Int)) : ∃ z, atI (ns.map V.int) k = some (V.int z) := by
  have hk : k.toNat < ns.length := by omega
  refine ⟨ns[k.toNat], at_of (j := k.toNat) (by omega) ?_⟩
  rw [List.getElem?_map, List.getElem?_eq_getElem hk]
  rfl
theorem scPool : FnScope ["_law_script", "_law_place", "_law_cell", "_law_great"] ["_law_script", "_law_place"] (defScope sPool) := ⟨rfl, rfl, rfl, by decide +kernel, rfl, by decide +kernel, by decide +kernel⟩
theorem ok_pool {f : Addr} {fd : FuncData} (F : Fun K "_law_pool" "_law_pool" sPool f fd) (T : Bare mg) : FnOk P w K mg base CX0 1 f fd ["_law_script", "_law_place"] (spPool K) := by
  refine F.ok scPool (fun vs H Q E h => ?_) (fun cdv A outer s H vs Q E hr h => ?_)
  · obtain ⟨p, c, n, rfl, _⟩ := h
    rfl
  · obtain ⟨a, ns, k, rfl, hS, hl, hk, hk', q⟩ := h
    refine ⟨_, C8.pss_cut (ps_set (i := 2) scPool.nd rfl (.inl rfl) (pe_ifExp (pt_cmpR op_lt (pv 1) (pe_callB call_len_seq (by rfl) T.len PySem.boot_len (pa_cons (pv 0) pa_nil)) (nomark _))
          (pe_ix ix_list (pv 0) (pv 1) (fun _ _ => rfl))
          (pe_op op_mod (pe_callTy call_int1 (by rfl) T.int (by decide +kernel) (pa_cons (pe_callB (cr_sum rfl) (by rfl) T.sum (by decide +kernel) (pa_cons (pe_slice sl_list (pv 0) po_none (po_some pe_int)) pa_nil)) pa_nil)) pe_int)))
      (C8.pss_cut (ps_set (i := 3) scPool.nd rfl (.inl rfl) (pe_ifExp (pt_cmpR op_ge (pe_callB call_abs (by rfl) T.abs (by decide +kernel) (pa_cons (pv 2) pa_nil)) (pe_op op_pow pe_int pe_int) (nomark _))
          (pe_callB call_abs (by rfl) T.abs (by decide +kernel) (pa_cons (pv 2) pa_nil)) pe_int))
      (pss_one (ps_ret (pe_lst (pa_cons (pv 3) (pa_cons
          (pe_op op_add (pe_op op_add (pe_op op_add (pe_op op_mul (pe_op op_mod (pe_callTy call_int1 (by rfl) T.int (by decide +kernel) (pa_cons (pv 2) pa_nil)) pe_int) pe_int) (pe_op op_mul pe_int (pv 1))) (pe_op op_mul pe_int pe_int)) pe_int)
          (pa_cons pe_int pa_nil))))))), ?_⟩
    refine ⟨fun σ H' => ∃ z : Int, σ = [some (.ref a), some (.int k), some (.int z), none] ∧ Same H H', ?_, ?_⟩
    · refine ⟨_, rfl, _, rfl, a, _, rfl, .inl hS, _, _, rfl, rfl, _, rfl, ?_⟩
      refine ite2 (fun h0 => ?_) (fun h0 => ?_)
      · have h0 : k < ((ns.map V.int).length : Int) := of_decide_eq_true h0
        rw [List.length_map] at h0
        obtain ⟨z, hz⟩ := at_int hk h0
        exact ⟨_, rfl, _, rfl, a, _, _, _, rfl, rfl, hS, hz, z, rfl, Same.refl H⟩
      · refine ⟨_, rfl, _, rfl, a, _, rfl, hS, fun l hl => ?_⟩
        refine ⟨l, ns.take 1, rfl, SqL.of ?_, .inl ⟨_, rfl, _, _, rfl, rfl, (by show (0 : Int) < 1000003; decide), _, rfl, Same.new (Same.refl H) hl⟩⟩
        rw [upd_same]
        congr 2
        unfold cutV
        cases ns with
        | nil => rfl
        | cons z ns => simp [HT.sIx]
    · rintro σ H1 ⟨z, rfl, s1⟩
      refine ⟨fun σ H' => ∃ g : Int, 0 ≤ g ∧ σ = [some (.ref a), some (.int k), some (.int z), some (.int g)] ∧ H' = H1, ?_, ?_⟩
      · refine ⟨_, rfl, _, rfl, _, _, rfl, rfl, ⟨by decide, by decide, by decide⟩, _, _, rfl, rfl, _, rfl, ?_⟩
        refine ite2 (fun _ => ?_) (fun _ => ?_)
        · refine ⟨_, rfl, _, rfl, _, ?_, rfl, rfl⟩
          by_cases hz : z < 0
          · rw [if_pos hz]; omega
          · rw [if_neg hz]; omega
        · exact ⟨0, Int.le_refl 0, rfl, rfl⟩
      · rintro σ H2 ⟨g, hg, rfl, rfl⟩
        refine ⟨_, rfl, _, rfl, .inl ⟨_, rfl, _, _, rfl, rfl, (by show (0 : Int) < 2305843009213693951; decide), _, _, rfl, rfl, .inr (by decide), _, rfl, _, _, rfl, rfl, .inl (by decide), _, _, rfl, rfl, _, _, rfl, rfl, .inl (by decide), _, _, rfl, rfl, _, _, rfl, rfl, by show 3 ≤ sizeLine; decide, fun p hp => ?_⟩⟩
        refine q p _ (s1.free hp) (Same.new s1 hp) ⟨g, _, 0, upd_same, hg, ?_, ?_, by decide, by decide⟩
        · have h1 := Int.emod_nonneg z (show (2305843009213693951 : Int) ≠ 0 by decide)
          omega
        · have h1 := Int.emod_lt_of_pos z (show (0 : Int) < 2305843009213693951 by decide)
          omega
end
end K5

/-! rules that hold for every program: an own == with any answer; making and calling of instances in a try -/
namespace L2
open PySem PySem.Spec PyProof.Rows
/-- a def that may let errors out, called where none leaves -/
theorem passNo {X : Cx} {P : Program} {w : World} : Passes (L2.CX P w) X (fun _ _ _ => False) := fun _ _ _ _ _ _ _ h => by
  obtain ⟨a, B, H', cls, d, ea, fl, hok, ub, na, os, ag, he⟩ := h
  exact he.elim
section
variable {X : Cx} {CX : CXT} {k : Nat} {f C : Addr} {fd : FuncData} {ps : List Str} {sp : Sp} {x : Str} {p pos : Pos} {e : Expr} {es : List Expr} {t : TA}
theorem run_makeS {pins : List (Addr × Obj)} {σ : St} {H : Hp} {s : Shared} {Q : VK} {us : List Value} {vs : List V} {E : XK} (M : Mk X.K C f) (F : FnOk X.prog X.w X.K X.mg X.base CX k f fd ps sp) (hr : Room (k + 1) X.A) (hb : Binds X.K fd ps [])
    (hx : PassesAt CX X σ E) (I : Inv X pins σ H s) (r : Vals vs us)
    (h : ∀ x dx, H x = none → H dx = none → dx ≠ x → sp (.ref x :: vs) (upd (upd H dx (.own x)) x (.ins C dx [])) (fun v H2 => v = .non ∧ Q (.ref x) H2) E) :
    wpAny (model X.prog X.w) X.A (call (.ref C) us) (EP X pins σ Q) X.xe s := by
  have hq := h (s.heap.objs.size + 1) s.heap.objs.size (I.hok.fresh (Nat.le_succ _)) (I.hok.fresh (Nat.le_refl _)) (Nat.ne_of_lt (Nat.lt_succ_self _))
  have I2 := Inv.made (C := C) I
  have r2 : Vals (V.ref (s.heap.objs.size + 1) :: vs) (Value.ref (s.heap.objs.size + 1) :: us) := .cons rfl r
  have hl : (Value.ref (s.heap.objs.size + 1) :: us).length = ps.length := by
    have e := r2.length
    rw [F.len _ _ _ _ hq] at e
    exact e.symm
  have b := hb _ (Value.ref (s.heap.objs.size + 1) :: us) I2.kIn (by rw [List.append_nil]; exact hl)
  rw [List.append_nil] at b
  refine wpAny_call (make_map (f := f) I.kIn M.makes M.init (beq_iff_eq.mp M.fn) (codeAny_mono (F.run _ X.stack _ _ ⟨Value.ref (s.heap.objs.size + 1) :: us, []⟩ (Value.ref (s.heap.objs.size + 1) :: us) _ _ E (hr.make C us [])
    (I2.env0.make C us []) b r2 hq) fun r s' hq' => ?_))
  cases r with
  | error e => exact hx pins _ _ e s' I2 hq'
  | ok fl =>
    cases fl with
    | ret u =>
      obtain ⟨v, H', I3, rv, ev, q3⟩ := I2.after hq'
      subst ev
      exact ⟨rv, ⟨V.ref (s.heap.objs.size + 1), H', I3, rfl, q3⟩⟩
    | next => exact False.elim hq'
    | brk => exact False.elim hq'
    | cont => exact False.elim hq'
def tMakeS (C : Addr) (sp : Sp) (E : St → XK) (t : TA) : TE := fun σ H Q => t σ H fun vs H1 => ∀ x dx, H1 x = none → H1 dx = none → dx ≠ x →
  sp (.ref x :: vs) (upd (upd H1 dx (.own x)) x (.ins C dx [])) (fun v H2 => v = .non ∧ Q (.ref x) H2) (E σ)
/-- C(e, ..), made in a try; every parameter is given -/
theorem pe_makeS {E : St → XK} (M : Mk X.K C f) (F : FnOk X.prog X.w X.K X.mg X.base CX k f fd ps sp) (hr : Room (k + 1) X.A) (hg : Gl X x) (hm : X.mg x = some (.ref C)) (hb : Binds X.K fd ps []) (hx : ∀ σ, PassesAt CX X σ (E σ))
    (ha : PA X (e :: es) t) (hdb : (x == ("__debug__" : Str)) = false := by decide) (he : starEach (e :: es) X.env = (false, eval e X.env) :: starEach es X.env := by rfl) (hpl : (backTo pos (starEach es X.env)).any (·.1) = false := by rfl) :
    PE X (.Call (.Name x p) (e :: es) [] pos) (tMakeS C sp E t) := by
  refine ⟨fun pins s σ H Q I h => ?_⟩
  refine wpAny_Call_Name_kw (ld_glob I hg hm ?_ hdb)
  refine PySem.W.callWith_K (h₀ := X.base) I.ok.mod.kin M.kp (thn (ha.run pos pins s σ H _ I h) fun us s1 ⟨vs, H1, I1, r, q⟩ => ⟨I1.kIn, ?_⟩) he hpl
  exact run_makeS M F hr hb (hx σ) I1 r q
/-- o(e, ..), o an instance, called in a try -/
def tCallOS (C : Addr) (sp : Sp) (E : St → XK) (tf : TE) (t : TA) : TE := fun σ H Q => tf σ H fun y H1 => ∃ a, y = V.ref a ∧ t σ H1 fun vs H2 => (∃ dx fs, H2 a = some (.ins C dx fs)) ∧ sp (V.ref a :: vs) H2 Q (E σ)
theorem pe_callOS {E : St → XK} {fe : Expr} {tf : TE} {g : Addr} (hf : PE X fe tf) (c : StX.CallO X.K C g) (F : FnOk X.prog X.w X.K X.mg X.base CX k g fd ps sp) (hr : Room k X.A) (hb : Binds X.K fd ps []) (hx : ∀ σ, PassesAt CX X σ (E σ)) (ha : PA X (e :: es) t)
    (ht : eval (.Call fe (e :: es) [] pos) X.env = (do callWith pos (← eval fe X.env) [] (backTo pos (starEach (e :: es) X.env)) (backToKw pos (keywordEach [] X.env))) := by rfl)
    (he : starEach (e :: es) X.env = (false, eval e X.env) :: starEach es X.env := by rfl) (hpl : (backTo pos (starEach es X.env)).any (·.1) = false := by rfl) : PE X (.Call fe (e :: es) [] pos) (tCallOS C sp E tf t) := by
  refine ⟨fun pins s σ H Q I h => ?_⟩
  refine Call_ (thn (hf.run pins s σ H _ I h) fun u s1 ⟨y, H1, I1, ry, a, ey, q⟩ => ?_) ht
  subst ey
  obtain rfl : u = Value.ref a := ry
  refine StX.callO_with (thn (ha.run pos pins s1 σ H1 _ I1 q) fun us s2 ⟨vs, H2, I2, r, hi, q2⟩ => ?_) he hpl
  obtain ⟨ox, od, J, hd⟩ := StX.insC_at I2 (.inr hi)
  refine ⟨⟨C, ox, od, J, hd⟩, wpAny_call (PySem.W.kco_code I2.kIn J hd c.at_ c.fn c.fi ?_)⟩
  have r2 : Vals (V.ref a :: vs) (Value.ref a :: us) := .cons rfl r
  have hl : (Value.ref a :: us).length = ps.length := by rw [← r2.length]; exact F.len _ _ _ _ q2
  have b := hb s2 (Value.ref a :: us) I2.kIn (by rw [List.append_nil]; exact hl)
  rw [List.append_nil] at b
  refine codeAny_mono (F.run X.A X.stack s2 H2 ⟨Value.ref a :: us, []⟩ (Value.ref a :: us) (V.ref a :: vs) Q (E σ) hr I2.env0 b r2 q2) fun r s' hq => ?_
  cases r with
  | error e => exact hx σ pins H2 s2 e s' I2 hq
  | ok fl =>
    cases fl with
    | ret u => exact I2.after hq
    | next => exact False.elim hq
    | brk => exact False.elim hq
    | cont => exact False.elim hq
/-- x == y, x an instance with an own __eq__ that answers True or False -/
def rEqOwn (K : PySem.W.Frag) (C : Addr) (sp : Sp) (E : XK) : R2 := fun x y H Q => ∃ (a dx : Addr) (fs : List (Str × V)) (t : Value), x = .ref a ∧ H a = some (.ins C dx fs) ∧ TyX K H y t ∧ PySem.W.notFirst K C t = true ∧ sp [.ref a, y] H (fun v H' => ∃ b, v = .bl b ∧ Q (.bl b) H') E
theorem op_eqOwn {E : XK} (F : FnOk X.prog X.w X.K X.mg X.base CX k f fd ps sp) (hr : Room k X.A) (hs : PySem.W.findIn X.K (.ref C) "__eq__" = some (some (.ref f))) (hf : PySem.W.isFn X.K (.ref f) = true) (hb : Binds X.K fd ps []) (hx : Passes CX X E) : OpR X (compareOp .Eq) (rEqOwn X.K C sp E) := by
  intro pins s σ H x y v u Q I rx ry hq
  obtain ⟨a, dx, fs, t, rfl, ha, ty, hn, q⟩ := hq
  cases rx
  obtain ⟨mA, J, _⟩ := ins_get I.hok ha
  obtain ⟨od, J, _⟩ := J.look
  obtain ⟨P, Z, pz, _⟩ := kit_of I ry ty
  obtain ⟨m, hF⟩ := I.fr
  show wpAny (model X.prog X.w) X.A (richCompare .Eq (.ref a) u) (EP X pins σ Q) X.xe s
  refine PySem.W.cmp_K (op := .Eq) (tb := t) hr.units0 hF I.ok.mod.kin J (Z.ty _ _ I.kIn pz) hn hs hf ?_
  have r2 : Vals [V.ref a, y] [Value.ref a, u] := .cons rfl (.cons ry .nil)
  have hl : [Value.ref a, u].length = ps.length := by rw [← r2.length]; exact F.len _ _ _ _ q
  have b := hb s [Value.ref a, u] I.kIn (by rw [List.append_nil]; exact hl)
  rw [List.append_nil] at b
  refine wpAny_call (codeAny_mono (F.run X.A X.stack s H ⟨[.ref a, u], []⟩ [.ref a, u] [.ref a, y] _ E hr I.env0 b r2 q) fun r s' hq => ?_)
  cases r with
  | error e => exact hx pins σ H s e s' I hq
  | ok fl =>
    cases fl with
    | ret w =>
      obtain ⟨z, H', I', rz, c, ez, q'⟩ := I.after hq
      subst ez
      cases rz
      exact ⟨.bl c, H', I', rfl, q'⟩
    | next => exact False.elim hq
    | brk => exact False.elim hq
    | cont => exact False.elim hq
end
end L2

/-! promises of defs that ask that no repr is under way (at the law's call none is) -/
namespace L2
open PySem PySem.Spec PyProof.Rows
theorem deeper_guards (A : Around) (e : Env) : (A.deeper e).guards = A.guards := rfl
/-- as FnOk (no error leaves), where no repr is under way -/
structure FnG (P : Program) (w : World) (K : PySem.W.Frag) (mg : Str → Option Value) (base : Heap) (k : Nat) (f : Addr) (fd : FuncData) (ps : List Str) (sp : Sp) : Prop where
  gl : ∀ vs H Q E, sp vs H Q E → vs.length = ps.length
  go : ∀ (A : Around) (outer : List Env) (s : Shared) (H : Hp) (args : Args) (us : List Value) (vs : List V) (Q : VK), A.guards = some [] → Room k A → Env0 P w K mg base A outer s H →
    BindsTo s fd args (ps.zip us) → Vals vs us → sp vs H Q E0 → codeAny (model P w) A (.call (.ref f) args) (CR CX0 outer P w H s Q E0) s
section
variable {P : Program} {w : World} {K : PySem.W.Frag} {mg : Str → Option Value} {base : Heap}
theorem Fun.okG {x qual : Str} {st : Stmt} {f : Addr} {fd : FuncData} {N ps : List Str} {k : Nat} {sp : Sp} (F : Fun K x qual st f fd) (S : FnScope N ps (defScope st)) (hlen : ∀ vs H Q E, sp vs H Q E → vs.length = ps.length)
    (hb : ∀ (cdv : Value) (A : Around) (outer : List Env) (s : Shared) (H : Hp) (vs : List V) (Q : VK), (A.deeper (envOfC qual (defScope st) s.heap.objs.size f cdv)).guards = some [] →
      Room k (A.deeper (envOfC qual (defScope st) s.heap.objs.size f cdv)) → sp vs H Q E0 →
      ∃ t, PSs (cxOf CX0 P w K mg base N qual (defScope st) f cdv A outer s H E0).nox (defBody st) t ∧ t { nx := fun _ H' => Q .non H', rt := Q } (start N vs) H) : FnG P w K mg base (k + 1) f fd ps sp := by
  obtain ⟨oc, od, kV, doc, pm, an, cdv, ct, osl, rfl, lk, hcd⟩ := F.ex
  refine ⟨hlen, ?_⟩
  intro A outer s H args us vs Q hgu hroom env0 hbind hvals hsp
  have grown : ∀ b o, base.get? b = some o → s.heap.get? b = some o := fun b o e => (env0.bs b o e).1
  have inK : K.In s.heap := env0.mod.kin.keeps grown
  have noLim := env0.mod.nolimit.keeps grown
  refine codeAny_call_function hroom.depth (inK _ _ lk) rfl S.co S.gen rfl (PySem.W.codeRec_of inK hcd) (hbind _ _ _ _ ?_)
  refine wpAny_newFunctionEnv_cells S.kind ?_ ?_
  · rintro ⟨n, u⟩ hy
    have hp := S.par n (List.of_mem_zip hy).1
    cases hp with
    | inl q => exact Or.inl q
    | inr q => exact Or.inr ⟨q, PySem.W.cellsFrom_some _ _ _ (Or.inl q)⟩
  · intro env he s1 call
    subst he
    refine ⟨noLim.keeps call.toInCall.keep, codeAny_func ?_⟩
    obtain ⟨t, der, reading⟩ := hb cdv A outer s H vs Q hgu (hroom.deeper _) hsp
    have inv := inv_start (CX := CX0) (P := P) (w := w) (K := K) (mg := mg) (base := base) (E := E0) S hroom.hd env0 (hlen _ _ _ _ hsp) hvals call
    refine wpAny_mono (der.nox.run [] s1 (start N vs) H _ inv reading) ?_ ?_
    · rintro (_ | _ | _ | u) s' hs
      · obtain ⟨σ', H', J, q⟩ := hs
        exact ⟨V.non, H', J.os, J.bare, J.base, J.hok, rfl, q⟩
      · exact hs.elim fun _ z => z.elim fun _ z => z.2.elim
      · exact hs.elim fun _ z => z.elim fun _ z => z.2.elim
      · obtain ⟨v, σ', H', J, rv, q⟩ := hs
        exact ⟨v, H', J.os, J.bare, J.base, J.hok, rv, q⟩
    · exact fun e s' hs => hs
end
section
variable {X : Cx} {k : Nat} {f : Addr} {fd : FuncData} {ps : List Str} {sp : Sp} {x : Str} {p pos : Pos} {e : Expr} {es : List Expr} {t : TA}
theorem pe_callG (F : FnG X.prog X.w X.K X.mg X.base k f fd ps sp) (hgu : X.A.guards = some []) (hr : Room k X.A) (hg : Gl X x) (hm : X.mg x = some (.ref f)) (hk : PySem.W.keepIn X.K (.ref f) = true) (hb : Binds X.K fd ps []) (ha : PA X (e :: es) t)
    (hdb : (x == ("__debug__" : Str)) = false := by decide) (he : starEach (e :: es) X.env = (false, eval e X.env) :: starEach es X.env := by rfl) (hpl : (backTo pos (starEach es X.env)).any (·.1) = false := by rfl) :
    PE X (.Call (.Name x p) (e :: es) [] pos) (tCall sp [] E0 t) := by
  constructor
  intro pins s σ H Q I h
  refine wpAny_Call_Name_kw (ld_glob I hg hm ?_ hdb)
  refine PySem.W.callWith_K (h₀ := X.base) I.ok.mod.kin hk (thn (ha.run pos pins s σ H _ I h) ?_) he hpl
  rintro us s1 ⟨vs, H1, I1, r, q⟩
  refine ⟨I1.kIn, ?_⟩
  rw [List.append_nil] at q
  have hl : (us ++ []).length = ps.length := by rw [List.append_nil, ← r.length]; exact F.gl _ _ _ _ q
  have hbd := hb s1 us I1.kIn hl
  rw [List.append_nil] at hbd
  refine wpAny_call (codeAny_mono (F.go X.A X.stack s1 H1 ⟨us, []⟩ us vs Q hgu hr I1.env0 hbd r q) ?_)
  rintro (er | (_ | _ | _ | u)) s' hq
  · exact hq.elim
  · exact hq.elim
  · exact hq.elim
  · exact hq.elim
  · exact I1.after hq
end
end L2

/-! repr(data): what is shown of lists, tuples, texts, ints, bools and None at any depth -/
namespace L2
open PySem PySem.Spec PyProof.Rows
/-- the reading: d the data, shown as Python shows it -/
def rRepr (K : PySem.W.Frag) : List V → Hp → VK → Prop := fun xs H Q => ∃ (v : V) (d : PyData), xs = [v] ∧ Dp K H v d ∧ d.showable = true ∧ d.hasDict = false ∧ d.depth ≤ 60 ∧ d.shown.length ≤ sizeLine ∧ Q (.str d.shown) H
theorem call_reprD {X : Cx} (hgu : X.A.guards = some []) (hu : X.A.units + 64 < cLine) : CallR X (.builtin "repr") (rRepr X.K) := by
  intro pins s σ H xs us Q I r h
  obtain ⟨v, d, rfl, hd, hs, hnd, hdep, hsz, q⟩ := h
  obtain ⟨u, rfl, ru⟩ := vals1 r
  obtain ⟨as, hr⟩ := Dp.reads I d v u hd ru
  have fin : ∀ (s' : Shared) (t : Tok), Inv X pins σ H s' → EP X pins σ Q (.str d.shown t) s' := fun s' t J => ⟨.str d.shown, H, J, ⟨t, rfl⟩, q⟩
  have viaRef : ∀ a : Addr, u = .ref a → wpAny (model X.prog X.w) X.A (PySem.call (.builtin "repr") [u]) (EP X pins σ Q) X.xe s := fun a e => by
    subst e
    exact repr_of_reads' hr hs (fun z => by rw [hnd] at z; cases z) hgu (by omega) (fun _ _ e => e) (fun h' u tk k => fin _ _ (I.kept (t' := tk) k)) hsz
  cases hd with
  | non =>
    obtain rfl : u = .none := ru
    exact PySem.P.repr_of_none (fin _ _ (I.tok _))
  | bl b =>
    obtain rfl : u = .bool b := ru
    have e : (PyData.bool b).shown = (if b then "True" else "False" : Str) := PyData.shown_bool b
    rw [e] at fin
    cases b
    · exact PySem.P.repr_of_bool (fin _ _ (I.tok _))
    · exact PySem.P.repr_of_bool (fin _ _ (I.tok _))
  | int i =>
    obtain ⟨t, rfl⟩ := ru
    have hs' : i.natAbs.log2 < 1920 := by simpa [PyData.showable] using hs
    have e := PyData.shown_int i
    rw [e] at fin
    exact PySem.P.repr_of_int hs' (fin _ _ (I.tok _))
  | str x =>
    obtain ⟨t, rfl⟩ := ru
    have e := PyData.shown_str x
    rw [e] at fin hsz
    exact PySem.P.repr_of_str (fin _ _ (I.tok _)) hsz
  | lst _ _ => exact viaRef _ ru
  | tup _ _ => exact viaRef _ ru
end L2

namespace K5
open PySem L2
abbrev sOneOf : Stmt := top 11
theorem inV_strs (z : Str) (ws : List Str) : inV (.str z) (ws.map V.str) = decide (z ∈ ws) := by
  unfold inV
  induction ws with
  | nil => rfl
  | cons y ws ih =>
    rw [List.map_cons, List.any_cons, ih]
    show (y == z || _) = _
    by_cases h : y = z
    · subst h; simp
    · have h' : ¬ z = y := fun e => h e.symm
      have e : (y == z) = false := by simpa using h
      rw [e, Bool.false_or]
      simp [h']
theorem flat_strs (ws : List Str) : (ws.map V.str).all flatV = true := by
  rw [List.all_map]
  exact List.all_eq_true.mpr fun _ _ => rfl
theorem all_id_map {α : Type} (p : α → Bool) (l : List α) : (l.map p).all id = l.all p := by
  induction l with
  | nil => rfl
  | cons a l ih => rw [List.map_cons, List.all_cons, List.all_cons, ih]; rfl
theorem take_more {α β : Type} (f : α → β) {l : List α} {i : Nat} {c : α} (h : l[i]? = some c) : (l.take i).map f ++ [f c] = (l.take (i + 1)).map f := by
  rw [List.take_add_one, h, List.map_append]
  rfl
/-- a thing that may be a text -/
def Thing (K : PySem.W.Frag) (H : Hp) (v : V) (o : Option Str) : Prop := (∃ z, v = .str z ∧ o = some z) ∨ (o = none ∧ ∃ t, TyX K H v t ∧ PySem.W.kitOne K t (.type "str") = some false)
def spOneOf (K : PySem.W.Frag) : Sp := fun vs H Q _ => ∃ (v : V) (o : Option Str) (a : Addr) (ws : List Str), vs = [v, .ref a] ∧ Thing K H v o ∧ SqT K H a (ws.map V.str) ∧ Q (.bl (o.elim false fun z => decide (z ∈ ws))) H
theorem line_ge {n : Nat} (h : n ≤ 1000000) : n ≤ sizeLine := Nat.le_trans h (by decide)
theorem Same.put {H H1 : Hp} {l : Addr} {o : HO} (a : Same H H1) (hl : H l = none) : Same H (upd H1 l o) := fun b u h => by
  rw [upd_ne (ne_of_none h hl)]
  exact a b u h
theorem eq_strB (x y : Str) : decide (V.str x = V.str y) = decide (x = y) := by
  by_cases h : x = y
  · rw [h]; simp
  · have : ¬ V.str x = V.str y := fun z => h (V.str.inj z)
    rw [decide_eq_false h, decide_eq_false this]
theorem pool_ne {H' : Hp} {p D : Addr} {n : Nat} (a : Pool H' p n) (h : H' D = none) : D ≠ p := by
  obtain ⟨_, _, _, e, _⟩ := a
  exact Ne.symm (ne_of_none e h)
theorem Keep.free {p D : Addr} {H H1 : Hp} (k : Keep p H H1) (n : D ≠ p) (h : H1 D = none) : H D = none := by
  cases e : H D with
  | none => rfl
  | some o =>
    rw [k D o n e] at h
    cases h
theorem Same.keep {p : Addr} {H H1 : Hp} (s : Same H H1) : Keep p H H1 := fun b o _ e => s b o e
theorem Pool.same {H H1 : Hp} {p : Addr} {c : Nat} (a : Pool H p c) (s : Same H H1) : Pool H1 p c := by
  obtain ⟨g, m, k, h, r⟩ := a
  exact ⟨g, m, k, s _ _ h, r⟩
theorem Same.free {H H1 : Hp} {T' : Addr} (s : Same H H1) (h : H1 T' = none) : H T' = none := by
  cases e : H T' with
  | none => rfl
  | some o =>
    rw [s _ _ e] at h
    cases h
theorem Keep.same {p : Addr} {H H1 H2 : Hp} (k : Keep p H1 H2) (s : Same H H1) (hp : H p = none) : Same H H2 := fun b o e => k b o (ne_of_none e hp) (s b o e)
mutual
theorem dp_same {K : PySem.W.Frag} {H H' : Hp} (s : Same H H') : ∀ (d : PyData) {v : V}, Dp K H v d → Dp K H' v d
  | .none, _, h => by cases h; exact .non
  | .bool _, _, h => by cases h; exact .bl _
  | .int _, _, h => by cases h; exact .int _
  | .str _, _, h => by cases h; exact .str _
  | .list ds, _, h => by
    cases h with
    | lst h1 h2 => exact .lst (s.seq h1) (dpAll_same s ds h2)
  | .tuple ds, _, h => by
    cases h with
    | tup h1 h2 => exact .tup (SqT.ext h1 s) (dpAll_same s ds h2)
  | .dict _, _, h => by cases h
theorem dpAll_same {K : PySem.W.Frag} {H H' : Hp} (s : Same H H') : ∀ (ds : List PyData) {vs : List V}, DpAll K H vs ds → DpAll K H' vs ds
  | [], _, h => by cases h; exact .nil
  | d :: ds, _, h => by
    cases h with
    | cons h1 h2 => exact .cons (dp_same s d h1) (dpAll_same s ds h2)
end
theorem DpAll.len {K : PySem.W.Frag} {H : Hp} : ∀ {ds : List PyData} {vs : List V}, DpAll K H vs ds → vs.length = ds.length
  | [], _, h => by cases h; rfl
  | d :: ds, _, h => by
    cases h with
    | cons h1 h2 => rw [List.length_cons, List.length_cons, DpAll.len h2]
theorem DpAll.drop {K : PySem.W.Frag} {H : Hp} : ∀ {ds : List PyData} {vs : List V} (k : Nat), DpAll K H vs ds → DpAll K H (vs.drop k) (ds.drop k)
  | _, _, 0, h => h
  | [], _, k + 1, h => by cases h; exact .nil
  | d :: ds, _, k + 1, h => by
    cases h with
    | cons h1 h2 => exact DpAll.drop k h2
theorem DpAll.take {K : PySem.W.Frag} {H : Hp} : ∀ {ds : List PyData} {vs : List V} (k : Nat), DpAll K H vs ds → DpAll K H (vs.take k) (ds.take k)
  | _, _, 0, _ => .nil
  | [], _, k + 1, h => by cases h; exact .nil
  | d :: ds, _, k + 1, h => by
    cases h with
    | cons h1 h2 => exact .cons h1 (DpAll.take k h2)
theorem DpAll.app {K : PySem.W.Frag} {H : Hp} : ∀ {ds es : List PyData} {vs us : List V}, DpAll K H vs ds → DpAll K H us es → DpAll K H (vs ++ us) (ds ++ es)
  | [], _, _, _, h, h' => by cases h; exact h'
  | d :: ds, _, _, _, h, h' => by
    cases h with
    | cons h1 h2 => exact .cons h1 (DpAll.app h2 h')
theorem DpAll.rev {K : PySem.W.Frag} {H : Hp} : ∀ {ds : List PyData} {vs : List V}, DpAll K H vs ds → DpAll K H vs.reverse ds.reverse
  | [], _, h => by cases h; exact .nil
  | d :: ds, _, h => by
    cases h with
    | cons h1 h2 =>
      rw [List.reverse_cons, List.reverse_cons]
      exact DpAll.app (DpAll.rev h2) (.cons h1 .nil)
theorem DpAll.at {K : PySem.W.Frag} {H : Hp} : ∀ {ds : List PyData} {vs : List V} {k : Nat} {d : PyData}, DpAll K H vs ds → ds[k]? = some d → ∃ v, vs[k]? = some v ∧ Dp K H v d
  | [], _, _, _, _, e => by cases e
  | d :: ds, _, 0, _, h, e => by
    cases h with
    | cons h1 h2 => exact ⟨_, rfl, (Option.some.inj e) ▸ h1⟩
  | d :: ds, _, k + 1, _, h, e => by
    cases h with
    | cons h1 h2 => exact DpAll.at (ds := ds) (k := k) h2 e
/-- data that == and repr can be asked of -/
structure Fair1 (d : PyData) : Prop where
  lay : d.canLay0 = true
  dep : d.depth ≤ 10
  show_ : d.showable = true
  dict : d.hasDict = false
  len : d.shown.length ≤ 400
def Fair (ds : List PyData) : Prop := ∀ d ∈ ds, Fair1 d
theorem Fair1.shaped {d : PyData} (f : Fair1 d) : SeqAt.shaped d = true := by
  unfold SeqAt.shaped
  rw [f.lay, Bool.true_and]
  exact decide_eq_true (Nat.le_trans f.dep (by decide))
/-- all of many -/
structure FairL (ds : List PyData) : Prop where
  lay : PyData.canLayAll0 ds = true
  dep : PyData.depthAll ds ≤ 10
  show_ : PyData.showableAll ds = true
  dict : PyData.hasDictAll ds = false
  len : ((PyData.shownAll ds).map (·.length)).sum ≤ 400 * ds.length
  num : (PyData.shownAll ds).length = ds.length
theorem Fair.all : ∀ {ds : List PyData}, Fair ds → FairL ds
  | [], _ => ⟨rfl, by decide, rfl, rfl, by decide, rfl⟩
  | d :: ds, f => by
    have h := f d (List.mem_cons_self ..)
    have r := Fair.all (ds := ds) fun x hx => f x (List.mem_cons_of_mem _ hx)
    refine ⟨?_, ?_, ?_, ?_, ?_, ?_⟩
    · rw [PyData.canLayAll0, h.lay, r.lay]; rfl
    · rw [PyData.depthAll]; exact Nat.max_le.mpr ⟨h.dep, r.dep⟩
    · rw [PyData.showableAll, h.show_, r.show_]; rfl
    · rw [PyData.hasDictAll, h.dict, r.dict]; rfl
    · have a := h.len
      have b := r.len
      rw [PyData.shownAll, List.map_cons, List.sum_cons, List.length_cons]
      omega
    · rw [PyData.shownAll, List.length_cons, List.length_cons, r.num]
theorem fair_shaped {ds : List PyData} (f : Fair ds) : SeqAt.shaped (.list ds) = true := by
  have r := f.all
  unfold SeqAt.shaped
  rw [PyData.canLay0, r.lay, Bool.true_and, PyData.depth]
  exact decide_eq_true (by have := r.dep; omega)
theorem fair_shaped_t {ds : List PyData} (f : Fair ds) : SeqAt.shaped (.tuple ds) = true := by
  have r := f.all
  unfold SeqAt.shaped
  rw [PyData.canLay0, r.lay, Bool.true_and, PyData.depth]
  exact decide_eq_true (by have := r.dep; omega)
theorem Fair.sub {ds es : List PyData} (f : Fair ds) (h : ∀ d ∈ es, d ∈ ds) : Fair es := fun d hd => f d (h d hd)
/-- what repr asks of data -/
structure ShownOk (d : PyData) : Prop where
  s : d.showable = true
  n : d.hasDict = false
  dp : d.depth ≤ 60
  l : d.shown.length ≤ sizeLine
theorem Fair1.ok {d : PyData} (f : Fair1 d) : ShownOk d := ⟨f.show_, f.dict, Nat.le_trans f.dep (by decide), line_ge (Nat.le_trans f.len (by decide))⟩
theorem sum_le {xs : List PyData} {n : Nat} (h : xs.length ≤ n) (f : ((PyData.shownAll xs).map (·.length)).sum ≤ 400 * xs.length) : ((PyData.shownAll xs).map (·.length)).sum ≤ 400 * n := by
  have := Nat.mul_le_mul_left 400 h
  omega
theorem list_len {ds : List PyData} (f : Fair ds) (h : ds.length ≤ 200) : (PyData.list ds).shown.length ≤ 90000 := by
  have r := f.all
  have a := listText_len_le (PyData.shownAll ds)
  have b := sum_le h r.len
  rw [r.num] at a
  rw [PyData.shown]
  omega
theorem Fair.listOk {ds : List PyData} (f : Fair ds) (h : ds.length ≤ 200) : ShownOk (.list ds) := by
  have r := f.all
  refine ⟨by rw [PyData.showable]; exact r.show_, by rw [PyData.hasDict]; exact r.dict, by rw [PyData.depth]; have := r.dep; omega, line_ge (Nat.le_trans (list_len f h) (by decide))⟩
theorem Fair.tupOk {ds : List PyData} (f : Fair ds) (h : ds.length ≤ 200) : ShownOk (.tuple ds) := by
  have r := f.all
  refine ⟨by rw [PyData.showable]; exact r.show_, by rw [PyData.hasDict]; exact r.dict, by rw [PyData.depth]; have := r.dep; omega, ?_⟩
  have a := tupleText_len_le (PyData.shownAll ds)
  have b := sum_le h r.len
  rw [r.num] at a
  rw [PyData.shown]
  exact line_ge (by omega)
def fairB (d : PyData) : Bool := d.canLay0 && (decide (d.depth ≤ 10) && (d.showable && (!d.hasDict && decide (d.shown.length ≤ 400))))
theorem fair_of {d : PyData} (h : fairB d = true) : Fair1 d := by
  unfold fairB at h
  simp only [Bool.and_eq_true, Bool.not_eq_true', decide_eq_true_eq] at h
  exact ⟨h.1, h.2.1, h.2.2.1, h.2.2.2.1, h.2.2.2.2⟩
theorem ne_lst {H : Hp} {b kp : Addr} {o : HO} {L : List V} (h : H b = some o) (hk : H kp = some (.lst L)) (n : o ≠ .lst L) : b ≠ kp := fun e => n (by rw [e, hk] at h; exact (Option.some.inj h).symm)
theorem pool_lst {H : Hp} {p : Addr} {c : Nat} (h : Pool H p c) : ∃ L, H p = some (.lst L) := by
  obtain ⟨g, m, k, e, _⟩ := h
  exact ⟨_, e⟩
theorem bool_ok (b : Bool) : ShownOk (.bool b) := by
  cases b <;> exact (fair_of (by decide +kernel)).ok
theorem eqv_self {d : PyData} (h : SeqAt.shaped d = true) : PyData.eqv d d = true := by
  unfold SeqAt.shaped at h
  exact SeqAt.eqv_refl d (Bool.and_eq_true_iff.mp h).1
section
variable {P : Program} {w : World} {K : PySem.W.Frag} {mg : Str → Option Value} {base : Heap}
theorem scOneOf : FnScope ["thing", "words"] ["thing", "words"] (defScope sOneOf) := ⟨rfl, rfl, rfl, by decide +kernel, rfl, by decide +kernel, by decide +kernel⟩
theorem ok_oneOf {f : Addr} {fd : FuncData} (F : Fun K "is_one_of" "is_one_of" sOneOf f fd) (T : Bare mg) : FnOk P w K mg base CX0 1 f fd ["thing", "words"] (spOneOf K) := by
  refine F.ok scOneOf (fun vs H Q E h => ?_) (fun cdv A outer s H vs Q E hr h => ?_)
  · obtain ⟨v, o, a, ws, rfl, _⟩ := h
    rfl
  · obtain ⟨v, o, a, ws, rfl, hv, ht, q⟩ := h
    refine ⟨_, pss_one (ps_ret (pe_and (pe_callB call_isi (by rfl) T.isi (by decide +kernel) (pa_cons (pv 0) (pa_cons (pe_bltn (v := .ty "str") (by rfl) T.str (by decide +kernel) rfl) pa_nil)))
      (pe_one (pe_cmpR op_in_seq (pv 0) (pv 1) (by rfl))))), ?_⟩
    rcases hv with ⟨z, rfl, rfl⟩ | ⟨rfl, t, ty, kt⟩
    · refine ⟨_, rfl, .str z, .ty "str", .type "str", .type "str", true, rfl, .ty "str", .base (.str z), kit_ty (by decide +kernel), true, rfl, iteT ⟨_, rfl, _, rfl, a, _, rfl, .inr ht, rfl, flat_strs ws, ?_⟩⟩
      show Q (.bl (inV (.str z) (ws.map V.str))) H
      rw [inV_strs]
      exact q
    · exact ⟨_, rfl, v, .ty "str", t, .type "str", false, rfl, .ty "str", ty, kt, false, rfl, iteF q⟩
end
end K5

/-! len(set(xs)), xs a list or a tuple of texts -/
namespace K2S
open PySem PySem.Spec PyProof.Rows
/-- one more, if it is not there -/
def put1 (l : List Str) (x : Str) : List Str := if x ∈ l then l else l ++ [x]
/-- each once -/
def once (xs : List Str) : List Str := xs.foldl put1 []
theorem once_snoc (xs : List Str) (x : Str) : once (xs ++ [x]) = put1 (once xs) x := by
  unfold once
  rw [List.foldl_append]
  rfl
theorem mem_put1 {l : List Str} {x y : Str} : y ∈ put1 l x ↔ y ∈ l ∨ y = x := by
  unfold put1
  split
  · rename_i h
    exact ⟨.inl, fun z => z.elim id fun e => e ▸ h⟩
  · simp
theorem mem_fold {y : Str} : ∀ (xs l : List Str), y ∈ xs.foldl put1 l ↔ y ∈ l ∨ y ∈ xs
  | [], l => by simp
  | x :: xs, l => by
    rw [List.foldl_cons, mem_fold xs (put1 l x), mem_put1, List.mem_cons]
    exact or_assoc
theorem mem_once {y : Str} (xs : List Str) : y ∈ once xs ↔ y ∈ xs := by
  unfold once
  rw [mem_fold]
  simp
theorem take_succ_at {xs : List Str} {i : Nat} (h : i < xs.length) : xs.take (i + 1) = xs.take i ++ [xs.getD i Str.empty] := by
  rw [List.take_succ, List.getElem?_eq_getElem h]
  simp [List.getD_eq_getElem?_getD, List.getElem?_eq_getElem h]
theorem len_put1 (l : List Str) (x : Str) : (put1 l x).length = if x ∈ l then l.length else l.length + 1 := by
  unfold put1
  split
  · rfl
  · simp
theorem once_le (xs : List Str) : (once xs).length ≤ xs.length := by
  have key : ∀ (xs l : List Str), (xs.foldl put1 l).length ≤ l.length + xs.length := by
    intro xs
    induction xs with
    | nil => intro l; simp
    | cons x xs ih =>
      intro l
      have h1 := ih (put1 l x)
      have h2 : (put1 l x).length ≤ l.length + 1 := by
        rw [len_put1]
        split <;> omega
      rw [List.foldl_cons, List.length_cons]
      omega
  have h := key xs []
  simpa [once] using h
theorem fold_nodup : ∀ (xs l : List Str), l.Nodup → ((xs.foldl put1 l).length = l.length + xs.length ↔ (l ++ xs).Nodup)
  | [], l, hl => by simp [hl]
  | x :: xs, l, hl => by
    rw [List.foldl_cons]
    by_cases hx : x ∈ l
    · have e : put1 l x = l := if_pos hx
      rw [e]
      have hle : (xs.foldl put1 l).length ≤ l.length + xs.length := by
        have key : ∀ (xs l : List Str), (xs.foldl put1 l).length ≤ l.length + xs.length := by
          intro xs
          induction xs with
          | nil => intro l; simp
          | cons x xs ih =>
            intro l
            have h1 := ih (put1 l x)
            have h2 : (put1 l x).length ≤ l.length + 1 := by
              rw [len_put1]
              split <;> omega
            rw [List.foldl_cons, List.length_cons]
            omega
        exact key xs l
      constructor
      · intro h
        rw [List.length_cons] at h
        omega
      · intro h
        exact absurd rfl ((List.nodup_append.mp h).2.2 x hx x List.mem_cons_self)
    · have e : put1 l x = l ++ [x] := if_neg hx
      rw [e]
      have hn : (l ++ [x]).Nodup := by
        rw [List.nodup_append]
        refine ⟨hl, by simp, fun a ha b hb => ?_⟩
        rw [List.mem_singleton] at hb
        rintro rfl
        exact hx (hb ▸ ha)
      have ih := fold_nodup xs (l ++ [x]) hn
      rw [List.append_assoc, List.singleton_append, List.length_append, List.length_singleton] at ih
      rw [List.length_cons, show l.length + (xs.length + 1) = l.length + 1 + xs.length by omega]
      exact ih
theorem once_nodup (xs : List Str) : (once xs).length = xs.length ↔ xs.Nodup := by
  have h := fold_nodup xs [] List.nodup_nil
  simpa [once] using h
section
variable {prog : Program} {w : World} {A : Around} {R : Result → Shared → Prop} {I : Addr} {fp wr : List Addr} {G : Array GenState → Array GenState → Prop} {n : Nat} {P : Nat → Value → Prop} {St : Nat → Shared → Prop}
theorem loop_in (W : WalksS prog w A.in1 I fp wr G n P St) (S : Addr) (far : S ∉ fp) (xs : List Str) (hn : xs.length = n) (few : n + 1 < scanBound) (hval : ∀ i v, P i v → ∃ t, v = .str (xs.getD i Str.empty) t) :
    ∀ (k i : Nat) (s : Shared), n - i = k → i ≤ n → St i s → s.heap.SetOf (strKind prog w) S (fun y => decide (y ∈ xs.take i)) (once (xs.take i)).length →
      (∀ s', Moved (S :: wr) G s s' → s'.heap.SetOf (strKind prog w) S (fun y => decide (y ∈ xs)) (once xs).length → R (.ok (.ret .none)) s') → codeAny (model prog w) A (.builtin "set.update.loop" ⟨[.ref S, .ref I], []⟩) R s := by
  have off : S ∉ wr := fun z => far (W.sub _ z)
  have up : ∀ b ∈ wr, b ∈ S :: wr := fun b z => List.mem_cons_of_mem _ z
  intro k
  induction k with
  | zero =>
    intro i s hk hi hst hS done
    obtain rfl : i = n := by omega
    refine codeAny_builtin F.entry_set_update_loop ?_
    rw [Around.under_plainId F.plain_set_update_loop _]
    refine (wpAny_bind (W.done s _ _ hst fun s' hm => ?_) : wpAny _ A.in1 (pyNext (.ref I) >>= _) _ _ s)
    have e : xs.take i = xs := by rw [← hn, List.take_length]
    rw [e] at hS
    obtain ⟨o, es, ep, t, ho, more⟩ := hS
    show wpAny (model prog w) A.in1 (ret .none) _ _ s'
    exact wpAny_pure (done s' (hm.mono up) ⟨o, es, ep, t, hm.heap S _ off ho, more⟩)
  | succ k ih =>
    intro i s hk hi hst hS done
    have lt : i < n := by omega
    refine codeAny_builtin F.entry_set_update_loop ?_
    rw [Around.under_plainId F.plain_set_update_loop _]
    refine (wpAny_bind (W.item i s _ _ lt hst fun v s' hP hst' hm => ?_) : wpAny _ A.in1 (pyNext (.ref I) >>= _) _ _ s)
    obtain ⟨t, rfl⟩ := hval i v hP
    have here : s'.heap.SetOf (strKind prog w) S (fun y => decide (y ∈ xs.take i)) (once (xs.take i)).length := by
      obtain ⟨o, es, ep, tb, ho, more⟩ := hS
      exact ⟨o, es, ep, tb, hm.heap S _ off ho, more⟩
    refine (wpAny_bind (wpAny_holding ?_) : wpAny _ A.in1 (holding [Value.str (xs.getD i Str.empty) t] (setAdd S (.str (xs.getD i Str.empty) t)) >>= _) _ _ s')
    unfold setAdd
    have small : (once (xs.take i)).length + 1 < scanBound := by
      have h1 := once_le (xs.take i)
      have h2 : (xs.take i).length ≤ i := by rw [List.length_take]; omega
      omega
    refine wpAny_holding (wpAny_bind ((strKind prog w).pyHash (k := xs.getD i Str.empty) (strKind_is _ _ _ _) ?_))
    refine wpAny_setAddHashed_of (knd := strKind prog w) (s := { s' with toks := s'.toks + 1 }) (strKind_is _ _ _ _) rfl here small fun h' sb hS2 => ?_
    have hi' : i < xs.length := by omega
    have next : h'.SetOf (strKind prog w) S (fun y => decide (y ∈ xs.take (i + 1))) (once (xs.take (i + 1))).length := by
      refine SetOf_congr hS2 (fun y => ?_) ?_
      · rw [take_succ_at hi']
        by_cases c1 : y ∈ xs.take i
        · simp [c1]
        · by_cases c2 : y = xs.getD i Str.empty
          · simp [c1, c2]
          · have c3 : y ∉ xs.take i ++ [xs.getD i Str.empty] := by
              rw [List.mem_append, List.mem_singleton]
              rintro (z | z)
              · exact c1 z
              · exact c2 z
            rw [decide_eq_false c1, decide_eq_false c2, decide_eq_false c3]
            rfl
      · rw [take_succ_at hi', once_snoc, len_put1]
        by_cases c1 : xs.getD i Str.empty ∈ xs.take i
        · rw [if_pos ((mem_once _).mpr c1), if_pos (decide_eq_true c1)]
        · rw [if_neg (fun z => c1 ((mem_once _).mp z)), if_neg (fun z => c1 (of_decide_eq_true z))]
    refine wpAny_pure ⟨plainId_quiet F.plain_set_update_loop _, ih (i + 1) _ (by omega) lt (W.frame _ s' _ _ hst' (Nat.le_succ _) fun b hb o e => ?_) next fun s'' hm'' hS'' => ?_⟩
    · exact (sb.2 b fun z : b = S => far (z ▸ hb)).trans e
    · exact done s'' (Moved.trans W.gtrans ((hm.mono up).then_heap (Nat.le_succ _) fun b o hb e => (sb.2 b fun z : b = S => hb (z ▸ List.mem_cons_self)).trans e) hm'') hS''
end
/-- the object of a set without members -/
def emp (led : Bool) : Obj := { cls := .type "set", dict := none, data := .set #[] 0 (.fresh 0 0 led) }
section
variable {prog : Program} {w : World} {A : Around} {E : Value → Shared → Prop} {s : Shared}
/-- set(x), x an object of the built-in type T that is walked as W says -/
theorem set_by {T : String} {cx : Addr} {o it : Obj} {items : Array Value} {m : Nat} {xs : List Str} {St : Addr → Nat → Heap → Prop} {Q : Value → Shared → Prop}
    (hh : A.handled = none) (ho : s.heap.get? cx = some o) (hcls : o.cls = .type T) (hdat : o.data = .seq items m)
    (tA : isSubtype (.type T) (.type "set") = pure false) (tB : isSubtype (.type T) (.type "frozenset") = pure false) (tC : (Value.type T == Value.type "dict") = false)
    (hi : StrsAre items.toList xs) (few : xs.length + 1 < scanBound) (hfr : it.isFreed = false)
    (hit : ∀ (s1 : Shared) (Q' : Value → Shared → Prop) (E' : Value → Shared → Prop) (A' : Around), s1.heap.get? cx = some o → Q' (.ref s1.heap.objs.size) { s1 with heap := s1.heap.push it } → wpAny (model prog w) A' (pyIter (.ref cx)) Q' E' s1)
    (W : ∀ A' : Around, A'.handled = none → ∀ I, cx ≠ I → Walks prog w A' I [I, cx] [I] items.size (fun i v => items[i]? = some v) (St I))
    (hSt : ∀ (h : Heap) I, h.get? I = some it → h.get? cx = some o → St I 0 h)
    (h : ∀ (h' : Heap) (tk : Nat), h'.SetOf (strKind prog w) s.heap.objs.size (fun y => decide (y ∈ xs)) (once xs).length → (∀ b o, b < s.heap.objs.size → s.heap.get? b = some o → h'.get? b = some o) → Q (.ref s.heap.objs.size) { s with heap := h', toks := tk }) :
    wpAny (model prog w) A (call (.type "set") [.ref cx]) Q E s := by
  obtain ⟨cc, tl, mro⟩ := F.called_set.mro
  have made := F.called_set.made
  have sub := F.called_set.sub
  have z1 := F.called_set.notType
  have z2 := F.called_set.canCreate
  have z3 := F.typeCall_set_1 (.ref cx)
  refine wpAny_call (codeAny_of_tree ?_)
  show wpAny (model prog w) _ (callAny (.type "set") _) _ _ _
  refine wpAny_pure ⟨Code.quiet_builtin _ (by decide +kernel), codeAny_builtin (b := Builtin.«type.__call__») F.entry_type_call ?_⟩
  rw [Around.under_plain (weight_type_call_type "set" [.ref cx] []) rfl]
  repeat (any_goals (first | assumption | wp_step))
  have nS : ∀ led, (s.heap.push (emp led)).get? s.heap.objs.size = some (emp led) := fun led => Heap.get?_push_size _ rfl
  have old : ∀ led b q, s.heap.get? b = some q → (s.heap.push (emp led)).get? b = some q := fun led b q z => Heap.get?_push_of_some _ z
  refine codeAny_mono (code_set_new_1 (.ref cx) (E := E) (Q₁ := fun obj s₁ => ∃ led : Bool, obj = .ref s.heap.objs.size ∧ s₁ = { s with heap := s.heap.push (emp led) }) (fun led => ⟨led, rfl, rfl⟩)) fun r s₁ hr => ?_
  cases r
  case error e => exact hr
  case ok fl =>
    cases fl
    case ret obj =>
      obtain ⟨led, rfl, rfl⟩ := hr
      have tS : Shared.TypeIs { s with heap := s.heap.push (emp led) } (.ref s.heap.objs.size) "set" := ⟨_, nS led, rfl⟩
      have y1 := F.called_set.init.lookup
      have y2 := F.called_set.init.bind (.ref s.heap.objs.size)
      repeat (any_goals (first | assumption | wp_step))
      refine codeAny_mono (codeAny_call_builtin (R := wants (fun r s₂ => r = .none ∧ ∃ h' tk, s₂ = { s with heap := h', toks := tk } ∧ h'.SetOf (strKind prog w) s.heap.objs.size (fun y => decide (y ∈ xs)) (once xs).length ∧
        (∀ b o, b < s.heap.objs.size → s.heap.get? b = some o → h'.get? b = some o)) E) F.called_set.init.plain F.entry_set_init (check_set_init_1 tS ?_)) fun r₂ s₂ hr₂ => ?_
      · obtain ⟨ocls, odict, odata, oslots⟩ := o
        simp only at hcls hdat
        subst hcls hdat
        have hoc := old led cx _ ho
        unfold Builtin.«set.__init__» noKeywords Builtin.Frozenset.updateFrom
        generalize hPI : pyIter = PI
        wp_walk
        subst hPI
        refine hit _ _ _ _ hoc ?_
        refine wpAny_bind (wpAny_runValue ?_)
        have lt : cx < s.heap.objs.size := Heap.lt_size ho
        have sz : (s.heap.push (emp led)).objs.size = s.heap.objs.size + 1 := Heap.size_push _ _
        have neI : cx ≠ (s.heap.push (emp led)).objs.size := Nat.ne_of_lt (sz ▸ Nat.lt_succ_of_lt lt)
        have neS : s.heap.objs.size ≠ (s.heap.push (emp led)).objs.size := Nat.ne_of_lt (sz ▸ Nat.lt_succ_self _)
        have far : s.heap.objs.size ∉ [(s.heap.push (emp led)).objs.size, cx] := fun z => (List.mem_cons.mp z).elim neS fun z => Nat.ne_of_gt lt (List.mem_singleton.mp z)
        have hn : xs.length = items.size := (StrsAre.len_eq hi).symm.trans Array.length_toList
        have hh3 : A.in1.in1.in1.handled = none := by simp [hh]
        refine loop_in (W _ hh3 _ neI).toS s.heap.objs.size far xs hn (by omega) (fun i v hv => SS.strs_at hi i v (by rw [Array.getElem?_toList]; exact hv)) (items.size - 0) 0 _ (by omega) (Nat.zero_le _) (hSt _ _ (Heap.get?_push_size _ hfr) (Heap.get?_push_of_some _ hoc)) ?_ fun s' hm hS' => ?_
        · exact SetOf_congr ((setObjOf_fresh (knd := strKind prog w) led).setOf (Heap.get?_push_of_some it (nS led)) (by unfold scanBound; omega)) (fun y => by simp) rfl
        · obtain ⟨h', g', d', tk', os'⟩ := s'
          obtain rfl : g' = s.gens := hm.gens
          obtain rfl : d' = s.drawn := hm.drawn
          obtain rfl : os' = s.os := hm.os
          show wpAny (model prog w) _ _ _ _ _
          refine wpAny_pure ?_
          show wpAny (model prog w) _ (ret .none) _ _ _
          refine wpAny_pure ⟨rfl, h', tk', rfl, hS', fun b o hb e => ?_⟩
          exact hm.heap b o (fun z => (List.mem_cons.mp z).elim (fun z => Nat.ne_of_lt hb z) fun z => Nat.ne_of_lt (sz ▸ Nat.lt_succ_of_lt hb) (List.mem_singleton.mp z)) (Heap.get?_push_of_some _ (old led b o e))
      · cases r₂
        case error e => exact hr₂
        case ok fl₂ =>
          cases fl₂
          case ret r =>
            obtain ⟨rfl, h', tk, rfl, u1, u2⟩ := hr₂
            repeat (any_goals (first | assumption | wp_step))
            exact h _ _ u1 u2
          all_goals exact False.elim hr₂
    all_goals exact False.elim hr
end
end K2S

namespace K2S
open PySem PySem.Spec PyProof.Rows L2
section
variable {X : Cx}
/-- len(set(xs)), xs a list or a tuple of texts: how many there are of them -/
def tMany (K : PySem.W.Frag) (ta : TE) : TE := fun σ H Q => ta σ H fun x H1 => ∃ l, ∃ xs : List Str, x = .ref l ∧ (SqL K H1 l (xs.map V.str) ∨ SqT K H1 l (xs.map V.str)) ∧ xs.length < 64 ∧ Q (.int (once xs).length) H1
theorem pe_many {a : Expr} {ta : TE} {p p2 q pos : Pos} (hc : X.calm = true) (hg : Gl X "len") (hm : X.mg "len" = none) (hg2 : Gl X "set") (hm2 : X.mg "set" = none) (ha : PE X a ta)
    (na : starEach [a] X.env = (false, eval a X.env) :: starEach [] X.env := by rfl) : PE X (.Call (.Name "len" p) [.Call (.Name "set" p2) [a] [] q] [] pos) (tMany X.K ta) := by
  refine ⟨fun pins s σ H Q I h => Call_ (ld_blt I hg hm boot_len (callWith_builtin1 (args_cons (Call_ (ld_blt I hg2 hm2 boot_set (callWith_type1 (args_cons (thn (ha.run pins s σ H _ I h) fun v s1 ⟨x, H1, I1, r1, q1⟩ => args_nil ?_) na) na rfl))) rfl) rfl rfl))⟩
  obtain ⟨l, xs, rfl, hq, few, q1⟩ := q1
  cases r1
  have bound : xs.length + 1 < scanBound := by unfold scanBound; omega
  have fin : ∀ (h' : Heap) (tk : Nat), h'.SetOf (strKind X.prog X.w) s1.heap.objs.size (fun y => decide (y ∈ xs)) (once xs).length → (∀ b o, b < s1.heap.objs.size → s1.heap.get? b = some o → h'.get? b = some o) →
      wpAny (model X.prog X.w) X.A (spliced (backTo pos (starEach [] X.env))) (fun vs s₂ => wpAny (model X.prog X.w) X.A (call (.builtin "len") (Value.ref s1.heap.objs.size :: vs)) (EP X pins σ Q) X.xe s₂) X.xe { s1 with heap := h', toks := tk } := fun h' tk hS hk => by
    obtain ⟨o, es, ep, t, ho, hex, hd, _, _, _, hf, hn⟩ := hS
    have I2 : Inv X pins σ H1 { s1 with heap := h', toks := tk } := I1.kept fun b o e => hk b o (Heap.lt_size e) e
    have le := once_le xs
    exact args_nil (call_len_set ho hex hd hf (by rw [hn]; omega) ⟨.int (once xs).length, H1, I2.tok _, ⟨_, by rw [hn]⟩, q1⟩)
  rcases hq with hq | hq
  · obtain ⟨its, r, pl, hz⟩ := I1.list hq
    obtain ⟨o, ho, hcls, m, hd⟩ := pl.isList
    exact set_by (T := "list") (it := { cls := .type "list_iterator", data := .fields #[.ref l, .int 0 0] }) (St := fun I i h => h.IsListIter I l i ∧ h.IsList l its.toArray) (I1.ok.hd hc) ho hcls hd F.sub_list_set F.sub_list_frozenset (by decide) (by simpa using strsAre_of r) bound rfl
      (fun s1 Q' E' A' e k => wpAny_pyIter_list ⟨o, e, hcls, m, hd⟩ k) (fun A' hh I ne => Walks.list hh I l ne its.toArray) (fun h I e1 e2 => ⟨⟨_, e1, rfl, rfl⟩, ⟨o, e2, hcls, m, hd⟩⟩) fin
  · obtain ⟨its, r, pl, hz⟩ := I1.tuple hq
    obtain ⟨o, ho, hcls, m, hd⟩ := pl
    exact set_by (T := "tuple") (it := { cls := .type "tuple_iterator", data := .fields #[.ref l, .int 0 0] }) (St := fun I i h => h.IsTupleIter I l i ∧ h.IsTuple l its.toArray) (I1.ok.hd hc) ho hcls hd F.sub_tuple_set F.sub_tuple_frozenset (by decide) (by simpa using strsAre_of r) bound rfl
      (fun s1 Q' E' A' e k => wpAny_pyIter_tuple ⟨o, e, hcls, m, hd⟩ k) (fun A' hh I ne => Walks.tuple hh I l ne its.toArray) (fun h I e1 e2 => ⟨⟨_, e1, rfl, rfl⟩, ⟨o, e2, hcls, m, hd⟩⟩) fin
end
end K2S

/-! d.update(e), both dicts with texts or ints as keys -/
namespace K2U
open PySem PySem.Spec PyProof.Rows L2
section
variable {X : Cx} {pins : List (Addr × Obj)} {σ : L2.St} {H : Hp} {s : Shared} {a b : Addr} {A : Around} {E : Value → Shared → Prop}
theorem d_upd {kvs more : List (Key × V)} {Q : Value → Shared → Prop} (I : Inv X pins σ H s) (e : H a = some (.dK kvs)) (e2 : Rd H b (.dK more)) (ne : a ≠ b) (hl : kvs.length + more.length ≤ sizeLine)
    (h : ∀ (w' : Value) (s' : Shared), Inv X pins σ (upd H a (.dK (mergeK kvs more))) s' → w' = .none → Q w' s') : wpAny (model X.prog X.w) A (call (.builtin "dict.update") [.ref a, .ref b]) Q E s := by
  obtain ⟨_, hd, vs, rel, dd⟩ := dk_of I.hok e
  obtain ⟨_, hd2, ws, rel2, dd2⟩ := dk_rd I.hok e2
  refine call_meetsIn F.slot_dict_update dd.typeIs F.entry_dict_update (F.args_dict_update_2 _ _) (meets_dict_update (mixKind X.prog X.w) a b ne hd2) ⟨vs, ws, dd, dd2, by rw [← rel.length, ← rel2.length]; exact hl, fun h' dd' _ hs => ?_⟩
  have he : ∃ q, h'.get? a = some q := let ⟨q, _, _, hq, _⟩ := dd'; ⟨q, hq⟩
  exact h _ _ (d_write (t' := s.toks) I (by rw [e]; exact True.intro) hs he (dk_new (Nat.le_trans (length_mergeK more kvs) hl) hd (rel2.merge rel) dd')) rfl
end
def tDUpd (td ty : TE) : TE := fun σ H Q => td σ H fun x H1 => ∃ a, x = .ref a ∧ IsD H1 a ∧ ty σ H1 fun y H2 => ∃ (b : Addr) (kvs more : List (Key × V)), y = .ref b ∧ H2 a = some (.dK kvs) ∧ Rd H2 b (.dK more) ∧ a ≠ b ∧ kvs.length + more.length ≤ sizeLine ∧
  Q .non (upd H2 a (.dK (mergeK kvs more)))
section
variable {X : Cx} {o e : Expr} {td ty : TE} {apos cpos : Pos}
theorem pe_dupd (ho : PE X o td) (he : PE X e ty) (m : M1 X o "update" apos e cpos) : PE X (.Call (.Attribute o "update" apos) [e] [] cpos) (tDUpd td ty) := by
  refine ⟨fun pins s σ H Q I h => wpAny_Call_method m.base m.few m.line F.plainAttrs_dict F.slot_dict_update F.type_dict_update (thn (ho.run pins s σ H _ I h) fun u s1 ⟨x, H1, I1, rx, a, ex, d, q1⟩ => ?_)⟩
  subst ex
  obtain rfl : u = Value.ref a := rx
  obtain ⟨t1, t2, _⟩ := isD_at I1 d
  refine ⟨t1, t2, ?_⟩
  rw [m.trees]
  refine Calls.callWith_builtin rfl (Calls.evalArgs_plain (Calls.spliced_cons (thn (he.run pins s1 σ H1 _ I1 q1) fun iv s2 ⟨y, H2, I2, ry, b, kvs, more, ey, e1, e2, ne, hl, q2⟩ => Calls.spliced_nil ?_)))
  subst ey
  obtain rfl : iv = Value.ref b := ry
  exact d_upd I2 e1 e2 ne hl fun w' s3 I3 ew => by
    subst ew
    exact ⟨.non, _, I3, rfl, q2⟩
end
end K2U

namespace L2
open PySem PySem.Spec PyProof.Rows
/-- x is True, x is False, whatever x is -/
theorem op_isAny {X : Cx} : OpR X (compareOp .Is) (fun x y H Q => ∃ b : Bool, y = .bl b ∧ Q (.bl (decide (x = .bl b))) H) := by
  intro pins s σ H x y v u Q I rx ry h
  obtain ⟨b, rfl, q⟩ := h
  cases (show u = Value.bool b from ry)
  by_cases e : x = .bl b
  · subst e
    cases (show v = Value.bool b from rx)
    exact wpAny_is_self rfl ⟨.bl true, H, I, rfl, by simpa using q⟩
  · have ne : v ≠ Value.bool b := by
      rintro rfl
      cases x with
      | bl a =>
        have z : Value.bool b = Value.bool a := rx
        exact e (by rw [Value.bool.inj z])
      | int i => obtain ⟨t, z⟩ := rx; cases z
      | str i => obtain ⟨t, z⟩ := rx; cases z
      | byt i => obtain ⟨t, z⟩ := rx; cases z
      | flt i => obtain ⟨t, z⟩ := rx; cases z
      | non => cases rx
      | ref a => cases rx
      | ty n => cases rx
    exact wpAny_is_other (by cases x <;> first | (cases rx; rfl) | (obtain ⟨t, rfl⟩ := rx; rfl)) ne ⟨.bl false, H, I, rfl, by simpa [e] using q⟩
end L2

namespace L2
open PySem PySem.Spec PyProof.Rows
/-- one way of walking or another -/
theorem pi_or {X : Cx} {tg l : Expr} {t1 t2 : TI} (h1 : PI X tg l t1) (h2 : PI X tg l t2) : PI X tg l (fun σ H R => t1 σ H R ∨ t2 σ H R) :=
  ⟨fun pins s σ H R I h => h.elim (h1.run pins s σ H R I) (h2.run pins s σ H R I)⟩
end L2
namespace K5
open PySem L2
/-- a def of the program that lets no error out, with all that its call asks -/
abbrev Fn (P : Program) (w : World) (K : PySem.W.Frag) (mg : Str → Option Value) (base : Heap) (n : Nat) (x : Str) (ps : List Str) (sp : Sp) : Prop :=
  ∃ f fd, PySem.W.keepIn K (.ref f) = true ∧ FnOk P w K mg base CX0 n f fd ps sp ∧ Binds K fd ps [] ∧ mg x = some (.ref f)
theorem pe_fn {X : Cx} {n : Nat} {x : Str} {ps : List Str} {sp : Sp} {p pos : Pos} {e : Expr} {es : List Expr} {t : TA} (F : Fn X.prog X.w X.K X.mg X.base n x ps sp) (hr : Room n X.A) (hg : Gl X x) (ha : PA X (e :: es) t)
    (hdb : (x == ("__debug__" : Str)) = false := by decide) (he : starEach (e :: es) X.env = (false, eval e X.env) :: starEach es X.env := by rfl) (hpl : (backTo pos (starEach es X.env)).any (·.1) = false := by rfl) :
    PE X (.Call (.Name x p) (e :: es) [] pos) (tCall sp [] (fun _ _ _ => False) t) := by
  obtain ⟨f, fd, k, G, b, m⟩ := F
  exact pe_call G hr hg m k b .nil pass0 ha hdb he hpl
abbrev sDoub : Stmt := top 32
abbrev sAllowed : Stmt := top 33
def sgn3 : List Str := ["=", ";", ","]
/-- the text that data are -/
def strD : PyData → Option Str
  | .str z => some z
  | _ => none
def inD (ws : List Str) (d : PyData) : Bool := (strD d).elim false fun z => decide (z ∈ ws)
def okSeq (ds : List PyData) : Bool := ds.all (inD sgn3) && decide (ds.filterMap strD).Nodup
/-- whether data are signs that may be doubled -/
def okDoub : PyData → Bool
  | .list ds => okSeq ds
  | .tuple ds => okSeq ds
  | _ => false
def Short (d : PyData) : Prop := ∀ ds, (d = .list ds ∨ d = .tuple ds) → ds.length ≤ 50
def isB : PyData → Bool
  | .bool _ => true
  | _ => false
theorem dp_thing {K : PySem.W.Frag} {H : Hp} {v : V} {d : PyData} (h : Dp K H v d) : Thing K H v (strD d) := by
  cases h with
  | str x => exact .inl ⟨x, rfl, rfl⟩
  | non => exact .inr ⟨rfl, _, .base .non, kit_ty (by decide +kernel)⟩
  | bl b => exact .inr ⟨rfl, _, .base (.bl b), kit_ty (by decide +kernel)⟩
  | int i => exact .inr ⟨rfl, _, .base (.int i), kit_ty (by decide +kernel)⟩
  | lst h1 _ =>
    rcases h1 with (h1 | ⟨o, h1⟩) | ⟨o, its, n, h1, h2, _⟩
    · exact .inr ⟨rfl, _, .base (.lst h1), kit_ty (by decide +kernel)⟩
    · exact .inr ⟨rfl, _, .base (.frz h1), kit_ty (by decide +kernel)⟩
    · exact .inr ⟨rfl, _, .kList h1 h2, kit_ty (by decide +kernel)⟩
  | tup h1 _ =>
    rcases h1 with (h1 | ⟨o, h1⟩) | ⟨o, its, n, h1, h2, _⟩
    · exact .inr ⟨rfl, _, .base (.tup h1), kit_ty (by decide +kernel)⟩
    · exact .inr ⟨rfl, _, .fTuple h1, kit_ty (by decide +kernel)⟩
    · exact .inr ⟨rfl, _, .kTuple h1 h2, kit_ty (by decide +kernel)⟩
theorem sql_ty {K : PySem.W.Frag} {H : Hp} {a : Addr} {xs : List V} (h : SqL K H a xs) : TyX K H (.ref a) (.type "list") := by
  rcases h with (h1 | ⟨o, h1⟩) | ⟨o, its, n, h1, h2, _⟩
  · exact .base (.lst h1)
  · exact .base (.frz h1)
  · exact .kList h1 h2
theorem sqt_ty {K : PySem.W.Frag} {H : Hp} {a : Addr} {xs : List V} (h : SqT K H a xs) : TyX K H (.ref a) (.type "tuple") := by
  rcases h with (h1 | ⟨o, h1⟩) | ⟨o, its, n, h1, h2, _⟩
  · exact .base (.tup h1)
  · exact .fTuple h1
  · exact .kTuple h1 h2
/-- data of signs alone are texts -/
theorem all_texts {K : PySem.W.Frag} {H : Hp} {ws : List Str} : ∀ {ds : List PyData} {vs : List V}, DpAll K H vs ds → ds.all (inD ws) = true → vs = (ds.filterMap strD).map V.str ∧ (ds.filterMap strD).length = ds.length
  | [], _, h, _ => by
    cases h
    exact ⟨rfl, rfl⟩
  | d :: ds, _, h, e => by
    cases h with
    | cons h1 h2 =>
      rw [List.all_cons, Bool.and_eq_true] at e
      obtain ⟨i1, i2⟩ := all_texts h2 e.2
      cases h1 with
      | str x =>
        rw [i1]
        exact ⟨rfl, congrArg (· + 1) i2⟩
      | non => exact absurd e.1 (by simp [inD, strD])
      | bl b => exact absurd e.1 (by cases b <;> simp [inD, strD])
      | int i => exact absurd e.1 (by simp [inD, strD])
      | lst _ _ => exact absurd e.1 (by simp [inD, strD])
      | tup _ _ => exact absurd e.1 (by simp [inD, strD])
theorem kit_seq {K : PySem.W.Frag} {t : String} {b1 b2 : Bool} (h1 : kitB t "tuple" = some b1) (h2 : kitB t "list" = some b2) : PySem.W.kitAny K (.type t) [.type "tuple", .type "list"] = some (b1 || b2) := by
  refine kitAny_cons (kit_ty h1) (fun e => ?_) (fun e => by rw [e]; rfl)
  rw [e, Bool.false_or]
  refine kitAny_cons (kit_ty h2) (fun e => ?_) (fun e => e)
  rw [e]
  rfl
/-- a list or a tuple, with its data -/
def RowD (K : PySem.W.Frag) (H : Hp) (a : Addr) (xs : List V) (d : PyData) (ds : List PyData) : Prop := (SqL K H a xs ∧ d = .list ds) ∨ (SqT K H a xs ∧ d = .tuple ds)
theorem seq_or {K : PySem.W.Frag} {H : Hp} {v : V} {d : PyData} (h : Dp K H v d) : (∃ a xs ds, v = .ref a ∧ DpAll K H xs ds ∧ RowD K H a xs d ds) ∨ (okDoub d = false ∧ ∃ t, (∀ H', TyX K H' v (.type t)) ∧ kitB t "tuple" = some false ∧ kitB t "list" = some false) := by
  cases h with
  | str x => exact .inr ⟨rfl, _, fun _ => .base (.str x), by decide +kernel, by decide +kernel⟩
  | non => exact .inr ⟨rfl, _, fun _ => .base .non, by decide +kernel, by decide +kernel⟩
  | bl b => exact .inr ⟨rfl, _, fun _ => .base (.bl b), by decide +kernel, by decide +kernel⟩
  | int i => exact .inr ⟨rfl, _, fun _ => .base (.int i), by decide +kernel, by decide +kernel⟩
  | lst h1 h2 => exact .inl ⟨_, _, _, rfl, h2, .inl ⟨h1, rfl⟩⟩
  | tup h1 h2 => exact .inl ⟨_, _, _, rfl, h2, .inr ⟨h1, rfl⟩⟩
theorem RowD.ok {K : PySem.W.Frag} {H : Hp} {a : Addr} {xs : List V} {d : PyData} {ds : List PyData} (h : RowD K H a xs d ds) : okDoub d = okSeq ds := by
  rcases h with ⟨_, rfl⟩ | ⟨_, rfl⟩ <;> rfl
theorem RowD.ty {K : PySem.W.Frag} {H : Hp} {a : Addr} {xs : List V} {d : PyData} {ds : List PyData} (h : RowD K H a xs d ds) : ∃ t, TyX K H (.ref a) t ∧ PySem.W.kitAny K t [.type "tuple", .type "list"] = some true := by
  rcases h with ⟨h, _⟩ | ⟨h, _⟩
  · exact ⟨_, sql_ty h, kit_seq (b1 := false) (b2 := true) (by decide +kernel) (by decide +kernel)⟩
  · exact ⟨_, sqt_ty h, kit_seq (b1 := true) (b2 := false) (by decide +kernel) (by decide +kernel)⟩
theorem RowD.same {K : PySem.W.Frag} {H H' : Hp} {a : Addr} {xs : List V} {d : PyData} {ds : List PyData} (h : RowD K H a xs d ds) (s : Same H H') : RowD K H' a xs d ds := by
  rcases h with ⟨h, e⟩ | ⟨h, e⟩
  · exact .inl ⟨s.seq h, e⟩
  · exact .inr ⟨SqT.ext h s, e⟩
theorem RowD.len {K : PySem.W.Frag} {H : Hp} {a : Addr} {xs : List V} {d : PyData} {ds : List PyData} (h : RowD K H a xs d ds) : LenV K (.ref a) H xs.length := by
  rcases h with ⟨h, _⟩ | ⟨h, _⟩
  · exact .inl ⟨_, h, rfl⟩
  · exact .inr ⟨_, h, rfl⟩
theorem RowD.short {K : PySem.W.Frag} {H : Hp} {a : Addr} {xs : List V} {d : PyData} {ds : List PyData} (h : RowD K H a xs d ds) (s : Short d) : ds.length ≤ 50 := by
  rcases h with ⟨_, e⟩ | ⟨_, e⟩
  · exact s ds (.inl e)
  · exact s ds (.inr e)
theorem DpAll.at2 {K : PySem.W.Frag} {H : Hp} : ∀ {ds : List PyData} {vs : List V} {k : Nat} {v : V}, DpAll K H vs ds → vs[k]? = some v → ∃ d, ds[k]? = some d ∧ Dp K H v d
  | [], _, _, _, h, e => by
    cases h
    cases e
  | d :: ds, _, 0, _, h, e => by
    cases h with
    | cons h1 h2 => exact ⟨d, rfl, (Option.some.inj e) ▸ h1⟩
  | d :: ds, _, k + 1, _, h, e => by
    cases h with
    | cons h1 h2 => exact DpAll.at2 (ds := ds) (k := k) h2 e
/-- at a stands a tuple of texts of the written part -/
def TupW (K : PySem.W.Frag) (a : Addr) (ws : List Str) : Prop := ∃ (o : Obj) (its : Array Value) (n : Nat), K.lookup a = some o ∧ o.cls = .type "tuple" ∧ o.data = .seq its n ∧ its.size ≤ sizeLine ∧ Vals (ws.map V.str) its.toList
theorem TupW.sq {K : PySem.W.Frag} {a : Addr} {ws : List Str} (h : TupW K a ws) (H : Hp) : SqT K H a (ws.map V.str) := .inr h
def names7 : List Str := ["equals", "end", "comma", "last", "doubled", "bare", "nothing"]
def chOf (o : Str) : Option (List Str) :=
  if o = "equals" then some ["must", "may"] else if o = "end" then some ["must", "between", "may"] else if o = "comma" then some ["must", "may", "joins"] else if o = "last" then some ["never", "may", "must"] else none
/-- the constants of the module -/
structure ModC (K : PySem.W.Frag) (w : World) (mg : Str → Option Value) (aD aO aC : Addr) : Prop extends Bare mg where
  dbl : mg "DOUBLED" = some (.ref aD)
  dtup : TupW K aD sgn3
  opt : mg "OPTIONS" = some (.ref aO)
  otup : TupW K aO names7
  cho : mg "CHOICES" = some (.ref aC)
  kd : ∃ es n, KDict K w aC es n
  ch : ∀ o ∈ names7, (chOf o = none → PySem.W.nsIn K aC o = some none) ∧ ∀ ws, chOf o = some ws → ∃ a, PySem.W.nsIn K aC o = some (some (.ref a)) ∧ TupW K a ws
def spDoub (K : PySem.W.Frag) : Sp := fun vs H Q _ => ∃ (v : V) (d : PyData), vs = [v] ∧ Dp K H v d ∧ Short d ∧ ∀ H', Same H H' → Q (.bl (okDoub d)) H'
/-- whether an option may be so -/
def okOpt (o : Str) (d : PyData) : Bool := (chOf o).elim (if o = "doubled" then okDoub d else isB d) fun ws => inD ws d
def spAllowed (K : PySem.W.Frag) : Sp := fun vs H Q _ => ∃ (o : Str) (v : V) (d : PyData), vs = [.str o, v] ∧ o ∈ names7 ∧ Dp K H v d ∧ Short d ∧ ∀ H', Same H H' → Q (.bl (okOpt o d)) H'
section
variable {P : Program} {w : World} {K : PySem.W.Frag} {mg : Str → Option Value} {base : Heap} {aD aO aC : Addr}
theorem scDoub : FnScope ["thing", "sign"] ["thing"] (defScope sDoub) := ⟨rfl, rfl, rfl, by decide +kernel, rfl, by decide +kernel, by decide +kernel⟩
theorem okSeq_false {ds : List PyData} (h : ds.all (inD sgn3) = false) : okSeq ds = false := by
  unfold okSeq
  rw [h, Bool.false_and]
theorem ok_doub {f : Addr} {fd : FuncData} (F : Fun K "is_doubled_option" "is_doubled_option" sDoub f fd) (T : ModC K w mg aD aO aC) (GO : Fn P w K mg base 1 "is_one_of" ["thing", "words"] (spOneOf K)) :
    FnOk P w K mg base CX0 2 f fd ["thing"] (spDoub K) := by
  refine F.ok scDoub (fun vs H Q E h => ?_) (fun cdv A outer s H vs Q E hr h => ?_)
  · obtain ⟨v, d, rfl, _⟩ := h
    rfl
  · obtain ⟨v, d, rfl, hv, hs, q⟩ := h
    refine ⟨_, C8.pss_cut (ps_if (pt_not (pt_val (pe_callB call_isiT (by rfl) T.isi (by decide +kernel) (pa_cons (pv 0) (pa_cons (pe_tup (pa_cons (pe_bltn (v := .ty "tuple") (by rfl) T.tuple (by decide +kernel) rfl) (pa_cons (pe_bltn (v := .ty "list") (by rfl) T.list (by decide +kernel) rfl) pa_nil))) pa_nil))))) (pss_one (ps_ret pe_bl)) pss_nil)
      (C8.pss_cut (ps_if (pt_not (pt_val (pe_callB (cr_all rfl) (by rfl) T.all (by decide +kernel) (pa_cons (pe_lc (own := [("sign", 1)]) (g := gName 1) (tt := tYes) (by rfl) scDoub.nd (pi_or (pi_list (pv 0)) (pi_tup (pv 0)))
        (blkOk_by (own := [("sign", 1)]) (N := ["thing", "sign"]) (sc := defScope sDoub) (by decide +kernel)) (fun _ _ _ _ _ => pg_name (i := 1) scDoub.nd rfl (Or.inl rfl)) (fun _ _ _ _ _ => pts_nil)
        (fun _ _ _ _ _ => pe_fn GO (hr.mono (by decide)) rfl (pa_cons (pv 1) (pa_cons (pe_glob (v := .ref aD) (by rfl) T.dbl rfl) pa_nil)))) pa_nil)))) (pss_one (ps_ret pe_bl)) pss_nil)
      (pss_one (ps_ret (pe_cmpR op_eq (K2S.pe_many (by rfl) (by rfl) T.len (by rfl) T.set (pv 0)) (pe_callB call_len (by rfl) T.len PySem.boot_len (pa_cons (pv 0) pa_nil)) (nomark _))))), ?_⟩
    rcases seq_or hv with ⟨a, xs, ds, rfl, hx, row⟩ | ⟨hn, t, ty, k1, k2⟩
    case inr =>
      refine ⟨fun _ _ => False, ⟨_, rfl, by show 2 ≤ sizeLine; decide, fun tp htp => ?_⟩, fun _ _ z => z.elim⟩
      refine ⟨v, tp, _, .type t, [.type "tuple", .type "list"], false, rfl, upd_same, .cons (.ty "tuple") (.cons (.ty "list") .nil), ty _, kit_seq (b1 := false) (b2 := false) k1 k2, _, rfl, iteT ?_⟩
      have e := q _ (Same.new (o := .tup [.ty "tuple", .ty "list"]) (Same.refl H) htp)
      rw [hn] at e
      exact e
    have l50 := row.short hs
    have lx := DpAll.len hx
    rw [row.ok] at q
    refine ⟨fun σ H' => σ = [some (.ref a), none] ∧ Same H H', ?_, ?_⟩
    · refine ⟨_, rfl, by show 2 ≤ sizeLine; decide, fun tp htp => ?_⟩
      have s1 := Same.new (o := .tup [.ty "tuple", .ty "list"]) (Same.refl H) htp
      obtain ⟨t, ty, kt⟩ := (row.same s1).ty
      exact ⟨.ref a, tp, _, t, [.type "tuple", .type "list"], true, rfl, upd_same, .cons (.ty "tuple") (.cons (.ty "list") .nil), ty, kt, _, rfl, iteF ⟨rfl, s1⟩⟩
    rintro σ H1 ⟨rfl, s1⟩
    refine ⟨fun σ H' => σ = [some (.ref a), none] ∧ Same H H' ∧ ds.all (inD sgn3) = true, ?_, ?_⟩
    · -- one sign after another
      have step : ∀ (D : Addr), H1 D = none → ∀ (i : Nat) (x : V) (H2 : Hp), xs[i]? = some x → (Same H1 H2 ∧ H2 D = some (.lst ((ds.take i).map fun d => V.bl (inD sgn3 d)))) →
          ∃ d, ds[i]? = some d ∧ Thing K H2 x (strD d) ∧ ((ds.take i).map fun d => V.bl (inD sgn3 d)).length < sizeLine ∧ (Same H1 (upd H2 D (.lst ((ds.take i).map (fun d => V.bl (inD sgn3 d)) ++ [V.bl (inD sgn3 d)]))) ∧ (upd H2 D (.lst ((ds.take i).map (fun d => V.bl (inD sgn3 d)) ++ [V.bl (inD sgn3 d)]))) D = some (.lst ((ds.take (i + 1)).map fun d => V.bl (inD sgn3 d)))) := by
        intro D hD i x H2 hi ⟨s2, h2⟩
        obtain ⟨d', hd', hx'⟩ := DpAll.at2 hx hi
        refine ⟨d', hd', dp_thing (dp_same (s1.trans s2) _ hx'), ?_, fun b o e => ?_, ?_⟩
        · rw [List.length_map, List.length_take]
          exact line_ge (by omega)
        · rw [upd_ne (ne_of_none e hD)]
          exact s2 b o e
        · rw [upd_same, List.take_add_one, hd', List.map_append]
          rfl
      have last : ∀ (D : Addr), H1 D = none → ∀ H2, (Same H1 H2 ∧ H2 D = some (.lst ((ds.take xs.length).map fun d => V.bl (inD sgn3 d)))) → Same H H2 ∧ SqL K H2 D ((ds.map (inD sgn3)).map V.bl) ∧ (ds.map (inD sgn3)).all id = ds.all (inD sgn3) := by
        intro D hD H2 ⟨s2, h2⟩
        refine ⟨s1.trans s2, SqL.of ?_, all_id_map _ _⟩
        rw [h2, lx, List.take_length, List.map_map]
        rfl
      have fin : ∀ (D : Addr), H1 D = none → ∀ H2, (Same H1 H2 ∧ H2 D = some (.lst ((ds.take xs.length).map fun d => V.bl (inD sgn3 d)))) → ∃ (a' : Addr) (bs : List Bool), V.ref D = .ref a' ∧ SqL K H2 a' (bs.map V.bl) ∧ ∃ c, V.bl (bs.all id) = V.bl c ∧ Same H H2 ∧ c = ds.all (inD sgn3) := fun D hD H2 h2 => by
        obtain ⟨t1, t2, t3⟩ := last D hD H2 h2
        exact ⟨D, _, rfl, t2, _, rfl, t1, t3⟩
      have done : ∀ (D : Addr), H1 D = none → ∀ H2, (Same H1 H2 ∧ H2 D = some (.lst ((ds.take xs.length).map fun d => V.bl (inD sgn3 d)))) → ∃ (a' : Addr) (bs : List Bool), [V.ref D] = [.ref a'] ∧ SqL K H2 a' (bs.map V.bl) ∧ bs.all id = ds.all (inD sgn3) ∧ Same H H2 := fun D hD H2 h2 => by
        obtain ⟨t1, t2, t3⟩ := last D hD H2 h2
        exact ⟨D, _, rfl, t2, t3, t1⟩
      have over : ∀ (D : Addr) (H2 : Hp) (bs : List Bool), bs.all id = ds.all (inD sgn3) → Same H H2 → if (!bs.all id) = true then Q (.bl false) H2 else ([some (V.ref a), none] = [some (V.ref a), none] ∧ Same H H2 ∧ ds.all (inD sgn3) = true) := fun D H2 bs e s2 => by
        rw [e]
        cases hb : ds.all (inD sgn3) with
        | false =>
          refine iteT ?_
          have z := q H2 s2
          rw [okSeq_false hb] at z
          exact z
        | true => exact iteF ⟨rfl, s2, rfl⟩
      rcases row.same s1 with ⟨hl, _⟩ | ⟨hl, _⟩
      · refine .inl ⟨_, rfl, a, rfl, ⟨xs, hl⟩, fun D hD => lc_list (K := K) (a := a) (xs := xs) (fun i H' => Same H1 H' ∧ H' D = some (.lst ((ds.take i).map fun d => V.bl (inD sgn3 d)))) ⟨Same.new (Same.refl H1) hD, upd_same⟩ (fun i H' _ h => h.1.seq hl) (fun i x H2 hi h => ?_) (fun H2 h => ?_)⟩
        · obtain ⟨d', _, th, sz, nx⟩ := step D hD i x H2 hi h
          exact ⟨rfl, _, rfl, x, strD d', aD, sgn3, rfl, th, T.dtup.sq H2, _, h.2, sz, nx⟩
        · obtain ⟨a', bs, e, hb, e2, s2⟩ := done D hD H2 h
          cases e
          exact ⟨D, bs, rfl, hb, _, rfl, over D H2 bs e2 s2⟩
      · refine .inr ⟨_, rfl, a, rfl, ⟨xs, hl⟩, fun D hD => lc_tup (K := K) (a := a) (xs := xs) (fun i H' => Same H1 H' ∧ H' D = some (.lst ((ds.take i).map fun d => V.bl (inD sgn3 d)))) ⟨Same.new (Same.refl H1) hD, upd_same⟩ (fun i H' _ h => SqT.ext hl h.1) (fun i x H2 hi h => ?_) (fun H2 h => ?_)⟩
        · obtain ⟨d', _, th, sz, nx⟩ := step D hD i x H2 hi h
          exact ⟨rfl, _, rfl, x, strD d', aD, sgn3, rfl, th, T.dtup.sq H2, _, h.2, sz, nx⟩
        · obtain ⟨a', bs, e, hb, e2, s2⟩ := done D hD H2 h
          cases e
          exact ⟨D, bs, rfl, hb, _, rfl, over D H2 bs e2 s2⟩
    rintro σ H2 ⟨rfl, s2, hall⟩
    have row2 := row.same s2
    obtain ⟨e1, e2⟩ := all_texts hx hall
    have z := q H2 s2
    refine ⟨_, rfl, a, ds.filterMap strD, rfl, ?_, by omega, _, rfl, _, _, rfl, row2.len, rfl, ?_⟩
    · rw [← e1]
      rcases row2 with ⟨h, _⟩ | ⟨h, _⟩
      · exact .inl h
      · exact .inr h
    · show Q (V.bl (decide (V.int ((K2S.once (ds.filterMap strD)).length : Nat) = V.int (xs.length : Nat)))) H2
      have e3 : decide (V.int ((K2S.once (ds.filterMap strD)).length : Nat) = V.int (xs.length : Nat)) = okSeq ds := by
        unfold okSeq
        rw [hall, Bool.true_and, decide_eq_decide, lx, ← e2, ← K2S.once_nodup]
        constructor
        · intro h
          have h := V.int.inj h
          omega
        · intro h
          rw [h]
      rw [e3]
      exact z
end
end K5

namespace K5
open PySem L2
section
variable {P : Program} {w : World} {K : PySem.W.Frag} {mg : Str → Option Value} {base : Heap} {aD aO aC : Addr}
theorem scAllowed : FnScope ["option", "thing"] ["option", "thing"] (defScope sAllowed) := ⟨rfl, rfl, rfl, by decide +kernel, rfl, by decide +kernel, by decide +kernel⟩
theorem ch_none {o : Str} (h : o ∈ names7) : chOf o = none → o = "doubled" ∨ (o ≠ "doubled") := fun _ => Classical.em _
theorem isB_or {K : PySem.W.Frag} {H : Hp} {v : V} {d : PyData} (h : Dp K H v d) : isB d = (decide (v = .bl true) || decide (v = .bl false)) := by
  cases h with
  | bl b => cases b <;> simp [isB]
  | str x => simp [isB]
  | non => simp [isB]
  | int i => simp [isB]
  | lst _ _ => simp [isB]
  | tup _ _ => simp [isB]
theorem ok_allowed {f : Addr} {fd : FuncData} (F : Fun K "is_allowed" "is_allowed" sAllowed f fd) (T : ModC K w mg aD aO aC) (GO : Fn P w K mg base 1 "is_one_of" ["thing", "words"] (spOneOf K)) (GD : Fn P w K mg base 2 "is_doubled_option" ["thing"] (spDoub K)) :
    FnOk P w K mg base CX0 3 f fd ["option", "thing"] (spAllowed K) := by
  obtain ⟨es, n, kd⟩ := T.kd
  refine F.ok scAllowed (fun vs H Q E h => ?_) (fun cdv A outer s H vs Q E hr h => ?_)
  · obtain ⟨o, v, d, rfl, _⟩ := h
    rfl
  · obtain ⟨o, v, d, rfl, ho, hv, hs, q⟩ := h
    refine ⟨_, pss_cons (ps_if (pt_cmpR (op_in_kd kd) (pv 0) (pe_glob (v := .ref aC) (by rfl) T.cho rfl) (by rfl)) (pss_one (ps_ret (pe_fn GO (hr.mono (by decide)) rfl (pa_cons (pv 1) (pa_cons (pe_ix ix_kdict (pe_glob (v := .ref aC) (by rfl) T.cho rfl) (pv 0) (fun _ _ => rfl)) pa_nil))))) pss_nil)
      (pss_cons (ps_if (pt_cmpR op_eq (pv 0) pe_str (nomark _)) (pss_one (ps_ret (pe_fn GD (hr.mono (by decide)) rfl (pa_cons (pv 1) pa_nil)))) pss_nil)
      (pss_one (ps_ret (pe_or (pe_cmpR op_isAny (pv 1) pe_bl (nomark _)) (pe_one (pe_cmpR op_isAny (pv 1) pe_bl (nomark _))))))), ?_⟩
    have z := q H (Same.refl H)
    unfold okOpt at q z
    obtain ⟨c1, c2⟩ := T.ch o ho
    cases hc : chOf o with
    | some ws =>
      rw [hc] at z
      obtain ⟨a, e1, tw⟩ := c2 ws hc
      refine ⟨_, rfl, o, some (.ref a), rfl, rfl, e1, _, rfl, iteT ⟨_, rfl, _, rfl, aC, o, .ref a, rfl, rfl, ⟨es, n, .ref a, kd.at_, kd.lit, e1, rfl⟩, v, strD d, a, ws, rfl, dp_thing hv, tw.sq H, z⟩⟩
    | none =>
      rw [hc] at z q
      refine ⟨_, rfl, o, none, rfl, rfl, c1 hc, _, rfl, iteF ⟨_, rfl, rfl, _, rfl, ?_⟩⟩
      show if decide (V.str o = V.str ("doubled" : Str)) = true then _ else _
      rw [eq_strB]
      refine ite2 (fun h => ?_) (fun h => ?_)
      · have h := of_decide_eq_true h
        refine ⟨_, rfl, v, d, rfl, hv, hs, fun H' s' => ?_⟩
        have y := q H' s'
        simp only [Option.elim, if_pos h] at y
        exact y
      · have h : ¬ o = "doubled" := fun e => h (decide_eq_true e)
        simp only [Option.elim, if_neg h, isB_or hv] at z
        refine ⟨_, rfl, true, rfl, _, rfl, ?_⟩
        cases hb : decide (v = V.bl true) with
        | true =>
          rw [hb, Bool.true_or] at z
          exact iteT z
        | false =>
          rw [hb, Bool.false_or] at z
          exact iteF ⟨_, rfl, false, rfl, z⟩
end
end K5

namespace K5
open PySem L2
def inClass (st : Stmt) (i : Nat) : Stmt := match st with
  | .ClassDef (body := b) .. => b.getD i (.Pass ⟨0, 0, 0, 0⟩)
  | _ => .Pass ⟨0, 0, 0, 0⟩
abbrev sDbl : Stmt := top 34
abbrev sName : Stmt := top 35
abbrev sEquals : Stmt := top 36
abbrev sBehind : Stmt := top 37
abbrev sItem : Stmt := top 38
abbrev sComma : Stmt := top 39
abbrev sDone : Stmt := top 40
abbrev sEnded : Stmt := top 41
abbrev sAllWays : Stmt := top 42
/-- a language's options, as they are kept -/
structure Lang where
  e : Str
  n : Str
  c : Str
  l : Str
  D : List Str
  b : Bool
  x : Bool
/-- the class of languages -/
structure LangC (K : PySem.W.Frag) (mg : Str → Option Value) (C : Addr) : Prop where
  cl : Cls K C
  nE : PySem.W.findIn K (.ref C) "equals" = some none
  nN : PySem.W.findIn K (.ref C) "end" = some none
  nC : PySem.W.findIn K (.ref C) "comma" = some none
  nL : PySem.W.findIn K (.ref C) "last" = some none
  nD : PySem.W.findIn K (.ref C) "doubled" = some none
  nB : PySem.W.findIn K (.ref C) "bare" = some none
  nX : PySem.W.findIn K (.ref C) "nothing" = some none
  nW : PySem.W.findIn K (.ref C) "ways" = some none
  gC : mg "Language" = some (.ref C)
  ha : PySem.W.findIn K (.ref C) "__class__" = some (some (.builtin "object.__class__"))
  hn : PySem.W.specialIn K (.builtin "object.__class__") "__get__" = some (some (.builtin "getset_descriptor.__get__"))
  htk : PySem.W.takesIn K (.builtin "object.__class__") = some true
  hm : PySem.W.mroIn K C (.type "object") = some true
/-- the fields of a language -/
structure Fl (fs : List (Str × V)) (L : Lang) (t : Addr) : Prop where
  e : fs.lookup ("equals" : Str) = some (.str L.e)
  n : fs.lookup ("end" : Str) = some (.str L.n)
  c : fs.lookup ("comma" : Str) = some (.str L.c)
  l : fs.lookup ("last" : Str) = some (.str L.l)
  d : fs.lookup ("doubled" : Str) = some (.ref t)
  b : fs.lookup ("bare" : Str) = some (.bl L.b)
  x : fs.lookup ("nothing" : Str) = some (.bl L.x)
  w : fs.lookup ("with_options" : Str) = none
def LangAt (C : Addr) (H : Hp) (x : Addr) (L : Lang) : Prop := ∃ dx t fs, H x = some (.ins C dx fs) ∧ Fl fs L t ∧ H t = some (.tup (L.D.map V.str))
theorem LangAt.same {C : Addr} {H H' : Hp} {x : Addr} {L : Lang} (h : LangAt C H x L) (s : Same H H') : LangAt C H' x L := by
  obtain ⟨dx, t, fs, h1, h2, h3⟩ := h
  exact ⟨dx, t, fs, s _ _ h1, h2, s _ _ h3⟩
/-- texts beside texts, as a dict's pairs -/
def dK2 (ws : List (Str × Str)) : List (Key × V) := ws.map fun x => (Sum.inr x.1, V.str x.2)
/-- a new dict with these pairs -/
def NewW (H : Hp) (ws : List (Str × Str)) (Q : VK) : Prop := ∀ p H', H p = none → Same H H' → H' p = some (.dK (dK2 ws)) → Q (.ref p) H'
/-- what may follow, state by state: by the options that matter -/
abbrev aName1 (m w : Bool) : List (Str × Str) := [(("=" : Str), ("equals" : Str))] ++ (if m = true then [(("word" : Str), ("done" : Str)), ("number", "done"), ("[", "open")] else if w = true then [(("word" : Str), ("name" : Str))] else [])
abbrev aName (m w b : Bool) : List (Str × Str) := aName1 m w ++ (if b = true then [((";" : Str), ("ended" : Str))] else [])
abbrev aEqu0 : List (Str × Str) := [(("word" : Str), ("done" : Str)), ("number", "done"), ("[", "open")]
abbrev aEqu1 (d : Bool) : List (Str × Str) := aEqu0 ++ (if d = true then [(("=" : Str), ("equals" : Str))] else [])
abbrev aEqu (d x : Bool) : List (Str × Str) := aEqu1 d ++ (if x = true then [((";" : Str), ("ended" : Str))] else [])
abbrev aBeh (m : Bool) : List (Str × Str) := [(("," : Str), ("comma" : Str))] ++ (if m = true then [] else [(("]" : Str), ("done" : Str))])
abbrev aItem (m c j : Bool) : List (Str × Str) := aBeh m ++ (if c = true then [(("word" : Str), ("item" : Str))] else if j = true then [(("word" : Str), ("pair" : Str))] else [])
abbrev aCom1 (d : Bool) : List (Str × Str) := [(("word" : Str), ("item" : Str))] ++ (if d = true then [(("," : Str), ("comma" : Str))] else [])
abbrev aCom (d n : Bool) : List (Str × Str) := aCom1 d ++ (if n = true then [] else [(("]" : Str), ("done" : Str))])
abbrev aDone (m : Bool) : List (Str × Str) := [((";" : Str), ("ended" : Str))] ++ (if m = true then [(("word" : Str), ("name" : Str))] else [])
abbrev aEnd (d : Bool) : List (Str × Str) := [(("word" : Str), ("name" : Str))] ++ (if d = true then [((";" : Str), ("ended" : Str))] else [])
abbrev isE (L : Lang) : Bool := decide (L.e = "may")
abbrev isN (L : Lang) : Bool := decide (L.n = "may")
abbrev inDb (L : Lang) (s : Str) : Bool := decide (s ∈ L.D)
def wName (L : Lang) := aName (isE L) (L.b && isN L) L.b
def wEqu (L : Lang) := aEqu (inDb L "=") L.x
def wBeh (L : Lang) := aBeh (decide (L.l = "must"))
def wItem (L : Lang) := aItem (decide (L.l = "must")) (decide (L.c = "may")) (decide (L.c = "joins"))
def wCom (L : Lang) := aCom (inDb L ",") (decide (L.l = "never"))
def wDone (L : Lang) := aDone (isN L)
def wEnd (L : Lang) := aEnd (inDb L ";")
def wStart : List (Str × Str) := [("word", "name")]
def wOpen : List (Str × Str) := [("word", "item"), ("]", "done")]
theorem u_name1 : mergeK (dK2 [("=", "equals")]) (mergeK [] [(.inr "word", .str "done"), (.inr "number", .str "done"), (.inr "[", .str "open")]) = dK2 (aName1 true false) := by kernel_rfl
theorem u_name2 : putK (dK2 [("=", "equals")]) (.inr "word") (.str "name") = dK2 (aName1 false true) := by kernel_rfl
theorem u_name3 : ∀ m w : Bool, putK (dK2 (aName1 m w)) (.inr ";") (.str "ended") = dK2 (aName m w true) := by
  intro m w
  cases m <;> cases w <;> kernel_rfl
theorem u_equ1 : ∀ d : Bool, mergeK (dK2 aEqu0) (dK2 (if d = true then [(("=" : Str), ("equals" : Str))] else [])) = dK2 (aEqu1 d) := by
  intro d
  cases d <;> kernel_rfl
theorem u_equ2 : ∀ d : Bool, putK (dK2 (aEqu1 d)) (.inr ";") (.str "ended") = dK2 (aEqu d true) := by
  intro d
  cases d <;> kernel_rfl
theorem u_beh : putK (dK2 [(",", "comma")]) (.inr "]") (.str "done") = dK2 (aBeh false) := by kernel_rfl
theorem u_item1 : ∀ m j : Bool, putK (dK2 (aBeh m)) (.inr "word") (.str "item") = dK2 (aItem m true j) := by
  intro m j
  cases m <;> cases j <;> kernel_rfl
theorem u_item2 : ∀ m : Bool, putK (dK2 (aBeh m)) (.inr "word") (.str "pair") = dK2 (aItem m false true) := by
  intro m
  cases m <;> kernel_rfl
theorem u_com1 : ∀ d : Bool, mergeK (dK2 [("word", "item")]) (dK2 (if d = true then [(("," : Str), ("comma" : Str))] else [])) = dK2 (aCom1 d) := by
  intro d
  cases d <;> kernel_rfl
theorem u_com2 : ∀ d : Bool, putK (dK2 (aCom1 d)) (.inr "]") (.str "done") = dK2 (aCom d false) := by
  intro d
  cases d <;> kernel_rfl
theorem u_done : putK (dK2 [(";", "ended")]) (.inr "word") (.str "name") = dK2 (aDone true) := by kernel_rfl
theorem u_end : ∀ d : Bool, mergeK (dK2 [("word", "name")]) (dK2 (if d = true then [((";" : Str), ("ended" : Str))] else [])) = dK2 (aEnd d) := by
  intro d
  cases d <;> kernel_rfl
def spDbl (C : Addr) : Sp := fun vs H Q _ => ∃ (x : Addr) (s t : Str) (L : Lang), vs = [.ref x, .str s, .str t] ∧ LangAt C H x L ∧ NewW H (if inDb L s = true then [(s, t)] else []) Q
def spWays (C : Addr) (f : Lang → List (Str × Str)) : Sp := fun vs H Q _ => ∃ (x : Addr) (L : Lang), vs = [.ref x] ∧ LangAt C H x L ∧ NewW H (f L) Q
/-- the whole table -/
def wTab (L : Lang) : List (Str × List (Str × Str)) := [("start", wStart), ("name", wName L), ("equals", wEqu L), ("open", wOpen), ("item", wItem L), ("pair", wBeh L), ("comma", wCom L), ("done", wDone L), ("ended", wEnd L)]
/-- it lies at wp -/
def WaysAt (H : Hp) (wp : Addr) (L : Lang) : Prop := ∃ ps : List Addr, ps.length = 9 ∧ H wp = some (.dK (((wTab L).map (·.1)).zip ps |>.map fun x => (Sum.inr x.1, V.ref x.2))) ∧ ∀ (i : Nat) (p : Addr) (s : Str) (ws : List (Str × Str)), ps[i]? = some p → (wTab L)[i]? = some (s, ws) → H p = some (.dK (dK2 ws))
def spAll (C : Addr) : Sp := fun vs H Q _ => ∃ (x : Addr) (L : Lang), vs = [.ref x] ∧ LangAt C H x L ∧ ∀ p H', H p = none → Same H H' → WaysAt H' p L → Q (.ref p) H'
theorem WaysAt.same {H H' : Hp} {p : Addr} {L : Lang} (h : WaysAt H p L) (s : Same H H') : WaysAt H' p L := by
  obtain ⟨ps, h1, h2, h3⟩ := h
  exact ⟨ps, h1, s _ _ h2, fun i q z ws a b => s _ _ (h3 i q z ws a b)⟩
theorem line50 {n : Nat} (h : n ≤ 50) : n < sizeLine := line_ge (Nat.le_trans (show n + 1 ≤ 51 by omega) (by decide))
theorem len_dK2 (ws : List (Str × Str)) : (dK2 ws).length = ws.length := List.length_map _
theorem l_name : ∀ m w : Bool, (aName1 m w).length ≤ 20 := by decide +kernel
theorem l_equ : ∀ d : Bool, (aEqu1 d).length ≤ 20 := by decide +kernel
theorem l_beh : ∀ m : Bool, (aBeh m).length ≤ 20 := by decide +kernel
theorem l_com : ∀ d : Bool, (aCom1 d).length ≤ 20 := by decide +kernel
theorem small {ws : List (Str × Str)} (h : ws.length ≤ 20) : (dK2 ws).length < sizeLine := line50 (by rw [len_dK2]; omega)
theorem small2 {ws us : List (Str × Str)} (h : ws.length ≤ 20) (h' : us.length ≤ 20) : (dK2 ws).length + (dK2 us).length ≤ sizeLine := Nat.le_of_lt (line50 (by rw [len_dK2, len_dK2]; omega))
theorem l_if {b : Bool} {x : Str × Str} : (if b = true then [x] else []).length ≤ 20 := by cases b <;> simp
section
variable {P : Program} {w : World} {K : PySem.W.Frag} {mg : Str → Option Value} {base : Heap} {C : Addr}
theorem scDbl : FnScope ["language", "sign", "state"] ["language", "sign", "state"] (defScope sDbl) := ⟨rfl, rfl, rfl, by decide +kernel, rfl, by decide +kernel, by decide +kernel⟩
theorem ok_dbl {f : Addr} {fd : FuncData} (F : Fun K "doubling" "doubling" sDbl f fd) (S : LangC K mg C) : FnOk P w K mg base CX0 1 f fd ["language", "sign", "state"] (spDbl C) := by
  refine F.ok scDbl (fun vs H Q E h => ?_) (fun cdv A outer s H vs Q E hr h => ?_)
  · obtain ⟨x, s, t, L, rfl, _⟩ := h
    rfl
  · obtain ⟨x, s, t, L, rfl, ⟨dx, a, fs, hx, fl, ht⟩, q⟩ := h
    refine ⟨_, pss_one (ps_ret (pe_ifExp (pt_cmpR op_in_seq (pv 1) (pe_fld (pv 0) rfl) (by rfl)) (pe_disp (pps_cons (pv 1) (pv 2) pps_nil) (by rfl) (by rfl) (fun z => by cases z) (by decide)) pe_dnewK)), ?_⟩
    refine ⟨_, rfl, _, rfl, x, C, dx, _, _, rfl, hx, S.cl, S.nD, fl.d, a, _, rfl, .inr (SqT.of ht), rfl, flat_strs _, _, rfl, ?_⟩
    show if inV (V.str s) (L.D.map V.str) = true then _ else _
    rw [inV_strs]
    cases hb : decide (s ∈ L.D) with
    | true =>
      rw [show inDb L s = true from hb] at q
      refine iteT fun p hp => ⟨_, rfl, _, rfl, upd_same, [(.inr s, .str t)], rfl, by show 1 ≤ 15; decide, ?_⟩
      exact q p _ hp (Same.put (Same.new (Same.refl H) hp) hp) upd_same
    | false =>
      rw [show inDb L s = false from hb] at q
      exact iteF fun p hp => q p _ hp (Same.new (Same.refl H) hp) upd_same
theorem scName : FnScope ["language", "ways"] ["language"] (defScope sName) := ⟨rfl, rfl, rfl, by decide +kernel, rfl, by decide +kernel, by decide +kernel⟩
/-- the dict so far -/
abbrev Mid (H : Hp) (x p : Addr) (ws : List (Str × Str)) : St → Hp → Prop := fun σ H' => σ = [some (.ref x), some (.ref p)] ∧ H' p = some (.dK (dK2 ws)) ∧ Same H H'
theorem ok_name {f : Addr} {fd : FuncData} (F : Fun K "ways_from_name" "ways_from_name" sName f fd) (S : LangC K mg C) : FnOk P w K mg base CX0 1 f fd ["language"] (spWays C wName) := by
  refine F.ok scName (fun vs H Q E h => ?_) (fun cdv A outer s H vs Q E hr h => ?_)
  · obtain ⟨x, L, rfl, _⟩ := h
    rfl
  · obtain ⟨x, L, rfl, ⟨dx, a, fs, hx, fl, ht⟩, q⟩ := h
    have hu := hu_of hr
    refine ⟨_, C8.pss_cut (ps_set (i := 1) scName.nd rfl (.inl rfl) (pe_disp (pps_cons pe_str pe_str pps_nil) (by rfl) (by rfl) (fun z => by cases z) (by decide)))
      (C8.pss_cut (ps_if (pt_cmpR op_eq (pe_fld (pv 0) rfl) pe_str (nomark _)) (pss_one (ps_expr (K2U.pe_dupd (pv 1) (pe_disp (pps_cons pe_str pe_str (pps_cons pe_str pe_str (pps_cons pe_str pe_str pps_nil))) (by rfl) (by rfl) (fun z => by cases z) (by decide)) ⟨by rfl, by rfl, by rfl, by rfl⟩)))
        (pss_one (ps_if (PW.pt (pw_and (pt_val (pe_fld (pv 0) rfl)) (pw_and1 (pt_cmpR op_eq (pe_fld (pv 0) rfl) pe_str (nomark _))))) (pss_one (ps_dput hu (pv 1) pe_str pe_str rfl)) pss_nil)))
      (C8.pss_cut (ps_if (pt_val (pe_fld (pv 0) rfl)) (pss_one (ps_dput hu (pv 1) pe_str pe_str rfl)) pss_nil)
      (pss_one (ps_ret (pv 1))))), ?_⟩
    refine ⟨fun σ H' => ∃ p, H p = none ∧ Mid H x p [("=", "equals")] σ H', ?_, ?_⟩
    · intro p hp
      exact ⟨upd_same, [(.inr "=", .str "equals")], rfl, by decide, p, hp, rfl, upd_same, Same.put (Same.new (Same.refl H) hp) hp⟩
    rintro σ H1 ⟨p, hp, rfl, hp1, s1⟩
    refine ⟨Mid H x p (aName1 (isE L) (L.b && isN L)), ?_, ?_⟩
    · refine ⟨_, rfl, x, C, dx, _, _, rfl, s1 _ _ hx, S.cl, S.nE, fl.e, rfl, _, rfl, ?_⟩
      show if decide (V.str L.e = V.str "may") = true then _ else _
      rw [eq_strB]
      cases hE : decide (L.e = "may") with
      | true =>
        refine iteT ⟨_, rfl, p, rfl, .inl ⟨_, .inl hp1⟩, fun r hr' => ⟨upd_same, [(.inr "word", .str "done"), (.inr "number", .str "done"), (.inr "[", .str "open")], rfl, by decide, r, dK2 [("=", "equals")], _, rfl, ?_, .inl upd_same, ne_of_none hp1 hr', Nat.le_of_lt (line50 (by decide +kernel)), rfl, ?_, Same.put (Same.put (Same.new s1 hr') (s1.free hr')) hp⟩⟩
        · rw [upd_ne (ne_of_none hp1 hr'), upd_ne (ne_of_none hp1 hr')]
          exact hp1
        · rw [upd_same, u_name1, show isE L = true from hE]
          rfl
      | false =>
        refine iteF ⟨_, rfl, x, C, dx, _, _, rfl, s1 _ _ hx, S.cl, S.nB, fl.b, _, rfl, ?_⟩
        cases hb : L.b with
        | false =>
          refine iteF ⟨rfl, ?_, s1⟩
          rw [hp1, show isE L = false from hE]
          rfl
        | true =>
          refine iteT ⟨_, rfl, x, C, dx, _, _, rfl, s1 _ _ hx, S.cl, S.nN, fl.n, rfl, _, rfl, ?_⟩
          show if decide (V.str L.n = V.str "may") = true then _ else _
          rw [eq_strB]
          cases hN : decide (L.n = "may") with
          | true =>
            refine iteT ⟨_, rfl, p, _, rfl, DPut.k (k := .inr "word") hp1 (by decide +kernel), rfl, ?_, Same.put s1 hp⟩
            rw [upd_same, u_name2, show isE L = false from hE, show isN L = true from hN]
            rfl
          | false =>
            refine iteF ⟨rfl, ?_, s1⟩
            rw [hp1, show isE L = false from hE, show isN L = false from hN]
            rfl
    rintro σ H2 ⟨rfl, hp2, s2⟩
    refine ⟨Mid H x p (wName L), ?_, ?_⟩
    · refine ⟨_, rfl, x, C, dx, _, _, rfl, s2 _ _ hx, S.cl, S.nB, fl.b, _, rfl, ?_⟩
      unfold wName
      cases hb : L.b with
      | true =>
        rw [hb] at hp2
        refine iteT ⟨_, rfl, p, _, rfl, DPut.k (k := .inr ";") hp2 (small (l_name _ _)), rfl, ?_, Same.put s2 hp⟩
        rw [upd_same, u_name3]
      | false =>
        rw [hb] at hp2
        refine iteF ⟨rfl, ?_, s2⟩
        rw [hp2]
        show _ = some (HO.dK (dK2 (aName1 _ _ ++ [])))
        rw [List.append_nil]
    rintro σ H3 ⟨rfl, hp3, s3⟩
    exact ⟨_, rfl, q p H3 hp s3 hp3⟩
theorem scEquals : FnScope ["language", "ways"] ["language"] (defScope sEquals) := ⟨rfl, rfl, rfl, by decide +kernel, rfl, by decide +kernel, by decide +kernel⟩
theorem ok_equals {f : Addr} {fd : FuncData} (F : Fun K "ways_from_equals" "ways_from_equals" sEquals f fd) (S : LangC K mg C) (GD : Fn P w K mg base 1 "doubling" ["language", "sign", "state"] (spDbl C)) : FnOk P w K mg base CX0 2 f fd ["language"] (spWays C wEqu) := by
  refine F.ok scEquals (fun vs H Q E h => ?_) (fun cdv A outer s H vs Q E hr h => ?_)
  · obtain ⟨x, L, rfl, _⟩ := h
    rfl
  · obtain ⟨x, L, rfl, hL, q⟩ := h
    obtain ⟨dx, a, fs, hx, fl, ht⟩ := id hL
    have hu := hu_of hr
    refine ⟨_, C8.pss_cut (ps_set (i := 1) scEquals.nd rfl (.inl rfl) (pe_disp (pps_cons pe_str pe_str (pps_cons pe_str pe_str (pps_cons pe_str pe_str pps_nil))) (by rfl) (by rfl) (fun z => by cases z) (by decide)))
      (C8.pss_cut (ps_expr (K2U.pe_dupd (pv 1) (pe_fn GD (hr.mono (by decide)) rfl (pa_cons (pv 0) (pa_cons pe_str (pa_cons pe_str pa_nil)))) ⟨by rfl, by rfl, by rfl, by rfl⟩))
      (C8.pss_cut (ps_if (pt_val (pe_fld (pv 0) rfl)) (pss_one (ps_dput hu (pv 1) pe_str pe_str rfl)) pss_nil)
      (pss_one (ps_ret (pv 1))))), ?_⟩
    refine ⟨fun σ H' => ∃ p, H p = none ∧ Mid H x p aEqu0 σ H', ?_, ?_⟩
    · intro p hp
      refine ⟨upd_same, [(.inr "word", .str "done"), (.inr "number", .str "done"), (.inr "[", .str "open")], rfl, by decide, p, hp, rfl, ?_, Same.put (Same.new (Same.refl H) hp) hp⟩
      rw [upd_same]
      exact congrArg (fun z => some (HO.dK z)) (show mergeK [] [((.inr "word" : Key), V.str "done"), (.inr "number", .str "done"), (.inr "[", .str "open")] = dK2 aEqu0 by kernel_rfl)
    rintro σ H1 ⟨p, hp, rfl, hp1, s1⟩
    refine ⟨Mid H x p (aEqu1 (inDb L "=")), ?_, ?_⟩
    · refine ⟨_, rfl, p, rfl, .inl ⟨_, .inl hp1⟩, _, rfl, x, "=", "equals", L, rfl, hL.same s1, fun r H2 hr' s2 hr2 => ?_⟩
      exact ⟨r, _, _, rfl, s2 _ _ hp1, .inl hr2, ne_of_none hp1 hr', small2 (by decide) l_if, rfl, by rw [upd_same, u_equ1], Same.put (s1.trans s2) hp⟩
    rintro σ H2 ⟨rfl, hp2, s2⟩
    refine ⟨Mid H x p (wEqu L), ?_, ?_⟩
    · refine ⟨_, rfl, x, C, dx, _, _, rfl, s2 _ _ hx, S.cl, S.nX, fl.x, _, rfl, ?_⟩
      unfold wEqu
      cases hb : L.x with
      | true => exact iteT ⟨_, rfl, p, _, rfl, DPut.k (k := .inr ";") hp2 (small (l_equ _)), rfl, by rw [upd_same, u_equ2], Same.put s2 hp⟩
      | false =>
        refine iteF ⟨rfl, ?_, s2⟩
        rw [hp2]
        show _ = some (HO.dK (dK2 (aEqu1 _ ++ [])))
        rw [List.append_nil]
    rintro σ H3 ⟨rfl, hp3, s3⟩
    exact ⟨_, rfl, q p H3 hp s3 hp3⟩
theorem scBehind : FnScope ["language", "ways"] ["language"] (defScope sBehind) := ⟨rfl, rfl, rfl, by decide +kernel, rfl, by decide +kernel, by decide +kernel⟩
theorem ok_behind {f : Addr} {fd : FuncData} (F : Fun K "ways_behind_item" "ways_behind_item" sBehind f fd) (S : LangC K mg C) : FnOk P w K mg base CX0 1 f fd ["language"] (spWays C wBeh) := by
  refine F.ok scBehind (fun vs H Q E h => ?_) (fun cdv A outer s H vs Q E hr h => ?_)
  · obtain ⟨x, L, rfl, _⟩ := h
    rfl
  · obtain ⟨x, L, rfl, ⟨dx, a, fs, hx, fl, ht⟩, q⟩ := h
    have hu := hu_of hr
    refine ⟨_, C8.pss_cut (ps_set (i := 1) scBehind.nd rfl (.inl rfl) (pe_disp (pps_cons pe_str pe_str pps_nil) (by rfl) (by rfl) (fun z => by cases z) (by decide)))
      (C8.pss_cut (ps_if (pt_cmpR op_ne (pe_fld (pv 0) rfl) pe_str (nomark _)) (pss_one (ps_dput hu (pv 1) pe_str pe_str rfl)) pss_nil)
      (pss_one (ps_ret (pv 1)))), ?_⟩
    refine ⟨fun σ H' => ∃ p, H p = none ∧ Mid H x p [(",", "comma")] σ H', ?_, ?_⟩
    · intro p hp
      exact ⟨upd_same, [(.inr ",", .str "comma")], rfl, by decide, p, hp, rfl, upd_same, Same.put (Same.new (Same.refl H) hp) hp⟩
    rintro σ H1 ⟨p, hp, rfl, hp1, s1⟩
    refine ⟨Mid H x p (wBeh L), ?_, ?_⟩
    · refine ⟨_, rfl, x, C, dx, _, _, rfl, s1 _ _ hx, S.cl, S.nL, fl.l, rfl, _, rfl, ?_⟩
      show if (!decide (V.str L.l = V.str "must")) = true then _ else _
      rw [eq_strB]
      unfold wBeh
      cases hb : decide (L.l = "must") with
      | false => exact iteT ⟨_, rfl, p, _, rfl, DPut.k (k := .inr "]") hp1 (by decide +kernel), rfl, by rw [upd_same, u_beh], Same.put s1 hp⟩
      | true => exact iteF ⟨rfl, hp1, s1⟩
    rintro σ H2 ⟨rfl, hp2, s2⟩
    exact ⟨_, rfl, q p H2 hp s2 hp2⟩
theorem scItem : FnScope ["language", "ways"] ["language"] (defScope sItem) := ⟨rfl, rfl, rfl, by decide +kernel, rfl, by decide +kernel, by decide +kernel⟩
theorem ok_item {f : Addr} {fd : FuncData} (F : Fun K "ways_from_item" "ways_from_item" sItem f fd) (S : LangC K mg C) (GB : Fn P w K mg base 1 "ways_behind_item" ["language"] (spWays C wBeh)) : FnOk P w K mg base CX0 2 f fd ["language"] (spWays C wItem) := by
  refine F.ok scItem (fun vs H Q E h => ?_) (fun cdv A outer s H vs Q E hr h => ?_)
  · obtain ⟨x, L, rfl, _⟩ := h
    rfl
  · obtain ⟨x, L, rfl, hL, q⟩ := h
    obtain ⟨dx, a, fs, hx, fl, ht⟩ := id hL
    have hu := hu_of hr
    refine ⟨_, C8.pss_cut (ps_set (i := 1) scItem.nd rfl (.inl rfl) (pe_fn GB (hr.mono (by decide)) rfl (pa_cons (pv 0) pa_nil)))
      (C8.pss_cut (ps_if (pt_cmpR op_eq (pe_fld (pv 0) rfl) pe_str (nomark _)) (pss_one (ps_dput hu (pv 1) pe_str pe_str rfl)) (pss_one (ps_if (pt_cmpR op_eq (pe_fld (pv 0) rfl) pe_str (nomark _)) (pss_one (ps_dput hu (pv 1) pe_str pe_str rfl)) pss_nil)))
      (pss_one (ps_ret (pv 1)))), ?_⟩
    refine ⟨fun σ H' => ∃ p, H p = none ∧ Mid H x p (wBeh L) σ H', ?_, ?_⟩
    · exact ⟨_, rfl, x, L, rfl, hL, fun p H1 hp s1 h1 => ⟨p, hp, rfl, h1, s1⟩⟩
    rintro σ H1 ⟨p, hp, rfl, hp1, s1⟩
    unfold wBeh at hp1
    refine ⟨Mid H x p (wItem L), ?_, ?_⟩
    · refine ⟨_, rfl, x, C, dx, _, _, rfl, s1 _ _ hx, S.cl, S.nC, fl.c, rfl, _, rfl, ?_⟩
      show if decide (V.str L.c = V.str "may") = true then _ else _
      rw [eq_strB]
      unfold wItem
      cases hc : decide (L.c = "may") with
      | true => exact iteT ⟨_, rfl, p, _, rfl, DPut.k (k := .inr "word") hp1 (small (l_beh _)), rfl, by rw [upd_same, u_item1], Same.put s1 hp⟩
      | false =>
        refine iteF ⟨_, rfl, x, C, dx, _, _, rfl, s1 _ _ hx, S.cl, S.nC, fl.c, rfl, _, rfl, ?_⟩
        show if decide (V.str L.c = V.str "joins") = true then _ else _
        rw [eq_strB]
        cases hj : decide (L.c = "joins") with
        | true => exact iteT ⟨_, rfl, p, _, rfl, DPut.k (k := .inr "word") hp1 (small (l_beh _)), rfl, by rw [upd_same, u_item2], Same.put s1 hp⟩
        | false =>
          refine iteF ⟨rfl, ?_, s1⟩
          rw [hp1]
          show _ = some (HO.dK (dK2 (aBeh _ ++ [])))
          rw [List.append_nil]
    rintro σ H2 ⟨rfl, hp2, s2⟩
    exact ⟨_, rfl, q p H2 hp s2 hp2⟩
theorem scComma : FnScope ["language", "ways"] ["language"] (defScope sComma) := ⟨rfl, rfl, rfl, by decide +kernel, rfl, by decide +kernel, by decide +kernel⟩
theorem ok_comma {f : Addr} {fd : FuncData} (F : Fun K "ways_from_comma" "ways_from_comma" sComma f fd) (S : LangC K mg C) (GD : Fn P w K mg base 1 "doubling" ["language", "sign", "state"] (spDbl C)) : FnOk P w K mg base CX0 2 f fd ["language"] (spWays C wCom) := by
  refine F.ok scComma (fun vs H Q E h => ?_) (fun cdv A outer s H vs Q E hr h => ?_)
  · obtain ⟨x, L, rfl, _⟩ := h
    rfl
  · obtain ⟨x, L, rfl, hL, q⟩ := h
    obtain ⟨dx, a, fs, hx, fl, ht⟩ := id hL
    have hu := hu_of hr
    refine ⟨_, C8.pss_cut (ps_set (i := 1) scComma.nd rfl (.inl rfl) (pe_disp (pps_cons pe_str pe_str pps_nil) (by rfl) (by rfl) (fun z => by cases z) (by decide)))
      (C8.pss_cut (ps_expr (K2U.pe_dupd (pv 1) (pe_fn GD (hr.mono (by decide)) rfl (pa_cons (pv 0) (pa_cons pe_str (pa_cons pe_str pa_nil)))) ⟨by rfl, by rfl, by rfl, by rfl⟩))
      (C8.pss_cut (ps_if (pt_cmpR op_ne (pe_fld (pv 0) rfl) pe_str (nomark _)) (pss_one (ps_dput hu (pv 1) pe_str pe_str rfl)) pss_nil)
      (pss_one (ps_ret (pv 1))))), ?_⟩
    refine ⟨fun σ H' => ∃ p, H p = none ∧ Mid H x p [("word", "item")] σ H', ?_, ?_⟩
    · intro p hp
      exact ⟨upd_same, [(.inr "word", .str "item")], rfl, by decide, p, hp, rfl, upd_same, Same.put (Same.new (Same.refl H) hp) hp⟩
    rintro σ H1 ⟨p, hp, rfl, hp1, s1⟩
    refine ⟨Mid H x p (aCom1 (inDb L ",")), ?_, ?_⟩
    · refine ⟨_, rfl, p, rfl, .inl ⟨_, .inl hp1⟩, _, rfl, x, ",", "comma", L, rfl, hL.same s1, fun r H2 hr' s2 hr2 => ?_⟩
      exact ⟨r, _, _, rfl, s2 _ _ hp1, .inl hr2, ne_of_none hp1 hr', small2 (by decide) l_if, rfl, by rw [upd_same, u_com1], Same.put (s1.trans s2) hp⟩
    rintro σ H2 ⟨rfl, hp2, s2⟩
    refine ⟨Mid H x p (wCom L), ?_, ?_⟩
    · refine ⟨_, rfl, x, C, dx, _, _, rfl, s2 _ _ hx, S.cl, S.nL, fl.l, rfl, _, rfl, ?_⟩
      show if (!decide (V.str L.l = V.str "never")) = true then _ else _
      rw [eq_strB]
      unfold wCom
      cases hb : decide (L.l = "never") with
      | false => exact iteT ⟨_, rfl, p, _, rfl, DPut.k (k := .inr "]") hp2 (small (l_com _)), rfl, by rw [upd_same, u_com2], Same.put s2 hp⟩
      | true =>
        refine iteF ⟨rfl, ?_, s2⟩
        rw [hp2]
        show _ = some (HO.dK (dK2 (aCom1 _ ++ [])))
        rw [List.append_nil]
    rintro σ H3 ⟨rfl, hp3, s3⟩
    exact ⟨_, rfl, q p H3 hp s3 hp3⟩
theorem scDone : FnScope ["language", "ways"] ["language"] (defScope sDone) := ⟨rfl, rfl, rfl, by decide +kernel, rfl, by decide +kernel, by decide +kernel⟩
theorem ok_done {f : Addr} {fd : FuncData} (F : Fun K "ways_from_done" "ways_from_done" sDone f fd) (S : LangC K mg C) : FnOk P w K mg base CX0 1 f fd ["language"] (spWays C wDone) := by
  refine F.ok scDone (fun vs H Q E h => ?_) (fun cdv A outer s H vs Q E hr h => ?_)
  · obtain ⟨x, L, rfl, _⟩ := h
    rfl
  · obtain ⟨x, L, rfl, ⟨dx, a, fs, hx, fl, ht⟩, q⟩ := h
    have hu := hu_of hr
    refine ⟨_, C8.pss_cut (ps_set (i := 1) scDone.nd rfl (.inl rfl) (pe_disp (pps_cons pe_str pe_str pps_nil) (by rfl) (by rfl) (fun z => by cases z) (by decide)))
      (C8.pss_cut (ps_if (pt_cmpR op_eq (pe_fld (pv 0) rfl) pe_str (nomark _)) (pss_one (ps_dput hu (pv 1) pe_str pe_str rfl)) pss_nil)
      (pss_one (ps_ret (pv 1)))), ?_⟩
    refine ⟨fun σ H' => ∃ p, H p = none ∧ Mid H x p [(";", "ended")] σ H', ?_, ?_⟩
    · intro p hp
      exact ⟨upd_same, [(.inr ";", .str "ended")], rfl, by decide, p, hp, rfl, upd_same, Same.put (Same.new (Same.refl H) hp) hp⟩
    rintro σ H1 ⟨p, hp, rfl, hp1, s1⟩
    refine ⟨Mid H x p (wDone L), ?_, ?_⟩
    · refine ⟨_, rfl, x, C, dx, _, _, rfl, s1 _ _ hx, S.cl, S.nN, fl.n, rfl, _, rfl, ?_⟩
      show if decide (V.str L.n = V.str "may") = true then _ else _
      rw [eq_strB]
      unfold wDone isN
      cases hb : decide (L.n = "may") with
      | true => exact iteT ⟨_, rfl, p, _, rfl, DPut.k (k := .inr "word") hp1 (by decide +kernel), rfl, by rw [upd_same, u_done], Same.put s1 hp⟩
      | false => exact iteF ⟨rfl, hp1, s1⟩
    rintro σ H2 ⟨rfl, hp2, s2⟩
    exact ⟨_, rfl, q p H2 hp s2 hp2⟩
theorem scEnded : FnScope ["language", "ways"] ["language"] (defScope sEnded) := ⟨rfl, rfl, rfl, by decide +kernel, rfl, by decide +kernel, by decide +kernel⟩
theorem ok_ended {f : Addr} {fd : FuncData} (F : Fun K "ways_from_ended" "ways_from_ended" sEnded f fd) (GD : Fn P w K mg base 1 "doubling" ["language", "sign", "state"] (spDbl C)) : FnOk P w K mg base CX0 2 f fd ["language"] (spWays C wEnd) := by
  refine F.ok scEnded (fun vs H Q E h => ?_) (fun cdv A outer s H vs Q E hr h => ?_)
  · obtain ⟨x, L, rfl, _⟩ := h
    rfl
  · obtain ⟨x, L, rfl, hL, q⟩ := h
    refine ⟨_, C8.pss_cut (ps_set (i := 1) scEnded.nd rfl (.inl rfl) (pe_disp (pps_cons pe_str pe_str pps_nil) (by rfl) (by rfl) (fun z => by cases z) (by decide)))
      (C8.pss_cut (ps_expr (K2U.pe_dupd (pv 1) (pe_fn GD (hr.mono (by decide)) rfl (pa_cons (pv 0) (pa_cons pe_str (pa_cons pe_str pa_nil)))) ⟨by rfl, by rfl, by rfl, by rfl⟩))
      (pss_one (ps_ret (pv 1)))), ?_⟩
    refine ⟨fun σ H' => ∃ p, H p = none ∧ Mid H x p [("word", "name")] σ H', ?_, ?_⟩
    · intro p hp
      exact ⟨upd_same, [(.inr "word", .str "name")], rfl, by decide, p, hp, rfl, upd_same, Same.put (Same.new (Same.refl H) hp) hp⟩
    rintro σ H1 ⟨p, hp, rfl, hp1, s1⟩
    refine ⟨Mid H x p (wEnd L), ?_, ?_⟩
    · refine ⟨_, rfl, p, rfl, .inl ⟨_, .inl hp1⟩, _, rfl, x, ";", "ended", L, rfl, hL.same s1, fun r H2 hr' s2 hr2 => ?_⟩
      exact ⟨r, _, _, rfl, s2 _ _ hp1, .inl hr2, ne_of_none hp1 hr', small2 (by decide) l_if, rfl, by rw [upd_same, u_end]; rfl, Same.put (s1.trans s2) hp⟩
    rintro σ H2 ⟨rfl, hp2, s2⟩
    exact ⟨_, rfl, q p H2 hp s2 hp2⟩
theorem scAllWays : FnScope ["language"] ["language"] (defScope sAllWays) := ⟨rfl, rfl, rfl, by decide +kernel, rfl, by decide +kernel, by decide +kernel⟩
theorem all9 (a1 a2 a3 a4 a5 a6 a7 a8 a9 : Addr) (L : Lang) : mergeK [] [((.inr "start" : Key), V.ref a1), (.inr "name", .ref a2), (.inr "equals", .ref a3), (.inr "open", .ref a4), (.inr "item", .ref a5), (.inr "pair", .ref a6), (.inr "comma", .ref a7), (.inr "done", .ref a8), (.inr "ended", .ref a9)] =
    (((wTab L).map (·.1)).zip [a1, a2, a3, a4, a5, a6, a7, a8, a9] |>.map fun x => (Sum.inr x.1, V.ref x.2)) := by kernel_rfl
theorem ok_allWays {f : Addr} {fd : FuncData} (F : Fun K "all_ways" "all_ways" sAllWays f fd) (G1 : Fn P w K mg base 1 "ways_from_name" ["language"] (spWays C wName)) (G2 : Fn P w K mg base 2 "ways_from_equals" ["language"] (spWays C wEqu)) (G3 : Fn P w K mg base 2 "ways_from_item" ["language"] (spWays C wItem))
    (G4 : Fn P w K mg base 1 "ways_behind_item" ["language"] (spWays C wBeh)) (G5 : Fn P w K mg base 2 "ways_from_comma" ["language"] (spWays C wCom)) (G6 : Fn P w K mg base 1 "ways_from_done" ["language"] (spWays C wDone)) (G7 : Fn P w K mg base 2 "ways_from_ended" ["language"] (spWays C wEnd)) :
    FnOk P w K mg base CX0 3 f fd ["language"] (spAll C) := by
  refine F.ok scAllWays (fun vs H Q E h => ?_) (fun cdv A outer s H vs Q E hr h => ?_)
  · obtain ⟨x, L, rfl, _⟩ := h
    rfl
  · obtain ⟨x, L, rfl, hL, q⟩ := h
    have r1 : Room 1 _ := hr.mono (by decide)
    refine ⟨_, pss_one (ps_ret (pe_disp (pps_cons pe_str (pe_disp (pps_cons pe_str pe_str pps_nil) (by rfl) (by rfl) (fun z => by cases z) (by decide))
      (pps_cons pe_str (pe_fn G1 r1 rfl (pa_cons (pv 0) pa_nil)) (pps_cons pe_str (pe_fn G2 hr rfl (pa_cons (pv 0) pa_nil)) (pps_cons pe_str (pe_disp (pps_cons pe_str pe_str (pps_cons pe_str pe_str pps_nil)) (by rfl) (by rfl) (fun z => by cases z) (by decide))
      (pps_cons pe_str (pe_fn G3 hr rfl (pa_cons (pv 0) pa_nil)) (pps_cons pe_str (pe_fn G4 r1 rfl (pa_cons (pv 0) pa_nil)) (pps_cons pe_str (pe_fn G5 hr rfl (pa_cons (pv 0) pa_nil)) (pps_cons pe_str (pe_fn G6 r1 rfl (pa_cons (pv 0) pa_nil)) (pps_cons pe_str (pe_fn G7 hr rfl (pa_cons (pv 0) pa_nil)) pps_nil))))))))) (by rfl) (by rfl) (fun z => by cases z) (by decide))), ?_⟩
    intro p hp
    have s0 := Same.new (o := .dK []) (Same.refl H) hp
    intro a1 ha1
    have t1 := Same.put (o := .dK (mergeK [] [(.inr "word", .str "name")])) (Same.new (o := .dK []) s0 ha1) (s0.free ha1)
    have e1 : (upd (upd (upd H p (.dK [])) a1 (.dK [])) a1 (.dK (mergeK [] [(.inr "word", .str "name")]))) p = some (.dK []) := by
      rw [upd_ne (ne_of_none upd_same ha1), upd_ne (ne_of_none upd_same ha1), upd_same]
    have n1 := ne_of_none (show upd H p (.dK []) p = some (.dK []) from upd_same) ha1
    refine ⟨upd_same, [(.inr "word", .str "name")], rfl, by decide, _, rfl, x, L, rfl, hL.same t1, fun a2 H2 h2 s2 g2 => ?_⟩
    have f2 := s2 _ _ e1
    refine ⟨_, rfl, x, L, rfl, hL.same (t1.trans s2), fun a3 H3 h3 s3 g3 => ?_⟩
    have f3 := s3 _ _ f2
    intro a4 ha4
    have t3 := t1.trans (s2.trans s3)
    have u4 := Same.put (o := .dK (mergeK [] [(.inr "word", .str "item"), (.inr "]", .str "done")])) (Same.new (o := .dK []) (Same.refl H3) ha4) ha4
    have t4 := t3.trans u4
    refine ⟨upd_same, [(.inr "word", .str "item"), (.inr "]", .str "done")], rfl, by decide, _, rfl, x, L, rfl, hL.same t4, fun a5 H5 h5 s5 g5 => ?_⟩
    refine ⟨_, rfl, x, L, rfl, hL.same (t4.trans s5), fun a6 H6 h6 s6 g6 => ?_⟩
    refine ⟨_, rfl, x, L, rfl, hL.same (t4.trans (s5.trans s6)), fun a7 H7 h7 s7 g7 => ?_⟩
    refine ⟨_, rfl, x, L, rfl, hL.same (t4.trans (s5.trans (s6.trans s7))), fun a8 H8 h8 s8 g8 => ?_⟩
    refine ⟨_, rfl, x, L, rfl, hL.same (t4.trans (s5.trans (s6.trans (s7.trans s8)))), fun a9 H9 h9 s9 g9 => ?_⟩
    have w8 := s8.trans s9
    have w7 := s7.trans w8
    have w6 := s6.trans w7
    have w5 := s5.trans w6
    have w4 := u4.trans w5
    have w3 := s3.trans w4
    have w2 := s2.trans w3
    have e9 := w4 _ _ f3
    refine ⟨e9, [(.inr "start", .ref a1), (.inr "name", .ref a2), (.inr "equals", .ref a3), (.inr "open", .ref a4), (.inr "item", .ref a5), (.inr "pair", .ref a6), (.inr "comma", .ref a7), (.inr "done", .ref a8), (.inr "ended", .ref a9)], rfl, by show 9 ≤ 15; decide, ?_⟩
    refine q p _ hp (Same.put (t1.trans w2) hp) ⟨[a1, a2, a3, a4, a5, a6, a7, a8, a9], rfl, by rw [upd_same, all9 a1 a2 a3 a4 a5 a6 a7 a8 a9 L], fun i b z ws hi ht => ?_⟩
    -- none of them is the table itself: that one was empty till now
    have other : ∀ {b : Addr} {ws : List (Str × Str)}, H9 b = some (.dK (dK2 ws)) → ws ≠ [] → upd H9 p (.dK (mergeK [] [((.inr "start" : Key), V.ref a1), (.inr "name", .ref a2), (.inr "equals", .ref a3), (.inr "open", .ref a4), (.inr "item", .ref a5), (.inr "pair", .ref a6), (.inr "comma", .ref a7), (.inr "done", .ref a8), (.inr "ended", .ref a9)])) b = some (.dK (dK2 ws)) := fun {b ws} h n => by
      rw [upd_ne fun e => by
        rw [e, e9] at h
        cases ws with
        | nil => exact n rfl
        | cons _ _ => cases h]
      exact h
    match i, hi, ht with
    | 0, hi, ht => cases hi; cases ht; exact other (w2 _ _ (by rw [upd_same]; rfl)) (by simp [wStart])
    | 1, hi, ht => cases hi; cases ht; exact other (w3 _ _ g2) (by simp [wName])
    | 2, hi, ht => cases hi; cases ht; exact other (w4 _ _ g3) (by simp [wEqu])
    | 3, hi, ht => cases hi; cases ht; exact other (w5 _ _ (by rw [upd_same]; exact congrArg (fun z => some (HO.dK z)) (show mergeK [] [((.inr "word" : Key), V.str "item"), (.inr "]", .str "done")] = dK2 wOpen by kernel_rfl))) (by simp [wOpen])
    | 4, hi, ht => cases hi; cases ht; exact other (w6 _ _ g5) (by simp [wItem])
    | 5, hi, ht => cases hi; cases ht; exact other (w7 _ _ g6) (by simp [wBeh])
    | 6, hi, ht => cases hi; cases ht; exact other (w8 _ _ g7) (by simp [wCom])
    | 7, hi, ht => cases hi; cases ht; exact other (s9 _ _ g8) (by simp [wDone])
    | 8, hi, ht => cases hi; cases ht; exact other g9 (by simp [wEnd])
    | n + 9, hi, _ => cases hi
end
end K5

namespace K5E
open PySem PySem.W PySem.Calls PyProof.Rows PySem.HandSPX
/-! ### BadLanguage and its __init__, which says super().__init__(..) and stores one field -/
def eA (p1 p2 : Pos) : Arguments := { posonlyargs := [], args := [{ arg := "self", annotation := none, pos := p1 }, { arg := "option", annotation := none, pos := p2 }], vararg := none, kwonlyargs := [], kw_defaults := [], kwarg := none, defaults := [] }
def eB (m : Str) (j : Nat) (o1 o2 o3 o4 o5 o6 q1 q2 q3 q4 : Pos) : List Stmt := [.Expr (.Call (.Attribute (.Call (.Name "super" o1) [] [] o2) "__init__" o3) [.Constant (.str m) j o4] [] o5) o6, .Assign [.Attribute (.Name "self" q1) "option" q2] (.Name "option" q3) q4]
def eS : Scope := { kind := .function, names := [(PySem.Str.ofString "self", .local), (PySem.Str.ofString "option", .local), (PySem.Str.ofString "__class__", .free), (PySem.Str.ofString "super", .globalImplicit)], isGenerator := false, isCoroutine := false, more := [] }
/-- what the written part says of BadLanguage, at C, of its __init__, at fI, and of that one's cell and code -/
structure ErrTxt (prog : Program) (K : Frag) (mg : Str → Option Value) (C fI : Addr) : Prop where
  gC : mg "BadLanguage" = some (.ref C)
  cls : ∃ nm q N bs bm sn sub ab col dd k0 k1 k2 k3 k5, K.lookup C = some (excClassObj nm q C N bs bm true sn sub ab col dd k0 k1 k2 k3 k5 "ValueError.__new__") ∧ refsVE bm = true
  sa : findIn K (.ref C) "__setattr__" = some (some (.builtin "object.__setattr__"))
  noN : findIn K (.ref C) "option" = some none
  iC : findIn K (.ref C) "__init__" = some (some (.ref fI))
  tC : typeIn K (.ref fI) = some (.type "function")
  kC : keepIn K (.ref C) = true
  exC : subIn K (.ref C) (.type "BaseException") = some true
  vaC : subIn K (.ref C) (.type "ValueError") = some true
  tyC : typeIn K (.ref C) = some (.type "type")
  te : exmOne K (.ref C) (.ref C) = some true
  sub : mroIn K C (.ref C) = some true
  sup : ks_superIn K C C "__init__" = some (some (.builtin "ValueError.__init__"))
  tp : nsIn K cStatics "thirdparty.any" = some none
  su : mg "super" = none
  top : (prog.main.scope.names.lookup ("super" : Str)).isSome = false
  fn : ∃ (oc : Value) (od : Option Addr) (doc pm : Value) (an : Option Addr) (cda cc : Addr) (ct : Value) (osl : Array (Option Value)) (m : Str) (j : Nat) (p1 p2 o1 o2 o3 o4 o5 o6 q1 q2 q3 q4 : Pos),
    K.lookup fI = some ⟨oc, od, .func (ksFn "__init__" "BadLanguage.__init__" (eA p1 p2) (eB m j o1 o2 o3 o4 o5 o6 q1 q2 q3 q4) eS .none .none doc pm an (.ref cda) ct cc), osl⟩ ∧ codeIn K (.ref cda) "BadLanguage.__init__" = true ∧
    (∃ (ccl : Value) (cdd : Option Addr) (vs : Array Value) (ccs : Array (Option Value)) (file : Str) (tf : Tok), K.lookup cda = some ⟨ccl, cdd, .fields vs, ccs⟩ ∧ vs[2]? = some (.str file tf) ∧ ((prog.main.file : Str) == file) = true) ∧
    (∀ env : Env, ∃ pl : Sem Bool, eval (.Call (.Attribute (.Call (.Name "super" o1) [] [] o2) "__init__" o3) [.Constant (.str m) j o4] [] o5) env = (do
      let ov ← attributeBase (.Call (.Name "super" o1) [] [] o2) "__init__" env (eval (.Call (.Name "super" o1) [] [] o2) env)
      standAt o3.atName
      let (f, first) ← holding [ov] (getMethod ov "__init__" pl)
      callWith o5 f first (backTo o5 (starEach [.Constant (.str m) j o4] env)) [])) ∧
    ∃ (cl : Value) (cld : Option Addr) (csl : Array (Option Value)), K.lookup cc = some ⟨cl, cld, .cell (some (.ref C)), csl⟩
theorem one_len (v : Value) : [v].length ≤ sizeLine := by
  show 1 ≤ sizeLine
  rw [sizeLine_eq]
  decide
/-- what __init__ leaves of a fresh exception at x -/
structure Left (h h' : Heap) (x C dx t1 : Addr) (v : Value) : Prop where
  keep : ∀ b o, b ≠ x → h.get? b = some o → h'.get? b = some o
  obj : h'.get? x = some { cls := .ref C, dict := some dx, data := .fields #[.ref t1, .none, .none, .none, .bool false, .none] }
  dbig : h.objs.size ≤ dx
  dne : dx ≠ x
  ns : h'.Ns1 dx (fun y => if y = "option" then some v else none)
section
variable {prog : Program} {w : World} {A : Around} {E : Value → Shared → Prop} {R : Result → Shared → Prop} {K : Frag} {mg : Str → Option Value} {C fI : Addr}
/-- the wrapper of ValueError.__init__, bound to a fresh exception, called -/
theorem wrapped {h : Heap} {g : Array GenState} {d : Drawn} {t : Nat} {os : OsState} {nm q : Str} {N : Addr} {bs bm : List Value} {hdct : Bool} {sn : List Str} {sub : List Value} {ab : Bool} {col : Option Bool} {dd : Option Addr} {k0 k1 k2 k3 k5 : Option Value}
    {u e t0 : Addr} {rest : List Value} {Q : Value → Shared → Prop} (hC : h.get? C = some (excClassObj nm q C N bs bm hdct sn sub ab col dd k0 k1 k2 k3 k5 "ValueError.__new__")) (he : h.get? e = some (excO C t0)) (hu : h.get? u = some (kxs_mw "ValueError.__init__" e)) (hz : rest.length ≤ sizeLine)
    (hq : ∀ h' t1, (∀ b o, b ≠ e → h.get? b = some o → h'.get? b = some o) → h'.get? e = some (excO C t1) → Q .none ⟨h', g, d, t, os⟩) :
    wpAny (model prog w) A (PySem.call (.ref u) rest) Q E ⟨h, g, d, t, os⟩ := by
  refine wpAny_call (codeAny_of_tree ?_)
  show wpAny _ A.in1 (callAny (.ref u) ⟨rest, []⟩) _ _ _
  unfold callAny
  refine wpAny_bind (wpAny_load hu ?_)
  have y1 : (Value.type "method-wrapper" == Value.type "method" || Value.type "method-wrapper" == Value.type "builtin_function_or_method" || Value.type "method-wrapper" == Value.type "method-wrapper") = true := by decide
  simp only [kxs_mw, y1, if_true]
  refine KFB.if_so (by decide) ?_
  refine wpAny_bind (check_bound_init F.excBase_ValueError.toExcCallFacts hC he rfl ?_)
  refine wpAny_bind (wpAny_pure (wpAny_pure ?_))
  refine ⟨plainId_quiet F.excBase_ValueError.init.plain _, codeAny_builtin F.excBase_ValueError.initEntry ?_⟩
  exact exc_init_tree (cls := .ref C) (t0 := t0) (dv := none) (c2 := .none) (c3 := .none) (b4 := .bool false) he hz fun h' k e' _ => hq h' _ k e'
theorem bound_name {env : Env} {s : Shared} {m : Str → Option Value} {y : Str} {pos : Pos} {u : Value} {Q : Value → Shared → Prop} {M : Model} (hn : s.heap.Ns env.locals m) (hv : m y = some u) (h : Q u s)
    (hk : env.scope.kind = .function := by rfl) (hl : env.kindOf y = some .local := by rfl) (hd : (y == ("__debug__" : Str)) = false := by decide) : wpAny M A (eval (.Name y pos) env) Q E s := wpAny_Name (wpAny_loadName_local hk hl hn hv h) hd
theorem err_init (T : ErrTxt prog K mg C fI) {s : Shared} {x t0 : Addr} {v : Value} (X : K.In s.heap) (G : s.heap.Ns mainGlobals mg) (B : ∃ mb, s.heap.Ns builtinsNs mb ∧ mb "super" = bootBuiltins "super") (hlim : s.heap.NoLimit) (hx : s.heap.get? x = some (excO C t0)) (hnx : K.lookup x = none) (hroom : A.depth < recursionLimit)
    (hq : ∀ h' tk dx t1, Left s.heap h' x C dx t1 v → R (.ok (.ret .none)) { s with heap := h', toks := tk }) :
    codeAny (model prog w) A (.call (.ref fI) ⟨[.ref x, v], []⟩) R s := by
  obtain ⟨oc, od, doc, pm, an, cda, cc, ct, osl, msg, j, p1, p2, o1, o2, o3, o4, o5, o6, q1, q2, q3, q4, ho, hcd, ⟨ccl, cdd, vs, ccs, file, tf, hcode, hvs, hfile⟩, hev, cl, cld, csl, hcell⟩ := T.fn
  obtain ⟨nm, q, N, bs, bm, sn, sub, ab, col, dd, k0, k1, k2, k3, k5, hC, hbm⟩ := T.cls
  obtain ⟨mb, hB, hmb⟩ := B
  have hcl : clsIn K C = some { name := nm, bases := bs, mro := .ref C :: bm, ns := N, qualname := q, hasDict := true, slotNames := sn, subclasses := sub, abstract := ab, collection := col, hasDel := false } := by unfold clsIn; rw [hC] <;> rfl
  obtain ⟨hp, g, d, t, os⟩ := s
  refine ks_codeAny_call_defAt (binds := [((PySem.Str.ofString "self"), Value.ref x), ((PySem.Str.ofString "option"), v)]) hroom (X _ _ ho) rfl hlim (codeRec_of X hcd) rfl (BindsTo.of_eq (by first | rfl | with_unfolding_all rfl)) (show ∀ y ∈ eS.names, y.2 ≠ .cell by decide +kernel) (fun y hy => ?_) (fun h₁ hns k₁ => ?_) rfl rfl rfl
  · have hy' : y = ((PySem.Str.ofString "self"), Value.ref x) ∨ y = ((PySem.Str.ofString "option"), v) := by simpa using hy
    rcases hy' with e | e <;> rw [e] <;> rfl
  · have X₁ : K.In h₁ := X.keeps k₁
    have hx₁ : h₁.get? x = some (excO C t0) := k₁ _ _ hx
    obtain ⟨pl, hev⟩ := hev (ksEnv "BadLanguage.__init__" eS hp.objs.size fI (.ref cda) cc)
    refine ks_wpAt_execs_cons (ks_wpAt_Expr_any (ks_wpAt_MethodCall ?_ hev))
    refine ks_wpAt_super_base rfl rfl (by decide +kernel) rfl (X₁ _ _ ho) rfl rfl rfl (X₁ _ _ hcode) rfl hvs hfile T.top ?_
    refine ks_loadName_global rfl rfl (loadGlobal_builtin (G.keeps k₁) T.su (hB.keeps k₁) (hmb.trans PyProof.Rows.Boot.«super») ⟨rfl, ?_⟩)
    refine wpAny_loadName_free rfl rfl rfl ⟨_, X₁ _ _ hcell, rfl⟩ ?_
    refine wpAny_loadName_local (v := .ref x) rfl rfl hns rfl ?_
    have hC₁ := X₁ _ _ hC
    refine ks_wpAny_isType_cls hC₁ rfl ⟨rfl, ?_⟩
    refine ks_wpAny_call_super hC₁ rfl hx₁ rfl (fun c e => by cases e) (looks_mroIn X₁ T.sub) (fun h₂ e₂ k₂ => ?_)
    have X₂ : K.In h₂ := X₁.keeps k₂
    have hx₂ := k₂ _ _ hx₁
    have I₂ : InstAt h₂ x (excO C t0) C none := ⟨hx₂, rfl, rfl, trivial⟩
    have hxC : x ≠ C := fun z => by rw [z, hC] at hnx; cases hnx
    have hsup : alongIn K "__init__" (((Value.ref C :: bm).dropWhile (· != .ref C)).drop 1) = some (some (.builtin "ValueError.__init__")) := by
      have z := T.sup
      unfold ks_superIn at z
      rw [hcl] at z
      exact z
    refine kxs_getMethod kxs_ValueError e₂ (looks_opaque X₂ T.tp) (l₀ := Value.ref C :: bm) ((looks_clsIn X₂ hcl).andThen .now) rfl X₂ hsup (I₂.type.andThen (looks_subIn X₂ T.vaC)) hxC (by decide +kernel) ?_
    have k₃ : ∀ b o, h₂.get? b = some o → (h₂.push (kxs_mw "ValueError.__init__" x)).get? b = some o := fun b o e => Heap.get?_push_of_some _ e
    have hu₃ : (h₂.push (kxs_mw "ValueError.__init__" x)).get? h₂.objs.size = some (kxs_mw "ValueError.__init__" x) := Heap.get?_push_at rfl rfl
    refine kxs_callWith (i := "ValueError.__init__") (x := x) rfl (evalArgs_plain (spliced_cons (Constant_str (k := j) (pos := o4) (spliced_nil ⟨hu₃, ?_⟩))))
    refine wrapped (k₃ _ _ (X₂ _ _ hC)) (k₃ _ _ hx₂) hu₃ (one_len _) fun h₄ t1 k₄ hx₄ => ?_
    have k14 : ∀ b o, b ≠ x → h₁.get? b = some o → h₄.get? b = some o := fun b o n e => k₄ b o n (k₃ _ _ (k₂ _ _ e))
    have hL : hp.objs.size ≠ x := Nat.ne_of_gt (Heap.lt_size hx)
    have hns₄ : h₄.Ns hp.objs.size (fun y => List.lookup y [((PySem.Str.ofString "self"), Value.ref x), ((PySem.Str.ofString "option"), v)].reverse) := hns.at fun o e => k14 _ _ hL e
    have X₄ : K.In h₄ := fun b o e => k14 b o (fun z => by rw [z, hnx] at e; cases e) (X₁ b o e)
    refine wpAt_of_wpAny (wpAny_execs_cons (plainObj_wpAny_Assign_Attribute ?_))
    refine bound_name (env := ksEnv "BadLanguage.__init__" eS hp.objs.size fI (.ref cda) cc) hns₄ (u := v) rfl (bound_name (env := ksEnv "BadLanguage.__init__" eS hp.objs.size fI (.ref cda) cc) hns₄ (u := .ref x) rfl ?_)
    refine set_plain X₄ (ox := excO C t1) (od := none) ⟨hx₄, rfl, rfl, trivial⟩ T.sa ?_
    refine exc_osa X₄ hx₄ hcl (show refsVE (.ref C :: bm) = true from hbm) rfl T.noN (fun h₅ tk₅ dx k₅ dn dne hx₅ hn₅ => ?_)
    show wpAny _ _ (execs _ _) _ _ _
    have hz : hp.objs.size ≤ h₄.objs.size := Nat.le_of_lt hns₄.lt
    exact wpAny_execs_nil (hq h₅ tk₅ dx t1 ⟨fun b o hb e => k₅ b o hb (k14 b o hb (k₁ b o e)), hx₅, Nat.le_trans hz dn, dne, hn₅⟩)
/-- a made BadLanguage -/
structure Made (h h' : Heap) (e C d : Addr) (v : Value) : Prop where
  keep : ∀ b o, h.get? b = some o → h'.get? b = some o
  new : h.objs.size ≤ e
  obj : ∃ oe vs, h'.get? e = some oe ∧ oe.cls = .ref C ∧ oe.dict = some d ∧ oe.data = .fields vs ∧ vs[1]? = some .none
  dbig : h.objs.size ≤ d
  dne : d ≠ e
  ns : h'.Ns1 d (fun y => if y = "option" then some v else none)
theorem err_made (T : ErrTxt prog K mg C fI) {s : Shared} {v : Value} (X : K.In s.heap) (G : s.heap.Ns mainGlobals mg) (B : ∃ mb, s.heap.Ns builtinsNs mb ∧ mb "super" = bootBuiltins "super") (hlim : s.heap.NoLimit) (hroom : A.depth + 1 < recursionLimit)
    (hq : ∀ h' tk e d, Made s.heap h' e C d v → R (.ok (.ret (.ref e))) { s with heap := h', toks := tk }) : codeAny (model prog w) A (.call (.ref C) ⟨[v], []⟩) R s := by
  obtain ⟨nm, q, N, bs, bm, sn, sub, ab, col, dd, k0, k1, k2, k3, k5, hC, hbm⟩ := T.cls
  obtain ⟨mb, hB, hmb⟩ := B
  obtain ⟨hp, g, dr, tk, os⟩ := s
  have k : ∀ b o, hp.get? b = some o → ((hp.push (kdv_tup [v])).push (excO C hp.objs.size)).get? b = some o := fun b o e => Heap.get?_push_of_some _ (Heap.get?_push_of_some _ e)
  have hget : ((hp.push (kdv_tup [v])).push (excO C hp.objs.size)).get? (hp.objs.size + 1) = some (excO C hp.objs.size) := by heap_get
  have hnx : K.lookup (hp.objs.size + 1) = none := by
    cases e : K.lookup (hp.objs.size + 1) with
    | none => rfl
    | some o => exact absurd (Nat.lt_of_succ_lt (Heap.lt_size (X _ _ e))) (Nat.lt_irrefl _)
  refine call_own F.excBase_ValueError (fun X => refsVE_contains X bm hbm) (X _ _ hC) (looks_findIn X T.iC) (fun self => bind_fn X self T.tC) (one_len v) ?_
  refine err_init (s := ⟨(hp.push (kdv_tup [v])).push (excO C hp.objs.size), g, dr, tk, os⟩) T (X.keeps k) (G.keeps k) ⟨mb, hB.keeps k, hmb⟩ (hlim.keeps k) hget hnx (show A.depth + 1 < recursionLimit from hroom) fun h' tk' dx t1 L => ?_
  have old : ∀ b o, hp.get? b = some o → h'.get? b = some o := fun b o e => L.keep b o (Nat.ne_of_lt (Nat.lt_succ_of_lt (Heap.lt_size e))) (k b o e)
  have big : hp.objs.size ≤ dx := by
    have z := L.dbig
    rw [Heap.size_push, Heap.size_push] at z
    omega
  exact ⟨rfl, hq h' tk' (hp.objs.size + 1) dx ⟨old, Nat.le_succ _, ⟨_, _, L.obj, rfl, rfl, rfl, rfl⟩, big, L.dne, L.ns⟩⟩
end
end K5E
namespace L2
open PySem PySem.Spec PyProof.Rows K5E
theorem relO_at {v : V} {v' : Value} (r : RelV v v') (f : Str) : RelO (List.lookup f [(("option" : Str), v)]) (if f = "option" then some v' else none) := by
  by_cases hw : f = "option"
  · rw [if_pos hw, hw]
    have q : List.lookup ("option" : Str) [(("option" : Str), v)] = some v := by simp [List.lookup]
    rw [q]
    exact r
  · rw [if_neg hw]
    have qw : (f == ("option" : Str)) = false := by simpa using hw
    have q2 : List.lookup f [(("option" : Str), v)] = none := by simp [List.lookup, qw]
    rw [q2]
    trivial
section
variable {X : Cx} {C fI : Addr}
/-- BadLanguage(e) -/
def tErr (C : Addr) (ta : TA) : St → Hp → XK → Prop := fun σ H Q => ta σ H fun vs H1 => ∃ v, vs = [v] ∧ ∀ d, H1 d = none → Q (.ref C) (some d) (upd H1 d (.xd [(("option" : Str), v)]))
theorem pmk_err {a : Expr} {ta : TA} {p pos : Pos} {k : Nat} (T : ErrTxt X.prog X.K X.mg C fI) (hr : Room k X.A) (ha : PA X [a] ta) (hg : Gl X "BadLanguage" := by rfl)
    (he : starEach (a :: []) X.env = (false, eval a X.env) :: starEach [] X.env := by rfl) (hpl : (backTo pos (starEach [] X.env)).any (·.1) = false := by rfl) :
    PMk X (.Call (.Name "BadLanguage" p) [a] [] pos) (tErr C ta) := by
  intro pins s σ H Q I h
  refine wpAny_Call_Name_kw (ld_glob I hg T.gC ?_)
  refine PySem.W.callWith_K (h₀ := X.base) I.ok.mod.kin T.kC (thn (ha.run pos pins s σ H _ I h) fun us s1 hh => ?_) he hpl
  obtain ⟨vs, H1, I1, r1, v, ev, q1⟩ := hh
  subst ev
  refine ⟨I1.kIn, ?_⟩
  cases r1 with
  | cons rv rn =>
    rename_i v' us'
    cases rn
    show wpAny _ _ (PySem.call (.ref C) [v']) _ _ _
    have hlim := I1.nolimit
    obtain ⟨mb, hb1, hb2⟩ := I1.mod.blt
    have G1 : s1.heap.Ns mainGlobals X.mg := I1.mod.glob.keeps I1.bk
    have B1 : ∃ mb, s1.heap.Ns builtinsNs mb ∧ mb "super" = bootBuiltins "super" := ⟨mb, hb1.keeps I1.bk, hb2 _ (by decide +kernel)⟩
    obtain ⟨hp, g, dr, tk, os⟩ := s1
    refine wpAny_call (err_made T I1.kIn G1 B1 hlim (by have := hr.dp; omega) fun h' tk' e d M => ?_)
    show MkP X pins σ Q (.ref e) ⟨h', g, dr, tk', os⟩
    obtain ⟨oe, fv, hoe, hc, hd, hdat, h1⟩ := M.obj
    have hns := M.ns
    obtain ⟨G', g1, g2⟩ := restrict h' fun b => decide (b ≠ e)
    have gk : ∀ b, b ≠ e → G'.get? b = h'.get? b := fun b hb => g1 b (decide_eq_true hb)
    have ge : G'.get? e = none := g2 e (by simp)
    have old : ∀ b o, hp.get? b = some o → G'.get? b = some o := fun b o q => (gk b (Nat.ne_of_lt (Nat.lt_of_lt_of_le (Heap.lt_size q) M.new))).trans (M.keep b o q)
    have ob : ObjOk X.prog X.w (upd H1 d (.xd [(("option" : Str), v)])) G' d (.xd [(("option" : Str), v)]) :=
      ⟨_, hns.at (fun o q => (gk d M.dne).trans q), fun f => relO_at rv f⟩
    have J : Inv X pins σ (upd H1 d (.xd [(("option" : Str), v)])) ⟨G', g, dr, tk', os⟩ := I1.laid (t' := tk') old M.dbig ob
    refine ⟨e, oe, fv, ⟨G', g, dr, tk', os⟩, _, .ref C, some d, rfl, J, fun b o q => ?_, ge, hoe, ⟨hc, hd⟩, hdat, h1, ?_, rfl, I1.bare, raises_own T.exC T.tyC, q1 d (I1.hok.fresh M.dbig)⟩
    · by_cases hb : b = e
      · have q' : G'.get? b = some o := q
        rw [hb, ge] at q'
        cases q'
      · exact (gk b hb).symm.trans q
    · rw [upd_ne (Ne.symm M.dne)]
      exact I1.hok.fresh M.new
/-- raise BadLanguage(e) -/
theorem ps_raiseErr {a : Expr} {ta : TA} {W : WX} {p pos pos2 : Pos} {k : Nat} (hc : X.calm = true) (T : ErrTxt X.prog X.K X.mg C fI) (hr : Room k X.A) (tk : Takes X W) (ha : PA X [a] ta) (hg : Gl X "BadLanguage" := by rfl)
    (he : starEach (a :: []) X.env = (false, eval a X.env) :: starEach [] X.env := by rfl) (hpl : (backTo pos (starEach [] X.env)).any (·.1) = false := by rfl) :
    PS X (.Raise (some (.Call (.Name "BadLanguage" p) [a] [] pos)) none pos2) (fun _ σ H => tErr C ta σ H fun cls d H' => W cls d σ H') := ps_raise hc tk (pmk_err T hr ha hg he hpl)
end
end L2

namespace K5
open PySem L2
abbrev sInit : Stmt := inClass (top 43) 0
/-- texts in data -/
def textsD : PyData → List Str
  | .list ds => ds.filterMap strD
  | .tuple ds => ds.filterMap strD
  | _ => []
def boolD : PyData → Bool
  | .bool b => b
  | _ => false
/-- the first option that is not allowed -/
def badOf : List Str → List PyData → Option Str
  | o :: os, d :: ds => if okOpt o d = true then badOf os ds else some o
  | _, _ => none
/-- what a language keeps of its options -/
def langOf (ds : List PyData) : Lang :=
  { e := (strD (ds.getD 0 .none)).getD "", n := (strD (ds.getD 1 .none)).getD "", c := (strD (ds.getD 2 .none)).getD "", l := (strD (ds.getD 3 .none)).getD "",
    D := sgn3.filter fun z => decide (z ∈ textsD (ds.getD 4 .none)), b := boolD (ds.getD 5 .none), x := boolD (ds.getD 6 .none) }
/-- a language with its table -/
def LangW (C : Addr) (H : Hp) (x : Addr) (L : Lang) : Prop := ∃ dx t wp fs, H x = some (.ins C dx fs) ∧ Fl fs L t ∧ H t = some (.tup (L.D.map V.str)) ∧ fs.lookup ("ways" : Str) = some (.ref wp) ∧ WaysAt H wp L ∧ fs.lookup ("step" : Str) = none ∧ fs.lookup ("closes" : Str) = none ∧ fs.lookup ("next_sorts" : Str) = none
theorem LangW.at {C : Addr} {H : Hp} {x : Addr} {L : Lang} (h : LangW C H x L) : LangAt C H x L := by
  obtain ⟨dx, t, wp, fs, h1, h2, h3, _⟩ := h
  exact ⟨dx, t, fs, h1, h2, h3⟩
theorem LangW.same {C : Addr} {H H' : Hp} {x : Addr} {L : Lang} (h : LangW C H x L) (s : Same H H') : LangW C H' x L := by
  obtain ⟨dx, t, wp, fs, h1, h2, h3, h4, h5, h6⟩ := h
  exact ⟨dx, t, wp, fs, s _ _ h1, h2, s _ _ h3, h4, h5.same s, h6⟩
theorem WaysAt.put {H : Hp} {p x C dx : Addr} {L : Lang} {fs : List (Str × V)} {o : HO} (h : WaysAt H p L) (hx : H x = some (.ins C dx fs)) : WaysAt (upd H x o) p L := by
  obtain ⟨ps, h1, h2, h3⟩ := h
  have ne : ∀ {b : Addr} {ks : List (Key × V)}, H b = some (.dK ks) → upd H x o b = some (.dK ks) := fun {b ks} e => by
    rw [upd_ne fun z => by rw [z, hx] at e; cases e]
    exact e
  exact ⟨ps, h1, ne h2, fun i q z ws a b => ne (h3 i q z ws a b)⟩
def AllShort (ds : List PyData) : Prop := ∀ d ∈ ds, Short d
def spInit (K : PySem.W.Frag) (C CB : Addr) : Sp := fun vs H Q E => ∃ (x dx : Addr) (us : List V) (ds : List PyData), vs = .ref x :: us ∧ us.length = 7 ∧ H x = some (.ins C dx []) ∧ DpAll K H us ds ∧ AllShort ds ∧
  (badOf names7 ds = none → ∀ H', (∀ b o, b ≠ x → H b = some o → H' b = some o) → LangW C H' x (langOf ds) → Q .non H') ∧
  (∀ o, badOf names7 ds = some o → ∀ d H', H d = none → Same H H' → H' d = some (.xd [(("option" : Str), .str o)]) → E (.ref CB) (some d) H')
abbrev nInit : List Str := ["self", "equals", "end", "comma", "last", "doubled", "bare", "nothing", "given", "option", "sign"]
abbrev pInit : List Str := ["self", "equals", "end", "comma", "last", "doubled", "bare", "nothing"]
/-- the dict of the options as they were passed -/
abbrev G7 (v1 v2 v3 v4 v5 v6 v7 : V) : List (Key × V) := mergeK [] [(.inr "equals", v1), (.inr "end", v2), (.inr "comma", v3), (.inr "last", v4), (.inr "doubled", v5), (.inr "bare", v6), (.inr "nothing", v7)]
theorem g7_at {v1 v2 v3 v4 v5 v6 v7 : V} {i : Nat} {o : Str} {v : V} (h1 : names7[i]? = some o) (h2 : [v1, v2, v3, v4, v5, v6, v7][i]? = some v) : valV (G7 v1 v2 v3 v4 v5 v6 v7) (.inr o) = some v := by
  match i, h1, h2 with
  | 0, h1, h2 => cases h1; cases h2; kernel_rfl
  | 1, h1, h2 => cases h1; cases h2; kernel_rfl
  | 2, h1, h2 => cases h1; cases h2; kernel_rfl
  | 3, h1, h2 => cases h1; cases h2; kernel_rfl
  | 4, h1, h2 => cases h1; cases h2; kernel_rfl
  | 5, h1, h2 => cases h1; cases h2; kernel_rfl
  | 6, h1, h2 => cases h1; cases h2; kernel_rfl
  | n + 7, h1, _ => cases h1
abbrev F1 (a : V) : List (Str × V) := [(("equals" : Str), a)]
abbrev F2 (a b : V) : List (Str × V) := [(("equals" : Str), a), (("end" : Str), b)]
abbrev F3 (a b c : V) : List (Str × V) := [(("equals" : Str), a), (("end" : Str), b), (("comma" : Str), c)]
abbrev F4 (a b c d : V) : List (Str × V) := [(("equals" : Str), a), (("end" : Str), b), (("comma" : Str), c), (("last" : Str), d)]
abbrev F5 (a b c d e : V) : List (Str × V) := [(("equals" : Str), a), (("end" : Str), b), (("comma" : Str), c), (("last" : Str), d), (("doubled" : Str), e)]
abbrev F6 (a b c d e f : V) : List (Str × V) := [(("equals" : Str), a), (("end" : Str), b), (("comma" : Str), c), (("last" : Str), d), (("doubled" : Str), e), (("bare" : Str), f)]
abbrev F7 (a b c d e f g : V) : List (Str × V) := [(("equals" : Str), a), (("end" : Str), b), (("comma" : Str), c), (("last" : Str), d), (("doubled" : Str), e), (("bare" : Str), f), (("nothing" : Str), g)]
abbrev F8 (a b c d e f g h : V) : List (Str × V) := [(("equals" : Str), a), (("end" : Str), b), (("comma" : Str), c), (("last" : Str), d), (("doubled" : Str), e), (("bare" : Str), f), (("nothing" : Str), g), (("ways" : Str), h)]
theorem fp2 (a b : V) : putF "end" b (F1 a) = F2 a b := by kernel_rfl
theorem fp3 (a b c : V) : putF "comma" c (F2 a b) = F3 a b c := by kernel_rfl
theorem fp4 (a b c d : V) : putF "last" d (F3 a b c) = F4 a b c d := by kernel_rfl
theorem fp5 (a b c d e : V) : putF "doubled" e (F4 a b c d) = F5 a b c d e := by kernel_rfl
theorem fp6 (a b c d e f : V) : putF "bare" f (F5 a b c d e) = F6 a b c d e f := by kernel_rfl
theorem fp7 (a b c d e f g : V) : putF "nothing" g (F6 a b c d e f) = F7 a b c d e f g := by kernel_rfl
theorem fp8 (a b c d e f g h : V) : putF "ways" h (F7 a b c d e f g) = F8 a b c d e f g h := by kernel_rfl
theorem fl7 (L : Lang) (t : Addr) : Fl (F7 (.str L.e) (.str L.n) (.str L.c) (.str L.l) (.ref t) (.bl L.b) (.bl L.x)) L t := ⟨by kernel_rfl, by kernel_rfl, by kernel_rfl, by kernel_rfl, by kernel_rfl, by kernel_rfl, by kernel_rfl, by kernel_rfl⟩
theorem fl8 (L : Lang) (t : Addr) (p : V) : Fl (F8 (.str L.e) (.str L.n) (.str L.c) (.str L.l) (.ref t) (.bl L.b) (.bl L.x) p) L t := ⟨by kernel_rfl, by kernel_rfl, by kernel_rfl, by kernel_rfl, by kernel_rfl, by kernel_rfl, by kernel_rfl, by kernel_rfl⟩
theorem badOf_next {os : List Str} {ds : List PyData} {i : Nat} {o : Str} {d : PyData} (h1 : os[i]? = some o) (h2 : ds[i]? = some d) : badOf (os.drop i) (ds.drop i) = if okOpt o d = true then badOf (os.drop (i + 1)) (ds.drop (i + 1)) else some o := by
  have a1 := (List.getElem?_eq_some_iff.mp h1).1
  have a2 := (List.getElem?_eq_some_iff.mp h2).1
  rw [List.getElem?_eq_getElem a1] at h1
  rw [List.getElem?_eq_getElem a2] at h2
  rw [List.drop_eq_getElem_cons a1, List.drop_eq_getElem_cons a2, Option.some.inj h1, Option.some.inj h2]
  rfl
theorem inD_str {ws : List Str} {d : PyData} (h : inD ws d = true) : ∃ z ∈ ws, d = .str z := by
  cases d with
  | str z => exact ⟨z, of_decide_eq_true h, rfl⟩
  | _ => exact absurd h (by simp [inD, strD])
theorem isB_bool {d : PyData} (h : isB d = true) : ∃ b, d = .bool b := by
  cases d with
  | bool b => exact ⟨b, rfl⟩
  | _ => exact absurd h (by simp [isB])
/-- sound options -/
structure Sound (d1 d2 d3 d4 d5 d6 d7 : PyData) : Prop where
  e : inD ["must", "may"] d1 = true
  n : inD ["must", "between", "may"] d2 = true
  c : inD ["must", "may", "joins"] d3 = true
  l : inD ["never", "may", "must"] d4 = true
  d : okDoub d5 = true
  b : isB d6 = true
  x : isB d7 = true
theorem ok1 (d : PyData) : okOpt "equals" d = inD ["must", "may"] d := by
  unfold okOpt
  rw [show chOf "equals" = some (["must", "may"] : List Str) by decide +kernel]
  rfl
theorem ok2 (d : PyData) : okOpt "end" d = inD ["must", "between", "may"] d := by
  unfold okOpt
  rw [show chOf "end" = some (["must", "between", "may"] : List Str) by decide +kernel]
  rfl
theorem ok3 (d : PyData) : okOpt "comma" d = inD ["must", "may", "joins"] d := by
  unfold okOpt
  rw [show chOf "comma" = some (["must", "may", "joins"] : List Str) by decide +kernel]
  rfl
theorem ok4 (d : PyData) : okOpt "last" d = inD ["never", "may", "must"] d := by
  unfold okOpt
  rw [show chOf "last" = some (["never", "may", "must"] : List Str) by decide +kernel]
  rfl
theorem ok5 (d : PyData) : okOpt "doubled" d = okDoub d := by
  unfold okOpt
  rw [show chOf "doubled" = none by decide +kernel]
  rfl
theorem ok6 (d : PyData) : okOpt "bare" d = isB d := by
  unfold okOpt
  rw [show chOf "bare" = none by decide +kernel]
  show (if ("bare" : Str) = "doubled" then okDoub d else isB d) = _
  rw [if_neg (by decide +kernel)]
theorem ok7 (d : PyData) : okOpt "nothing" d = isB d := by
  unfold okOpt
  rw [show chOf "nothing" = none by decide +kernel]
  show (if ("nothing" : Str) = "doubled" then okDoub d else isB d) = _
  rw [if_neg (by decide +kernel)]
theorem badOf_step {o : Str} {os : List Str} {d : PyData} {ds : List PyData} : badOf (o :: os) (d :: ds) = if okOpt o d = true then badOf os ds else some o := rfl
theorem sound_of {d1 d2 d3 d4 d5 d6 d7 : PyData} : badOf names7 [d1, d2, d3, d4, d5, d6, d7] = none ↔ Sound d1 d2 d3 d4 d5 d6 d7 := by
  unfold names7
  rw [badOf_step, badOf_step, badOf_step, badOf_step, badOf_step, badOf_step, badOf_step, ok1, ok2, ok3, ok4, ok5, ok6, ok7]
  constructor
  · intro h
    by_cases a1 : inD ["must", "may"] d1 = true
    case neg => rw [if_neg a1] at h; cases h
    rw [if_pos a1] at h
    by_cases a2 : inD ["must", "between", "may"] d2 = true
    case neg => rw [if_neg a2] at h; cases h
    rw [if_pos a2] at h
    by_cases a3 : inD ["must", "may", "joins"] d3 = true
    case neg => rw [if_neg a3] at h; cases h
    rw [if_pos a3] at h
    by_cases a4 : inD ["never", "may", "must"] d4 = true
    case neg => rw [if_neg a4] at h; cases h
    rw [if_pos a4] at h
    by_cases a5 : okDoub d5 = true
    case neg => rw [if_neg a5] at h; cases h
    rw [if_pos a5] at h
    by_cases a6 : isB d6 = true
    case neg => rw [if_neg a6] at h; cases h
    rw [if_pos a6] at h
    by_cases a7 : isB d7 = true
    case neg => rw [if_neg a7] at h; cases h
    exact ⟨a1, a2, a3, a4, a5, a6, a7⟩
  · intro h
    rw [if_pos h.e, if_pos h.n, if_pos h.c, if_pos h.l, if_pos h.d, if_pos h.b, if_pos h.x]
    rfl
theorem doub_row {K : PySem.W.Frag} {H : Hp} {v : V} {d : PyData} (h : Dp K H v d) (ok : okDoub d = true) : ∃ a, v = .ref a ∧ (SqL K H a ((textsD d).map V.str) ∨ SqT K H a ((textsD d).map V.str)) ∧ (textsD d).Nodup ∧ ∀ z ∈ textsD d, z ∈ sgn3 := by
  rcases seq_or h with ⟨a, xs, ds, rfl, hx, row⟩ | ⟨hn, _⟩
  · rw [row.ok] at ok
    unfold okSeq at ok
    rw [Bool.and_eq_true] at ok
    obtain ⟨e1, e2⟩ := all_texts hx ok.1
    have et : textsD d = ds.filterMap strD := by rcases row with ⟨_, rfl⟩ | ⟨_, rfl⟩ <;> rfl
    refine ⟨a, rfl, ?_, by rw [et]; exact of_decide_eq_true ok.2, fun z hz => ?_⟩
    · rw [et, ← e1]
      rcases row with ⟨h, _⟩ | ⟨h, _⟩
      · exact .inl h
      · exact .inr h
    · rw [et] at hz
      obtain ⟨d', hd', e⟩ := List.mem_filterMap.mp hz
      have q := List.all_eq_true.mp ok.1 d' hd'
      unfold inD at q
      rw [e] at q
      exact of_decide_eq_true q
  · rw [hn] at ok
    cases ok
theorem filter_one {α : Type} (p : α → Bool) (z : α) : [z].filter p = if p z = true then [z] else [] := by
  by_cases c : p z = true <;> simp [c]
section
variable {P : Program} {w : World} {K : PySem.W.Frag} {mg : Str → Option Value} {base : Heap} {aD aO aC : Addr}
theorem scInit : FnScope nInit pInit (defScope sInit) := ⟨rfl, rfl, rfl, by decide +kernel, rfl, by decide +kernel, by decide +kernel⟩
theorem ok_init {f C CB fE : Addr} {fd : FuncData} {kws : List (Str × V)} (F : FunD K "__init__" "Language.__init__" (defArgs sInit) (defBody sInit) (defScope sInit) [] kws f fd) (T : ModC K w mg aD aO aC) (S : LangC K mg C) (TE : K5E.ErrTxt P K mg CB fE)
    (GA : Fn P w K mg base 3 "is_allowed" ["option", "thing"] (spAllowed K)) (GW : Fn P w K mg base 3 "all_ways" ["language"] (spAll C)) :
    FnOk P w K mg base (L2.CX P w) 4 f fd pInit (spInit K C CB) := by
  refine F.ok scInit (fun vs H Q E h => ?_) (fun cdv A outer s H vs Q E hr h => ?_)
  · obtain ⟨x, dx, us, ds, rfl, hl, _⟩ := h
    rw [List.length_cons, hl]
    rfl
  · obtain ⟨x, dx, us, ds, rfl, hl, hx, hd, hs, q, e⟩ := h
    have hu := hu_of hr
    match us, hl with
    | [v1, v2, v3, v4, v5, v6, v7], _ =>
    refine ⟨_, C8.pss_cut (ps_set (i := 8) scInit.nd rfl (.inl rfl) (pe_disp (pps_cons pe_str (pv 1) (pps_cons pe_str (pv 2) (pps_cons pe_str (pv 3) (pps_cons pe_str (pv 4) (pps_cons pe_str (pv 5) (pps_cons pe_str (pv 6) (pps_cons pe_str (pv 7) pps_nil))))))) (by rfl) (by rfl) (fun z => by cases z) (by decide)))
      (C8.pss_cut (ps_for (passes_of rfl) rfl (pi_tup (pe_glob (v := .ref aO) (by rfl) T.opt rfl)) (pg_name (i := 9) scInit.nd rfl (.inl rfl))
        (pss_one (ps_if (pt_not (pt_val (pe_fn GA hr rfl (pa_cons (pv 9) (pa_cons (pe_dget hu (pv 8) (pv 9) (fun _ _ => rfl)) pa_nil))))) (pss_one (ps_raiseErr rfl TE hr (takes_of rfl rfl rfl rfl) (pa_cons (pv 9) pa_nil))) pss_nil)))
      (pss_cons (ps_fld (pv 0) (pv 1) rfl) (pss_cons (ps_fld (pv 0) (pv 2) rfl) (pss_cons (ps_fld (pv 0) (pv 3) rfl) (pss_cons (ps_fld (pv 0) (pv 4) rfl)
      (C8.pss_cut (ps_fld (pv 0) (pe_callTy call_tuple_of (by rfl) T.tuple (by decide +kernel) (pa_cons (pe_lc (own := [("sign", 10)]) (g := gName 10) (tt := tTest (tOp (rIn K false) (tVar 10) (tVar 5))) (by rfl) scInit.nd (pi_tup (pe_glob (v := .ref aD) (by rfl) T.dbl rfl))
        (blkOk_by (own := [("sign", 10)]) (N := nInit) (sc := defScope sInit) (by decide +kernel)) (fun _ _ _ _ _ => pg_name (i := 10) scInit.nd rfl (Or.inl rfl)) (fun _ _ _ _ _ => pts_one (pt_cmpR op_in_seq (pv 10) (pv 5) (by rfl))) (fun _ _ _ _ _ => pv 10)) pa_nil)) rfl)
      (pss_cons (ps_fld (pv 0) (pv 6) rfl) (pss_cons (ps_fld (pv 0) (pv 7) rfl) (pss_one (ps_fld (pv 0) (pe_fn GW hr rfl (pa_cons (pv 0) pa_nil)) rfl)))))))))), ?_⟩
    obtain ⟨d1, d2, d3, d4, d5, d6, d7, rfl⟩ : ∃ d1 d2 d3 d4 d5 d6 d7, ds = [d1, d2, d3, d4, d5, d6, d7] := by
      have l := DpAll.len hd
      match ds, l with
      | [d1, d2, d3, d4, d5, d6, d7], _ => exact ⟨_, _, _, _, _, _, _, rfl⟩
    refine ⟨fun σ H' => ∃ g, σ = [some (.ref x), some v1, some v2, some v3, some v4, some v5, some v6, some v7, some (.ref g), none, none] ∧ H' g = some (.dK (G7 v1 v2 v3 v4 v5 v6 v7)) ∧ Same H H', ?_, ?_⟩
    · intro g hg
      exact ⟨_, rfl, _, rfl, _, rfl, _, rfl, _, rfl, _, rfl, _, rfl, upd_same, [(.inr "equals", v1), (.inr "end", v2), (.inr "comma", v3), (.inr "last", v4), (.inr "doubled", v5), (.inr "bare", v6), (.inr "nothing", v7)], rfl, by show 7 ≤ 15; decide, g, rfl, upd_same, Same.put (Same.new (Same.refl H) hg) hg⟩
    rintro σ H1 ⟨g, rfl, hg, s1⟩
    refine ⟨fun σ H' => (∃ v9, σ = [some (.ref x), some v1, some v2, some v3, some v4, some v5, some v6, some v7, some (.ref g), v9, none]) ∧ Same H H' ∧ badOf names7 [d1, d2, d3, d4, d5, d6, d7] = none, ?_, ?_⟩
    · refine ⟨aO, rfl, ⟨_, T.otup.sq H1⟩, for_tup (K := K) (a := aO) (xs := names7.map V.str) (fun i σ H' => (∃ v9, σ = [some (.ref x), some v1, some v2, some v3, some v4, some v5, some v6, some v7, some (.ref g), v9, none]) ∧ Same H H' ∧ H' g = some (.dK (G7 v1 v2 v3 v4 v5 v6 v7)) ∧ badOf names7 [d1, d2, d3, d4, d5, d6, d7] = badOf (names7.drop i) ([d1, d2, d3, d4, d5, d6, d7].drop i)) ⟨⟨_, rfl⟩, s1, hg, rfl⟩ (fun _ _ H' _ _ => T.otup.sq H') ?_ ?_⟩
      · rintro i y σ H2 hi ⟨⟨v9, rfl⟩, s2, hg2, eb⟩
        rw [List.getElem?_map] at hi
        obtain ⟨o, ho, rfl⟩ := Option.map_eq_some_iff.mp hi
        have hi7 : i < 7 := (List.getElem?_eq_some_iff.mp ho).1
        have hdi : [d1, d2, d3, d4, d5, d6, d7][i]? = some ([d1, d2, d3, d4, d5, d6, d7][i]'hi7) := List.getElem?_eq_getElem hi7
        generalize [d1, d2, d3, d4, d5, d6, d7][i]'hi7 = d at hdi
        obtain ⟨v, hvi, hv⟩ := DpAll.at hd hdi
        have hds : Short d := hs d (List.mem_of_getElem? hdi)
        rw [badOf_next ho hdi] at eb
        refine ⟨_, rfl, _, rfl, _, rfl, g, _, rfl, by rw [← g7_at ho hvi]; exact DGet.k (k := .inr o) hg2, o, v, d, rfl, List.mem_of_getElem? ho, dp_same s2 _ hv, hds, fun H3 s3 => ⟨_, rfl, ?_⟩⟩
        cases hok : okOpt o d with
        | false =>
          rw [hok, if_neg (by decide)] at eb
          refine iteT ⟨_, rfl, .str o, rfl, fun d' hd' => ?_⟩
          exact e o eb d' _ ((s2.trans s3).free hd') (Same.new (s2.trans s3) hd') upd_same
        | true =>
          rw [hok, if_pos rfl] at eb
          exact iteF ⟨⟨_, rfl⟩, s2.trans s3, s3 _ _ hg2, eb⟩
      · rintro σ H2 ⟨hv9, s2, _, eb⟩
        exact ⟨hv9, s2, eb⟩
    rintro σ H2 ⟨⟨v9, rfl⟩, s2, hbad⟩
    have sd := sound_of.mp hbad
    obtain ⟨z1, _, rfl⟩ := inD_str sd.e
    obtain ⟨z2, _, rfl⟩ := inD_str sd.n
    obtain ⟨z3, _, rfl⟩ := inD_str sd.c
    obtain ⟨z4, _, rfl⟩ := inD_str sd.l
    obtain ⟨b6, rfl⟩ := isB_bool sd.b
    obtain ⟨b7, rfl⟩ := isB_bool sd.x
    have hd' := hd
    cases hd with
    | cons h1 hd =>
    cases hd with
    | cons h2 hd =>
    cases hd with
    | cons h3 hd =>
    cases hd with
    | cons h4 hd =>
    cases hd with
    | cons h5 hd =>
    cases hd with
    | cons h6 hd =>
    cases hd with
    | cons h7 hd =>
    cases h1; cases h2; cases h3; cases h4; cases h6; cases h7
    obtain ⟨a5, rfl, hrow, _, _⟩ := doub_row h5 sd.d
    have Lang0 : langOf [.str z1, .str z2, .str z3, .str z4, d5, .bool b6, .bool b7] = { e := z1, n := z2, c := z3, l := z4, D := sgn3.filter fun z => decide (z ∈ textsD d5), b := b6, x := b7 } := rfl
    have hx2 := s2 _ _ hx
    have kx : ∀ {H' : Hp} {o' : HO}, (∀ b o, b ≠ x → H b = some o → H' b = some o) → ∀ b o, b ≠ x → H b = some o → (upd H' x o') b = some o := fun k b o n h => by
      rw [upd_ne n]
      exact k b o n h
    have k0 : ∀ b o, b ≠ x → H b = some o → H2 b = some o := fun b o _ h => s2 _ _ h
    refine ⟨_, rfl, _, rfl, x, C, dx, _, rfl, hx2, S.cl, S.nE, (by show 0 < 1000; decide), ?_⟩
    refine ⟨_, rfl, _, rfl, x, C, dx, _, rfl, upd_same, S.cl, S.nN, (by show 1 < 1000; decide), ?_⟩
    refine ⟨_, rfl, _, rfl, x, C, dx, _, rfl, upd_same, S.cl, S.nC, by rw [show putF "end" (.str z2) (putF "equals" (.str z1) []) = F2 (.str z1) (.str z2) from fp2 _ _]; (show 2 < 1000; decide), ?_⟩
    rw [show putF "end" (.str z2) (putF "equals" (.str z1) []) = F2 (.str z1) (.str z2) from fp2 _ _, fp3]
    refine ⟨_, rfl, _, rfl, x, C, dx, _, rfl, upd_same, S.cl, S.nL, (by show 3 < 1000; decide), ?_⟩
    rw [fp4]
    have k4 := kx (o' := .ins C dx (F4 (.str z1) (.str z2) (.str z3) (.str z4))) (kx (o' := .ins C dx (F3 (.str z1) (.str z2) (.str z3))) (kx (o' := .ins C dx (F2 (.str z1) (.str z2))) (kx (o' := .ins C dx (putF "equals" (.str z1) [])) k0)))
    generalize hH4 : upd (upd (upd (upd H2 x (.ins C dx (putF "equals" (.str z1) []))) x (.ins C dx (F2 (.str z1) (.str z2)))) x (.ins C dx (F3 (.str z1) (.str z2) (.str z3)))) x (.ins C dx (F4 (.str z1) (.str z2) (.str z3) (.str z4))) = H4 at k4 ⊢
    have hx4 : H4 x = some (.ins C dx (F4 (.str z1) (.str z2) (.str z3) (.str z4))) := by rw [← hH4]; exact upd_same
    clear hH4
    have ne5 : ∀ b o, H b = some o → (∀ C' dx' fs, o ≠ .ins C' dx' fs) → b ≠ x := fun b o h n z => by
      rw [z, hx] at h
      exact n _ _ _ (Option.some.inj h).symm
    have row4 : SqL K H4 a5 ((textsD d5).map V.str) ∨ SqT K H4 a5 ((textsD d5).map V.str) := by
      rcases hrow with (h | h) | (h | h)
      · rcases h with h | ⟨o, h⟩
        · exact .inl (.inl (.inl (k4 _ _ (ne5 _ _ h (fun _ _ _ z => nomatch z)) h)))
        · exact .inl (.inl (.inr ⟨o, k4 _ _ (ne5 _ _ h (fun _ _ _ z => nomatch z)) h⟩))
      · exact .inl (.inr h)
      · rcases h with h | ⟨o, h⟩
        · exact .inr (.inl (.inl (k4 _ _ (ne5 _ _ h (fun _ _ _ z => nomatch z)) h)))
        · exact .inr (.inl (.inr ⟨o, k4 _ _ (ne5 _ _ h (fun _ _ _ z => nomatch z)) h⟩))
      · exact .inr (.inr h)
    refine ⟨fun σ H' => ∃ t, σ = [some (.ref x), some (.str z1), some (.str z2), some (.str z3), some (.str z4), some (.ref a5), some (.bl b6), some (.bl b7), some (.ref g), v9, none] ∧ H' x = some (.ins C dx (F5 (.str z1) (.str z2) (.str z3) (.str z4) (.ref t))) ∧ H' t = some (.tup ((sgn3.filter fun z => decide (z ∈ textsD d5)).map V.str)) ∧ t ≠ x ∧ ∀ b o, b ≠ x → H b = some o → H' b = some o, ?_, ?_⟩
    · refine ⟨aD, rfl, ⟨_, T.dtup.sq H4⟩, fun D hD => lc_tup (K := K) (a := aD) (xs := sgn3.map V.str) (fun i H' => Same H4 H' ∧ H' D = some (.lst (((sgn3.take i).filter fun z => decide (z ∈ textsD d5)).map V.str))) ⟨Same.new (Same.refl H4) hD, upd_same⟩ (fun _ H' _ _ => T.dtup.sq H') (fun i y H5 hi ⟨s5, h5'⟩ => ?_) (fun H5 ⟨s5, h5'⟩ => ?_)⟩
      · rw [List.getElem?_map] at hi
        obtain ⟨z, hz, rfl⟩ := Option.map_eq_some_iff.mp hi
        have row5 : SqL K H5 a5 ((textsD d5).map V.str) ∨ SqT K H5 a5 ((textsD d5).map V.str) := row4.elim (fun h => .inl (s5.seq h)) (fun h => .inr (SqT.ext h s5))
        refine ⟨rfl, _, rfl, _, rfl, a5, _, rfl, row5, rfl, flat_strs _, _, rfl, ?_⟩
        show if inV (V.str z) ((textsD d5).map V.str) = true then _ else _
        rw [inV_strs]
        have more : (sgn3.take (i + 1)).filter (fun z => decide (z ∈ textsD d5)) = (sgn3.take i).filter (fun z => decide (z ∈ textsD d5)) ++ (if decide (z ∈ textsD d5) = true then [z] else []) := by
          rw [List.take_add_one, hz, List.filter_append]
          congr 1
          exact filter_one _ z
        refine ite2 (fun hc => ?_) (fun hc => ?_)
        · refine ⟨_, rfl, _, h5', ?_, fun b o hb => ?_, ?_⟩
          · rw [List.length_map]
            have l1 := List.length_filter_le (fun z => decide (z ∈ textsD d5)) (sgn3.take i)
            have l2 : (sgn3.take i).length ≤ 3 := by
              rw [List.length_take]
              exact Nat.min_le_right _ _
            exact line50 (by omega)
          · rw [upd_ne (ne_of_none hb hD)]
            exact s5 b o hb
          · rw [upd_same, more, if_pos hc, List.map_append]
            rfl
        · refine ⟨s5, ?_⟩
          rw [h5', more, if_neg hc, List.append_nil]
      · refine ⟨D, _, rfl, .inl ⟨SqL.of h5', fun t ht => ?_⟩⟩
        have hx5 := s5 _ _ hx4
        have nt : t ≠ x := (ne_of_none hx5 ht).symm
        refine ⟨_, rfl, x, C, dx, _, rfl, by rw [upd_ne nt.symm]; exact hx5, S.cl, S.nD, (by show 4 < 1000; decide), t, rfl, by rw [upd_same, fp5], ?_, nt, fun b o n h => ?_⟩
        · rw [upd_ne nt, upd_same]
          rfl
        · rw [upd_ne n, upd_ne (ne_of_none (s5 _ _ (k4 b o n h)) ht)]
          exact s5 _ _ (k4 b o n h)
    rintro σ H6 ⟨t, rfl, hx6, ht6, nt, k6⟩
    refine ⟨_, rfl, _, rfl, x, C, dx, _, rfl, hx6, S.cl, S.nB, (by show 5 < 1000; decide), ?_⟩
    rw [fp6]
    refine ⟨_, rfl, _, rfl, x, C, dx, _, rfl, upd_same, S.cl, S.nX, (by show 6 < 1000; decide), ?_⟩
    rw [fp7]
    have k7 := kx (o' := .ins C dx (F7 (.str z1) (.str z2) (.str z3) (.str z4) (.ref t) (.bl b6) (.bl b7))) (kx (o' := .ins C dx (F6 (.str z1) (.str z2) (.str z3) (.str z4) (.ref t) (.bl b6))) k6)
    have ht7 : upd (upd H6 x (.ins C dx (F6 (.str z1) (.str z2) (.str z3) (.str z4) (.ref t) (.bl b6)))) x (.ins C dx (F7 (.str z1) (.str z2) (.str z3) (.str z4) (.ref t) (.bl b6) (.bl b7))) t = some (.tup ((sgn3.filter fun z => decide (z ∈ textsD d5)).map V.str)) := by
      rw [upd_ne nt, upd_ne nt]
      exact ht6
    refine ⟨_, rfl, x, langOf [.str z1, .str z2, .str z3, .str z4, d5, .bool b6, .bool b7], rfl, ⟨dx, t, _, upd_same, fl7 (langOf [.str z1, .str z2, .str z3, .str z4, d5, .bool b6, .bool b7]) t, ht7⟩, fun p H8 hp s8 wa => ?_⟩
    refine ⟨_, rfl, x, C, dx, _, rfl, s8 _ _ upd_same, S.cl, S.nW, (by show 7 < 1000; decide), ?_⟩
    rw [fp8]
    have hx8 := s8 _ _ (show _ = some (HO.ins C dx (F7 (.str z1) (.str z2) (.str z3) (.str z4) (.ref t) (.bl b6) (.bl b7))) from upd_same)
    refine q hbad _ (kx (fun b o n h => s8 _ _ (k7 b o n h))) ⟨dx, t, p, _, upd_same, fl8 (langOf [.str z1, .str z2, .str z3, .str z4, d5, .bool b6, .bool b7]) t (.ref p), ?_, by kernel_rfl, wa.put hx8, by kernel_rfl, by kernel_rfl, by kernel_rfl⟩
    rw [upd_ne nt]
    exact s8 _ _ ht7
end
end K5

namespace K5
open PySem L2
abbrev sEq : Stmt := inClass (top 43) 1
/-- whether two languages are equal -/
def eqL (L M : Lang) : Bool := decide (L.e = M.e) && (decide (L.n = M.n) && (decide (L.c = M.c) && (decide (L.l = M.l) && (decide (L.D = M.D) && (decide (L.b = M.b) && decide (L.x = M.x))))))
theorem eqL_self (L : Lang) : eqL L L = true := by
  unfold eqL
  simp
def SmallS (D : List Str) : Prop := D.length ≤ 3 ∧ ∀ z ∈ D, z ∈ sgn3
theorem dp_strs (K : PySem.W.Frag) (H : Hp) : ∀ D : List Str, DpAll K H (D.map V.str) (D.map PyData.str)
  | [] => .nil
  | z :: D => .cons (.str z) (dp_strs K H D)
theorem fair_sgn : ∀ z ∈ sgn3, fairB (.str z) = true := by decide +kernel
theorem SmallS.fair {D : List Str} (h : SmallS D) : Fair (D.map PyData.str) := fun d hd => by
  obtain ⟨z, hz, rfl⟩ := List.mem_map.mp hd
  exact fair_of (fair_sgn z (h.2 z hz))
theorem beq_dec (a b : Str) : (a == b) = decide (a = b) := by
  by_cases h : a = b
  · rw [h]; simp
  · rw [decide_eq_false h]; exact beq_eq_false_iff_ne.mpr h
theorem strs_eqv : ∀ a b : List Str, PyData.eqvAll (a.map PyData.str) (b.map PyData.str) = decide (a = b)
  | [], [] => by rw [List.map_nil, PyData.eqvAll]; rfl
  | [], y :: b => by rw [List.map_nil, List.map_cons, PyData.eqvAll]; rfl
  | x :: a, [] => by rw [List.map_nil, List.map_cons, PyData.eqvAll]; rfl
  | x :: a, y :: b => by
    rw [List.map_cons, List.map_cons, PyData.eqvAll, strs_eqv a b, PyData.eqv, beq_dec]
    by_cases h1 : x = y
    · by_cases h2 : a = b <;> simp [h1, h2]
    · simp [h1]
def spEq (K : PySem.W.Frag) (C : Addr) : Sp := fun vs H Q _ => ∃ (x : Addr) (y : V) (L : Lang), vs = [.ref x, y] ∧ LangAt C H x L ∧ SmallS L.D ∧
  ((∃ x' M, y = .ref x' ∧ LangAt C H x' M ∧ SmallS M.D ∧ Q (.bl (eqL L M)) H) ∨ (∃ t, TyX K H y t ∧ PySem.W.kitOne K t (.ref C) = some false ∧ Q (.bl false) H))
theorem lang_ty {K : PySem.W.Frag} {mg : Str → Option Value} {C : Addr} (S : LangC K mg C) {H : Hp} {x : Addr} {L : Lang} (h : LangAt C H x L) : TyX K H (.ref x) (.ref C) := by
  obtain ⟨dx, t, fs, h, _⟩ := h
  exact .base (.ins h S.cl S.ha S.hn S.htk S.hm)
theorem kit_self (K : PySem.W.Frag) (C : Addr) : PySem.W.kitOne K (.ref C) (.ref C) = some true := by
  unfold PySem.W.kitOne
  rw [if_pos (beq_iff_eq.mpr rfl)]
theorem bl_dec (a b : Bool) : decide (V.bl a = V.bl b) = decide (a = b) := by cases a <;> cases b <;> decide
section
variable {P : Program} {w : World} {K : PySem.W.Frag} {mg : Str → Option Value} {base : Heap} {C : Addr}
theorem scEq : FnScope ["self", "other"] ["self", "other"] (defScope sEq) := ⟨rfl, rfl, rfl, by decide +kernel, rfl, by decide +kernel, by decide +kernel⟩
theorem ok_eq {f : Addr} {fd : FuncData} (F : Fun K "__eq__" "Language.__eq__" sEq f fd) (T : Bare mg) (S : LangC K mg C) : FnOk P w K mg base CX0 2 f fd ["self", "other"] (spEq K C) := by
  refine F.ok scEq (fun vs H Q E h => ?_) (fun cdv A outer s H vs Q E hr h => ?_)
  · obtain ⟨x, y, L, rfl, _⟩ := h
    rfl
  · obtain ⟨x, y, L, rfl, hx, sm, q⟩ := h
    refine ⟨_, pss_one (ps_ret (pe_and (pe_callB call_isi (by rfl) T.isi (by decide +kernel) (pa_cons (pv 1) (pa_cons (pe_glob (v := .ref C) (by rfl) S.gC rfl) pa_nil)))
      (pe_and (pe_cmpR op_eq (pe_fld (pv 0) rfl) (pe_fld (pv 1) rfl) (nomark _)) (pe_and (pe_cmpR op_eq (pe_fld (pv 0) rfl) (pe_fld (pv 1) rfl) (nomark _)) (pe_and (pe_cmpR op_eq (pe_fld (pv 0) rfl) (pe_fld (pv 1) rfl) (nomark _)) (pe_and (pe_cmpR op_eq (pe_fld (pv 0) rfl) (pe_fld (pv 1) rfl) (nomark _)) (pe_and (pe_cmpR (op_eqD hr.units) (pe_fld (pv 0) rfl) (pe_fld (pv 1) rfl) (nomark _)) (pe_and (pe_cmpR op_eq (pe_fld (pv 0) rfl) (pe_fld (pv 1) rfl) (nomark _)) (pe_one (pe_cmpR op_eq (pe_fld (pv 0) rfl) (pe_fld (pv 1) rfl) (nomark _))))))))))), ?_⟩
    rcases q with ⟨x', M, rfl, hy, sm', q⟩ | ⟨ty, hty, kt, q⟩
    case inr => exact ⟨_, rfl, y, .ref C, ty, .ref C, false, rfl, .own C, hty, kt, false, rfl, iteF q⟩
    have ty := lang_ty S hy
    obtain ⟨dx, t, fs, hx, fl, ht⟩ := hx
    obtain ⟨dy, t', gs, hy, gl, ht'⟩ := hy
    unfold eqL at q
    refine ⟨_, rfl, .ref x', .ref C, .ref C, .ref C, true, rfl, .own C, ty, kit_self K C, true, rfl, iteT ?_⟩
    refine ⟨_, rfl, x, C, dx, _, _, rfl, hx, S.cl, S.nE, fl.e, _, rfl, x', C, dy, _, _, rfl, hy, S.cl, S.nE, gl.e, rfl, _, rfl, ?_⟩
    show if decide (V.str L.e = V.str M.e) = true then _ else _
    rw [eq_strB]
    cases h_e : decide (L.e = M.e) with
    | false =>
      rw [h_e, Bool.false_and] at q
      exact iteF q
    | true =>
    rw [h_e, Bool.true_and] at q
    refine iteT ?_
    refine ⟨_, rfl, x, C, dx, _, _, rfl, hx, S.cl, S.nN, fl.n, _, rfl, x', C, dy, _, _, rfl, hy, S.cl, S.nN, gl.n, rfl, _, rfl, ?_⟩
    show if decide (V.str L.n = V.str M.n) = true then _ else _
    rw [eq_strB]
    cases h_n : decide (L.n = M.n) with
    | false =>
      rw [h_n, Bool.false_and] at q
      exact iteF q
    | true =>
    rw [h_n, Bool.true_and] at q
    refine iteT ?_
    refine ⟨_, rfl, x, C, dx, _, _, rfl, hx, S.cl, S.nC, fl.c, _, rfl, x', C, dy, _, _, rfl, hy, S.cl, S.nC, gl.c, rfl, _, rfl, ?_⟩
    show if decide (V.str L.c = V.str M.c) = true then _ else _
    rw [eq_strB]
    cases h_c : decide (L.c = M.c) with
    | false =>
      rw [h_c, Bool.false_and] at q
      exact iteF q
    | true =>
    rw [h_c, Bool.true_and] at q
    refine iteT ?_
    refine ⟨_, rfl, x, C, dx, _, _, rfl, hx, S.cl, S.nL, fl.l, _, rfl, x', C, dy, _, _, rfl, hy, S.cl, S.nL, gl.l, rfl, _, rfl, ?_⟩
    show if decide (V.str L.l = V.str M.l) = true then _ else _
    rw [eq_strB]
    cases h_l : decide (L.l = M.l) with
    | false =>
      rw [h_l, Bool.false_and] at q
      exact iteF q
    | true =>
    rw [h_l, Bool.true_and] at q
    refine iteT ?_
    refine ⟨_, rfl, x, C, dx, _, _, rfl, hx, S.cl, S.nD, fl.d, _, rfl, x', C, dy, _, _, rfl, hy, S.cl, S.nD, gl.d, .tuple (L.D.map PyData.str), .tuple (M.D.map PyData.str), .tup (SqT.of ht) (dp_strs K H _), .tup (SqT.of ht') (dp_strs K H _), fair_shaped_t sm.fair, fair_shaped_t sm'.fair, _, rfl, ?_⟩
    rw [PyData.eqv, strs_eqv]
    cases h_D : decide (L.D = M.D) with
    | false =>
      rw [h_D, Bool.false_and] at q
      exact iteF q
    | true =>
    rw [h_D, Bool.true_and] at q
    refine iteT ?_
    refine ⟨_, rfl, x, C, dx, _, _, rfl, hx, S.cl, S.nB, fl.b, _, rfl, x', C, dy, _, _, rfl, hy, S.cl, S.nB, gl.b, rfl, _, rfl, ?_⟩
    show if decide (V.bl L.b = V.bl M.b) = true then _ else _
    rw [bl_dec]
    cases h_b : decide (L.b = M.b) with
    | false =>
      rw [h_b, Bool.false_and] at q
      exact iteF q
    | true =>
    rw [h_b, Bool.true_and] at q
    refine iteT ?_
    refine ⟨_, rfl, x, C, dx, _, _, rfl, hx, S.cl, S.nX, fl.x, _, rfl, x', C, dy, _, _, rfl, hy, S.cl, S.nX, gl.x, rfl, ?_⟩
    show Q (V.bl (decide (V.bl L.x = V.bl M.x))) H
    rw [bl_dec]
    exact q
end
end K5

/-! d.get(x), where x may be None -/
namespace L2
open PySem PySem.Spec PyProof.Rows
section
variable {X : Cx} {pins : List (Addr × Obj)} {σ : St} {H : Hp} {s : Shared} {a : Addr} {y : V} {u : Value} {kvs : List (Key × V)}
theorem leaf_map {h : Heap} {vs : List (Key × Value)} (dd : h.DictOf (mixKind X.prog X.w) a vs) : ∃ f : Leaf → Option Value, h.MapOf (leafKind X.prog X.w) a f ∧ f .none = none := by
  obtain ⟨o, es, ep, ho, hex, hdt, hks, hp, nd⟩ := dd
  have sh : ∀ e ∈ es, (∃ i t, e.key = .int i t ∧ e.hash = hashInt i) ∨ (∃ x t, e.key = .str x t ∧ e.hash = hashStr X.w x) := fun e he => by
    obtain ⟨k, hk, hh⟩ := hks e he
    rcases keyIs_shape (show keyIs k e.key = true from hk) with ⟨i, t, rfl, ek⟩ | ⟨x, t, rfl, ek⟩
    · exact .inl ⟨i, t, ek, hh⟩
    · exact .inr ⟨x, t, ek, hh⟩
  refine ⟨fun k => findBy Leaf.isOf es k, ⟨o, es, ep, ho, hex, hdt, fun e he => ?_, fun _ => rfl⟩, ?_⟩
  · rcases sh e he with ⟨i, t, ek, hh⟩ | ⟨x, t, ek, hh⟩
    · exact ⟨.num i, by rw [ek]; simp [leafKind, Leaf.isOf], hh⟩
    · exact ⟨.text x, by rw [ek]; simp [leafKind, Leaf.isOf, Value.isStrOf], hh⟩
  · unfold findBy
    have e : es.find? (fun e => Leaf.isOf .none e.key) = none := by
      rw [Array.find?_eq_none]
      intro e he
      rcases sh e he with ⟨i, t, ek, _⟩ | ⟨x, t, ek, _⟩ <;> (rw [ek]; simp [Leaf.isOf])
    show Option.map _ (es.find? fun e => Leaf.isOf .none e.key) = none
    rw [e]
    rfl
theorem d_getN {Q : Value → Shared → Prop} (I : Inv X pins σ H s) (e : Rd H a (.dK kvs)) (h : ∀ s', Inv X pins σ H s' → Q .none s') : wpAny (model X.prog X.w) X.A (call (.builtin "dict.get") [.ref a, .none]) Q X.xe s := by
  obtain ⟨z, hd, vs, rel, dd⟩ := dk_rd I.hok e
  obtain ⟨f, hf, fn⟩ := leaf_map dd
  refine call_meetsIn PySem.F.slot_dict_get dd.typeIs PySem.F.entry_dict_get (PySem.F.args_dict_get_2 _ _) (meets_dict_get (leafKind X.prog X.w) a (key := .none) (k := .none) rfl hd) ⟨f, hf, ?_⟩
  rw [fn]
  exact h _ (I.tok _)
end
def tDGetN (td ty : TE) : TE := fun σ H Q => td σ H fun x H1 => ∃ a, x = .ref a ∧ IsD H1 a ∧ ty σ H1 fun y H2 => (∃ o, DGet H2 a y o ∧ Q (o.getD .non) H2) ∨ (∃ kvs, y = .non ∧ Rd H2 a (.dK kvs) ∧ Q .non H2)
theorem pe_dgetN {X : Cx} {o e : Expr} {apos cpos : Pos} {td ty : TE} (hu : X.A.units + 1 < cLine) (ho : PE X o td) (he : PE X e ty) (m : M1 X o "get" apos e cpos) : PE X (.Call (.Attribute o "get" apos) [e] [] cpos) (tDGetN td ty) := by
  refine ⟨fun pins s σ H Q I h => ?_⟩
  refine wpAny_Call_method m.base m.few m.line PySem.F.plainAttrs_dict PySem.F.slot_dict_get PySem.F.type_dict_get (thn (ho.run pins s σ H _ I h) fun u s1 ⟨x, H1, I1, rx, a, ex, d, q1⟩ => ?_)
  subst ex
  obtain rfl : u = Value.ref a := rx
  obtain ⟨t1, t2, _⟩ := isD_at I1 d
  refine ⟨t1, t2, ?_⟩
  rw [m.trees]
  refine Calls.callWith_builtin rfl (Calls.evalArgs_plain (Calls.spliced_cons (thn (he.run pins s1 σ H1 _ I1 q1) fun iv s2 ⟨y, H2, I2, ry, q2⟩ => Calls.spliced_nil ?_)))
  rcases q2 with ⟨ov, g, q2⟩ | ⟨kvs, rfl, g, q2⟩
  · exact d_get1 hu I2 g ry fun w' s3 I3 rw' => ⟨_, H2, I3, rw', q2⟩
  · cases (show iv = Value.none from ry)
    exact d_getN I2 g fun s3 I3 => ⟨.non, H2, I3, rfl, q2⟩
end L2

namespace K5
open PySem L2
abbrev sStep : Stmt := inClass (top 43) 3
abbrev sCloses : Stmt := inClass (top 43) 4
abbrev sNext : Stmt := inClass (top 43) 6
def nine : List Str := ["start", "name", "equals", "open", "item", "pair", "comma", "done", "ended"]
def tokV : Option Str → V
  | none => .non
  | some z => .str z
/-- what follows a state at a token's sort -/
def stepL (L : Lang) (st : Str) (z : Option Str) : Option Str := z.bind fun z => ((wTab L).lookup st).bind fun ws => ws.lookup z
/-- whether a file may end at a state -/
def closesL (L : Lang) (st : Str) : Bool := if st = "start" ∨ st = "ended" then true else if L.n = "must" then false else if st = "done" then true else (decide (st = "name") && L.b) || (decide (st = "equals") && L.x)
theorem val_look {α : Type} (g : α → V) : ∀ (T : List (Str × α)) (z : Str), valV (T.map fun x => ((Sum.inr x.1 : Key), g x.2)) (.inr z) = (T.lookup z).map g
  | [], z => rfl
  | (k, v) :: T, z => by
    have ih := val_look g T z
    unfold valV at ih ⊢
    rw [List.map_cons, List.find?_cons, List.lookup_cons]
    by_cases c : z = k
    · subst c
      simp
    · have c1 : ¬ (Sum.inr k : Key) = Sum.inr z := fun e => c (Sum.inr.inj e).symm
      have c2 : (z == k) = false := beq_eq_false_iff_ne.mpr c
      rw [decide_eq_false c1, c2]
      exact ih
theorem look_at {α β : Type} : ∀ {T : List (Str × α)} {ps : List β} {s : Str} {ws : α}, ps.length = T.length → T.lookup s = some ws → ∃ (i : Nat) (p : β), T[i]? = some (s, ws) ∧ ps[i]? = some p ∧ ((T.map (·.1)).zip ps).lookup s = some p
  | [], _, _, _, _, h => nomatch h
  | (k, v) :: T, p :: ps, s, ws, hl, h => by
    rw [List.lookup_cons] at h
    by_cases c : s = k
    · subst c
      rw [beq_self_eq_true] at h
      cases h
      exact ⟨0, p, rfl, rfl, by simp⟩
    · have c2 : (s == k) = false := beq_eq_false_iff_ne.mpr c
      rw [c2] at h
      obtain ⟨j, p', h1, h2, h3⟩ := look_at (T := T) (ps := ps) (Nat.succ.inj hl) h
      refine ⟨j + 1, p', h1, h2, ?_⟩
      rw [List.map_cons, List.zip_cons_cons, List.lookup_cons, c2]
      exact h3
  | (_, _) :: _, [], _, _, hl, _ => nomatch hl
theorem nine_look (L : Lang) : ∀ s ∈ nine, ∃ ws, (wTab L).lookup s = some ws := by
  intro s hs
  simp only [nine, List.mem_cons, List.not_mem_nil, or_false] at hs
  rcases hs with rfl | rfl | rfl | rfl | rfl | rfl | rfl | rfl | rfl
  · exact ⟨_, rfl⟩
  · exact ⟨_, rfl⟩
  · exact ⟨_, rfl⟩
  · exact ⟨_, rfl⟩
  · exact ⟨_, rfl⟩
  · exact ⟨_, rfl⟩
  · exact ⟨_, rfl⟩
  · exact ⟨_, rfl⟩
  · exact ⟨_, rfl⟩
/-- a state's dict within the table -/
theorem WaysAt.get {H : Hp} {wp : Addr} {L : Lang} (h : WaysAt H wp L) {s : Str} (hs : s ∈ nine) : ∃ (p : Addr) (ws : List (Str × Str)), (wTab L).lookup s = some ws ∧ DGet H wp (.str s) (some (.ref p)) ∧ H p = some (.dK (dK2 ws)) := by
  obtain ⟨ps, h1, h2, h3⟩ := h
  obtain ⟨ws, hw⟩ := nine_look L s hs
  obtain ⟨i, p, e1, e2, e3⟩ := look_at (ps := ps) (show ps.length = (wTab L).length from h1) hw
  refine ⟨p, ws, hw, ?_, h3 i p s ws e2 e1⟩
  have e : valV (((wTab L).map (·.1)).zip ps |>.map fun x => ((Sum.inr x.1 : Key), V.ref x.2)) (.inr s) = some (.ref p) := by
    rw [val_look V.ref, e3]
    rfl
  rw [← e]
  exact DGet.k (k := .inr s) h2
/-- a sort: a text, or none -/
def Srt (v : V) (z : Option Str) : Prop := v = tokV z
def spStep (C : Addr) : Sp := fun vs H Q _ => ∃ (x : Addr) (st : Str) (z : Option Str) (L : Lang), vs = [.ref x, .str st, tokV z] ∧ LangW C H x L ∧ st ∈ nine ∧ Q (tokV (stepL L st z)) H
def spCloses (C : Addr) : Sp := fun vs H Q _ => ∃ (x : Addr) (st : Str) (L : Lang), vs = [.ref x, .str st] ∧ LangW C H x L ∧ ∀ H', Same H H' → Q (.bl (closesL L st)) H'
section
variable {P : Program} {w : World} {K : PySem.W.Frag} {mg : Str → Option Value} {base : Heap} {C : Addr}
theorem scStep : FnScope ["self", "state", "sort"] ["self", "state", "sort"] (defScope sStep) := ⟨rfl, rfl, rfl, by decide +kernel, rfl, by decide +kernel, by decide +kernel⟩
theorem ok_step {f : Addr} {fd : FuncData} (F : Fun K "step" "Language.step" sStep f fd) (S : LangC K mg C) : FnOk P w K mg base CX0 1 f fd ["self", "state", "sort"] (spStep C) := by
  refine F.ok scStep (fun vs H Q E h => ?_) (fun cdv A outer s H vs Q E hr h => ?_)
  · obtain ⟨x, st, z, L, rfl, _⟩ := h
    rfl
  · obtain ⟨x, st, z, L, rfl, ⟨dx, t, wp, fs, hx, fl, ht, hw, wa, _⟩, hs, q⟩ := h
    have hu := hu_of hr
    refine ⟨_, C8.pss_cut (ps_if (pt_cmp (pc_dnotin hu (pv 1) (pe_fld (pv 0) rfl))) (pss_one (ps_ret pe_non)) pss_nil)
      (pss_one (ps_ret (pe_dgetN hu (pe_dget hu (pe_fld (pv 0) rfl) (pv 1) (fun _ _ => rfl)) (pv 2) ⟨by rfl, by rfl, by rfl, by rfl⟩))), ?_⟩
    obtain ⟨p, ws, hl, dg, hp⟩ := wa.get hs
    refine ⟨fun σ H' => σ = [some (.ref x), some (.str st), some (tokV z)] ∧ H' = H, ?_, ?_⟩
    · exact ⟨_, rfl, _, rfl, x, C, dx, _, _, rfl, hx, S.cl, S.nW, hw, wp, _, rfl, dg, _, rfl, iteF ⟨rfl, rfl⟩⟩
    rintro σ H1 ⟨rfl, rfl⟩
    refine ⟨_, rfl, x, C, dx, _, _, rfl, hx, S.cl, S.nW, hw, _, rfl, wp, _, rfl, dg, p, rfl, ?_, ?_⟩
    · exact .inl ⟨_, .inl hp⟩
    · refine ⟨_, rfl, ?_⟩
      unfold stepL at q
      rw [hl] at q
      cases z with
      | none => exact .inr ⟨_, rfl, .inl hp, q⟩
      | some z =>
        refine .inl ⟨_, DGet.k (k := .inr z) hp, ?_⟩
        unfold dK2
        rw [val_look V.str]
        have q : Q (tokV (ws.lookup z)) H1 := q
        cases e : ws.lookup z with
        | none => rw [e] at q; exact q
        | some y => rw [e] at q; exact q
theorem scCloses : FnScope ["self", "state"] ["self", "state"] (defScope sCloses) := ⟨rfl, rfl, rfl, by decide +kernel, rfl, by decide +kernel, by decide +kernel⟩
theorem ok_closes {f : Addr} {fd : FuncData} (F : Fun K "closes" "Language.closes" sCloses f fd) (S : LangC K mg C) : FnOk P w K mg base CX0 1 f fd ["self", "state"] (spCloses C) := by
  refine F.ok scCloses (fun vs H Q E h => ?_) (fun cdv A outer s H vs Q E hr h => ?_)
  · obtain ⟨x, st, L, rfl, _⟩ := h
    rfl
  · obtain ⟨x, st, L, rfl, ⟨dx, t, wp, fs, hx, fl, ht, _⟩, q⟩ := h
    refine ⟨_, C8.pss_cut (ps_if (pt_cmpR op_in_seq (pv 1) (pe_tup (pa_cons pe_str (pa_cons pe_str pa_nil))) (by rfl)) (pss_one (ps_ret pe_bl)) pss_nil)
      (C8.pss_cut (ps_if (pt_cmpR op_eq (pe_fld (pv 0) rfl) pe_str (nomark _)) (pss_one (ps_ret pe_bl)) pss_nil)
      (C8.pss_cut (ps_if (pt_cmpR op_eq (pv 1) pe_str (nomark _)) (pss_one (ps_ret pe_bl)) pss_nil)
      (pss_one (ps_ret (pe_or (pe_and (pe_cmpR op_eq (pv 1) pe_str (nomark _)) (pe_one (pe_fld (pv 0) rfl))) (pe_one (pe_and (pe_cmpR op_eq (pv 1) pe_str (nomark _)) (pe_one (pe_fld (pv 0) rfl))))))))), ?_⟩
    unfold closesL at q
    refine ⟨fun σ H' => σ = [some (.ref x), some (.str st)] ∧ Same H H' ∧ ¬ (st = "start" ∨ st = "ended"), ?_, ?_⟩
    · refine ⟨_, rfl, by show 2 ≤ sizeLine; decide, fun u hu => ⟨u, _, rfl, .inr (SqT.of upd_same), rfl, rfl, _, rfl, ?_⟩⟩
      have s1 := Same.new (o := .tup [.str "start", .str "ended"]) (Same.refl H) hu
      show if inV (V.str st) ((["start", "ended"] : List Str).map V.str) = true then _ else _
      rw [inV_strs]
      by_cases c : st = "start" ∨ st = "ended"
      · rw [decide_eq_true (by simpa using c)]
        rw [if_pos c] at q
        exact iteT (q _ s1)
      · rw [decide_eq_false (by simpa using c)]
        exact iteF ⟨rfl, s1, c⟩
    rintro σ H1 ⟨rfl, s1, c⟩
    rw [if_neg c] at q
    refine ⟨fun σ H' => σ = [some (.ref x), some (.str st)] ∧ H' = H1 ∧ ¬ L.n = "must", ?_, ?_⟩
    · refine ⟨_, rfl, x, C, dx, _, _, rfl, s1 _ _ hx, S.cl, S.nN, fl.n, rfl, _, rfl, ?_⟩
      show if decide (V.str L.n = V.str "must") = true then _ else _
      rw [eq_strB]
      by_cases cn : L.n = "must"
      · rw [decide_eq_true cn]
        rw [if_pos cn] at q
        exact iteT (q _ s1)
      · rw [decide_eq_false cn]
        exact iteF ⟨rfl, rfl, cn⟩
    rintro σ H2 ⟨rfl, rfl, cn⟩
    rw [if_neg cn] at q
    refine ⟨fun σ H' => σ = [some (.ref x), some (.str st)] ∧ H' = H2 ∧ ¬ st = "done", ?_, ?_⟩
    · refine ⟨_, rfl, rfl, _, rfl, ?_⟩
      show if decide (V.str st = V.str "done") = true then _ else _
      rw [eq_strB]
      by_cases cd : st = "done"
      · rw [decide_eq_true cd]
        rw [if_pos cd] at q
        exact iteT (q _ s1)
      · rw [decide_eq_false cd]
        exact iteF ⟨rfl, rfl, cd⟩
    rintro σ H3 ⟨rfl, rfl, cd⟩
    rw [if_neg cd] at q
    have hx3 := s1 _ _ hx
    have q := q _ s1
    refine ⟨_, rfl, rfl, _, rfl, ?_⟩
    show if decide (V.str st = V.str "name") = true then _ else _
    rw [eq_strB]
    cases h1 : decide (st = "name") with
    | true =>
      rw [h1] at q
      refine iteT ⟨_, rfl, x, C, dx, _, _, rfl, hx3, S.cl, S.nB, fl.b, _, rfl, ?_⟩
      cases hb : L.b with
      | true =>
        rw [hb] at q
        exact iteT q
      | false =>
        rw [hb] at q
        have n2 : decide (st = "equals") = false := decide_eq_false fun e => by
          have := of_decide_eq_true h1
          rw [this] at e
          exact absurd e (by decide +kernel)
        rw [n2] at q
        refine iteF ⟨_, rfl, rfl, _, rfl, ?_⟩
        show if decide (V.str st = V.str "equals") = true then _ else _
        rw [eq_strB, n2]
        exact iteF q
    | false =>
      rw [h1] at q
      refine iteF ⟨_, rfl, ?_⟩
      refine iteF ⟨_, rfl, rfl, _, rfl, ?_⟩
      show if decide (V.str st = V.str "equals") = true then _ else _
      rw [eq_strB]
      cases h2 : decide (st = "equals") with
      | true =>
        rw [h2] at q
        refine iteT ⟨_, rfl, x, C, dx, _, _, rfl, hx3, S.cl, S.nX, fl.x, ?_⟩
        cases hb : L.x with
        | true => rw [hb] at q; exact q
        | false => rw [hb] at q; exact q
      | false =>
        rw [h2] at q
        exact iteF q
end
end K5

namespace K5
open PySem L2
def sorts7 : List Str := ["word", "number", "=", ";", ",", "[", "]"]
/-- what is awaited at a state -/
def nextL (L : Lang) (st : Str) : List Str := (sorts7.filter fun z => (stepL L st (some z)).isSome) ++ (if closesL L st = true then [("end" : Str)] else [])
def spNext (C : Addr) : Sp := fun vs H Q _ => ∃ (x : Addr) (st : Str) (L : Lang), vs = [.ref x, .str st] ∧ LangW C H x L ∧ st ∈ nine ∧ ∀ t H', H t = none → Same H H' → H' t = some (.tup ((nextL L st).map V.str)) → Q (.ref t) H'
theorem filt_one {α : Type} (p : α → Bool) (z : α) : [z].filter p = if p z = true then [z] else [] := by
  by_cases c : p z = true <;> simp [c]
abbrev nNext : List Str := ["self", "state", "sorts", "sort"]
section
variable {P : Program} {w : World} {K : PySem.W.Frag} {mg : Str → Option Value} {base : Heap} {C aS : Addr}
theorem scNext : FnScope nNext ["self", "state"] (defScope sNext) := ⟨rfl, rfl, rfl, by decide +kernel, rfl, by decide +kernel, by decide +kernel⟩
theorem ok_next {f fS fC : Addr} {fd fdS fdC : FuncData} (F : Fun K "next_sorts" "Language.next_sorts" sNext f fd) (T : Bare mg) (S : LangC K mg C) (gS : mg "SORTS" = some (.ref aS)) (hS : TupW K aS sorts7)
    (mS : Meth K C "step" fS) (GS : FnOk P w K mg base CX0 1 fS fdS ["self", "state", "sort"] (spStep C)) (bS : Binds K fdS ["self", "state", "sort"] [])
    (mC : Meth K C "closes" fC) (GC : FnOk P w K mg base CX0 1 fC fdC ["self", "state"] (spCloses C)) (bC : Binds K fdC ["self", "state"] []) :
    FnOk P w K mg base CX0 2 f fd ["self", "state"] (spNext C) := by
  refine F.ok scNext (fun vs H Q E h => ?_) (fun cdv A outer s H vs Q E hr h => ?_)
  · obtain ⟨x, st, L, rfl, _⟩ := h
    rfl
  · obtain ⟨x, st, L, rfl, hL, hs, q⟩ := h
    refine ⟨_, C8.pss_cut (ps_setLc (i := 2) (own := [("sort", 3)]) (g := gName 3) (tt := tTest (tOp rNotN (tMeth C "step" (spStep C) [] E0 (tVar 0) (tCons (tVar 1) (tCons (tVar 3) tNil))) (tC .non))) (te := tVar 3) (by rfl) scNext.nd rfl rfl (sw_true rfl rfl rfl (by decide +kernel)) (pi_tup (pe_glob (v := .ref aS) (by rfl) gS rfl))
        (blkOk_by (own := [("sort", 3)]) (N := nNext) (sc := defScope sNext) (by decide +kernel)) (fun _ _ _ _ _ => pg_name (i := 3) scNext.nd rfl (Or.inl rfl)) (fun _ _ _ _ _ => pts_one (pt_cmpR op_notN1 (pe_meth (pv 0) S.cl mS GS hr bS .nil pass0 (pa_cons (pv 1) (pa_cons (pv 3) pa_nil))) pe_non (nomark _))) (fun _ _ _ _ _ => pv 3))
      (C8.pss_cut (ps_if (pt_val (pe_meth (pv 0) S.cl mC GC hr bC .nil pass0 (pa_cons (pv 1) pa_nil))) (pss_one (ps_expr (pe_bm PySem.F.plainAttrs_list PySem.F.slot_list_append PySem.F.type_list_append mt_append (pv 2) (pa_cons pe_str pa_nil)))) pss_nil)
      (pss_one (ps_ret (pe_callTy call_tuple_of (by rfl) T.tuple (by decide +kernel) (pa_cons (pv 2) pa_nil))))), ?_⟩
    obtain ⟨dx, t, wp, fs, hx, fl, ht, hw, wa, f1, f2, f3⟩ := id hL
    refine ⟨fun σ H' => ∃ l, σ = [some (.ref x), some (.str st), some (.ref l), none] ∧ H' l = some (.lst ((sorts7.filter fun z => (stepL L st (some z)).isSome).map V.str)) ∧ H l = none ∧ Same H H', ?_, ?_⟩
    · refine ⟨aS, rfl, ⟨_, hS.sq H⟩, fun D hD => lc_tup (K := K) (a := aS) (xs := sorts7.map V.str) (fun i H' => Same H H' ∧ H' D = some (.lst (((sorts7.take i).filter fun z => (stepL L st (some z)).isSome).map V.str))) ⟨Same.new (Same.refl H) hD, upd_same⟩ (fun _ H' _ _ => hS.sq H') (fun i y H5 hi ⟨s5, h5⟩ => ?_) (fun H5 ⟨s5, h5⟩ => ?_)⟩
      · rw [List.getElem?_map] at hi
        obtain ⟨z, hz, rfl⟩ := Option.map_eq_some_iff.mp hi
        refine ⟨rfl, _, rfl, x, dx, fs, rfl, s5 _ _ hx, f1, _, rfl, _, rfl, x, st, some z, L, rfl, hL.same s5, hs, rfl, _, rfl, ?_⟩
        have more : (sorts7.take (i + 1)).filter (fun z => (stepL L st (some z)).isSome) = (sorts7.take i).filter (fun z => (stepL L st (some z)).isSome) ++ (if (stepL L st (some z)).isSome = true then [z] else []) := by
          rw [List.take_add_one, hz, List.filter_append]
          congr 1
          exact filt_one _ z
        cases e : stepL L st (some z) with
        | none =>
          rw [e] at more
          refine iteF ⟨s5, ?_⟩
          rw [h5, more]
          simp
        | some y =>
          rw [e] at more
          refine iteT ⟨_, rfl, _, h5, ?_, Same.put s5 hD, ?_⟩
          · rw [List.length_map]
            have l1 := List.length_filter_le (fun z => (stepL L st (some z)).isSome) (sorts7.take i)
            have l2 := List.length_take_le' i sorts7
            have l3 : sorts7.length = 7 := rfl
            exact line50 (by omega)
          · rw [upd_same, more, List.map_append]
            rfl
      · exact ⟨D, rfl, h5, hD, s5⟩
    rintro σ H1 ⟨l, rfl, h1, hl, s1⟩
    refine ⟨fun σ H' => σ = [some (.ref x), some (.str st), some (.ref l), none] ∧ H' l = some (.lst ((nextL L st).map V.str)) ∧ Same H H', ?_, ?_⟩
    · refine ⟨_, rfl, x, dx, fs, rfl, s1 _ _ hx, f2, _, rfl, x, st, L, rfl, hL.same s1, fun H2 s2 => ?_⟩
      have h2 := s2 _ _ h1
      unfold nextL
      cases e : closesL L st with
      | true =>
        refine ⟨true, rfl, iteT ⟨_, rfl, .inl ⟨rfl, _, SqL.of h2⟩, l, _, _, rfl, rfl, h2, ?_, rfl, ?_, Same.put (s1.trans s2) hl⟩⟩
        · rw [List.length_map]
          have l1 := List.length_filter_le (fun z => (stepL L st (some z)).isSome) sorts7
          have l3 : sorts7.length = 7 := rfl
          exact line50 (by omega)
        · rw [upd_same, List.map_append]
          rfl
      | false =>
        refine ⟨false, rfl, iteF ⟨rfl, ?_, s1.trans s2⟩⟩
        rw [h2, if_neg (by decide), List.append_nil]
    rintro σ H2 ⟨rfl, h2, s2⟩
    exact ⟨_, rfl, l, _, rfl, .inl ⟨SqL.of h2, fun t ht => q t _ (s2.free ht) (Same.new s2 ht) upd_same⟩⟩
end
end K5

namespace K5U
open PySem PySem.W PySem.Calls PyProof.Rows PySem.HandSPX
/-! ### Unreadable and its __init__, which says super().__init__(..) and stores two fields -/
def eA (p1 p2 p3 : Pos) : Arguments := { posonlyargs := [], args := [{ arg := "self", annotation := none, pos := p1 }, { arg := "at", annotation := none, pos := p2 }, { arg := "awaited", annotation := none, pos := p3 }], vararg := none, kwonlyargs := [], kw_defaults := [], kwarg := none, defaults := [] }
def eB (m : Str) (j : Nat) (o1 o2 o3 o4 o5 o6 q1 q2 q3 q4 r1 r2 r3 r4 : Pos) : List Stmt := [.Expr (.Call (.Attribute (.Call (.Name "super" o1) [] [] o2) "__init__" o3) [.Constant (.str m) j o4] [] o5) o6, .Assign [.Attribute (.Name "self" q1) "at" q2] (.Name "at" q3) q4, .Assign [.Attribute (.Name "self" r1) "awaited" r2] (.Name "awaited" r3) r4]
def eS : Scope := { kind := .function, names := [(PySem.Str.ofString "self", .local), (PySem.Str.ofString "at", .local), (PySem.Str.ofString "awaited", .local), (PySem.Str.ofString "__class__", .free), (PySem.Str.ofString "super", .globalImplicit)], isGenerator := false, isCoroutine := false, more := [] }
/-- what the written part says of Unreadable, at C, of its __init__, at fI, and of that one's cell and code -/
structure ErrTxt (prog : Program) (K : Frag) (mg : Str → Option Value) (C fI : Addr) : Prop where
  gC : mg "Unreadable" = some (.ref C)
  cls : ∃ nm q N bs bm sn sub ab col dd k0 k1 k2 k3 k5, K.lookup C = some (excClassObj nm q C N bs bm true sn sub ab col dd k0 k1 k2 k3 k5 "ValueError.__new__") ∧ refsVE bm = true
  sa : findIn K (.ref C) "__setattr__" = some (some (.builtin "object.__setattr__"))
  noN : findIn K (.ref C) "at" = some none
  noN2 : findIn K (.ref C) "awaited" = some none
  iC : findIn K (.ref C) "__init__" = some (some (.ref fI))
  tC : typeIn K (.ref fI) = some (.type "function")
  kC : keepIn K (.ref C) = true
  exC : subIn K (.ref C) (.type "BaseException") = some true
  vaC : subIn K (.ref C) (.type "ValueError") = some true
  tyC : typeIn K (.ref C) = some (.type "type")
  te : exmOne K (.ref C) (.ref C) = some true
  sub : mroIn K C (.ref C) = some true
  sup : ks_superIn K C C "__init__" = some (some (.builtin "ValueError.__init__"))
  tp : nsIn K cStatics "thirdparty.any" = some none
  su : mg "super" = none
  top : (prog.main.scope.names.lookup ("super" : Str)).isSome = false
  fn : ∃ (oc : Value) (od : Option Addr) (doc pm : Value) (an : Option Addr) (cda cc : Addr) (ct : Value) (osl : Array (Option Value)) (m : Str) (j : Nat) (p1 p2 p3 o1 o2 o3 o4 o5 o6 q1 q2 q3 q4 r1 r2 r3 r4 : Pos),
    K.lookup fI = some ⟨oc, od, .func (ksFn "__init__" "Unreadable.__init__" (eA p1 p2 p3) (eB m j o1 o2 o3 o4 o5 o6 q1 q2 q3 q4 r1 r2 r3 r4) eS .none .none doc pm an (.ref cda) ct cc), osl⟩ ∧ codeIn K (.ref cda) "Unreadable.__init__" = true ∧
    (∃ (ccl : Value) (cdd : Option Addr) (vs : Array Value) (ccs : Array (Option Value)) (file : Str) (tf : Tok), K.lookup cda = some ⟨ccl, cdd, .fields vs, ccs⟩ ∧ vs[2]? = some (.str file tf) ∧ ((prog.main.file : Str) == file) = true) ∧
    (∀ env : Env, ∃ pl : Sem Bool, eval (.Call (.Attribute (.Call (.Name "super" o1) [] [] o2) "__init__" o3) [.Constant (.str m) j o4] [] o5) env = (do
      let ov ← attributeBase (.Call (.Name "super" o1) [] [] o2) "__init__" env (eval (.Call (.Name "super" o1) [] [] o2) env)
      standAt o3.atName
      let (f, first) ← holding [ov] (getMethod ov "__init__" pl)
      callWith o5 f first (backTo o5 (starEach [.Constant (.str m) j o4] env)) [])) ∧
    ∃ (cl : Value) (cld : Option Addr) (csl : Array (Option Value)), K.lookup cc = some ⟨cl, cld, .cell (some (.ref C)), csl⟩
theorem one_len (v : Value) : [v].length ≤ sizeLine := by
  show 1 ≤ sizeLine
  rw [sizeLine_eq]
  decide
theorem two_len (v v2 : Value) : [v, v2].length ≤ sizeLine := by
  show 2 ≤ sizeLine
  rw [sizeLine_eq]
  decide
/-- the two fields -/
abbrev two (v v2 : Value) : Str → Option Value := fun y => if y = "awaited" then some v2 else if y = "at" then some v else none
/-- what __init__ leaves of a fresh exception at x -/
structure Left (h h' : Heap) (x C dx t1 : Addr) (v v2 : Value) : Prop where
  keep : ∀ b o, b ≠ x → h.get? b = some o → h'.get? b = some o
  obj : h'.get? x = some { cls := .ref C, dict := some dx, data := .fields #[.ref t1, .none, .none, .none, .bool false, .none] }
  dbig : h.objs.size ≤ dx
  dne : dx ≠ x
  ns : h'.Ns1 dx (two v v2)
section
variable {prog : Program} {w : World} {A : Around} {E : Value → Shared → Prop} {R : Result → Shared → Prop} {K : Frag} {mg : Str → Option Value} {C fI : Addr}
/-- the wrapper of ValueError.__init__, bound to a fresh exception, called -/
theorem wrapped {h : Heap} {g : Array GenState} {d : Drawn} {t : Nat} {os : OsState} {nm q : Str} {N : Addr} {bs bm : List Value} {hdct : Bool} {sn : List Str} {sub : List Value} {ab : Bool} {col : Option Bool} {dd : Option Addr} {k0 k1 k2 k3 k5 : Option Value}
    {u e t0 : Addr} {rest : List Value} {Q : Value → Shared → Prop} (hC : h.get? C = some (excClassObj nm q C N bs bm hdct sn sub ab col dd k0 k1 k2 k3 k5 "ValueError.__new__")) (he : h.get? e = some (excO C t0)) (hu : h.get? u = some (kxs_mw "ValueError.__init__" e)) (hz : rest.length ≤ sizeLine)
    (hq : ∀ h' t1, (∀ b o, b ≠ e → h.get? b = some o → h'.get? b = some o) → h'.get? e = some (excO C t1) → Q .none ⟨h', g, d, t, os⟩) :
    wpAny (model prog w) A (PySem.call (.ref u) rest) Q E ⟨h, g, d, t, os⟩ := by
  refine wpAny_call (codeAny_of_tree ?_)
  show wpAny _ A.in1 (callAny (.ref u) ⟨rest, []⟩) _ _ _
  unfold callAny
  refine wpAny_bind (wpAny_load hu ?_)
  have y1 : (Value.type "method-wrapper" == Value.type "method" || Value.type "method-wrapper" == Value.type "builtin_function_or_method" || Value.type "method-wrapper" == Value.type "method-wrapper") = true := by decide
  simp only [kxs_mw, y1, if_true]
  refine KFB.if_so (by decide) ?_
  refine wpAny_bind (check_bound_init F.excBase_ValueError.toExcCallFacts hC he rfl ?_)
  refine wpAny_bind (wpAny_pure (wpAny_pure ?_))
  refine ⟨plainId_quiet F.excBase_ValueError.init.plain _, codeAny_builtin F.excBase_ValueError.initEntry ?_⟩
  exact exc_init_tree (cls := .ref C) (t0 := t0) (dv := none) (c2 := .none) (c3 := .none) (b4 := .bool false) he hz fun h' k e' _ => hq h' _ k e'
theorem bound_name {env : Env} {s : Shared} {m : Str → Option Value} {y : Str} {pos : Pos} {u : Value} {Q : Value → Shared → Prop} {M : Model} (hn : s.heap.Ns env.locals m) (hv : m y = some u) (h : Q u s)
    (hk : env.scope.kind = .function := by rfl) (hl : env.kindOf y = some .local := by rfl) (hd : (y == ("__debug__" : Str)) = false := by decide) : wpAny M A (eval (.Name y pos) env) Q E s := wpAny_Name (wpAny_loadName_local hk hl hn hv h) hd
theorem err_init (T : ErrTxt prog K mg C fI) {s : Shared} {x t0 : Addr} {v v2 : Value} (X : K.In s.heap) (G : s.heap.Ns mainGlobals mg) (B : ∃ mb, s.heap.Ns builtinsNs mb ∧ mb "super" = bootBuiltins "super") (hlim : s.heap.NoLimit) (hx : s.heap.get? x = some (excO C t0)) (hnx : K.lookup x = none) (hroom : A.depth < recursionLimit)
    (hq : ∀ h' tk dx t1, Left s.heap h' x C dx t1 v v2 → R (.ok (.ret .none)) { s with heap := h', toks := tk }) :
    codeAny (model prog w) A (.call (.ref fI) ⟨[.ref x, v, v2], []⟩) R s := by
  obtain ⟨oc, od, doc, pm, an, cda, cc, ct, osl, msg, j, p1, p2, p3, o1, o2, o3, o4, o5, o6, q1, q2, q3, q4, r1, r2, r3, r4, ho, hcd, ⟨ccl, cdd, vs, ccs, file, tf, hcode, hvs, hfile⟩, hev, cl, cld, csl, hcell⟩ := T.fn
  obtain ⟨nm, q, N, bs, bm, sn, sub, ab, col, dd, k0, k1, k2, k3, k5, hC, hbm⟩ := T.cls
  obtain ⟨mb, hB, hmb⟩ := B
  have hcl : clsIn K C = some { name := nm, bases := bs, mro := .ref C :: bm, ns := N, qualname := q, hasDict := true, slotNames := sn, subclasses := sub, abstract := ab, collection := col, hasDel := false } := by unfold clsIn; rw [hC] <;> rfl
  obtain ⟨hp, g, d, t, os⟩ := s
  refine ks_codeAny_call_defAt (binds := [((PySem.Str.ofString "self"), Value.ref x), ((PySem.Str.ofString "at"), v), ((PySem.Str.ofString "awaited"), v2)]) hroom (X _ _ ho) rfl hlim (codeRec_of X hcd) rfl (BindsTo.of_eq (by first | rfl | with_unfolding_all rfl)) (show ∀ y ∈ eS.names, y.2 ≠ .cell by decide +kernel) (fun y hy => ?_) (fun h₁ hns k₁ => ?_) rfl rfl rfl
  · have hy' : y = ((PySem.Str.ofString "self"), Value.ref x) ∨ y = ((PySem.Str.ofString "at"), v) ∨ y = ((PySem.Str.ofString "awaited"), v2) := by simpa using hy
    rcases hy' with e | e | e <;> rw [e] <;> rfl
  · have X₁ : K.In h₁ := X.keeps k₁
    have hx₁ : h₁.get? x = some (excO C t0) := k₁ _ _ hx
    obtain ⟨pl, hev⟩ := hev (ksEnv "Unreadable.__init__" eS hp.objs.size fI (.ref cda) cc)
    refine ks_wpAt_execs_cons (ks_wpAt_Expr_any (ks_wpAt_MethodCall ?_ hev))
    refine ks_wpAt_super_base rfl rfl (by decide +kernel) rfl (X₁ _ _ ho) rfl rfl rfl (X₁ _ _ hcode) rfl hvs hfile T.top ?_
    refine ks_loadName_global rfl rfl (loadGlobal_builtin (G.keeps k₁) T.su (hB.keeps k₁) (hmb.trans PyProof.Rows.Boot.«super») ⟨rfl, ?_⟩)
    refine wpAny_loadName_free rfl rfl rfl ⟨_, X₁ _ _ hcell, rfl⟩ ?_
    refine wpAny_loadName_local (v := .ref x) rfl rfl hns rfl ?_
    have hC₁ := X₁ _ _ hC
    refine ks_wpAny_isType_cls hC₁ rfl ⟨rfl, ?_⟩
    refine ks_wpAny_call_super hC₁ rfl hx₁ rfl (fun c e => by cases e) (looks_mroIn X₁ T.sub) (fun h₂ e₂ k₂ => ?_)
    have X₂ : K.In h₂ := X₁.keeps k₂
    have hx₂ := k₂ _ _ hx₁
    have I₂ : InstAt h₂ x (excO C t0) C none := ⟨hx₂, rfl, rfl, trivial⟩
    have hxC : x ≠ C := fun z => by rw [z, hC] at hnx; cases hnx
    have hsup : alongIn K "__init__" (((Value.ref C :: bm).dropWhile (· != .ref C)).drop 1) = some (some (.builtin "ValueError.__init__")) := by
      have z := T.sup
      unfold ks_superIn at z
      rw [hcl] at z
      exact z
    refine kxs_getMethod kxs_ValueError e₂ (looks_opaque X₂ T.tp) (l₀ := Value.ref C :: bm) ((looks_clsIn X₂ hcl).andThen .now) rfl X₂ hsup (I₂.type.andThen (looks_subIn X₂ T.vaC)) hxC (by decide +kernel) ?_
    have k₃ : ∀ b o, h₂.get? b = some o → (h₂.push (kxs_mw "ValueError.__init__" x)).get? b = some o := fun b o e => Heap.get?_push_of_some _ e
    have hu₃ : (h₂.push (kxs_mw "ValueError.__init__" x)).get? h₂.objs.size = some (kxs_mw "ValueError.__init__" x) := Heap.get?_push_at rfl rfl
    refine kxs_callWith (i := "ValueError.__init__") (x := x) rfl (evalArgs_plain (spliced_cons (Constant_str (k := j) (pos := o4) (spliced_nil ⟨hu₃, ?_⟩))))
    refine wrapped (k₃ _ _ (X₂ _ _ hC)) (k₃ _ _ hx₂) hu₃ (one_len _) fun h₄ t1 k₄ hx₄ => ?_
    have k14 : ∀ b o, b ≠ x → h₁.get? b = some o → h₄.get? b = some o := fun b o n e => k₄ b o n (k₃ _ _ (k₂ _ _ e))
    have hL : hp.objs.size ≠ x := Nat.ne_of_gt (Heap.lt_size hx)
    have hns₄ : h₄.Ns hp.objs.size (fun y => List.lookup y [((PySem.Str.ofString "self"), Value.ref x), ((PySem.Str.ofString "at"), v), ((PySem.Str.ofString "awaited"), v2)].reverse) := hns.at fun o e => k14 _ _ hL e
    have X₄ : K.In h₄ := fun b o e => k14 b o (fun z => by rw [z, hnx] at e; cases e) (X₁ b o e)
    refine wpAt_of_wpAny (wpAny_execs_cons (plainObj_wpAny_Assign_Attribute ?_))
    refine bound_name (env := ksEnv "Unreadable.__init__" eS hp.objs.size fI (.ref cda) cc) hns₄ (u := v) rfl (bound_name (env := ksEnv "Unreadable.__init__" eS hp.objs.size fI (.ref cda) cc) hns₄ (u := .ref x) rfl ?_)
    refine set_plain X₄ (ox := excO C t1) (od := none) ⟨hx₄, rfl, rfl, trivial⟩ T.sa ?_
    refine exc_osa X₄ hx₄ hcl (show refsVE (.ref C :: bm) = true from hbm) rfl T.noN (fun h₅ tk₅ dx k₅ dn dne hx₅ hn₅ => ?_)
    show wpAny _ _ (execs _ _) _ _ _
    have hz : hp.objs.size ≤ h₄.objs.size := Nat.le_of_lt hns₄.lt
    have hns₅ : h₅.Ns hp.objs.size (fun y => List.lookup y [((PySem.Str.ofString "self"), Value.ref x), ((PySem.Str.ofString "at"), v), ((PySem.Str.ofString "awaited"), v2)].reverse) := hns₄.at fun o e => k₅ _ _ hL e
    have X₅ : K.In h₅ := fun b o e => k₅ b o (fun z => by rw [z, hnx] at e; cases e) (X₄ b o e)
    obtain ⟨oD, esD, epD, hoD, hdD, hcD⟩ := hn₅.count (Within.cons "at" v Within.nil)
    refine wpAny_execs_cons (plainObj_wpAny_Assign_Attribute ?_)
    refine bound_name (env := ksEnv "Unreadable.__init__" eS hp.objs.size fI (.ref cda) cc) hns₅ (u := v2) rfl (bound_name (env := ksEnv "Unreadable.__init__" eS hp.objs.size fI (.ref cda) cc) hns₅ (u := .ref x) rfl ?_)
    refine set_plain X₅ (od := some oD) ⟨hx₅, rfl, rfl, hoD⟩ T.sa ?_
    refine OEX.osa_old X₅ hx₅ hn₅ (Within.cons "at" v Within.nil) (by show 1 ≤ 1000; decide) hcl (show refsVE (.ref C :: bm) = true from hbm) rfl T.noN2 (fun h₆ tk₆ k₆ hn₆ => ?_)
    show wpAny _ _ (execs _ _) _ _ _
    refine wpAny_execs_nil (hq h₆ tk₆ dx t1 ⟨fun b o hb e => ?_, k₆ x _ (fun z => dne z.symm) hx₅, Nat.le_trans hz dn, dne, hn₆⟩)
    have e4 := k14 b o hb (k₁ b o e)
    exact k₆ b o (fun z => Nat.lt_irrefl _ (Nat.lt_of_lt_of_le (Heap.lt_size e4) (z ▸ dn))) (k₅ b o hb e4)
/-- a made Unreadable -/
structure Made (h h' : Heap) (e C d : Addr) (v v2 : Value) : Prop where
  keep : ∀ b o, h.get? b = some o → h'.get? b = some o
  new : h.objs.size ≤ e
  obj : ∃ oe vs, h'.get? e = some oe ∧ oe.cls = .ref C ∧ oe.dict = some d ∧ oe.data = .fields vs ∧ vs[1]? = some .none
  dbig : h.objs.size ≤ d
  dne : d ≠ e
  ns : h'.Ns1 d (two v v2)
theorem err_made (T : ErrTxt prog K mg C fI) {s : Shared} {v v2 : Value} (X : K.In s.heap) (G : s.heap.Ns mainGlobals mg) (B : ∃ mb, s.heap.Ns builtinsNs mb ∧ mb "super" = bootBuiltins "super") (hlim : s.heap.NoLimit) (hroom : A.depth + 1 < recursionLimit)
    (hq : ∀ h' tk e d, Made s.heap h' e C d v v2 → R (.ok (.ret (.ref e))) { s with heap := h', toks := tk }) : codeAny (model prog w) A (.call (.ref C) ⟨[v, v2], []⟩) R s := by
  obtain ⟨nm, q, N, bs, bm, sn, sub, ab, col, dd, k0, k1, k2, k3, k5, hC, hbm⟩ := T.cls
  obtain ⟨mb, hB, hmb⟩ := B
  obtain ⟨hp, g, dr, tk, os⟩ := s
  have k : ∀ b o, hp.get? b = some o → ((hp.push (kdv_tup [v, v2])).push (excO C hp.objs.size)).get? b = some o := fun b o e => Heap.get?_push_of_some _ (Heap.get?_push_of_some _ e)
  have hget : ((hp.push (kdv_tup [v, v2])).push (excO C hp.objs.size)).get? (hp.objs.size + 1) = some (excO C hp.objs.size) := by heap_get
  have hnx : K.lookup (hp.objs.size + 1) = none := by
    cases e : K.lookup (hp.objs.size + 1) with
    | none => rfl
    | some o => exact absurd (Nat.lt_of_succ_lt (Heap.lt_size (X _ _ e))) (Nat.lt_irrefl _)
  refine call_own F.excBase_ValueError (fun X => refsVE_contains X bm hbm) (X _ _ hC) (looks_findIn X T.iC) (fun self => bind_fn X self T.tC) (two_len v v2) ?_
  refine err_init (s := ⟨(hp.push (kdv_tup [v, v2])).push (excO C hp.objs.size), g, dr, tk, os⟩) T (X.keeps k) (G.keeps k) ⟨mb, hB.keeps k, hmb⟩ (hlim.keeps k) hget hnx (show A.depth + 1 < recursionLimit from hroom) fun h' tk' dx t1 L => ?_
  have old : ∀ b o, hp.get? b = some o → h'.get? b = some o := fun b o e => L.keep b o (Nat.ne_of_lt (Nat.lt_succ_of_lt (Heap.lt_size e))) (k b o e)
  have big : hp.objs.size ≤ dx := by
    have z := L.dbig
    rw [Heap.size_push, Heap.size_push] at z
    omega
  exact ⟨rfl, hq h' tk' (hp.objs.size + 1) dx ⟨old, Nat.le_succ _, ⟨_, _, L.obj, rfl, rfl, rfl, rfl⟩, big, L.dne, L.ns⟩⟩
end
end K5U
namespace L2
open PySem PySem.Spec PyProof.Rows K5U
theorem relO_two {v v2 : V} {u u2 : Value} (r : RelV v u) (r2 : RelV v2 u2) (f : Str) : RelO (List.lookup f [(("awaited" : Str), v2), (("at" : Str), v)]) (two u u2 f) := by
  refine relO_put r2 (mA := fun y => if y = "at" then some u else none) (fun g => ?_) f
  exact relO_put r (fs := []) (mA := fun _ => none) (fun _ => trivial) g
section
variable {X : Cx} {C fI : Addr}
/-- Unreadable(e, f) -/
def tUnr (C : Addr) (ta : TA) : St → Hp → XK → Prop := fun σ H Q => ta σ H fun vs H1 => ∃ v v2, vs = [v, v2] ∧ ∀ d, H1 d = none → Q (.ref C) (some d) (upd H1 d (.xd [(("awaited" : Str), v2), (("at" : Str), v)]))
theorem pmk_unr {a a2 : Expr} {ta : TA} {p pos : Pos} {k : Nat} (T : ErrTxt X.prog X.K X.mg C fI) (hr : Room k X.A) (ha : PA X [a, a2] ta) (hg : Gl X "Unreadable" := by rfl)
    (he : starEach (a :: [a2]) X.env = (false, eval a X.env) :: starEach [a2] X.env := by rfl) (hpl : (backTo pos (starEach [a2] X.env)).any (·.1) = false := by rfl) :
    PMk X (.Call (.Name "Unreadable" p) [a, a2] [] pos) (tUnr C ta) := by
  intro pins s σ H Q I h
  refine wpAny_Call_Name_kw (ld_glob I hg T.gC ?_)
  refine PySem.W.callWith_K (h₀ := X.base) I.ok.mod.kin T.kC (thn (ha.run pos pins s σ H _ I h) fun us s1 hh => ?_) he hpl
  obtain ⟨vs, H1, I1, r1, v, v2, ev, q1⟩ := hh
  subst ev
  refine ⟨I1.kIn, ?_⟩
  cases r1 with
  | cons rv rn =>
  cases rn with
  | cons rv2 rn2 =>
    rename_i v' v2' us'
    cases rn2
    show wpAny _ _ (PySem.call (.ref C) [v', v2']) _ _ _
    have hlim := I1.nolimit
    obtain ⟨mb, hb1, hb2⟩ := I1.mod.blt
    have G1 : s1.heap.Ns mainGlobals X.mg := I1.mod.glob.keeps I1.bk
    have B1 : ∃ mb, s1.heap.Ns builtinsNs mb ∧ mb "super" = bootBuiltins "super" := ⟨mb, hb1.keeps I1.bk, hb2 _ (by decide +kernel)⟩
    obtain ⟨hp, g, dr, tk, os⟩ := s1
    refine wpAny_call (err_made T I1.kIn G1 B1 hlim (by have := hr.dp; omega) fun h' tk' e d M => ?_)
    show MkP X pins σ Q (.ref e) ⟨h', g, dr, tk', os⟩
    obtain ⟨oe, fv, hoe, hc, hd, hdat, h1⟩ := M.obj
    have hns := M.ns
    obtain ⟨G', g1, g2⟩ := restrict h' fun b => decide (b ≠ e)
    have gk : ∀ b, b ≠ e → G'.get? b = h'.get? b := fun b hb => g1 b (decide_eq_true hb)
    have ge : G'.get? e = none := g2 e (by simp)
    have old : ∀ b o, hp.get? b = some o → G'.get? b = some o := fun b o q => (gk b (Nat.ne_of_lt (Nat.lt_of_lt_of_le (Heap.lt_size q) M.new))).trans (M.keep b o q)
    have ob : ObjOk X.prog X.w (upd H1 d (.xd [(("awaited" : Str), v2), (("at" : Str), v)])) G' d (.xd [(("awaited" : Str), v2), (("at" : Str), v)]) :=
      ⟨_, hns.at (fun o q => (gk d M.dne).trans q), fun f => relO_two rv rv2 f⟩
    have J : Inv X pins σ (upd H1 d (.xd [(("awaited" : Str), v2), (("at" : Str), v)])) ⟨G', g, dr, tk', os⟩ := I1.laid (t' := tk') old M.dbig ob
    refine ⟨e, oe, fv, ⟨G', g, dr, tk', os⟩, _, .ref C, some d, rfl, J, fun b o q => ?_, ge, hoe, ⟨hc, hd⟩, hdat, h1, ?_, rfl, I1.bare, raises_own T.exC T.tyC, q1 d (I1.hok.fresh M.dbig)⟩
    · by_cases hb : b = e
      · have q' : G'.get? b = some o := q
        rw [hb, ge] at q'
        cases q'
      · exact (gk b hb).symm.trans q
    · rw [upd_ne (Ne.symm M.dne)]
      exact I1.hok.fresh M.new
/-- raise Unreadable(e) -/
theorem ps_raiseUnr {a a2 : Expr} {ta : TA} {W : WX} {p pos pos2 : Pos} {k : Nat} (hc : X.calm = true) (T : ErrTxt X.prog X.K X.mg C fI) (hr : Room k X.A) (tk : Takes X W) (ha : PA X [a, a2] ta) (hg : Gl X "Unreadable" := by rfl)
    (he : starEach (a :: [a2]) X.env = (false, eval a X.env) :: starEach [a2] X.env := by rfl) (hpl : (backTo pos (starEach [a2] X.env)).any (·.1) = false := by rfl) :
    PS X (.Raise (some (.Call (.Name "Unreadable" p) [a, a2] [] pos)) none pos2) (fun _ σ H => tUnr C ta σ H fun cls d H' => W cls d σ H') := ps_raise hc tk (pmk_unr T hr ha hg he hpl)
end
end L2

namespace K5S
open PySem L2 K5
abbrev sOneOf : Stmt := top 11
abbrev sConsists : Stmt := top 12
abbrev sIsWord : Stmt := top 13
abbrev sIsNumeral : Stmt := top 14
abbrev sIsSign : Stmt := top 15
abbrev sSortOf : Stmt := top 16
def cLetters : Str := "abcdefghijklmnopqrstuvwxyz"
def cDigits : Str := "0123456789"
def signs : List Str := ["=", ";", ",", "[", "]"]
/-- the constants of the module -/
structure Mod (K : PySem.W.Frag) (mg : Str → Option Value) (aS : Addr) : Prop extends K5.Bare mg where
  letters : ∃ t, mg "LETTERS" = some (.str cLetters t)
  digits : ∃ t, mg "DIGITS" = some (.str cDigits t)
  longest : ∃ t, mg "LONGEST" = some (.int 12 t)
  sgn : mg "SIGNS" = some (.ref aS)
  tup : ∃ (o : Obj) (its : Array Value) (n : Nat), K.lookup aS = some o ∧ o.cls = .type "tuple" ∧ o.data = .seq its n ∧ its.size ≤ sizeLine ∧ Vals (K5S.signs.map V.str) its.toList
theorem Mod.sq {K : PySem.W.Frag} {mg : Str → Option Value} {aS : Addr} (T : Mod K mg aS) (H : Hp) : SqT K H aS (K5S.signs.map V.str) := .inr T.tup
theorem inV_strs (z : Str) (ws : List Str) : inV (.str z) (ws.map V.str) = decide (z ∈ ws) := by
  unfold inV
  induction ws with
  | nil => rfl
  | cons y ws ih =>
    rw [List.map_cons, List.any_cons, ih]
    show (y == z || _) = _
    by_cases h : y = z
    · subst h; simp
    · have h' : ¬ z = y := fun e => h e.symm
      have e : (y == z) = false := by simpa using h
      rw [e, Bool.false_or]
      simp [h']
theorem flat_strs (ws : List Str) : (ws.map V.str).all flatV = true := by
  rw [List.all_map]
  exact List.all_eq_true.mpr fun _ _ => rfl
theorem all_id_map {α : Type} (p : α → Bool) (l : List α) : (l.map p).all id = l.all p := by
  induction l with
  | nil => rfl
  | cons a l ih => rw [List.map_cons, List.all_cons, List.all_cons, ih]; rfl
theorem take_more {α β : Type} (f : α → β) {l : List α} {i : Nat} {c : α} (h : l[i]? = some c) : (l.take i).map f ++ [f c] = (l.take (i + 1)).map f := by
  rw [List.take_add_one, h, List.map_append]
  rfl
theorem cps_at {z : Str} {i : Nat} {c : Nat} (h : z.cps[i]? = some c) : z.cps.toList[i]? = some c := by simpa using h
theorem str_len (z : Str) : z.cps.toList.length = z.length := by simp [Str.length]
/-- 1 to 12 of these signs -/
def inAll (z cs : Str) : Bool := decide (1 ≤ z.length) && decide (z.length ≤ 12) && z.cps.toList.all fun c => decide (c ∈ cs.cps.toList)
/-- a thing that may be a text -/
def Thing (K : PySem.W.Frag) (H : Hp) (v : V) (o : Option Str) : Prop := (∃ z, v = .str z ∧ o = some z ∧ z.length ≤ sizeLine) ∨ (o = none ∧ ∃ t, TyOf K H v t ∧ PySem.W.kitOne K t (.type "str") = some false)
theorem tyOf_same {K : PySem.W.Frag} {H H' : Hp} {v : V} {t : Value} (h : TyOf K H v t) (s : Same H H') : TyOf K H' v t := by
  cases h with
  | non => exact .non
  | bl b => exact .bl b
  | int i => exact .int i
  | str x => exact .str x
  | flt x => exact .flt x
  | lst e => exact .lst (s _ _ e)
  | frz e => exact .frz (s _ _ e)
  | tup e => exact .tup (s _ _ e)
  | dK e => exact .dK (s _ _ e)
  | dT e => exact .dT (s _ _ e)
  | ins e a b c d m => exact .ins (s _ _ e) a b c d m
theorem Thing.same {K : PySem.W.Frag} {H H' : Hp} {v : V} {o : Option Str} (h : Thing K H v o) (s : Same H H') : Thing K H' v o := by
  rcases h with h | ⟨e, t, h, k⟩
  · exact .inl h
  · exact .inr ⟨e, t, tyOf_same h s, k⟩
def spOneOf (K : PySem.W.Frag) : Sp := fun vs H Q _ => ∃ (v : V) (o : Option Str) (a : Addr) (ws : List Str), vs = [v, .ref a] ∧ Thing K H v o ∧ SqT K H a (ws.map V.str) ∧ Q (.bl (o.elim false fun z => decide (z ∈ ws))) H
def spConsists (K : PySem.W.Frag) : Sp := fun vs H Q _ => ∃ (v : V) (o : Option Str) (cs : Str), vs = [v, .str cs] ∧ Thing K H v o ∧ ∀ H', Same H H' → Q (.bl (o.elim false fun z => inAll z cs)) H'
def spWord (K : PySem.W.Frag) : Sp := fun vs H Q _ => ∃ (v : V) (o : Option Str), vs = [v] ∧ Thing K H v o ∧ ∀ H', Same H H' → Q (.bl (o.elim false fun z => inAll z cLetters)) H'
/-- a numeral -/
def numOk (z : Str) : Bool := inAll z cDigits && (decide (z = "0") || !decide ((⟨#[z.cps.toList.headD 0]⟩ : Str) = "0"))
def spNum (K : PySem.W.Frag) : Sp := fun vs H Q _ => ∃ (v : V) (o : Option Str), vs = [v] ∧ Thing K H v o ∧ ∀ H', Same H H' → Q (.bl (o.elim false numOk)) H'
def spSign (K : PySem.W.Frag) : Sp := fun vs H Q _ => ∃ (v : V) (o : Option Str), vs = [v] ∧ Thing K H v o ∧ Q (.bl (o.elim false fun z => decide (z ∈ signs))) H
def sortV (z : Str) : V := if z ∈ signs then .str z else if inAll z cLetters = true then .str "word" else if numOk z = true then .str "number" else .non
def spSort (K : PySem.W.Frag) : Sp := fun vs H Q _ => ∃ (v : V) (o : Option Str), vs = [v] ∧ Thing K H v o ∧ ∀ H', Same H H' → Q (o.elim .non sortV) H'
section
variable {P : Program} {w : World} {K : PySem.W.Frag} {mg : Str → Option Value} {base : Heap} {aS : Addr}
theorem scOneOf : FnScope ["thing", "words"] ["thing", "words"] (defScope sOneOf) := ⟨rfl, rfl, rfl, by decide +kernel, rfl, by decide +kernel, by decide +kernel⟩
theorem ok_oneOf {f : Addr} {fd : FuncData} (F : Fun K "is_one_of" "is_one_of" sOneOf f fd) (T : Mod K mg aS) : FnOk P w K mg base CX0 1 f fd ["thing", "words"] (spOneOf K) := by
  refine F.ok scOneOf (fun vs H Q E h => ?_) (fun cdv A outer s H vs Q E hr h => ?_)
  · obtain ⟨v, o, a, ws, rfl, _⟩ := h
    rfl
  · obtain ⟨v, o, a, ws, rfl, hv, ht, q⟩ := h
    refine ⟨_, pss_one (ps_ret (pe_and (pe_callB call_isi (by rfl) T.isi (by decide +kernel) (pa_cons (pv 0) (pa_cons (pe_bltn (v := .ty "str") (by rfl) T.str (by decide +kernel) rfl) pa_nil)))
      (pe_one (pe_cmpR op_in_seq (pv 0) (pv 1) (by rfl))))), ?_⟩
    rcases hv with ⟨z, rfl, rfl, _⟩ | ⟨rfl, t, ty, kt⟩
    · refine ⟨_, rfl, .str z, .ty "str", .type "str", .type "str", true, rfl, .ty "str", .base (.str z), kit_ty (by decide +kernel), true, rfl, iteT ⟨_, rfl, _, rfl, a, _, rfl, .inr ht, rfl, flat_strs ws, ?_⟩⟩
      show Q (.bl (inV (.str z) (ws.map V.str))) H
      rw [inV_strs]
      exact q
    · exact ⟨_, rfl, v, .ty "str", t, .type "str", false, rfl, .ty "str", .base ty, kt, false, rfl, iteF q⟩
theorem scConsists : FnScope ["thing", "characters", "character"] ["thing", "characters"] (defScope sConsists) := ⟨rfl, rfl, rfl, by decide +kernel, rfl, by decide +kernel, by decide +kernel⟩
theorem ok_consists {f : Addr} {fd : FuncData} (F : Fun K "consists_of" "consists_of" sConsists f fd) (T : Mod K mg aS) : FnOk P w K mg base CX0 1 f fd ["thing", "characters"] (spConsists K) := by
  obtain ⟨t, hL⟩ := T.longest
  refine F.ok scConsists (fun vs H Q E h => ?_) (fun cdv A outer s H vs Q E hr h => ?_)
  · obtain ⟨v, o, cs, rfl, _⟩ := h
    rfl
  · obtain ⟨v, o, cs, rfl, hv, q⟩ := h
    refine ⟨_, C8.pss_cut (ps_if (PW.pt (pw_or (pt_not (pt_val (pe_callB call_isi (by rfl) T.isi (by decide +kernel) (pa_cons (pv 0) (pa_cons (pe_bltn (v := .ty "str") (by rfl) T.str (by decide +kernel) rfl) pa_nil)))))
        (pw_or1 (pt_not (pt_chain op_le op_le pe_int (pe_callB call_len_str (by rfl) T.len PySem.boot_len (pa_cons (pv 0) pa_nil)) (pe_glob (v := .int 12) rfl hL ⟨_, rfl⟩))))))
        (pss_one (ps_ret pe_bl)) pss_nil)
      (pss_one (ps_ret (pe_callB (cr_all rfl) (by rfl) T.all (by decide +kernel) (pa_cons (pe_lc (own := [("character", 2)]) (g := gName 2) (tt := tYes) (by rfl) scConsists.nd (pi_str (pv 0))
        (blkOk_by (own := [("character", 2)]) (N := ["thing", "characters", "character"]) (sc := defScope sConsists) (by decide +kernel)) (fun _ _ _ _ _ => pg_name (i := 2) scConsists.nd rfl (Or.inl rfl))
        (fun _ _ _ _ _ => pts_nil) (fun _ _ _ _ _ => pe_cmpR op_in_sign (pv 2) (pv 1) rfl)) pa_nil)))), ?_⟩
    rcases hv with ⟨z, rfl, rfl, hz⟩ | ⟨rfl, t', ty, kt⟩
    case inr => exact ⟨fun _ _ => False, ⟨_, rfl, v, .ty "str", t', .type "str", false, rfl, .ty "str", .base ty, kt, false, rfl, iteT (iteT (q H (Same.refl H)))⟩, fun _ _ z => z.elim⟩
    replace q : ∀ H', Same H H' → Q (.bl (inAll z cs)) H' := q
    have hi : inAll z cs = (decide (1 ≤ z.length) && (decide (z.length ≤ 12) && z.cps.toList.all fun c => decide (c ∈ cs.cps.toList))) := Bool.and_assoc ..
    refine ⟨fun σ H' => σ = [some (.str z), some (.str cs), none] ∧ H' = H ∧ inAll z cs = z.cps.toList.all fun c => decide (c ∈ cs.cps.toList), ?_, ?_⟩
    · refine ⟨_, rfl, .str z, .ty "str", .type "str", .type "str", true, rfl, .ty "str", .base (.str z), kit_ty (by decide +kernel), true, rfl, ?_⟩
      refine iteF ?_
      refine ⟨_, rfl, z, rfl, hz, _, _, rfl, rfl, _, rfl, ?_⟩
      refine ite2 (fun h1 => ?_) (fun h1 => ?_)
      · have h1' : 1 ≤ z.length := by have := of_decide_eq_true h1; omega
        refine ⟨_, _, rfl, rfl, _, rfl, ?_⟩
        by_cases h2 : (z.length : Int) ≤ 12
        · show if (!decide ((z.length : Int) ≤ 12)) = true then _ else _
          refine iteNS h2 ?_
          have h2' : z.length ≤ 12 := by omega
          exact ⟨rfl, rfl, by rw [hi, decide_eq_true h1', decide_eq_true h2', Bool.true_and, Bool.true_and]⟩
        · show if (!decide ((z.length : Int) ≤ 12)) = true then _ else _
          rw [decide_eq_false h2]
          refine iteT ?_
          have h2' : ¬ z.length ≤ 12 := by omega
          have e := q H (Same.refl H)
          rw [hi, decide_eq_false h2', Bool.false_and, Bool.and_false] at e
          exact e
      · refine ⟨_, rfl, iteT ?_⟩
        have h1' : ¬ 1 ≤ z.length := fun h => h1 (decide_eq_true (by omega))
        have e := q H (Same.refl H)
        rw [hi, decide_eq_false h1', Bool.false_and] at e
        exact e
    · rintro σ H1 ⟨rfl, rfl, e⟩
      refine ⟨_, rfl, z, rfl, fun D hD => ?_⟩
      refine lc_it walk_str (fun i H' => Same H1 H' ∧ H' D = some (.lst ((z.cps.toList.take i).map fun c => V.bl (decide (c ∈ cs.cps.toList))))) ⟨Same.new (Same.refl H1) hD, upd_same⟩ (fun _ _ _ _ => trivial) ?_ ?_
      · rintro i x H2 H3 hi2 ⟨s2, h2⟩ ⟨rfl, c, hc, rfl⟩
        refine ⟨rfl, ?_⟩
        refine ⟨_, rfl, _, rfl, c, cs, rfl, rfl, _, h2, ?_, fun b o hb => ?_, ?_⟩
        · rw [List.length_map, List.length_take, str_len]
          have : i < z.length := hi2
          omega
        · rw [upd_ne (ne_of_none hb hD)]
          exact s2 b o hb
        · rw [upd_same, take_more _ (cps_at hc)]
      · rintro H2 ⟨s2, h2⟩
        refine ⟨D, z.cps.toList.map fun c => decide (c ∈ cs.cps.toList), rfl, SqL.of ?_, ?_⟩
        · rw [h2, List.map_map, List.take_of_length_le (by simp)]
          rfl
        · rw [all_id_map, ← e]
          exact q H2 s2
theorem scWord : FnScope ["thing"] ["thing"] (defScope sIsWord) := ⟨rfl, rfl, rfl, by decide +kernel, rfl, by decide +kernel, by decide +kernel⟩
theorem ok_word {f fC : Addr} {fd fdC : FuncData} (F : Fun K "is_word" "is_word" sIsWord f fd) (T : Mod K mg aS) (FC : Fun K "consists_of" "consists_of" sConsists fC fdC) (bC : Binds K fdC ["thing", "characters"] []) (mC : mg "consists_of" = some (.ref fC)) : FnOk P w K mg base CX0 2 f fd ["thing"] (spWord K) := by
  have GC : FnOk P w K mg base CX0 1 fC fdC ["thing", "characters"] (spConsists K) := ok_consists FC T
  obtain ⟨t, hL⟩ := T.letters
  refine F.ok scWord (fun vs H Q E h => ?_) (fun cdv A outer s H vs Q E hr h => ?_)
  · obtain ⟨v, o, rfl, _⟩ := h
    rfl
  · obtain ⟨v, o, rfl, hv, q⟩ := h
    refine ⟨_, pss_one (ps_ret (pe_call GC hr rfl mC FC.kp bC .nil pass0 (pa_cons (pv 0) (pa_cons (pe_glob (v := .str cLetters) rfl hL ⟨_, rfl⟩) pa_nil)))), ?_⟩
    exact ⟨_, rfl, v, o, cLetters, rfl, hv, q⟩
theorem scNum : FnScope ["thing"] ["thing"] (defScope sIsNumeral) := ⟨rfl, rfl, rfl, by decide +kernel, rfl, by decide +kernel, by decide +kernel⟩
theorem at_zero {z : Str} (h : 1 ≤ z.length) : atI z.cps.toList 0 = some (z.cps.toList.headD 0) := by
  refine atI_nat (j := 0) ?_
  rw [← str_len] at h
  cases e : z.cps.toList with
  | nil => rw [e] at h; exact absurd h (by decide)
  | cons c l => rfl
theorem ok_num {f fC : Addr} {fd fdC : FuncData} (F : Fun K "is_numeral" "is_numeral" sIsNumeral f fd) (T : Mod K mg aS) (FC : Fun K "consists_of" "consists_of" sConsists fC fdC) (bC : Binds K fdC ["thing", "characters"] []) (mC : mg "consists_of" = some (.ref fC)) : FnOk P w K mg base CX0 2 f fd ["thing"] (spNum K) := by
  have GC : FnOk P w K mg base CX0 1 fC fdC ["thing", "characters"] (spConsists K) := ok_consists FC T
  obtain ⟨t, hL⟩ := T.digits
  refine F.ok scNum (fun vs H Q E h => ?_) (fun cdv A outer s H vs Q E hr h => ?_)
  · obtain ⟨v, o, rfl, _⟩ := h
    rfl
  · obtain ⟨v, o, rfl, hv, q⟩ := h
    refine ⟨_, pss_one (ps_ret (pe_and (pe_call GC hr rfl mC FC.kp bC .nil pass0 (pa_cons (pv 0) (pa_cons (pe_glob (v := .str cDigits) rfl hL ⟨_, rfl⟩) pa_nil)))
      (pe_one (pe_or (pe_cmpR op_eq (pv 0) pe_str (nomark _)) (pe_one (pe_cmpR op_ne (pe_ix ix_str (pv 0) pe_int (fun _ _ => rfl)) pe_str (nomark _))))))), ?_⟩
    refine ⟨_, rfl, v, o, cDigits, rfl, hv, fun H1 s1 => ⟨_, rfl, ?_⟩⟩
    rcases hv with ⟨z, rfl, rfl, hz⟩ | ⟨rfl, t', ty, kt⟩
    case inr => exact iteF (q H1 s1)
    have e := q H1 s1
    show if inAll z cDigits = true then _ else _
    replace e : Q (.bl (numOk z)) H1 := e
    unfold numOk at e
    cases ha : inAll z cDigits with
    | false =>
      rw [ha, Bool.false_and] at e
      exact iteF e
    | true =>
      rw [ha, Bool.true_and] at e
      have h1 : 1 ≤ z.length := by
        unfold inAll at ha
        rw [Bool.and_eq_true, Bool.and_eq_true] at ha
        exact of_decide_eq_true ha.1.1
      refine iteT ⟨_, rfl, rfl, _, rfl, ?_⟩
      have ez : decide (V.str z = V.str (("0" : Str))) = decide (z = "0") := by
        by_cases h : z = "0"
        · rw [h]; simp
        · have h' : ¬ V.str z = V.str (("0" : Str)) := fun x => h (V.str.inj x)
          rw [decide_eq_false h, decide_eq_false h']
      show if decide (V.str z = V.str (("0" : Str))) = true then _ else _
      rw [ez]
      cases hz0 : decide (z = "0") with
      | true =>
        rw [hz0, Bool.true_or] at e
        exact iteT e
      | false =>
        rw [hz0, Bool.false_or] at e
        refine iteF ⟨_, rfl, z, _, _, rfl, rfl, hz, at_zero h1, rfl, ?_⟩
        have ey : decide (V.str ⟨#[z.cps.toList.headD 0]⟩ = V.str (("0" : Str))) = decide ((⟨#[z.cps.toList.headD 0]⟩ : Str) = "0") := by
          by_cases h : (⟨#[z.cps.toList.headD 0]⟩ : Str) = "0"
          · rw [h]; simp
          · have h' : ¬ V.str ⟨#[z.cps.toList.headD 0]⟩ = V.str (("0" : Str)) := fun x => h (V.str.inj x)
            rw [decide_eq_false h, decide_eq_false h']
        show Q (V.bl (!decide (V.str ⟨#[z.cps.toList.headD 0]⟩ = V.str (("0" : Str))))) H1
        rw [ey]
        exact e
theorem scSign : FnScope ["thing"] ["thing"] (defScope sIsSign) := ⟨rfl, rfl, rfl, by decide +kernel, rfl, by decide +kernel, by decide +kernel⟩
theorem ok_sign {f fC : Addr} {fd fdC : FuncData} (F : Fun K "is_sign" "is_sign" sIsSign f fd) (T : Mod K mg aS) (FC : Fun K "is_one_of" "is_one_of" sOneOf fC fdC) (bC : Binds K fdC ["thing", "words"] []) (mC : mg "is_one_of" = some (.ref fC)) : FnOk P w K mg base CX0 2 f fd ["thing"] (spSign K) := by
  have GC : FnOk P w K mg base CX0 1 fC fdC ["thing", "words"] (spOneOf K) := ok_oneOf FC T
  refine F.ok scSign (fun vs H Q E h => ?_) (fun cdv A outer s H vs Q E hr h => ?_)
  · obtain ⟨v, o, rfl, _⟩ := h
    rfl
  · obtain ⟨v, o, rfl, hv, q⟩ := h
    refine ⟨_, pss_one (ps_ret (pe_call GC hr rfl mC FC.kp bC .nil pass0 (pa_cons (pv 0) (pa_cons (pe_glob (v := .ref aS) rfl T.sgn rfl) pa_nil)))), ?_⟩
    exact ⟨_, rfl, v, o, aS, signs, rfl, hv, T.sq H, q⟩
theorem scSort : FnScope ["thing"] ["thing"] (defScope sSortOf) := ⟨rfl, rfl, rfl, by decide +kernel, rfl, by decide +kernel, by decide +kernel⟩
theorem ok_sort {f fS fW fN : Addr} {fd fdS fdW fdN : FuncData} (F : Fun K "sort_of" "sort_of" sSortOf f fd)
    (kS : PySem.W.keepIn K (.ref fS) = true) (GS : FnOk P w K mg base CX0 2 fS fdS ["thing"] (spSign K)) (bS : Binds K fdS ["thing"] []) (mS : mg "is_sign" = some (.ref fS))
    (kW : PySem.W.keepIn K (.ref fW) = true) (GW : FnOk P w K mg base CX0 2 fW fdW ["thing"] (spWord K)) (bW : Binds K fdW ["thing"] []) (mW : mg "is_word" = some (.ref fW))
    (kN : PySem.W.keepIn K (.ref fN) = true) (GN : FnOk P w K mg base CX0 2 fN fdN ["thing"] (spNum K)) (bN : Binds K fdN ["thing"] []) (mN : mg "is_numeral" = some (.ref fN)) : FnOk P w K mg base CX0 3 f fd ["thing"] (spSort K) := by
  refine F.ok scSort (fun vs H Q E h => ?_) (fun cdv A outer s H vs Q E hr h => ?_)
  · obtain ⟨v, o, rfl, _⟩ := h
    rfl
  · obtain ⟨v, o, rfl, hv, q⟩ := h
    refine ⟨_, pss_cons (ps_if (pt_val (pe_call GS hr rfl mS kS bS .nil pass0 (pa_cons (pv 0) pa_nil))) (pss_one (ps_ret (pv 0))) pss_nil)
      (pss_cons (ps_if (pt_val (pe_call GW hr rfl mW kW bW .nil pass0 (pa_cons (pv 0) pa_nil))) (pss_one (ps_ret pe_str)) pss_nil)
      (pss_cons (ps_if (pt_val (pe_call GN hr rfl mN kN bN .nil pass0 (pa_cons (pv 0) pa_nil))) (pss_one (ps_ret pe_str)) pss_nil)
      (pss_one (ps_ret pe_non)))), ?_⟩
    rcases id hv with ⟨z, rfl, rfl, hz⟩ | ⟨rfl, t', ty, kt⟩
    case inr => exact ⟨_, rfl, v, none, rfl, hv, _, rfl, iteF ⟨_, rfl, v, none, rfl, hv, fun H1 s1 => ⟨_, rfl, iteF ⟨_, rfl, v, none, rfl, hv.same s1, fun H2 s2 => ⟨_, rfl, iteF (q H2 (s1.trans s2))⟩⟩⟩⟩⟩
    replace q : ∀ H', Same H H' → Q (sortV z) H' := q
    refine ⟨_, rfl, .str z, some z, rfl, hv, _, rfl, ite2 (fun h1 => ⟨_, rfl, ?_⟩) (fun h1 => ?_)⟩
    · have e := q H (Same.refl H)
      unfold sortV at e
      rw [if_pos (of_decide_eq_true h1)] at e
      exact e
    · have h1 : ¬ z ∈ signs := fun x => h1 (decide_eq_true x)
      refine ⟨_, rfl, .str z, some z, rfl, hv, fun H1 s1 => ⟨_, rfl, ite2 (fun h2 => ?_) (fun h2 => ?_)⟩⟩
      · have e := q H1 s1
        unfold sortV at e
        rw [if_neg h1, if_pos (show inAll z cLetters = true from h2)] at e
        exact e
      · refine ⟨_, rfl, .str z, some z, rfl, hv.same s1, fun H2 s2 => ⟨_, rfl, ite2 (fun h3 => ?_) (fun h3 => ?_)⟩⟩
        all_goals
          have e := q H2 (s1.trans s2)
          unfold sortV at e
          rw [if_neg h1, if_neg (show ¬ inAll z cLetters = true from h2)] at e
        · rw [if_pos (show numOk z = true from h3)] at e
          exact e
        · rw [if_neg (show ¬ numOk z = true from h3)] at e
          exact e
end
end K5S

namespace K5
open PySem L2
abbrev sStates : Stmt := top 19
/-- a token's sort -/
def sortO (o : Option Str) : Option Str := o.bind fun z => if z ∈ K5S.signs then some z else if K5S.inAll z K5S.cLetters = true then some "word" else if K5S.numOk z = true then some "number" else none
theorem sort_eq (o : Option Str) : o.elim V.non K5S.sortV = tokV (sortO o) := by
  cases o with
  | none => rfl
  | some z =>
    show K5S.sortV z = tokV (if z ∈ K5S.signs then some z else if K5S.inAll z K5S.cLetters = true then some "word" else if K5S.numOk z = true then some "number" else none)
    unfold K5S.sortV
    by_cases h1 : z ∈ K5S.signs
    · rw [if_pos h1, if_pos h1]; rfl
    · rw [if_neg h1, if_neg h1]
      by_cases h2 : K5S.inAll z K5S.cLetters = true
      · rw [if_pos h2, if_pos h2]; rfl
      · rw [if_neg h2, if_neg h2]
        by_cases h3 : K5S.numOk z = true
        · rw [if_pos h3, if_pos h3]; rfl
        · rw [if_neg h3, if_neg h3]; rfl
/-- the states behind the tokens os, from st on; or where it breaks, and the state there -/
def runL (L : Lang) : Str → List (Option Str) → List Str ⊕ (Nat × Str)
  | st, [] => if closesL L st = true then .inl [] else .inr (0, st)
  | st, o :: os => match stepL L st (sortO o) with
    | none => .inr (0, st)
    | some s => match runL L s os with
      | .inl w => .inl (s :: w)
      | .inr (k, z) => .inr (k + 1, z)
/-- the same, of what was read so far -/
structure Sofar (L : Lang) (os : List (Option Str)) (i : Nat) (w : List Str) (st : Str) : Prop where
  len : w.length = i
  nin : st ∈ nine
  go : ∀ r, runL L st (os.drop i) = r → runL L "start" os = (match r with
    | .inl v => .inl (w ++ v)
    | .inr (k, z) => .inr (i + k, z))
theorem Sofar.zero (L : Lang) (os : List (Option Str)) : Sofar L os 0 [] "start" := ⟨rfl, by decide +kernel, fun r h => by
  rw [List.drop_zero] at h
  rw [h]
  rcases r with v | ⟨k, z⟩
  · rfl
  · simp⟩
/-- the states are among the nine -/
theorem vals_nine : ∀ m wd b d x beh c j e n w : Bool, ∀ p ∈ aName m wd b ++ (aEqu d x ++ (aItem beh c j ++ (aCom e n ++ (aDone w ++ (aEnd d ++ (wStart ++ wOpen)))))), p.2 ∈ nine := by decide +kernel
theorem look_mem {α : Type} : ∀ {l : List (Str × α)} {k : Str} {v : α}, l.lookup k = some v → (k, v) ∈ l
  | (a, b) :: l, k, v, h => by
    rw [List.lookup_cons] at h
    by_cases c : k = a
    · subst c
      rw [beq_self_eq_true] at h
      cases h
      exact List.mem_cons_self
    · rw [show (k == a) = false from beq_eq_false_iff_ne.mpr c] at h
      exact List.mem_cons_of_mem _ (look_mem h)
  | [], _, _, h => nomatch h
theorem step_nine {L : Lang} {st s : Str} {z : Option Str} (h : stepL L st z = some s) : s ∈ nine := by
  unfold stepL at h
  cases z with
  | none => cases h
  | some z =>
  have h : (((wTab L).lookup st).bind fun ws => ws.lookup z) = some s := h
  obtain ⟨ws, hw, hz⟩ := Option.bind_eq_some_iff.mp h
  have m1 := look_mem hw
  have m2 := look_mem hz
  have all := vals_nine (isE L) (L.b && isN L) L.b (inDb L "=") L.x (decide (L.l = "must")) (decide (L.c = "may")) (decide (L.c = "joins")) (inDb L ",") (decide (L.l = "never")) (isN L)
  have alld := vals_nine (isE L) (L.b && isN L) L.b (inDb L ";") L.x (decide (L.l = "must")) (decide (L.c = "may")) (decide (L.c = "joins")) (inDb L ",") (decide (L.l = "never")) (isN L)
  simp only [wTab, List.mem_cons, List.not_mem_nil, or_false, Prod.mk.injEq] at m1
  have go : ∀ p ∈ ws, p.2 ∈ nine := by
    rcases m1 with ⟨_, rfl⟩ | ⟨_, rfl⟩ | ⟨_, rfl⟩ | ⟨_, rfl⟩ | ⟨_, rfl⟩ | ⟨_, rfl⟩ | ⟨_, rfl⟩ | ⟨_, rfl⟩ | ⟨_, rfl⟩
    · exact fun p hp => all p (by simp only [List.mem_append]; exact .inr (.inr (.inr (.inr (.inr (.inr (.inl hp)))))))
    · exact fun p hp => all p (List.mem_append_left _ hp)
    · exact fun p hp => all p (List.mem_append_right _ (List.mem_append_left _ hp))
    · exact fun p hp => all p (by simp only [List.mem_append]; exact .inr (.inr (.inr (.inr (.inr (.inr (.inr hp)))))))
    · exact fun p hp => all p (List.mem_append_right _ (List.mem_append_right _ (List.mem_append_left _ hp)))
    · exact fun p hp => all p (List.mem_append_right _ (List.mem_append_right _ (List.mem_append_left _ (List.mem_append_left _ hp))))
    · exact fun p hp => all p (List.mem_append_right _ (List.mem_append_right _ (List.mem_append_right _ (List.mem_append_left _ hp))))
    · exact fun p hp => all p (List.mem_append_right _ (List.mem_append_right _ (List.mem_append_right _ (List.mem_append_right _ (List.mem_append_left _ hp)))))
    · exact fun p hp => alld p (List.mem_append_right _ (List.mem_append_right _ (List.mem_append_right _ (List.mem_append_right _ (List.mem_append_right _ (List.mem_append_left _ hp))))))
  exact go (z, s) m2
theorem Sofar.next {L : Lang} {os : List (Option Str)} {i : Nat} {w : List Str} {st s : Str} {o : Option Str} (h : Sofar L os i w st) (ho : os[i]? = some o) (hs : stepL L st (sortO o) = some s) : Sofar L os (i + 1) (w ++ [s]) s := by
  have e : os.drop i = o :: os.drop (i + 1) := by
    have hi := (List.getElem?_eq_some_iff.mp ho).1
    rw [List.getElem?_eq_getElem hi] at ho
    rw [List.drop_eq_getElem_cons hi, Option.some.inj ho]
  refine ⟨by rw [List.length_append, h.len]; rfl, step_nine hs, fun r hr => ?_⟩
  have q := h.go _ rfl
  rw [e] at q
  rw [show runL L st (o :: os.drop (i + 1)) = (match runL L s (os.drop (i + 1)) with
      | .inl w => .inl (s :: w)
      | .inr (k, z) => .inr (k + 1, z)) by rw [runL, hs], hr] at q
  rw [q]
  rcases r with v | ⟨k, z⟩
  · show Sum.inl (w ++ s :: v) = Sum.inl (w ++ [s] ++ v)
    rw [List.append_assoc]; rfl
  · show Sum.inr (i + (k + 1), z) = Sum.inr (i + 1 + k, z)
    rw [show i + (k + 1) = i + 1 + k by omega]
theorem Sofar.stop {L : Lang} {os : List (Option Str)} {i : Nat} {w : List Str} {st : Str} {o : Option Str} (h : Sofar L os i w st) (ho : os[i]? = some o) (hs : stepL L st (sortO o) = none) : runL L "start" os = .inr (i, st) := by
  have e : os.drop i = o :: os.drop (i + 1) := by
    have hi := (List.getElem?_eq_some_iff.mp ho).1
    rw [List.getElem?_eq_getElem hi] at ho
    rw [List.drop_eq_getElem_cons hi, Option.some.inj ho]
  have q := h.go (.inr (0, st)) (by rw [e, runL, hs])
  exact q
theorem Sofar.done {L : Lang} {os : List (Option Str)} {w : List Str} {st : Str} (h : Sofar L os os.length w st) : runL L "start" os = if closesL L st = true then .inl w else .inr (os.length, st) := by
  have q := h.go _ rfl
  rw [List.drop_length, runL] at q
  by_cases c : closesL L st = true
  · rw [if_pos c] at q ⊢
    rw [q]
    show Sum.inl (w ++ []) = _
    rw [List.append_nil]
  · rw [if_neg c] at q ⊢
    exact q
/-- things that may be texts, one beside another -/
def Things (K : PySem.W.Frag) (H : Hp) (xs : List V) (os : List (Option Str)) : Prop := xs.length = os.length ∧ ∀ (i : Nat) (x : V) (o : Option Str), xs[i]? = some x → os[i]? = some o → K5S.Thing K H x o
theorem Things.same {K : PySem.W.Frag} {H H' : Hp} {xs : List V} {os : List (Option Str)} (h : Things K H xs os) (s : Same H H') : Things K H' xs os := ⟨h.1, fun i x o a b => K5S.Thing.same (h.2 i x o a b) s⟩
/-- the way of a file, or an Unreadable that tells where and what is awaited -/
def spStates (K : PySem.W.Frag) (C CU : Addr) : Sp := fun vs H Q E => ∃ (x a : Addr) (L : Lang) (xs : List V) (os : List (Option Str)), vs = [.ref x, .ref a] ∧ LangW C H x L ∧ SqL K H a xs ∧ Things K H xs os ∧ xs.length ≤ 900 ∧
  (∀ w, runL L "start" os = .inl w → ∀ l H', H l = none → Same H H' → H' l = some (.lst ((("start" : Str) :: w).map V.str)) → Q (.ref l) H') ∧
  (∀ k z, runL L "start" os = .inr (k, z) → z ∈ nine → ∀ d t H', H d = none → H t = none → Same H H' → H' t = some (.tup ((nextL L z).map V.str)) → H' d = some (.xd [(("awaited" : Str), .ref t), (("at" : Str), .int (k : Nat))]) → E (.ref CU) (some d) H')
end K5

namespace K5
open PySem L2
abbrev nStates : List Str := ["language", "file", "way", "state", "at", "thing", "following"]
section
variable {P : Program} {w : World} {K : PySem.W.Frag} {mg : Str → Option Value} {base : Heap} {C CU : Addr}
theorem scStates : FnScope nStates ["language", "file"] (defScope sStates) := ⟨rfl, rfl, rfl, by decide +kernel, rfl, by decide +kernel, by decide +kernel⟩
theorem ok_states {f fE fS fC fN : Addr} {fd fdS fdC fdN : FuncData} (F : Fun K "states" "states" sStates f fd) (T : Bare mg) (hE : mg "enumerate" = none) (S : LangC K mg C) (TE : K5U.ErrTxt P K mg CU fE)
    (GSort : Fn P w K mg base 3 "sort_of" ["thing"] (K5S.spSort K))
    (mS : Meth K C "step" fS) (GS : FnOk P w K mg base CX0 1 fS fdS ["self", "state", "sort"] (spStep C)) (bS : Binds K fdS ["self", "state", "sort"] [])
    (mC : Meth K C "closes" fC) (GC : FnOk P w K mg base CX0 1 fC fdC ["self", "state"] (spCloses C)) (bC : Binds K fdC ["self", "state"] [])
    (mN : Meth K C "next_sorts" fN) (GN : FnOk P w K mg base CX0 2 fN fdN ["self", "state"] (spNext C)) (bN : Binds K fdN ["self", "state"] []) :
    FnOk P w K mg base (L2.CX P w) 4 f fd ["language", "file"] (spStates K C CU) := by
  refine F.okX scStates (fun vs H Q E h => ?_) (fun cdv A outer s H vs Q E hr h => ?_)
  · obtain ⟨x, a, L, xs, os, rfl, _⟩ := h
    rfl
  · obtain ⟨x, a, L, xs, os, rfl, hL, ha, hT, hl9, q, qe⟩ := h
    have hr1 : Room 1 _ := hr.mono (by decide)
    have hr2 : Room 2 _ := hr.mono (by decide)
    refine ⟨_, C8.pss_cut (ps_set (i := 2) scStates.nd rfl (.inl rfl) (pe_lst (pa_cons pe_str pa_nil)))
      (C8.pss_cut (ps_set (i := 3) scStates.nd rfl (.inl rfl) pe_str)
      (C8.pss_cut (ps_for (passes_of rfl) rfl (pi_enum (by rfl) hE (pa_cons (pv 1) pa_nil)) (pg_tup (by rfl) (pgs_cons (pg_name (i := 4) scStates.nd rfl (.inl rfl)) (pgs_cons (pg_name (i := 5) scStates.nd rfl (.inl rfl)) pgs_nil)))
        (C8.pss_cut (ps_set (i := 6) scStates.nd rfl (.inl rfl) (pe_meth (pv 0) S.cl mS GS hr1 bS .nil pass0 (pa_cons (pv 3) (pa_cons (pe_fn GSort hr rfl (pa_cons (pv 5) pa_nil)) pa_nil))))
        (C8.pss_cut (ps_if (pt_cmpR op_isN1 (pv 6) pe_non (nomark _)) (pss_one (ps_raiseUnr rfl TE hr (takes_of rfl rfl rfl rfl) (pa_cons (pv 4) (pa_cons (pe_meth (pv 0) S.cl mN GN hr2 bN .nil pass0 (pa_cons (pv 3) pa_nil)) pa_nil)))) pss_nil)
        (C8.pss_cut (ps_set (i := 3) scStates.nd rfl (.inl rfl) (pv 6))
        (pss_one (ps_expr (pe_bm PySem.F.plainAttrs_list PySem.F.slot_list_append PySem.F.type_list_append mt_append (pv 2) (pa_cons (pv 3) pa_nil))))))))
      (C8.pss_cut (ps_if (pt_not (pt_val (pe_meth (pv 0) S.cl mC GC hr1 bC .nil pass0 (pa_cons (pv 3) pa_nil)))) (pss_one (ps_raiseUnr rfl TE hr (takes_of rfl rfl rfl rfl) (pa_cons (pe_callB call_len_seq (by rfl) T.len PySem.boot_len (pa_cons (pv 1) pa_nil)) (pa_cons (pe_meth (pv 0) S.cl mN GN hr2 bN .nil pass0 (pa_cons (pv 3) pa_nil)) pa_nil)))) pss_nil)
      (pss_one (ps_ret (pv 2)))))), ?_⟩
    obtain ⟨dx, t, wp, fs, hx, fl, ht, hw, wa, f1, f2, f3⟩ := id hL
    refine ⟨fun σ H' => ∃ l, σ = [some (.ref x), some (.ref a), some (.ref l), none, none, none, none] ∧ H' l = some (.lst [.str "start"]) ∧ H l = none ∧ Same H H', ?_, ?_⟩
    · exact ⟨by show 1 ≤ sizeLine; decide, fun l hl => ⟨l, rfl, upd_same, hl, Same.new (Same.refl H) hl⟩⟩
    rintro σ H1 ⟨l, rfl, h1, hl, s1⟩
    refine ⟨fun σ H' => σ = [some (.ref x), some (.ref a), some (.ref l), some (.str "start"), none, none, none] ∧ H' = H1, ⟨rfl, rfl⟩, ?_⟩
    rintro σ H1' ⟨rfl, rfl⟩
    refine ⟨fun σ H' => ∃ wy st v4 v5 v6, σ = [some (.ref x), some (.ref a), some (.ref l), some (.str st), v4, v5, v6] ∧ H' l = some (.lst (((("start" : Str) :: wy)).map V.str)) ∧ Sofar L os os.length wy st ∧ Same H H', ?_, ?_⟩
    · refine ⟨_, rfl, a, xs, rfl, s1.seq ha, for_it walk_enum (fun i σ H' => ∃ wy st v4 v5 v6, σ = [some (.ref x), some (.ref a), some (.ref l), some (.str st), v4, v5, v6] ∧ H' l = some (.lst (((("start" : Str) :: wy)).map V.str)) ∧ Sofar L os i wy st ∧ Same H H') ⟨[], "start", _, _, _, rfl, h1, Sofar.zero L os, s1⟩ (fun i σ H' _ ⟨_, _, _, _, _, _, _, _, s'⟩ => s'.seq ha) ?_ ?_⟩
      · rintro i y σ H2 H2' hi ⟨wy, st, v4, v5, v6, rfl, h2, so, s2⟩ ⟨U, u, z, rfl, hU, rfl, hu, hz⟩
        cases hu
        have s3 := Same.new (o := .tup [.int (i : Nat), z]) s2 hU
        have hl3 : upd H2 U (.tup [.int (i : Nat), z]) l = some (.lst (((("start" : Str) :: wy)).map V.str)) := by rw [upd_ne (ne_of_none h2 hU)]; exact h2
        obtain ⟨o, ho⟩ : ∃ o, os[i]? = some o := ⟨os[i]'(by have := hT.1; omega), List.getElem?_eq_getElem (by have := hT.1; omega)⟩
        refine ⟨U, _, rfl, SqT.of upd_same, rfl, _, _, rfl, _, _, rfl, rfl, ?_⟩
        refine ⟨fun σ H' => σ = [some (.ref x), some (.ref a), some (.ref l), some (.str st), some (.int (i : Nat)), some z, some (tokV (stepL L st (sortO o)))] ∧ H' l = some (.lst (((("start" : Str) :: wy)).map V.str)) ∧ Same H H', ?_, ?_⟩
        · refine ⟨_, rfl, x, dx, fs, rfl, s3 _ _ hx, f1, _, rfl, _, rfl, z, o, rfl, (hT.same s3).2 i z o hz ho, fun H3 s4 => ?_⟩
          rw [sort_eq]
          exact ⟨x, st, sortO o, L, rfl, hL.same (s3.trans s4), so.nin, rfl, s4 _ _ hl3, s3.trans s4⟩
        rintro σ H3 ⟨rfl, h3, s4⟩
        refine ⟨fun σ H' => ∃ s, σ = [some (.ref x), some (.ref a), some (.ref l), some (.str st), some (.int (i : Nat)), some z, some (.str s)] ∧ stepL L st (sortO o) = some s ∧ H' = H3, ?_, ?_⟩
        · refine ⟨_, rfl, rfl, _, rfl, ?_⟩
          cases e : stepL L st (sortO o) with
          | none =>
            refine iteT ⟨_, rfl, _, rfl, x, dx, fs, rfl, s4 _ _ hx, f3, _, rfl, x, st, L, rfl, hL.same s4, so.nin, fun t' H4 ht' s5 h4 => ⟨_, _, rfl, fun d hd => ?_⟩⟩
            have s6 := Same.new (o := .xd [(("awaited" : Str), .ref t'), (("at" : Str), .int (i : Nat))]) s5 hd
            exact qe i st (so.stop ho e) so.nin d t' _ (s4.free (s5.free hd)) (s4.free ht') (s4.trans s6) (by rw [upd_ne (ne_of_none h4 hd)]; exact h4) upd_same
          | some s => exact iteF ⟨s, rfl, rfl, rfl⟩
        rintro σ H4 ⟨s', rfl, hs', rfl⟩
        refine ⟨fun σ H' => σ = [some (.ref x), some (.ref a), some (.ref l), some (.str s'), some (.int (i : Nat)), some z, some (.str s')] ∧ H' = H4, ⟨_, rfl, rfl, rfl⟩, ?_⟩
        rintro σ H5 ⟨rfl, rfl⟩
        refine ⟨_, rfl, .inl ⟨rfl, _, SqL.of h3⟩, _, rfl, l, _, _, rfl, rfl, h3, ?_, wy ++ [s'], s', _, _, _, rfl, ?_, so.next ho hs', Same.put s4 hl⟩
        · rw [List.length_map, List.length_cons, so.len]
          exact line_ge (Nat.le_trans (show i + 1 + 1 ≤ 902 by omega) (by decide))
        · rw [upd_same, List.map_cons, List.map_cons, List.map_append]
          rfl
      · rintro σ H2 ⟨wy, st, v4, v5, v6, rfl, h2, so, s2⟩
        rw [hT.1] at so
        exact ⟨wy, st, v4, v5, v6, rfl, h2, so, s2⟩
    rintro σ H2 ⟨wy, st, v4, v5, v6, rfl, h2, so, s2⟩
    have dn := so.done
    refine ⟨fun σ H' => σ = [some (.ref x), some (.ref a), some (.ref l), some (.str st), v4, v5, v6] ∧ H' l = some (.lst (((("start" : Str) :: wy)).map V.str)) ∧ Same H H' ∧ runL L "start" os = .inl wy, ?_, ?_⟩
    · refine ⟨_, rfl, x, dx, fs, rfl, s2 _ _ hx, f2, _, rfl, x, st, L, rfl, hL.same s2, fun H3 s3 => ?_⟩
      cases e : closesL L st with
      | true =>
        rw [if_pos e] at dn
        exact ⟨true, rfl, iteF ⟨rfl, s3 _ _ h2, s2.trans s3, dn⟩⟩
      | false =>
        rw [if_neg (by rw [e]; decide)] at dn
        refine ⟨false, rfl, iteT ⟨_, rfl, a, xs, rfl, .inl ((s2.trans s3).seq ha), _, rfl, x, dx, fs, rfl, s3 _ _ (s2 _ _ hx), f3, _, rfl, x, st, L, rfl, hL.same (s2.trans s3), so.nin, fun t' H4 ht' s4 h4 => ⟨_, _, rfl, fun d hd => ?_⟩⟩⟩
        have s5 := s2.trans s3
        have s6 := Same.new (o := .xd [(("awaited" : Str), .ref t'), (("at" : Str), .int ((xs.length : Nat) : Int))]) s4 hd
        refine qe os.length st dn so.nin d t' _ (s5.free (s4.free hd)) (s5.free ht') (s5.trans s6) (by rw [upd_ne (ne_of_none h4 hd)]; exact h4) ?_
        rw [upd_same, hT.1]
    rintro σ H3 ⟨rfl, h3, s3, dn'⟩
    exact ⟨_, rfl, q wy dn' l H3 hl s3 h3⟩
end
end K5

/-! list(zip(xs, ys)) of two lists: a new list of new pairs -/
namespace LZ
open PySem PySem.Spec PyProof.Rows L2
theorem zip_no_len : typeLookup (.type "zip") "__len__" = pure none := by rw [typeLookup_type, builtinLookup_eq_fast]; kernel_rfl
theorem zip_no_hint : typeLookup (.type "zip") "__length_hint__" = pure none := by rw [typeLookup_type, builtinLookup_eq_fast]; kernel_rfl
/-- at the addresses as, which rise above lo, the pairs of xs and ys -/
structure PrG (xs ys : Array Value) (lo : Addr) (h : Heap) (as : List Addr) : Prop where
  rise : as.Pairwise (· < ·)
  above : ∀ a ∈ as, lo < a
  pairs : ∀ (j : Nat) (a : Addr), as[j]? = some a → ∃ x y, xs[j]? = some x ∧ ys[j]? = some y ∧ IsPair h a x y
theorem PrG.there {xs ys : Array Value} {lo : Addr} {h : Heap} {as : List Addr} (g : PrG xs ys lo h as) {a : Addr} (ha : a ∈ as) : a < h.objs.size := by
  obtain ⟨j, hj⟩ := List.mem_iff_getElem?.mp ha
  obtain ⟨_, _, _, _, e⟩ := g.pairs j a hj
  exact Heap.lt_size e
/-- a zip behind i pairs, the last of which may still be out -/
def ZSt (h : Heap) (z TI TO i1 i2 l1 l2 S : Addr) (xs ys : Array Value) (i : Nat) : Prop :=
  IsPair h TI (.ref i1) (.ref i2) ∧ h.IsListIter i1 l1 i ∧ h.IsListIter i2 l2 i ∧ h.IsList l1 xs ∧ h.IsList l2 ys ∧
  ((IsZip h z TI TO .none ∧ ∃ a b, IsPair h TO a b) ∨ ∃ T f oT, IsZipHeld h z TI TO T f ∧ h.get? T = some oT ∧ T ≠ z ∧ T ≠ i1 ∧ T ≠ i2 ∧ T ≠ S)
theorem ZSt.at {h h' : Heap} {z TI TO i1 i2 l1 l2 S : Addr} {xs ys : Array Value} {i : Nat} (st : ZSt h z TI TO i1 i2 l1 l2 S xs ys i) (nz : z ≠ S) (nTI : TI ≠ S) (nTO : TO ≠ S) (n1 : i1 ≠ S) (n2 : i2 ≠ S) (m1 : l1 ≠ S) (m2 : l2 ≠ S)
    (hk : ∀ b o, b ≠ S → h.get? b = some o → h'.get? b = some o) : ZSt h' z TI TO i1 i2 l1 l2 S xs ys i := by
  obtain ⟨hTI, h1, h2, hl1, hl2, hz⟩ := st
  refine ⟨hk _ _ nTI hTI, h1.at fun o e => hk _ o n1 e, h2.at fun o e => hk _ o n2 e, hl1.at fun o e => hk _ o m1 e, hl2.at fun o e => hk _ o m2 e, ?_⟩
  rcases hz with ⟨hz, a, b, hTO⟩ | ⟨T, f, oT, hz, hT, r1, r2, r3, r4⟩
  · exact .inl ⟨hk _ _ nz hz, a, b, hk _ _ nTO hTO⟩
  · exact .inr ⟨T, f, oT, hk _ _ nz hz, hk _ _ r4 hT, r1, r2, r3, r4⟩
section
variable {prog : Program} {w : World} {A : Around} {E : Value → Shared → Prop} {s : Shared}
theorem z_item {z TI TO i1 i2 l1 l2 S : Addr} {xs ys : Array Value} {i : Nat} {x y : Value} {Q : Option Value → Shared → Prop} (D : ZipApart z TI TO i1 i2 l1 l2) (st : ZSt s.heap z TI TO i1 i2 l1 l2 S xs ys i) (hS : S < s.heap.objs.size) (ex : xs[i]? = some x) (ey : ys[i]? = some y)
    (hQ : ∀ h', ZSt h' z TI TO i1 i2 l1 l2 S xs ys (i + 1) → IsPair h' s.heap.objs.size x y → (∀ c o, c ≠ z → c ≠ TO → c ≠ i1 → c ≠ i2 → s.heap.get? c = some o → h'.get? c = some o) → Q (some (.ref s.heap.objs.size)) { s with heap := h' }) :
    wpAny (model prog w) A (pyNext (.ref z)) Q E s := by
  obtain ⟨hTI, h1, h2, hl1, hl2, hz⟩ := st
  have lt : ∀ {c o}, s.heap.get? c = some o → s.heap.objs.size ≠ c := fun e => Nat.ne_of_gt (Heap.lt_size e)
  have n1 : s.heap.objs.size ≠ i1 := let ⟨_, e, _⟩ := h1; lt e
  have n2 : s.heap.objs.size ≠ i2 := let ⟨_, e, _⟩ := h2; lt e
  rcases hz with ⟨hz, a, b, hTO⟩ | ⟨T, f, oT, hz, hT, r1, r2, r3, r4⟩
  · refine wpAny_pyNext_zip_item D hz hTI hTO h1 h2 hl1 hl2 ex ey fun h' a1 a2 a3 a4 a5 a6 hk => ?_
    exact hQ h' ⟨hk _ _ D.TIz D.TITO D.TIi1 D.TIi2 hTI, a3, a4, hl1.at fun o e => hk _ o D.l1z D.l1TO D.l1i1 D.l1i2 e, hl2.at fun o e => hk _ o D.l2z D.l2TO D.l2i1 D.l2i2 e,
      .inr ⟨s.heap.objs.size, false, _, a1, a5, lt hz, n1, n2, Nat.ne_of_gt hS⟩⟩ a5 hk
  · refine wpAny_pyNext_zip_item_held D hz hT hTI h1 h2 hl1 hl2 ex ey fun h' a1 a3 a4 a5 a6 hk => ?_
    exact hQ h' ⟨hk _ _ D.TIz D.TIi1 D.TIi2 hTI, a3, a4, hl1.at fun o e => hk _ o D.l1z D.l1i1 D.l1i2 e, hl2.at fun o e => hk _ o D.l2z D.l2i1 D.l2i2 e,
      .inr ⟨T, true, oT, a1, hk _ _ r1 r2 r3 hT, r1, r2, r3, r4⟩⟩ a5 fun c o c1 _ c3 c4 e => hk c o c1 c3 c4 e
theorem z_done {z TI TO i1 i2 l1 l2 S : Addr} {xs ys : Array Value} {i : Nat} {Q : Option Value → Shared → Prop} (hh : A.handled = none) (D : ZipApart z TI TO i1 i2 l1 l2) (st : ZSt s.heap z TI TO i1 i2 l1 l2 S xs ys i) (hend : xs[i]? = none ∨ ys[i]? = none)
    (hQ : ∀ h', (∀ c o, c ≠ z → c ≠ TO → c ≠ i1 → c ≠ i2 → s.heap.get? c = some o → h'.get? c = some o) → Q none { s with heap := h' }) : wpAny (model prog w) A (pyNext (.ref z)) Q E s := by
  obtain ⟨hTI, h1, h2, hl1, hl2, hz⟩ := st
  rcases hz with ⟨hz, a, b, hTO⟩ | ⟨T, f, oT, hz, hT, r1, r2, r3, r4⟩
  · exact wpAny_pyNext_zip_end hh D hz hTI hTO h1 h2 hl1 hl2 hend hQ
  · exact wpAny_pyNext_zip_end_held hh D hz hT hTI h1 h2 hl1 hl2 hend fun h' hk => hQ h' fun c o c1 _ c3 c4 e => hk c o c1 c3 c4 e
end
section
variable {prog : Program} {w : World} {A : Around} {s : Shared} {R : Result → Shared → Prop}
theorem z_loop {S z TI TO i1 i2 l1 l2 : Addr} {xs ys : Array Value} {n : Nat} (hh : A.handled = none) (D : ZipApart z TI TO i1 i2 l1 l2) (nz : z < S) (nTI : TI < S) (nTO : TO < S) (n1 : i1 < S) (n2 : i2 < S) (m1 : l1 < S) (m2 : l2 < S) (hx : xs.size = n) (hy : n ≤ ys.size) (hn : n ≤ sizeLine) (res : Value) {h₁ : Heap}
    (hR : ∀ h' acc c as, (∀ b o, b ≠ S → b ≠ z → b ≠ TO → b ≠ i1 → b ≠ i2 → h₁.get? b = some o → h'.get? b = some o) → h'.get? S = some { cls := .type "list", dict := none, data := .seq acc c, slots := #[] } → as.length = n → PrG xs ys S h' as →
      acc.toList = as.map Value.ref → R (.ok (.ret res)) { s with heap := h' }) :
    ∀ (k i : Nat) (h : Heap) (c : Nat) (acc : Array Value) (as : List Addr), n - i = k → i ≤ n → ZSt h z TI TO i1 i2 l1 l2 S xs ys i → (∀ b o, b ≠ S → b ≠ z → b ≠ TO → b ≠ i1 → b ≠ i2 → h₁.get? b = some o → h.get? b = some o) →
      h.get? S = some { cls := .type "list", dict := none, data := .seq acc c, slots := #[] } → acc.toList = as.map Value.ref → as.length = i → PrG xs ys S h as →
      codeAny (model prog w) A (.builtin "list.extend.loop" ⟨[.ref S, .ref z, res], []⟩) R { s with heap := h } := by
  have eS : ∀ {b : Addr}, b < S → b ≠ S := fun h => Nat.ne_of_lt h
  intro k
  induction k with
  | zero =>
    intro i h c acc as hk hi hst hkeep hS hacc hal hG
    have hin : i = n := by omega
    refine codeAny_builtin PySem.F.entry_extend_loop ?_
    rw [Around.under_plainId PySem.F.plain_extend_loop _]
    show wpAny _ A.in1 (pyNext (.ref z) >>= _) _ _ _
    refine wpAny_bind (z_done (s := { s with heap := h }) (A := A.in1) hh D hst (.inl (Array.getElem?_eq_none (by omega))) fun h' he => ?_)
    refine wpAny_pure (hR h' acc c as (fun b o h1 h2 h3 h4 h5 e => he b o h2 h3 h4 h5 (hkeep b o h1 h2 h3 h4 h5 e)) (he S _ (Ne.symm (eS nz)) (Ne.symm (eS nTO)) (Ne.symm (eS n1)) (Ne.symm (eS n2)) hS) (by omega) ⟨hG.rise, hG.above, fun j a hj => ?_⟩ hacc)
    obtain ⟨x, y, e1, e2, e3⟩ := hG.pairs j a hj
    have hb := hG.above a (List.mem_of_getElem? hj)
    exact ⟨x, y, e1, e2, he a _ (Nat.ne_of_gt (Nat.lt_trans nz hb)) (Nat.ne_of_gt (Nat.lt_trans nTO hb)) (Nat.ne_of_gt (Nat.lt_trans n1 hb)) (Nat.ne_of_gt (Nat.lt_trans n2 hb)) e3⟩
  | succ k ih =>
    intro i h c acc as hk hi hst hkeep hS hacc hal hG
    have hlt : i < n := by omega
    have hsz : acc.size = i := by rw [← Array.length_toList, hacc, List.length_map, hal]
    have ex := Array.getElem?_eq_getElem (show i < xs.size by omega)
    have ey := Array.getElem?_eq_getElem (show i < ys.size by omega)
    refine codeAny_builtin PySem.F.entry_extend_loop ?_
    rw [Around.under_plainId PySem.F.plain_extend_loop _]
    show wpAny _ A.in1 (pyNext (.ref z) >>= _) _ _ _
    refine wpAny_bind (z_item (s := { s with heap := h }) (S := S) D hst (Heap.lt_size hS) ex ey fun h' hst' ht hkp => ?_)
    dsimp only at ht hkp ⊢
    have hS' := hkp S _ (Ne.symm (eS nz)) (Ne.symm (eS nTO)) (Ne.symm (eS n1)) (Ne.symm (eS n2)) hS
    have up : ∀ b o, b ≠ S → h'.get? b = some o → (h'.update S (Obj.mapSeq (·.push (Value.ref h.objs.size)))).get? b = some o := fun b o hb e => (Heap.get?_update_other _ _ (Ne.symm hb)).trans e
    have hSl : S < h.objs.size := Heap.lt_size hS
    show wpAny _ A.in1 (updateSeq S (·.push (Value.ref h.objs.size)) >>= _) _ _ _
    refine wpAny_bind ?_
    refine wpAny_updateSeq hS' rfl (wpAny_pure ⟨plainId_quiet PySem.F.plain_extend_loop _, ih (i + 1) _ _ (acc.push (Value.ref h.objs.size)) (as ++ [h.objs.size]) (by omega) hlt (hst'.at (eS nz) (eS nTI) (eS nTO) (eS n1) (eS n2) (eS m1) (eS m2) up)
      (fun b o h1 h2 h3 h4 h5 e => up b o h1 (hkp b o h2 h3 h4 h5 (hkeep b o h1 h2 h3 h4 h5 e))) (Heap.get?_update_self _ hS' rfl) (by rw [Array.toList_push, hacc, List.map_append]; rfl) (by rw [List.length_append, hal]; rfl) ⟨?_, ?_, ?_⟩⟩) (by rw [hsz]; omega) (by show (acc.push (Value.ref h.objs.size)).size ≤ sizeLine + 1; rw [Array.size_push, hsz]; omega)
    · refine List.pairwise_append.mpr ⟨hG.rise, List.pairwise_singleton _ _, fun a ha b hb => ?_⟩
      rw [List.mem_singleton.mp hb]
      exact hG.there ha
    · intro a ha
      rcases List.mem_append.mp ha with ha | ha
      · exact hG.above a ha
      · rw [List.mem_singleton.mp ha]; exact hSl
    · intro j b hj
      rcases Nat.lt_trichotomy j as.length with h1 | h1 | h1
      · rw [List.getElem?_append_left h1] at hj
        obtain ⟨x, y, e1, e2, e3⟩ := hG.pairs j b hj
        have hb := hG.above b (List.mem_of_getElem? hj)
        exact ⟨x, y, e1, e2, up b _ (Nat.ne_of_gt hb) (hkp b _ (Nat.ne_of_gt (Nat.lt_trans nz hb)) (Nat.ne_of_gt (Nat.lt_trans nTO hb)) (Nat.ne_of_gt (Nat.lt_trans n1 hb)) (Nat.ne_of_gt (Nat.lt_trans n2 hb)) e3)⟩
      · subst h1
        have hb : h.objs.size = b := by simpa using hj
        subst hb
        subst hal
        exact ⟨_, _, ex, ey, up _ _ (Nat.ne_of_gt hSl) ht⟩
      · have hnone : (as ++ [h.objs.size])[j]? = none := List.getElem?_eq_none (by rw [List.length_append, List.length_singleton]; omega)
        rw [hnone] at hj; cases hj
end
section
variable {prog : Program} {w : World} {A : Around} {E : Value → Shared → Prop} {s : Shared} {z TI TO i1 i2 l1 l2 : Addr} {xs ys : Array Value} {n : Nat}
theorem z_extend {R : Result → Shared → Prop} (hh : A.handled = none) (D : ZipApart z TI TO i1 i2 l1 l2) {S : Addr} (st : ZSt s.heap z TI TO i1 i2 l1 l2 S xs ys 0) (hz0 : IsZip s.heap z TI TO .none) (nz : z < S) (nTI : TI < S) (nTO : TO < S) (n1 : i1 < S) (n2 : i2 < S) (m1 : l1 < S) (m2 : l2 < S) (hx : xs.size = n) (hy : n ≤ ys.size) (hn : n ≤ sizeLine)
    (res : Value) (c₀ : Nat) (hS : s.heap.get? S = some { cls := .type "list", data := .seq #[] c₀ })
    (hR : ∀ h' acc c as, (∀ b o, b ≠ S → b ≠ z → b ≠ TO → b ≠ i1 → b ≠ i2 → s.heap.get? b = some o → h'.get? b = some o) → h'.get? S = some { cls := .type "list", dict := none, data := .seq acc c, slots := #[] } → as.length = n → PrG xs ys S h' as →
      acc.toList = as.map Value.ref → R (.ok (.ret res)) { s with heap := h' }) :
    wpAny (model prog w) A.in1 (Builtin.List.listExtendWith (.ref S) (.ref z) res)
      (fun fin s' => match fin with | .done f => R (.ok f) s' | .again c' => c'.quiet = true ∧ codeAny (model prog w) A c' R s') (fun e s' => R (.error e) s') s := by
  have eS : ∀ {b : Addr}, b < S → b ≠ S := fun h => Nat.ne_of_lt h
  have hT : s.TypeIs (.ref z) "zip" := ⟨_, hz0, rfl⟩
  unfold Builtin.List.listExtendWith
  refine wpAny_bind (wpAny_typeOf hT ?_)
  have h1 : Builtin.List.listSameRef (.ref S) (.ref z) = false := by simp [Builtin.List.listSameRef, Ne.symm (eS nz)]
  have h2 : (Value.type "zip" == Value.type "list") = false := by decide
  have h3 : (Value.type "zip" == Value.type "tuple") = false := by decide
  simp only [h1, h2, h3, Bool.or_false, Bool.false_eq_true, if_false]
  refine wpAny_bind (wpAny_pyIter_zip hz0 ?_)
  refine wpAny_bind (wpAny_holding ?_)
  unfold Builtin.List.listLengthHint
  refine wpAny_bind (wpAny_specialOf hT zip_no_len ?_)
  show wpAny _ A.in1 (specialOf (Value.ref z) (Str.ofString "__length_hint__") >>= _) _ _ _
  refine wpAny_bind (wpAny_specialOf hT zip_no_hint ?_)
  refine wpAny_pure ?_
  show wpAny _ A.in1 (rule "list.extend.makes-room" >>= fun _ => Builtin.List.listTouch (.ref S) >>= fun _ =>
    again (.builtin "list.extend.loop" ⟨[.ref S, .ref z, res], []⟩)) _ _ _
  refine wpAny_bind (wpAny_rule ?_)
  refine wpAny_bind ?_
  show wpAny _ A.in1 (updateSeq S (·.push .none) >>= fun _ => updateSeq S (·.pop)) _ _ _
  refine wpAny_bind (wpAny_updateSeq hS rfl ?_)
  have hS₂ := Heap.get?_update_self (Obj.mapSeq (·.push Value.none)) hS rfl
  refine wpAny_updateSeq (hz := by seq_fits) hS₂ rfl ?_
  have hS₃ := Heap.get?_update_self (Obj.mapSeq (·.pop)) hS₂ rfl
  have oth : ∀ b o, b ≠ S → s.heap.get? b = some o → ((s.heap.update S (Obj.mapSeq (·.push Value.none))).update S (Obj.mapSeq (·.pop))).get? b = some o :=
    fun b o hb e => (Heap.get?_update_other _ _ (Ne.symm hb)).trans ((Heap.get?_update_other _ _ (Ne.symm hb)).trans e)
  exact wpAny_pure ⟨plainId_quiet PySem.F.plain_extend_loop _, z_loop (s := s) (h₁ := s.heap) hh D nz nTI nTO n1 n2 m1 m2 hx hy hn res hR n 0 _ _ _ [] (Nat.sub_zero _) (Nat.zero_le _)
    (st.at (eS nz) (eS nTI) (eS nTO) (eS n1) (eS n2) (eS m1) (eS m2) oth) (fun b o hb _ _ _ _ e => oth b o hb e) hS₃ rfl rfl ⟨List.Pairwise.nil, (fun _ ha => nomatch ha), (fun j a hj => by simp at hj)⟩⟩
theorem z_init {R : Result → Shared → Prop} (hh : A.handled = none) (D : ZipApart z TI TO i1 i2 l1 l2) {S : Addr} (st : ZSt s.heap z TI TO i1 i2 l1 l2 S xs ys 0) (hz0 : IsZip s.heap z TI TO .none) (nz : z < S) (nTI : TI < S) (nTO : TO < S) (n1 : i1 < S) (n2 : i2 < S) (m1 : l1 < S) (m2 : l2 < S) (hx : xs.size = n) (hy : n ≤ ys.size) (hn : n ≤ sizeLine)
    (hS : s.heap.get? S = some { cls := .type "list", data := .seq #[] })
    (hR : ∀ h' acc c as, (∀ b o, b ≠ S → b ≠ z → b ≠ TO → b ≠ i1 → b ≠ i2 → s.heap.get? b = some o → h'.get? b = some o) → h'.get? S = some { cls := .type "list", dict := none, data := .seq acc c, slots := #[] } → as.length = n → PrG xs ys S h' as →
      acc.toList = as.map Value.ref → R (.ok (.ret .none)) { s with heap := h' }) :
    wpAny (model prog w) A.in1 (Builtin.«list.__init__» ⟨[.ref S, .ref z], []⟩)
      (fun fin s' => match fin with | .done f => R (.ok f) s' | .again c' => c'.quiet = true ∧ codeAny (model prog w) A c' R s') (fun e s' => R (.error e) s') s := by
  have eS : ∀ {b : Addr}, b < S → b ≠ S := fun h => Nat.ne_of_lt h
  show wpAny _ _ (do let old ← Builtin.List.listItems (.ref S); Builtin.List.listUpdate (.ref S) (fun _ => #[]); letGo old.toList.reverse; Builtin.List.listExtendWith (.ref S) (.ref z) .none) _ _ s
  refine wpAny_bind ?_
  unfold Builtin.List.listItems
  refine wpAny_bind (wpAny_seqItems hS rfl (wpAny_pure ?_))
  show wpAny _ _ (updateSeq S (fun _ => #[]) >>= fun _ => letGo (#[] : Array Value).toList.reverse >>= fun _ => Builtin.List.listExtendWith (.ref S) (.ref z) .none) _ _ s
  refine wpAny_bind (wpAny_updateSeq hS rfl ?_)
  have hS₂ := Heap.get?_update_self (Obj.mapSeq (fun _ => (#[] : Array Value))) hS rfl
  have oth : ∀ b o, b ≠ S → s.heap.get? b = some o → (s.heap.update S (Obj.mapSeq (fun _ => (#[] : Array Value)))).get? b = some o :=
    fun b o hb e => (Heap.get?_update_other _ _ (Ne.symm hb)).trans e
  refine wpAny_bind (wpAny_letGo ?_)
  exact z_extend hh D (st.at (eS nz) (eS nTI) (eS nTO) (eS n1) (eS n2) (eS m1) (eS m2) oth) (oth _ _ (eS nz) hz0) nz nTI nTO n1 n2 m1 m2 hx hy hn .none _ hS₂ fun h' acc c as hk hS' hl hG hacc =>
    hR h' acc c as (fun b o hb h2 h3 h4 h5 e => hk b o hb h2 h3 h4 h5 (oth b o hb e)) hS' hl hG hacc
/-- list(z), z a zip that was just made -/
theorem z_call {Q : Value → Shared → Prop} (hh : A.handled = none) (D : ZipApart z TI TO i1 i2 l1 l2) (hz0 : IsZip s.heap z TI TO .none) (hTI : IsPair s.heap TI (.ref i1) (.ref i2)) (hTO : ∃ a b, IsPair s.heap TO a b) (h1 : s.heap.IsListIter i1 l1 0) (h2 : s.heap.IsListIter i2 l2 0) (hl1 : s.heap.IsList l1 xs) (hl2 : s.heap.IsList l2 ys) (hx : xs.size = n) (hy : n ≤ ys.size) (hn : n ≤ sizeLine)
    (hQ : ∀ h' acc c as, (∀ b o, b ≠ z → b ≠ TO → b ≠ i1 → b ≠ i2 → s.heap.get? b = some o → h'.get? b = some o) → h'.get? s.heap.objs.size = some { cls := .type "list", dict := none, data := .seq acc c, slots := #[] } → as.length = n → PrG xs ys s.heap.objs.size h' as →
      acc.toList = as.map Value.ref → Q (.ref s.heap.objs.size) { s with heap := h' }) :
    wpAny (model prog w) A (call (.type "list") [.ref z]) Q E s := by
  obtain ⟨a, b, hTO⟩ := hTO
  have nz : z < s.heap.objs.size := Heap.lt_size hz0
  have nTI : TI < s.heap.objs.size := Heap.lt_size hTI
  have nTO : TO < s.heap.objs.size := Heap.lt_size hTO
  have n1 : i1 < s.heap.objs.size := let ⟨_, e, _⟩ := h1; Heap.lt_size e
  have n2 : i2 < s.heap.objs.size := let ⟨_, e, _⟩ := h2; Heap.lt_size e
  have m1 : l1 < s.heap.objs.size := let ⟨_, e, _⟩ := hl1; Heap.lt_size e
  have m2 : l2 < s.heap.objs.size := let ⟨_, e, _⟩ := hl2; Heap.lt_size e
  refine callType_codes (Q₁ := fun obj s₁ => obj = .ref s.heap.objs.size ∧ s₁ = { s with heap := s.heap.push { cls := .type "list", data := .seq #[] } }) PySem.F.called_list (PySem.F.typeCall_list_1 _) PySem.F.entry_list_init
    (code_list_new _ ⟨rfl, rfl⟩) fun obj s₁ h₁ => ?_
  obtain ⟨rfl, rfl⟩ := h₁
  have hS : (s.heap.push { cls := .type "list", data := .seq #[] }).get? s.heap.objs.size = some { cls := .type "list", data := .seq #[] } := Heap.get?_push_size _ rfl
  have st : ZSt (s.heap.push { cls := .type "list", data := .seq #[] }) z TI TO i1 i2 l1 l2 s.heap.objs.size xs ys 0 :=
    ⟨Heap.get?_push_of_some _ hTI, h1.at fun o e => Heap.get?_push_of_some _ e, h2.at fun o e => Heap.get?_push_of_some _ e, hl1.at fun o e => Heap.get?_push_of_some _ e, hl2.at fun o e => Heap.get?_push_of_some _ e, .inl ⟨Heap.get?_push_of_some _ hz0, a, b, Heap.get?_push_of_some _ hTO⟩⟩
  refine ⟨⟨_, hS, rfl⟩, PySem.F.args_list_init_2 _ _, z_init (A := A.in1) hh D st (Heap.get?_push_of_some _ hz0) nz nTI nTO n1 n2 m1 m2 hx hy hn hS fun h' acc c as hk hS' hl hG hacc => ?_⟩
  exact ⟨rfl, hQ h' acc c as (fun b o h1 h2 h3 h4 e => hk b o (Nat.ne_of_lt (Heap.lt_size e)) h1 h2 h3 h4 (Heap.get?_push_of_some _ e)) hS' hl hG hacc⟩
end
/-- new pairs at the addresses -/
def putP (H : Hp) : List Addr → List (V × V) → Hp
  | a :: as, p :: ps => upd (putP H as ps) a (.tup [p.1, p.2])
  | _, _ => H
theorem putP_off {H : Hp} {b : Addr} : ∀ (as : List Addr) (ps : List (V × V)), b ∉ as → putP H as ps b = H b
  | [], _, _ => by unfold putP; rfl
  | _ :: _, [], _ => by unfold putP; rfl
  | a :: as, p :: ps, h => by
    unfold putP
    rw [upd_ne fun z : b = a => h (by rw [z]; exact List.mem_cons_self)]
    exact putP_off as ps fun z => h (List.mem_cons_of_mem _ z)
theorem putP_at {H : Hp} : ∀ (as : List Addr) (ps : List (V × V)) (j : Nat) (t : Addr) (p : V × V), as.Nodup → as[j]? = some t → ps[j]? = some p → putP H as ps t = some (.tup [p.1, p.2])
  | [], _, _, _, _, _, h, _ => by cases h
  | _ :: _, [], _, _, _, _, _, h => by cases h
  | a :: as, q :: ps, 0, t, p, _, h1, h2 => by
    cases h1
    cases h2
    unfold putP
    exact upd_same
  | a :: as, q :: ps, j + 1, t, p, nd, h1, h2 => by
    have h1 : as[j]? = some t := h1
    have nd := List.nodup_cons.mp nd
    unfold putP
    rw [upd_ne fun z : t = a => nd.1 (by rw [← z]; exact List.mem_of_getElem? h1)]
    exact putP_at as ps j t p nd.2 h1 h2
section
variable {X : Cx}
theorem pairs_laid {pins : List (Addr × Obj)} {σ : L2.St} {H : Hp} {s : Shared} {h' : Heap} {acc : Array Value} {c : Nat} {as : List Addr} {S : Addr} {xs ys : List V} {vx vy : List Value} (I : Inv X pins σ H s) (hSn : s.heap.objs.size ≤ S) (rx : Vals xs vx) (ry : Vals ys vy) (hlen : xs.length ≤ sizeLine) (hly : xs.length ≤ ys.length)
    (hk : ∀ b o, s.heap.get? b = some o → h'.get? b = some o) (hS : h'.get? S = some { cls := .type "list", dict := none, data := .seq acc c, slots := #[] }) (hl : as.length = xs.length) (hG : PrG vx.toArray vy.toArray S h' as) (hacc : acc.toList = as.map Value.ref) :
    ∃ H' : Hp, Same H H' ∧ H S = none ∧ (∀ t ∈ as, H t = none) ∧ S ∉ as ∧ as.Nodup ∧ H' S = some (.lst (as.map V.ref)) ∧ (∀ (j : Nat) (t : Addr) (x y : V), as[j]? = some t → xs[j]? = some x → ys[j]? = some y → H' t = some (.tup [x, y])) ∧ Inv X pins σ H' { s with heap := h' } := by
  have hSa : S ∉ as := fun z => Nat.lt_irrefl _ (hG.above _ z)
  have nd : as.Nodup := List.Pairwise.imp (fun {a b} (h : a < b) => Nat.ne_of_lt h) hG.rise
  have new : ∀ t ∈ as, H t = none := fun t ht => I.hok.fresh (Nat.le_trans hSn (Nat.le_of_lt (hG.above t ht)))
  have newS : H S = none := I.hok.fresh hSn
  have off : ∀ b, b ∉ as → b ≠ S → putP (upd H S (.lst (as.map V.ref))) as (xs.zip ys) b = H b := fun b h1 h2 => by rw [putP_off as _ h1, upd_ne h2]
  have low : ∀ b o, s.heap.get? b = some o → b ∉ as ∧ b ≠ S := fun b o e => ⟨fun z => absurd (Heap.lt_size e) (Nat.not_lt.mpr (Nat.le_trans hSn (Nat.le_of_lt (hG.above b z)))), Nat.ne_of_lt (Nat.lt_of_lt_of_le (Heap.lt_size e) hSn)⟩
  have kp : ∀ b u, H b = some u → (putP (upd H S (.lst (as.map V.ref))) as (xs.zip ys)) b = some u := fun b u e => by
    rw [off b (fun z => by rw [new b z] at e; cases e) (fun z => by rw [z, newS] at e; cases e)]
    exact e
  have eS : putP (upd H S (.lst (as.map V.ref))) as (xs.zip ys) S = some (.lst (as.map V.ref)) := by rw [putP_off as _ hSa, upd_same]
  have atP : ∀ j t x y, as[j]? = some t → xs[j]? = some x → ys[j]? = some y → putP (upd H S (.lst (as.map V.ref))) as (xs.zip ys) t = some (.tup [x, y]) := fun j t x y e1 e2 e3 =>
    putP_at as _ j t (x, y) nd e1 (by rw [List.getElem?_zip_eq_some]; exact ⟨e2, e3⟩)
  refine ⟨putP (upd H S (.lst (as.map V.ref))) as (xs.zip ys), kp, newS, new, hSa, nd, eS, atP, ?_⟩
  refine I.call' (ch := []) rfl ⟨fun b o q _ _ _ => hk b o q, fun b o q _ _ _ => ⟨o.slots, hk b o q⟩, fun b o q n _ => ?_, fun b o q _ => ⟨o, hk b o q⟩, fun b xs q => kp b _ q, fun b o u q => kp b _ q, fun b ps q => ⟨#[], by rw [kp b _ q]; simp⟩⟩ (fun b u q => ?_) I.bare fun b z => by simp at z
  · obtain ⟨z1, z2⟩ := low b o q
    rw [off b z1 z2]
    exact n
  · by_cases hb : b ∈ as
    · obtain ⟨j, e1⟩ := List.mem_iff_getElem?.mp hb
      have hj : j < as.length := (List.getElem?_eq_some_iff.mp e1).1
      have ex := List.getElem?_eq_getElem (show j < xs.length by omega)
      have ey := List.getElem?_eq_getElem (show j < ys.length by omega)
      rw [atP j b _ _ e1 ex ey] at q
      cases q
      obtain ⟨x, y, f1, f2, f3⟩ := hG.pairs j b e1
      obtain ⟨u, hu, ru⟩ := rx.get ex
      obtain ⟨u2, hu2, ru2⟩ := ry.get ey
      have f1 : vx[j]? = some x := by simpa using f1
      have f2 : vy[j]? = some y := by simpa using f2
      rw [hu] at f1
      rw [hu2] at f2
      cases f1
      cases f2
      exact ⟨by show 2 ≤ sizeLine; decide, [x, y], .cons ru (.cons ru2 .nil), ⟨_, f3, rfl, _, rfl⟩⟩
    · by_cases hb2 : b = S
      · rw [hb2] at q ⊢
        rw [eS] at q
        cases q
        refine ⟨by rw [List.length_map]; omega, acc.toList, c, by rw [hacc]; exact LiI.vals_refs as, ?_⟩
        rw [Array.toArray_toList]
        exact hS
      · rw [off b hb hb2] at q
        exact (I.hok b u q).stay (fun d v _ y => hk d v y) (fun d y => kp d _ y) fun d xs y => kp d _ y
def tListZip (K : PySem.W.Frag) (ta : TA) : TE := fun σ H Q => ta σ H fun vs H1 => ∃ (a b : Addr) (xs ys : List V), vs = [.ref a, .ref b] ∧ SqL K H1 a xs ∧ SqL K H1 b ys ∧ xs.length ≤ ys.length ∧
  ∀ (H' : Hp) (p : Addr) (ts : List Addr), Same H1 H' → H1 p = none → (∀ t ∈ ts, H1 t = none) → p ∉ ts → ts.Nodup → ts.length = xs.length → H' p = some (.lst (ts.map V.ref)) → (∀ (j : Nat) (t : Addr) (x y : V), ts[j]? = some t → xs[j]? = some x → ys[j]? = some y → H' t = some (.tup [x, y])) → Q (.ref p) H'
theorem pe_listZip {e e2 : Expr} {ta : TA} {p p2 cpos pos : Pos} (hc : X.calm = true) (ha : PA X [e, e2] ta) (hg : Gl X "list") (hm : X.mg "list" = none) (hg2 : Gl X "zip") (hm2 : X.mg "zip" = none) (hv : bootBuiltins "list" = some (.type "list"))
    (hs : starEach [.Call (.Name "zip" p2) [e, e2] [] cpos] X.env = (false, eval (.Call (.Name "zip" p2) [e, e2] [] cpos) X.env) :: starEach [] X.env := by rfl)
    (hs2 : starEach [e, e2] X.env = (false, eval e X.env) :: starEach [e2] X.env := by rfl) (hpl : (backTo cpos (starEach [e2] X.env)).any (·.1) = false := by rfl) :
    PE X (.Call (.Name "list" p) [.Call (.Name "zip" p2) [e, e2] [] cpos] [] pos) (tListZip X.K ta) := by
  refine ⟨fun pins s σ H Q I hq => ?_⟩
  unfold tListZip at hq
  refine wpAny_Call_Name_kw (ld_blt I hg hm hv ?_)
  refine PyProof.Rows.callWith_type1 ?_ hs rfl
  rw [hs]
  show wpAny _ _ (spliced ((false, eval (.Call (.Name "zip" p2) [e, e2] [] cpos) X.env) :: backTo pos (starEach [] X.env))) _ _ s
  refine Calls.spliced_cons ?_
  refine wpAny_Call_Name_kw (ld_blt I hg2 hm2 PyProof.Rows.boot_zip (PyProof.Rows.callWith_type1 (thn (ha.run cpos pins s σ H _ I hq) fun us s1 ⟨vs, H1, I1, r1, q1⟩ => ?_) hs2 hpl))
  obtain ⟨a, b, xs, ys, ex, hqx, hqy, hxy, q⟩ := q1
  subst ex
  cases r1 with
  | cons r rr =>
    cases rr with
    | cons r' rr =>
      cases rr
      cases r
      cases r'
      obtain ⟨its, rv, p1, hlx⟩ := I1.list hqx
      obtain ⟨its2, rv2, p2, hly⟩ := I1.list hqy
      have la : a < s1.heap.objs.size := p1.lt
      have lb : b < s1.heap.objs.size := p2.lt
      have lx : its.length = xs.length := rv.length.symm
      have ly : its2.length = ys.length := rv2.length.symm
      refine call_zip_2 p1.isList p2.isList fun h' hz hTI hTO h1 h2 hsz hk => ?_
      refine Calls.spliced_nil ?_
      have up : ∀ {b o}, s1.heap.get? b = some o → b < s1.heap.objs.size := fun e => Heap.lt_size e
      refine z_call (n := its.length) (I1.ok.hd hc) (PySem.W.ktu_apart s1.heap.objs.size a b la lb) hz hTI ⟨_, _, hTO⟩ h1 h2 (p1.isList.at fun o e => hk _ o e) (p2.isList.at fun o e => hk _ o e) (by simp) (by simp; omega) (by have := hlx; omega) fun h'' acc c as hk2 hS hl hG hacc => ?_
      obtain ⟨H', sm, k2, k3, k4, nd, k5, k6, J⟩ := pairs_laid (X := X) I1 (S := h'.objs.size) (by rw [hsz]; omega) rv rv2 (by have := hlx; omega) hxy (fun b o e => have hb : b < s1.heap.objs.size := Heap.lt_size e; hk2 b o (Nat.ne_of_lt (Nat.lt_of_lt_of_le hb (Nat.le_add_right _ _))) (Nat.ne_of_lt (Nat.lt_of_lt_of_le hb (Nat.le_add_right _ _))) (Nat.ne_of_lt hb) (Nat.ne_of_lt (Nat.lt_of_lt_of_le hb (Nat.le_add_right _ _))) (hk b o e)) hS (hl.trans lx) hG hacc
      exact ⟨.ref _, H', J, rfl, q H' _ as sm k2 k3 k4 nd (hl.trans lx) k5 k6⟩
end
end LZ

namespace K5
open PySem L2
abbrev sSpans : Stmt := top 20
abbrev nSpans : List Str := ["way", "firsts", "at", "state"]
/-- where entries begin -/
def isFirst (w : List Str) (i : Nat) : Bool := decide (w[i]? = some ("name" : Str))
def firstsL (w : List Str) : List Nat := (List.range w.length).filter (isFirst w)
def behindsL (w : List Str) : List Nat := (firstsL w).drop 1 ++ [w.length]
def natsV (l : List Nat) : List V := l.map fun i => V.int (i : Nat)
/-- the spans in the heap -/
def SpansAt (H : Hp) (p : Addr) (ts : List Addr) (w : List Str) : Prop := H p = some (.lst (ts.map V.ref)) ∧ ts.length = (firstsL w).length ∧
  ∀ (j : Nat) (t : Addr) (x y : Nat), ts[j]? = some t → (firstsL w)[j]? = some x → (behindsL w)[j]? = some y → H t = some (.tup [.int (x : Nat), .int (y : Nat)])
def spSpansOf (K : PySem.W.Frag) : Sp := fun vs H Q _ => ∃ (a : Addr) (w : List Str), vs = [.ref a] ∧ SqL K H a ((("start" : Str) :: w).map V.str) ∧ w.length ≤ 900 ∧
  ∀ (H' : Hp) (p : Addr) (ts : List Addr), Same H H' → H p = none → SpansAt H' p ts w → Q (.ref p) H'
theorem firsts_len (w : List Str) : (firstsL w).length ≤ w.length := by
  unfold firstsL
  exact Nat.le_trans (List.length_filter_le _ _) (by rw [List.length_range]; exact Nat.le_refl _)
theorem cut_one (xs : List V) : cutV xs (some 1) none = xs.drop 1 := by
  cases xs with
  | nil => rfl
  | cons x xs =>
    simp [cutV, HT.sIx]
theorem str_at {w : List Str} {i : Nat} {z : V} (h : (w.map V.str)[i]? = some z) : ∃ st, w[i]? = some st ∧ z = .str st := by
  rw [List.getElem?_map] at h
  cases e : w[i]? with
  | none => rw [e] at h; cases h
  | some st => rw [e] at h; exact ⟨st, rfl, (Option.some.inj h).symm⟩
section
variable {P : Program} {w : World} {K : PySem.W.Frag} {mg : Str → Option Value} {base : Heap}
theorem scSpans : FnScope nSpans ["way"] (defScope sSpans) := ⟨rfl, rfl, rfl, by decide +kernel, rfl, by decide +kernel, by decide +kernel⟩
theorem ok_spansOf {f : Addr} {fd : FuncData} (F : Fun K "spans_of" "spans_of" sSpans f fd) (T : Bare mg) (hE : mg "enumerate" = none) (hZ : mg "zip" = none) :
    FnOk P w K mg base CX0 1 f fd ["way"] (spSpansOf K) := by
  refine F.ok scSpans (fun vs H Q E h => ?_) (fun cdv A outer s H vs Q E hr h => ?_)
  · obtain ⟨a, wy, rfl, _⟩ := h
    rfl
  · obtain ⟨a, wy, rfl, ha, hl, q⟩ := h
    refine ⟨_, C8.pss_cut (ps_setLc (i := 1) (own := [("at", 2), ("state", 3)]) (g := gTup K 2 (gCons (gName 2) (gCons (gName 3) gNil))) (tt := tTest (tOp rEq (tVar 3) (tC (.str "name")))) (te := tVar 2) (by rfl) scSpans.nd rfl rfl (sw_true rfl rfl rfl (by decide +kernel))
        (pi_enum (by rfl) hE (pa_cons (pe_slice sl_list (pv 0) (po_some pe_int) po_none) pa_nil))
        (blkOk_by (own := [("at", 2), ("state", 3)]) (N := nSpans) (sc := defScope sSpans) (by decide +kernel))
        (fun _ _ _ _ _ => pg_tup (by rfl) (pgs_cons (pg_name (i := 2) scSpans.nd rfl (Or.inl rfl)) (pgs_cons (pg_name (i := 3) scSpans.nd rfl (Or.inl rfl)) pgs_nil)))
        (fun _ _ _ _ _ => pts_one (pt_cmpR op_eq (pv 3) pe_str (nomark _))) (fun _ _ _ _ _ => pv 2))
      (pss_one (ps_ret (LZ.pe_listZip rfl (pa_cons (pv 1) (pa_cons (pe_lst (StX.pa_star (pe_slice sl_list (pv 1) (po_some pe_int) po_none) (pa_cons (pe_op op_sub (pe_callB call_len_seq (by rfl) T.len PySem.boot_len (pa_cons (pv 0) pa_nil)) pe_int) pa_nil))) pa_nil)) (by rfl) T.list (by rfl) hZ (by decide +kernel)))), ?_⟩
    have s0 := Same.refl H
    refine ⟨fun σ H' => ∃ D, σ = [some (.ref a), some (.ref D), none, none] ∧ H' D = some (.lst (natsV (firstsL wy))) ∧ Same H H' ∧ H D = none, ?_, ?_⟩
    · refine ⟨_, rfl, 1, rfl, a, _, rfl, ha, fun l hl => ?_⟩
      have e1 : upd H l (.lst (cutV ((("start" : Str) :: wy).map V.str) (some 1) none)) l = some (.lst (wy.map V.str)) := by
        rw [upd_same]
        rw [cut_one]
        rfl
      have s1 := Same.new (o := .lst (cutV ((("start" : Str) :: wy).map V.str) (some 1) none)) s0 hl
      refine ⟨l, wy.map V.str, rfl, SqL.of e1, fun D hD => ?_⟩
      refine lc_it walk_enum (fun i H' => Same (upd H l (.lst (cutV ((("start" : Str) :: wy).map V.str) (some 1) none))) H' ∧ H' D = some (.lst (natsV ((List.range i).filter (isFirst wy))))) ⟨Same.new (Same.refl _) hD, upd_same⟩ (fun i H' _ ⟨s', _⟩ => SqL.of (s' _ _ e1)) ?_ ?_
      · rintro i x H1 H2 hi ⟨s2, h2⟩ ⟨U, u, z, rfl, hU, rfl, hu, hz⟩
        cases hu
        obtain ⟨st, hst, rfl⟩ := str_at hz
        have hi' : i < wy.length := (List.getElem?_eq_some_iff.mp hst).1
        have s3 := Same.new (o := .tup [.int (i : Nat), .str st]) s2 hU
        have h2' : upd H1 U (.tup [.int (i : Nat), .str st]) D = some (.lst (natsV ((List.range i).filter (isFirst wy)))) := by rw [upd_ne (ne_of_none h2 hU)]; exact h2
        have p1 : isFirst wy i = decide (st = "name") := by unfold isFirst; rw [hst]; simp
        refine ⟨U, _, rfl, SqT.of upd_same, rfl, _, _, rfl, _, _, rfl, rfl, rfl, ?_⟩
        refine ⟨_, rfl, rfl, _, rfl, ?_⟩
        show if decide (V.str st = V.str "name") = true then _ else _
        rw [eq_strB]
        by_cases c : st = "name"
        · rw [decide_eq_true c]
          refine iteT ⟨_, rfl, _, h2', ?_, Same.put s3 hD, ?_⟩
          · unfold natsV
            rw [List.length_map]
            exact Nat.lt_of_le_of_lt (Nat.le_trans (List.length_filter_le _ _) (by rw [List.length_range]; omega : (List.range i).length ≤ 900)) (by decide)
          · rw [upd_same, List.range_succ, List.filter_append, List.filter_cons_of_pos (by rw [p1, decide_eq_true c]), List.filter_nil]
            unfold natsV
            rw [List.map_append]
            rfl
        · rw [decide_eq_false c]
          refine iteF ⟨s3, ?_⟩
          rw [List.range_succ, List.filter_append, List.filter_cons_of_neg (by rw [p1, decide_eq_false c]; decide), List.filter_nil, List.append_nil]
          exact h2'
      · rintro H1 ⟨s2, h2⟩
        rw [List.length_map] at h2
        exact ⟨D, rfl, h2, s1.trans s2, s1.free hD⟩
    rintro σ H1 ⟨D, rfl, h1, s1, hD⟩
    have fl := firsts_len wy
    refine ⟨_, rfl, _, rfl, 1, rfl, D, _, rfl, SqL.of h1, fun L hL => ?_⟩
    have s2 := Same.new (o := .lst (cutV (natsV (firstsL wy)) (some 1) none)) (Same.refl H1) hL
    refine ⟨L, _, rfl, .inr (SqL.of upd_same), _, rfl, a, _, rfl, .inl ((s1.trans s2).seq ha), _, _, rfl, rfl, ?_⟩
    have ec : cutV (natsV (firstsL wy)) (some 1) none = natsV ((firstsL wy).drop 1) := by
      rw [cut_one]
      unfold natsV
      rw [List.map_drop]
    have el : (((((("start" : Str) :: wy).map V.str).length : Nat) : Int) - 1) = (wy.length : Nat) := by
      rw [List.length_map, List.length_cons]; omega
    have eb : cutV (natsV (firstsL wy)) (some 1) none ++ [V.int (((((("start" : Str) :: wy).map V.str).length : Nat) : Int) - 1)] = natsV (behindsL wy) := by
      rw [ec, el]
      unfold behindsL natsV
      rw [List.map_append]
      rfl
    show _ ≤ _ ∧ _
    rw [eb]
    refine ⟨?_, fun M hM => ?_⟩
    · unfold natsV behindsL
      rw [List.length_map, List.length_append, List.length_drop]
      exact line_ge (by show (firstsL wy).length - 1 + 1 ≤ 1000000; omega)
    have s3 := Same.new (o := .lst (natsV (behindsL wy))) s2 hM
    refine ⟨D, M, _, _, rfl, SqL.of (s3 _ _ h1), SqL.of upd_same, ?_, fun H' p ts sm hp _ _ _ hts hpp hpa => ?_⟩
    · unfold natsV behindsL
      rw [List.length_map, List.length_map, List.length_append, List.length_drop]
      show _ ≤ (firstsL wy).length - 1 + 1
      omega
    · refine q H' p ts (s1.trans (s3.trans sm)) (s1.free (s3.free hp)) ⟨hpp, ?_, fun j t x y e1 e2 e3 => ?_⟩
      · rw [hts]
        unfold natsV
        rw [List.length_map]
      · refine hpa j t _ _ e1 ?_ ?_
        · unfold natsV
          rw [List.getElem?_map, e2]
          rfl
        · unfold natsV
          rw [List.getElem?_map, e3]
          rfl
end
end K5

namespace K5
open PySem L2
abbrev sSingle : Stmt := top 22
/-- values of entries -/
inductive Val where
  | word (z : Str)
  | num (n : Int)
  | lst (ms : List Str)
  | non
def VAt (H : Hp) (v : V) : Val → Prop
  | .word z => v = .str z
  | .num n => v = .int n
  | .non => v = .non
  | .lst ms => ∃ t, v = .ref t ∧ H t = some (.tup (ms.map V.str))
theorem VAt.same {H H' : Hp} {v : V} {x : Val} (h : VAt H v x) (s : Same H H') : VAt H' v x := by
  cases x with
  | lst ms =>
    obtain ⟨t, e, h⟩ := h
    exact ⟨t, e, s _ _ h⟩
  | word z => exact h
  | num n => exact h
  | non => exact h
def numV (z : Str) : Int := (PySem.intText? z).getD 0
/-- the value that is whole with a token -/
def single (z : Str) (ms : List Str) : Val := if z = "]" then .lst ms else if K5S.sortV z = .str "number" then .num (numV z) else .word z
def spSingle (K : PySem.W.Frag) : Sp := fun vs H Q _ => ∃ (z : Str) (m : Addr) (ms : List Str), vs = [.str z, .ref m] ∧ z.length ≤ sizeLine ∧ SqL K H m (ms.map V.str) ∧ ∀ v H', Same H H' → VAt H' v (single z ms) → Q v H'
theorem num_text {z : Str} (h : K5S.sortV z = .str "number") : PySem.intText? z = some (numV z) ∧ z.length ≤ 640 := by
  have hn : K5S.inAll z K5S.cDigits = true := by
    unfold K5S.sortV at h
    by_cases h1 : z ∈ K5S.signs
    · rw [if_pos h1] at h
      have : z = "number" := V.str.inj h
      rw [this] at h1
      exact absurd h1 (by decide +kernel)
    · rw [if_neg h1] at h
      by_cases h2 : K5S.inAll z K5S.cLetters = true
      · rw [if_pos h2] at h
        exact absurd (V.str.inj h) (by decide +kernel)
      · rw [if_neg h2] at h
        by_cases h3 : K5S.numOk z = true
        · unfold K5S.numOk at h3
          exact (Bool.and_eq_true_iff.mp h3).1
        · rw [if_neg h3] at h
          cases h
  unfold K5S.inAll at hn
  simp only [Bool.and_eq_true, decide_eq_true_eq] at hn
  obtain ⟨⟨l1, l2⟩, l3⟩ := hn
  have hd : PySem.NumText.AllDigits z.cps.toList := fun c hc => by
    have m := of_decide_eq_true (List.all_eq_true.mp l3 c hc)
    have e : K5S.cDigits.cps.toList = [48, 49, 50, 51, 52, 53, 54, 55, 56, 57] := by decide +kernel
    rw [e] at m
    simp only [List.mem_cons, List.not_mem_nil, or_false] at m
    omega
  have hne : z.cps.toList ≠ [] := fun e => by
    have := K5S.str_len z
    rw [e] at this
    simp at this
    omega
  have r := PySem.intText_digits hd hne (by omega)
  refine ⟨?_, by omega⟩
  unfold numV
  rw [r]
  rfl
section
variable {P : Program} {w : World} {K : PySem.W.Frag} {mg : Str → Option Value} {base : Heap}
theorem scSingle : FnScope ["token", "members"] ["token", "members"] (defScope sSingle) := ⟨rfl, rfl, rfl, by decide +kernel, rfl, by decide +kernel, by decide +kernel⟩
theorem ok_single {f : Addr} {fd : FuncData} (F : Fun K "single_value" "single_value" sSingle f fd) (T : Bare mg) (GSort : Fn P w K mg base 3 "sort_of" ["thing"] (K5S.spSort K)) :
    FnOk P w K mg base CX0 4 f fd ["token", "members"] (spSingle K) := by
  refine F.ok scSingle (fun vs H Q E h => ?_) (fun cdv A outer s H vs Q E hr h => ?_)
  · obtain ⟨z, m, ms, rfl, _⟩ := h
    rfl
  · obtain ⟨z, m, ms, rfl, hz, hm, q⟩ := h
    refine ⟨_, C8.pss_cut (ps_if (pt_cmpR op_eq (pv 0) pe_str (nomark _)) (pss_one (ps_ret (pe_callTy call_tuple_of (by rfl) T.tuple (by decide +kernel) (pa_cons (pv 1) pa_nil)))) pss_nil)
      (C8.pss_cut (ps_if (pt_cmpR op_eq (pe_fn GSort hr rfl (pa_cons (pv 0) pa_nil)) pe_str (nomark _)) (pss_one (ps_ret (pe_callTy call_int_str (by rfl) T.int (by decide +kernel) (pa_cons (pv 0) pa_nil)))) pss_nil)
      (pss_one (ps_ret (pv 0)))), ?_⟩
    unfold single at q
    refine ⟨fun σ H' => σ = [some (.str z), some (.ref m)] ∧ H' = H ∧ ¬ z = "]", ?_, ?_⟩
    · refine ⟨_, rfl, rfl, _, rfl, ?_⟩
      show if decide (V.str z = V.str "]") = true then _ else _
      rw [eq_strB]
      by_cases c : z = "]"
      · rw [decide_eq_true c]
        rw [if_pos c] at q
        exact iteT ⟨_, rfl, m, _, rfl, .inl ⟨hm, fun l hl => q _ _ (Same.new (Same.refl H) hl) ⟨l, rfl, upd_same⟩⟩⟩
      · rw [decide_eq_false c]
        exact iteF ⟨rfl, rfl, c⟩
    rintro σ H1 ⟨rfl, rfl, c⟩
    rw [if_neg c] at q
    refine ⟨fun σ H' => σ = [some (.str z), some (.ref m)] ∧ Same H1 H' ∧ ¬ K5S.sortV z = .str "number", ?_, ?_⟩
    · refine ⟨_, rfl, .str z, some z, rfl, .inl ⟨z, rfl, rfl, hz⟩, fun H2 s2 => ?_⟩
      refine ⟨?_, _, rfl, ?_⟩
      · show scal (K5S.sortV z) (.str "number") = true
        rw [show K5S.sortV z = tokV (sortO (some z)) from sort_eq (some z)]
        cases sortO (some z) <;> rfl
      show if decide (K5S.sortV z = V.str "number") = true then _ else _
      by_cases d : K5S.sortV z = .str "number"
      · rw [decide_eq_true d]
        rw [if_pos d] at q
        obtain ⟨n1, n2⟩ := num_text d
        exact iteT ⟨_, rfl, z, _, rfl, n1, n2, q _ _ s2 rfl⟩
      · rw [decide_eq_false d]
        exact iteF ⟨rfl, s2, d⟩
    rintro σ H2 ⟨rfl, s2, d⟩
    rw [if_neg d] at q
    exact ⟨_, rfl, q _ _ s2 rfl⟩
end
end K5

namespace K5
open PySem L2
/-- what leads to an item or a pair is a word; only an item is followed by a pair -/
theorem vals_word : ∀ m wd b d x beh c j e n w : Bool, ∀ p ∈ aName m wd b ++ (aEqu d x ++ (aItem beh c j ++ (aCom e n ++ (aDone w ++ (aEnd d ++ (wStart ++ wOpen)))))), (p.2 = "item" ∨ p.2 = "pair") → p.1 = "word" := by decide +kernel
theorem vals_pair : ∀ m wd b d x beh e n w : Bool, ∀ p ∈ aName m wd b ++ (aEqu d x ++ (aBeh beh ++ (aCom e n ++ (aDone w ++ (aEnd d ++ (wStart ++ wOpen)))))), p.2 ≠ "pair" := by decide +kernel
theorem step_look {L : Lang} {st s : Str} {z : Option Str} (h : stepL L st z = some s) : ∃ y ws, z = some y ∧ (st, ws) ∈ wTab L ∧ (y, s) ∈ ws := by
  unfold stepL at h
  cases z with
  | none => cases h
  | some z =>
  have h : (((wTab L).lookup st).bind fun ws => ws.lookup z) = some s := h
  obtain ⟨ws, hw, hz⟩ := Option.bind_eq_some_iff.mp h
  exact ⟨z, ws, rfl, look_mem hw, look_mem hz⟩
theorem step_item {L : Lang} {st s : Str} {z : Option Str} (h : stepL L st z = some s) (hs : s = "item" ∨ s = "pair") : z = some ("word" : Str) := by
  obtain ⟨y, ws, rfl, m1, m2⟩ := step_look h
  have all := vals_word (isE L) (L.b && isN L) L.b (inDb L "=") L.x (decide (L.l = "must")) (decide (L.c = "may")) (decide (L.c = "joins")) (inDb L ",") (decide (L.l = "never")) (isN L)
  have alld := vals_word (isE L) (L.b && isN L) L.b (inDb L ";") L.x (decide (L.l = "must")) (decide (L.c = "may")) (decide (L.c = "joins")) (inDb L ",") (decide (L.l = "never")) (isN L)
  simp only [wTab, List.mem_cons, List.not_mem_nil, or_false, Prod.mk.injEq] at m1
  have go : ∀ p ∈ ws, (p.2 = "item" ∨ p.2 = "pair") → p.1 = "word" := by
    rcases m1 with ⟨_, rfl⟩ | ⟨_, rfl⟩ | ⟨_, rfl⟩ | ⟨_, rfl⟩ | ⟨_, rfl⟩ | ⟨_, rfl⟩ | ⟨_, rfl⟩ | ⟨_, rfl⟩ | ⟨_, rfl⟩
    · exact fun p hp => all p (by simp only [List.mem_append]; exact .inr (.inr (.inr (.inr (.inr (.inr (.inl hp)))))))
    · exact fun p hp => all p (List.mem_append_left _ hp)
    · exact fun p hp => all p (List.mem_append_right _ (List.mem_append_left _ hp))
    · exact fun p hp => all p (by simp only [List.mem_append]; exact .inr (.inr (.inr (.inr (.inr (.inr (.inr hp)))))))
    · exact fun p hp => all p (List.mem_append_right _ (List.mem_append_right _ (List.mem_append_left _ hp)))
    · exact fun p hp => all p (List.mem_append_right _ (List.mem_append_right _ (List.mem_append_left _ (List.mem_append_left _ hp))))
    · exact fun p hp => all p (List.mem_append_right _ (List.mem_append_right _ (List.mem_append_right _ (List.mem_append_left _ hp))))
    · exact fun p hp => all p (List.mem_append_right _ (List.mem_append_right _ (List.mem_append_right _ (List.mem_append_right _ (List.mem_append_left _ hp)))))
    · exact fun p hp => alld p (List.mem_append_right _ (List.mem_append_right _ (List.mem_append_right _ (List.mem_append_right _ (List.mem_append_right _ (List.mem_append_left _ hp))))))
  rw [show y = "word" from go _ m2 hs]
theorem step_pair {L : Lang} {st : Str} {z : Option Str} (h : stepL L st z = some ("pair" : Str)) : st = "item" := by
  obtain ⟨y, ws, rfl, m1, m2⟩ := step_look h
  have all := vals_pair (isE L) (L.b && isN L) L.b (inDb L "=") L.x (decide (L.l = "must")) (inDb L ",") (decide (L.l = "never")) (isN L)
  have alld := vals_pair (isE L) (L.b && isN L) L.b (inDb L ";") L.x (decide (L.l = "must")) (inDb L ",") (decide (L.l = "never")) (isN L)
  simp only [wTab, List.mem_cons, List.not_mem_nil, or_false, Prod.mk.injEq] at m1
  rcases m1 with ⟨_, rfl⟩ | ⟨_, rfl⟩ | ⟨_, rfl⟩ | ⟨_, rfl⟩ | ⟨e, rfl⟩ | ⟨_, rfl⟩ | ⟨_, rfl⟩ | ⟨_, rfl⟩ | ⟨_, rfl⟩
  · exact absurd rfl (all _ (by simp only [List.mem_append]; exact .inr (.inr (.inr (.inr (.inr (.inr (.inl m2))))))))
  · exact absurd rfl (all _ (List.mem_append_left _ m2))
  · exact absurd rfl (all _ (List.mem_append_right _ (List.mem_append_left _ m2)))
  · exact absurd rfl (all _ (by simp only [List.mem_append]; exact .inr (.inr (.inr (.inr (.inr (.inr (.inr m2))))))))
  · exact e
  · exact absurd rfl (all _ (List.mem_append_right _ (List.mem_append_right _ (List.mem_append_left _ m2))))
  · exact absurd rfl (all _ (List.mem_append_right _ (List.mem_append_right _ (List.mem_append_right _ (List.mem_append_left _ m2)))))
  · exact absurd rfl (all _ (List.mem_append_right _ (List.mem_append_right _ (List.mem_append_right _ (List.mem_append_right _ (List.mem_append_left _ m2))))))
  · exact absurd rfl (alld _ (List.mem_append_right _ (List.mem_append_right _ (List.mem_append_right _ (List.mem_append_right _ (List.mem_append_right _ (List.mem_append_left _ m2)))))))
/-- each token of a file that is read leads from one state to the next -/
theorem run_steps {L : Lang} : ∀ {os : List (Option Str)} {st : Str} {w : List Str}, runL L st os = .inl w → w.length = os.length ∧ ∀ (i : Nat) (o : Option Str), os[i]? = some o → ∃ p s, (st :: w)[i]? = some p ∧ w[i]? = some s ∧ stepL L p (sortO o) = some s
  | [], st, w, h => by
    rw [runL] at h
    by_cases c : closesL L st = true
    · rw [if_pos c] at h
      cases h
      exact ⟨rfl, fun i o e => by cases e⟩
    · rw [if_neg c] at h
      cases h
  | o :: os, st, w, h => by
    rw [runL] at h
    cases e : stepL L st (sortO o) with
    | none => rw [e] at h; cases h
    | some s =>
      rw [e] at h
      have h : (match runL L s os with
        | .inl w => .inl (s :: w)
        | .inr (k, z) => .inr (k + 1, z)) = (Sum.inl w : List Str ⊕ (Nat × Str)) := h
      cases r : runL L s os with
      | inr x => rw [r] at h; cases h
      | inl v =>
        rw [r] at h
        have h : (Sum.inl (s :: v) : List Str ⊕ (Nat × Str)) = .inl w := h
        cases h
        obtain ⟨l, go⟩ := run_steps r
        refine ⟨by rw [List.length_cons, List.length_cons, l], fun i o' e' => ?_⟩
        cases i with
        | zero =>
          cases e'
          exact ⟨st, s, rfl, rfl, e⟩
        | succ i =>
          obtain ⟨p, s', a, b, c⟩ := go i o' e'
          exact ⟨p, s', a, b, c⟩
theorem sort_text {o : Option Str} {y : Str} (h : sortO o = some y) : ∃ z, o = some z := by
  cases o with
  | none => cases h
  | some z => exact ⟨z, rfl⟩
theorem word_len {z : Str} (h : sortO (some z) = some ("word" : Str)) : z.length ≤ 12 := by
  have h : (if z ∈ K5S.signs then some z else if K5S.inAll z K5S.cLetters = true then some ("word" : Str) else if K5S.numOk z = true then some ("number" : Str) else none) = some "word" := h
  by_cases h1 : z ∈ K5S.signs
  · rw [if_pos h1] at h
    have : z = "word" := Option.some.inj h
    rw [this] at h1
    exact absurd h1 (by decide +kernel)
  · rw [if_neg h1] at h
    by_cases h2 : K5S.inAll z K5S.cLetters = true
    · unfold K5S.inAll at h2
      simp only [Bool.and_eq_true, decide_eq_true_eq] at h2
      exact h2.1.2
    · rw [if_neg h2] at h
      by_cases h3 : K5S.numOk z = true
      · rw [if_pos h3] at h
        exact absurd (Option.some.inj h) (by decide +kernel)
      · rw [if_neg h3] at h
        cases h
end K5

namespace K5
open PySem L2
abbrev sValue : Stmt := top 21
def tokA (os : List (Option Str)) (i : Nat) : Str := ((os[i]?).join).getD ""
def wAt (w : List Str) (i : Nat) : Str := (w[i]?).getD ""
/-- the value and the items behind one more token -/
def stepVal (s : Val × List Str) (z after : Str) : Val × List Str :=
  if after = "equals" then (.non, s.2) else if after = "item" then (s.1, s.2 ++ [z]) else if after = "pair" then (s.1, s.2.dropLast ++ [s.2.getLastD "" ++ " " ++ z]) else if after = "done" then (single z s.2, s.2) else s
def valN (os : List (Option Str)) (w : List Str) (first : Nat) : Nat → Val × List Str
  | 0 => (.word "yes", [])
  | k + 1 => stepVal (valN os w first k) (tokA os (first + 1 + k)) (wAt w (first + 1 + k))
/-- the value of the entry whose span is given -/
def valL (os : List (Option Str)) (w : List Str) (first behind : Nat) : Val := (valN os w first (behind - first - 1)).1
def spValue (K : PySem.W.Frag) : Sp := fun vs H Q _ => ∃ (a b : Addr) (first behind : Nat) (L : Lang) (xs : List V) (os : List (Option Str)) (w : List Str), vs = [.ref a, .ref b, .int (first : Nat), .int (behind : Nat)] ∧ SqL K H a xs ∧ SqL K H b ((("start" : Str) :: w).map V.str) ∧ Things K H xs os ∧
  runL L "start" os = .inl w ∧ w[first]? = some ("name" : Str) ∧ first < behind ∧ behind ≤ os.length ∧ os.length ≤ 900 ∧ ∀ v H', Same H H' → VAt H' v (valL os w first behind) → Q v H'
abbrev nValue : List Str := ["file", "way", "first", "behind", "value", "members", "at", "token", "after"]
theorem VAt.put {H : Hp} {M : Addr} {ls : List V} {o : HO} {v : V} {x : Val} (h : VAt H v x) (hM : H M = some (.lst ls)) : VAt (upd H M o) v x := by
  cases x with
  | lst ms =>
    obtain ⟨t, e, h⟩ := h
    exact ⟨t, e, by rw [upd_ne (ne_of h hM (by intro z; cases z))]; exact h⟩
  | word z => exact h
  | num n => exact h
  | non => exact h
theorem valN_succ {os : List (Option Str)} {w : List Str} {first k : Nat} {z s : Str} (hz : os[first + 1 + k]? = some (some z)) (hs : w[first + 1 + k]? = some s) : valN os w first (k + 1) = stepVal (valN os w first k) z s := by
  rw [valN]
  unfold tokA wAt
  rw [hz, hs]
  rfl
theorem empty_app (y : Str) : Str.empty ++ y = y := TL.ext_tl (by rw [TL.tl_append]; rfl)
theorem ixN_last {n : Nat} (h : n ≠ 0) : ixN n (-1) = some (n - 1) := by
  unfold ixN
  rw [if_neg (by omega), if_pos (by omega)]
  congr 1
  omega
theorem last_text {ms : List Str} (h : ms ≠ []) : atI (ms.map V.str) (-1) = some (V.str (ms.getLastD "")) ∧ ms.getLastD "" ∈ ms := by
  have e : ms = ms.dropLast ++ [ms.getLast h] := (List.dropLast_concat_getLast h).symm
  have d : ms.getLastD "" = ms.getLast h := by
    rw [List.getLastD_eq_getLast?, List.getLast?_eq_some_getLast h]
    rfl
  rw [d]
  refine ⟨?_, List.getLast_mem h⟩
  conv => lhs; rw [e, List.map_append]
  exact atI_last _ _
theorem set_last {ms : List Str} (h : ms ≠ []) (v : V) : (ms.map V.str).set (ms.length - 1) v = ms.dropLast.map V.str ++ [v] := by
  have e : ms = ms.dropLast ++ [ms.getLast h] := (List.dropLast_concat_getLast h).symm
  have l : ms.dropLast.length = ms.length - 1 := List.length_dropLast
  conv => lhs; rw [e, List.map_append]
  rw [List.length_append, List.length_singleton, Nat.add_sub_cancel, List.set_append_right _ _ (by rw [List.length_map]; exact Nat.le_refl _), List.length_map, Nat.sub_self]
  rfl
/-- the loop's word behind k tokens -/
structure VI (os : List (Option Str)) (w : List Str) (first : Nat) (H : Hp) (M : Addr) (k : Nat) (v : V) (H' : Hp) : Prop where
  va : VAt H' v (valN os w first k).1
  ms : H' M = some (.lst ((valN os w first k).2.map V.str))
  sm : Same H H'
  it : w[first + k]? = some ("item" : Str) → (valN os w first k).2 ≠ []
  sz : ∀ m ∈ (valN os w first k).2, m.length ≤ 13 * k
  ln : (valN os w first k).2.length ≤ k
section
variable {P : Program} {w : World} {K : PySem.W.Frag} {mg : Str → Option Value} {base : Heap}
theorem scValue : FnScope nValue ["file", "way", "first", "behind"] (defScope sValue) := ⟨rfl, rfl, rfl, by decide +kernel, rfl, by decide +kernel, by decide +kernel⟩
theorem ok_value {f : Addr} {fd : FuncData} (F : Fun K "value_of" "value_of" sValue f fd) (T : Bare mg) (GV : Fn P w K mg base 4 "single_value" ["token", "members"] (spSingle K)) :
    FnOk P w K mg base CX0 5 f fd ["file", "way", "first", "behind"] (spValue K) := by
  refine F.ok scValue (fun vs H Q E h => ?_) (fun cdv A outer s H vs Q E hr h => ?_)
  · obtain ⟨a, b, first, behind, L, xs, os, wy, rfl, _⟩ := h
    rfl
  · obtain ⟨a, b, first, behind, L, xs, os, wy, rfl, ha, hb, hT, hw, hf, hfb, hbl, hl, q⟩ := h
    refine ⟨_, C8.pss_cut (ps_set (i := 4) scValue.nd rfl (.inl rfl) pe_str)
      (C8.pss_cut (ps_set (i := 5) scValue.nd rfl (.inl rfl) (pe_lst pa_nil))
      (C8.pss_cut (ps_for PassesOwn.never rfl (pi_range2 (by rfl) T.range (pa_cons (pe_op op_add (pv 2) pe_int) (pa_cons (pv 3) pa_nil))) (pg_name (i := 6) scValue.nd rfl (.inl rfl))
        (C8.pss_cut (ps_set (i := 7) scValue.nd rfl (.inl rfl) (pe_ix ix_list (pv 0) (pv 6) (fun _ _ => rfl)))
        (C8.pss_cut (ps_set (i := 8) scValue.nd rfl (.inl rfl) (pe_ix ix_list (pv 1) (pe_op op_add (pv 6) pe_int) (fun _ _ => rfl)))
        (pss_one (ps_if (pt_cmpR op_eq (pv 8) pe_str (nomark _)) (pss_one (ps_set (i := 4) scValue.nd rfl (.inl rfl) pe_non))
          (pss_one (ps_if (pt_cmpR op_eq (pv 8) pe_str (nomark _)) (pss_one (ps_expr (pe_bm PySem.F.plainAttrs_list PySem.F.slot_list_append PySem.F.type_list_append mt_append (pv 5) (pa_cons (pv 7) pa_nil))))
          (pss_one (ps_if (pt_cmpR op_eq (pv 8) pe_str (nomark _)) (pss_one (ps_asg (pe_joined (.cons (pe_fmt (pe_ix ix_list (pv 5) (pe_un un_neg pe_int) (fun _ _ => rfl))) (.cons pe_str (.cons (pe_fmt (pv 7)) .nil)))) (pg_sub (pv 5) (pe_un un_neg pe_int) set_list)))
          (pss_one (ps_if (pt_cmpR op_eq (pv 8) pe_str (nomark _)) (pss_one (ps_set (i := 4) scValue.nd rfl (.inl rfl) (pe_fn GV hr rfl (pa_cons (pv 7) (pa_cons (pv 5) pa_nil))))) pss_nil)))))))))))
      (pss_one (ps_ret (pv 4))))), ?_⟩
    refine ⟨fun σ H' => σ = [some (.ref a), some (.ref b), some (.int (first : Nat)), some (.int (behind : Nat)), some (.str "yes"), none, none, none, none] ∧ H' = H, ⟨rfl, rfl⟩, ?_⟩
    rintro σ H0 ⟨rfl, rfl⟩
    refine ⟨fun σ H' => ∃ M, σ = [some (.ref a), some (.ref b), some (.int (first : Nat)), some (.int (behind : Nat)), some (.str "yes"), some (.ref M), none, none, none] ∧ H0 M = none ∧ VI os wy first H0 M 0 (.str "yes") H', ⟨Nat.zero_le _, fun M hM => ⟨M, rfl, hM, ?_⟩⟩, ?_⟩
    · refine ⟨rfl, upd_same, Same.new (Same.refl H0) hM, fun e => ?_, fun m hm => (nomatch hm), Nat.le_refl _⟩
      rw [Nat.add_zero, hf] at e
      exact absurd (Option.some.inj e) (by decide +kernel)
    rintro σ H1 ⟨M, rfl, hM, vi0⟩
    refine ⟨fun σ H' => ∃ v4 v6 v7 v8, σ = [some (.ref a), some (.ref b), some (.int (first : Nat)), some (.int (behind : Nat)), some v4, some (.ref M), v6, v7, v8] ∧ VI os wy first H0 M (behind - first - 1) v4 H', ?_, ?_⟩
    · refine ⟨_, rfl, _, _, rfl, rfl, _, rfl, (first : Int) + 1, (behind : Int), rfl, ⟨by omega, by omega, by omega, by omega⟩, for_range (lo := (first : Int) + 1) (n := ((behind : Int) - ((first : Int) + 1)).toNat) (fun k σ H' => ∃ v4 v6 v7 v8, σ = [some (.ref a), some (.ref b), some (.int (first : Nat)), some (.int (behind : Nat)), some v4, some (.ref M), v6, v7, v8] ∧ VI os wy first H0 M k v4 H') ⟨_, _, _, _, rfl, vi0⟩ ?_ ?_⟩
      · rintro k σ H2 hk ⟨v4, v6, v7, v8, rfl, vi⟩
        have hk' : first + 1 + k < os.length := by omega
        obtain ⟨o, ho⟩ : ∃ o, os[first + 1 + k]? = some o := ⟨_, List.getElem?_eq_getElem hk'⟩
        obtain ⟨pst, st, hpst, hst, hstep⟩ := (run_steps hw).2 _ o ho
        obtain ⟨y, _, hy, _, _⟩ := step_look hstep
        obtain ⟨z, rfl⟩ := sort_text hy
        have hpst : wy[first + k]? = some pst := by
          rw [show first + 1 + k = (first + k) + 1 by omega, List.getElem?_cons_succ] at hpst
          exact hpst
        have hxl : first + 1 + k < xs.length := by rw [hT.1]; exact hk'
        obtain ⟨x, hx⟩ : ∃ x, xs[first + 1 + k]? = some x := ⟨_, List.getElem?_eq_getElem hxl⟩
        obtain ⟨hxz, hzl⟩ : x = .str z ∧ z.length ≤ sizeLine := by
          rcases hT.2 _ x _ hx ho with ⟨z', e1, e2, e3⟩ | ⟨e, _⟩
          · cases e2
            exact ⟨e1, e3⟩
          · cases e
        subst hxz
        have ev := valN_succ ho hst
        have s2 := vi.sm
        refine ⟨fun σ H' => σ = [some (.ref a), some (.ref b), some (.int (first : Nat)), some (.int (behind : Nat)), some v4, some (.ref M), some (.int ((first : Int) + 1 + k)), some (.str z), v8] ∧ H' = H2, ?_, ?_⟩
        · exact ⟨_, rfl, _, rfl, a, xs, _, .str z, rfl, rfl, s2.seq ha, at_of (j := first + 1 + k) (by omega) hx, rfl, rfl⟩
        rintro σ H2' ⟨rfl, rfl⟩
        refine ⟨fun σ H' => σ = [some (.ref a), some (.ref b), some (.int (first : Nat)), some (.int (behind : Nat)), some v4, some (.ref M), some (.int ((first : Int) + 1 + k)), some (.str z), some (.str st)] ∧ H' = H2', ?_, ?_⟩
        · exact ⟨_, rfl, _, rfl, _, _, rfl, rfl, b, _, _, .str st, rfl, rfl, s2.seq hb, at_of (j := first + 1 + k + 1) (by omega) (by rw [List.getElem?_map, List.getElem?_cons_succ, hst]; rfl), rfl, rfl⟩
        rintro σ H3 ⟨rfl, rfl⟩
        have fin : ∀ (v' : V) (H' : Hp), VI os wy first H0 M (k + 1) v' H' → ∃ w4 w6 w7 w8, [some (V.ref a), some (.ref b), some (.int (first : Nat)), some (.int (behind : Nat)), some v', some (.ref M), some (.int ((first : Int) + 1 + k)), some (.str z), some (.str st)] = [some (V.ref a), some (.ref b), some (.int (first : Nat)), some (.int (behind : Nat)), some w4, some (.ref M), w6, w7, w8] ∧ VI os wy first H0 M (k + 1) w4 H' := fun v' H' h => ⟨v', _, _, _, rfl, h⟩
        have it' : wy[first + (k + 1)]? = some st := by rw [show first + (k + 1) = first + 1 + k by omega]; exact hst
        have ite : ∀ (x : Str) (A B : Prop), (st = x → A) → (st ≠ x → B) → (if decide (V.str st = V.str x) = true then A else B) := fun x A B h1 h2 => by
          rw [eq_strB]
          by_cases c : st = x
          · rw [decide_eq_true c]; exact iteT (h1 c)
          · rw [decide_eq_false c]; exact iteF (h2 c)
        refine ⟨_, rfl, rfl, _, rfl, ite "equals" _ _ (fun c => ?_) fun c1 => ⟨_, rfl, rfl, _, rfl, ite "item" _ _ (fun c => ?_) fun c2 => ⟨_, rfl, rfl, _, rfl, ite "pair" _ _ (fun c => ?_) fun c3 => ⟨_, rfl, rfl, _, rfl, ite "done" _ _ (fun c => ?_) fun c4 => ?_⟩⟩⟩⟩
        · have e1 : valN os wy first (k + 1) = (.non, (valN os wy first k).2) := by rw [ev]; unfold stepVal; rw [if_pos c]
          refine fin _ _ ⟨by rw [e1]; rfl, by rw [e1]; exact vi.ms, s2, fun e => ?_, fun m hm => ?_, ?_⟩
          · rw [it', c] at e
            exact absurd (Option.some.inj e) (by decide +kernel)
          · rw [e1] at hm
            exact Nat.le_trans (vi.sz m hm) (by omega)
          · rw [e1]; exact Nat.le_succ_of_le vi.ln
        · have e1 : valN os wy first (k + 1) = ((valN os wy first k).1, (valN os wy first k).2 ++ [z]) := by rw [ev]; unfold stepVal; rw [if_neg c1, if_pos c]
          have l12 : z.length ≤ 12 := word_len (step_item hstep (.inl c))
          have ln := vi.ln
          refine ⟨_, rfl, .inl ⟨rfl, _, SqL.of vi.ms⟩, _, rfl, M, _, _, rfl, rfl, vi.ms, ?_, fin _ _ ⟨by rw [e1]; exact vi.va.put vi.ms, ?_, Same.put s2 hM, fun _ => ?_, fun m hm => ?_, ?_⟩⟩
          · rw [List.length_map]
            exact Nat.lt_of_le_of_lt (show _ ≤ 900 by omega) (by decide)
          · rw [upd_same, e1, List.map_append]
            rfl
          · rw [e1]; simp
          · rw [e1] at hm
            rcases List.mem_append.mp hm with hm | hm
            · exact Nat.le_trans (vi.sz m hm) (by omega)
            · rw [List.mem_singleton.mp hm]; omega
          · rw [e1, List.length_append, List.length_singleton]
            exact Nat.succ_le_succ vi.ln
        · have ne : (valN os wy first k).2 ≠ [] := vi.it (by rw [hpst, step_pair (st := pst) (L := L) (z := sortO (some z)) (by rw [← c]; exact hstep)])
          have e1 : valN os wy first (k + 1) = ((valN os wy first k).1, (valN os wy first k).2.dropLast ++ [(valN os wy first k).2.getLastD "" ++ " " ++ z]) := by rw [ev]; unfold stepVal; rw [if_neg c1, if_neg c2, if_pos c]
          have l12 : z.length ≤ 12 := word_len (step_item hstep (.inr c))
          obtain ⟨la, lm⟩ := last_text ne
          have ls := vi.sz _ lm
          have ln := vi.ln
          have nz : (valN os wy first k).2.length ≠ 0 := fun e => ne (List.length_eq_zero_iff.mp e)
          have b1 : (" " : Str).length = 1 := by decide +kernel
          refine ⟨_, rfl, _, rfl, M, _, -1, _, rfl, rfl, SqL.of vi.ms, la, .inl ⟨_, rfl, line_ge (by omega), _, rfl, ?_, _, rfl, ?_, _, rfl, .inl ⟨_, rfl, hzl, _, rfl, ?_, ?_⟩⟩⟩
          · rw [empty_app]; exact line_ge (by omega)
          · rw [empty_app, Str.length_append]; exact line_ge (by omega)
          · rw [empty_app, Str.length_append, Str.length_append]; exact line_ge (by omega)
          rw [empty_app]
          refine ⟨_, rfl, _, rfl, M, _, -1, (valN os wy first k).2.length - 1, rfl, rfl, vi.ms, by rw [List.length_map]; exact ixN_last nz, fin _ _ ⟨by rw [e1]; exact vi.va.put vi.ms, ?_, Same.put s2 hM, fun _ => ?_, fun m hm => ?_, ?_⟩⟩
          · rw [upd_same, e1, set_last ne, List.map_append]
            rfl
          · rw [e1]; simp
          · rw [e1] at hm
            rcases List.mem_append.mp hm with hm | hm
            · exact Nat.le_trans (vi.sz m (List.dropLast_subset _ hm)) (by omega)
            · rw [List.mem_singleton.mp hm, Str.length_append, Str.length_append]; omega
          · rw [e1, List.length_append, List.length_singleton, List.length_dropLast]
            omega
        · have e1 : valN os wy first (k + 1) = (single z (valN os wy first k).2, (valN os wy first k).2) := by rw [ev]; unfold stepVal; rw [if_neg c1, if_neg c2, if_neg c3, if_pos c]
          refine ⟨_, rfl, _, rfl, z, M, _, rfl, hzl, SqL.of vi.ms, fun v' H4 s4 va => fin _ _ ⟨by rw [e1]; exact va, by rw [e1]; exact s4 _ _ vi.ms, s2.trans s4, fun e => ?_, fun m hm => ?_, ?_⟩⟩
          · rw [it', c] at e
            exact absurd (Option.some.inj e) (by decide +kernel)
          · rw [e1] at hm
            exact Nat.le_trans (vi.sz m hm) (by omega)
          · rw [e1]; exact Nat.le_succ_of_le vi.ln
        · have e1 : valN os wy first (k + 1) = valN os wy first k := by rw [ev]; unfold stepVal; rw [if_neg c1, if_neg c2, if_neg c3, if_neg c4]
          refine fin _ _ ⟨by rw [e1]; exact vi.va, by rw [e1]; exact vi.ms, s2, fun e => ?_, fun m hm => ?_, ?_⟩
          · rw [it'] at e
            exact absurd (Option.some.inj e) c2
          · rw [e1] at hm
            exact Nat.le_trans (vi.sz m hm) (by omega)
          · rw [e1]; exact Nat.le_succ_of_le vi.ln
      · rintro σ H2 ⟨v4, v6, v7, v8, rfl, vi⟩
        rw [show ((behind : Int) - ((first : Int) + 1)).toNat = behind - first - 1 by omega] at vi
        exact ⟨v4, v6, v7, v8, rfl, vi⟩
    rintro σ H2 ⟨v4, v6, v7, v8, rfl, vi⟩
    exact ⟨_, rfl, q _ _ vi.sm vi.va⟩
end
end K5

namespace K5
open PySem L2
abbrev sEntries : Stmt := top 24
abbrev sRead : Stmt := top 25
abbrev sSpansF : Stmt := top 26
/-- an entry in the heap -/
def EntAt (H : Hp) (t : V) (e : Str × Val) : Prop := ∃ u v, t = .ref u ∧ H u = some (.tup [.str e.1, v]) ∧ VAt H v e.2
theorem EntAt.same {H H' : Hp} {t : V} {e : Str × Val} (h : EntAt H t e) (s : Same H H') : EntAt H' t e := by
  obtain ⟨u, v, e1, e2, e3⟩ := h
  exact ⟨u, v, e1, s _ _ e2, e3.same s⟩
def EntriesAt (H : Hp) (p : Addr) (es : List (Str × Val)) : Prop := ∃ ts : List V, H p = some (.lst ts) ∧ ts.length = es.length ∧ ∀ (j : Nat) (t : V) (e : Str × Val), ts[j]? = some t → es[j]? = some e → EntAt H t e
/-- the entries of a file by its states -/
def entriesL (os : List (Option Str)) (w : List Str) : List (Str × Val) := ((firstsL w).zip (behindsL w)).map fun p => (tokA os p.1, valL os w p.1 p.2)
theorem behinds_len (w : List Str) : (firstsL w).length ≤ (behindsL w).length := by
  unfold behindsL
  rw [List.length_append, List.length_drop, List.length_singleton]
  omega
theorem entries_len (os : List (Option Str)) (w : List Str) : (entriesL os w).length = (firstsL w).length := by
  unfold entriesL
  rw [List.length_map, List.length_zip]
  exact Nat.min_eq_left (behinds_len w)
theorem firsts_mem {w : List Str} {x : Nat} (h : x ∈ firstsL w) : x < w.length ∧ w[x]? = some ("name" : Str) := by
  unfold firstsL at h
  obtain ⟨h1, h2⟩ := List.mem_filter.mp h
  exact ⟨List.mem_range.mp h1, of_decide_eq_true h2⟩
theorem span_ok {w : List Str} {j x y : Nat} (hx : (firstsL w)[j]? = some x) (hy : (behindsL w)[j]? = some y) : w[x]? = some ("name" : Str) ∧ x < y ∧ y ≤ w.length := by
  obtain ⟨x1, x2⟩ := firsts_mem (List.mem_of_getElem? hx)
  refine ⟨x2, ?_⟩
  have pw : (firstsL w).Pairwise (· < ·) := List.Pairwise.filter _ List.pairwise_lt_range
  unfold behindsL at hy
  have ld : ((firstsL w).drop 1).length = (firstsL w).length - 1 := List.length_drop
  have lj : j < (firstsL w).length := (List.getElem?_eq_some_iff.mp hx).1
  by_cases c : j + 1 < (firstsL w).length
  · rw [List.getElem?_append_left (by omega), List.getElem?_drop] at hy
    obtain ⟨y1, _⟩ := firsts_mem (List.mem_of_getElem? hy)
    obtain ⟨a1, a2⟩ := List.getElem?_eq_some_iff.mp hx
    obtain ⟨b1, b2⟩ := List.getElem?_eq_some_iff.mp hy
    have := List.pairwise_iff_getElem.mp pw j (1 + j) a1 b1 (by omega)
    rw [a2, b2] at this
    exact ⟨this, Nat.le_of_lt y1⟩
  · rw [List.getElem?_append_right (by omega)] at hy
    have : j - ((firstsL w).drop 1).length = 0 := by omega
    rw [this] at hy
    cases hy
    exact ⟨x1, Nat.le_refl _⟩
theorem entries_at {os : List (Option Str)} {w : List Str} {j x y : Nat} (hx : (firstsL w)[j]? = some x) (hy : (behindsL w)[j]? = some y) : (entriesL os w)[j]? = some (tokA os x, valL os w x y) := by
  unfold entriesL
  rw [List.getElem?_map, (List.getElem?_zip_eq_some (z := (x, y))).mpr ⟨hx, hy⟩]
  rfl
def spEntries (K : PySem.W.Frag) : Sp := fun vs H Q _ => ∃ (a b : Addr) (L : Lang) (xs : List V) (os : List (Option Str)) (w : List Str), vs = [.ref a, .ref b] ∧ SqL K H a xs ∧ SqL K H b ((("start" : Str) :: w).map V.str) ∧ Things K H xs os ∧
  runL L "start" os = .inl w ∧ os.length ≤ 900 ∧ ∀ p H', H p = none → Same H H' → EntriesAt H' p (entriesL os w) → Q (.ref p) H'
/-- an Unreadable, as `states` raises it -/
def raisesU (L : Lang) (os : List (Option Str)) (CU : Addr) (H : Hp) (E : XK) : Prop := ∀ k z, runL L "start" os = .inr (k, z) → z ∈ nine → ∀ d t H', H d = none → H t = none → Same H H' → H' t = some (.tup ((nextL L z).map V.str)) → H' d = some (.xd [(("awaited" : Str), .ref t), (("at" : Str), .int (k : Nat))]) → E (.ref CU) (some d) H'
def spRead (K : PySem.W.Frag) (C CU : Addr) : Sp := fun vs H Q E => ∃ (x a : Addr) (L : Lang) (xs : List V) (os : List (Option Str)), vs = [.ref x, .ref a] ∧ LangW C H x L ∧ SqL K H a xs ∧ Things K H xs os ∧ xs.length ≤ 900 ∧
  (∀ w, runL L "start" os = .inl w → ∀ p H', H p = none → Same H H' → EntriesAt H' p (entriesL os w) → Q (.ref p) H') ∧ raisesU L os CU H E
def spSpansF (K : PySem.W.Frag) (C CU : Addr) : Sp := fun vs H Q E => ∃ (x a : Addr) (L : Lang) (xs : List V) (os : List (Option Str)), vs = [.ref x, .ref a] ∧ LangW C H x L ∧ SqL K H a xs ∧ Things K H xs os ∧ xs.length ≤ 900 ∧
  (∀ w, runL L "start" os = .inl w → ∀ p ts H', H p = none → Same H H' → SpansAt H' p ts w → Q (.ref p) H') ∧ raisesU L os CU H E
/-- a def of the program that may let errors out -/
abbrev FnE (P : Program) (w : World) (K : PySem.W.Frag) (mg : Str → Option Value) (base : Heap) (n : Nat) (x : Str) (ps : List Str) (sp : Sp) : Prop :=
  ∃ f fd, PySem.W.keepIn K (.ref f) = true ∧ FnOk P w K mg base (L2.CX P w) n f fd ps sp ∧ Binds K fd ps [] ∧ mg x = some (.ref f)
theorem pe_fnE {X : Cx} {W : WX} {E : XK} {n : Nat} {x : Str} {ps : List Str} {sp : Sp} {p pos : Pos} {e : Expr} {es : List Expr} {t : TA} (F : FnE X.prog X.w X.K X.mg X.base n x ps sp) (hr : Room n X.A) (hg : Gl X x) (tk : Takes X W) (hW : ∀ cls d σ H, E cls d H → W cls d σ H) (ha : PA X (e :: es) t)
    (hdb : (x == ("__debug__" : Str)) = false := by decide) (he : starEach (e :: es) X.env = (false, eval e X.env) :: starEach es X.env := by rfl) (hpl : (backTo pos (starEach es X.env)).any (·.1) = false := by rfl) :
    PE X (.Call (.Name x p) (e :: es) [] pos) (tCall sp [] E t) := by
  obtain ⟨f, fd, k, G, b, m⟩ := F
  exact pe_call G hr hg m k b .nil (passes_call tk hW) ha hdb he hpl
abbrev nEntries : List Str := ["file", "way", "first", "behind"]
section
variable {P : Program} {w : World} {K : PySem.W.Frag} {mg : Str → Option Value} {base : Heap} {C CU : Addr}
theorem scEntries : FnScope nEntries ["file", "way"] (defScope sEntries) := ⟨rfl, rfl, rfl, by decide +kernel, rfl, by decide +kernel, by decide +kernel⟩
theorem ok_entries {f : Addr} {fd : FuncData} (F : Fun K "entries_by" "entries_by" sEntries f fd) (GV : Fn P w K mg base 5 "value_of" ["file", "way", "first", "behind"] (spValue K)) (GS : Fn P w K mg base 1 "spans_of" ["way"] (spSpansOf K)) :
    FnOk P w K mg base CX0 6 f fd ["file", "way"] (spEntries K) := by
  refine F.ok scEntries (fun vs H Q E h => ?_) (fun cdv A outer s H vs Q E hr h => ?_)
  · obtain ⟨a, b, L, xs, os, wy, rfl, _⟩ := h
    rfl
  · obtain ⟨a, b, L, xs, os, wy, rfl, ha, hb, hT, hw, hl, q⟩ := h
    obtain ⟨wl, _⟩ := run_steps hw
    have hr1 : Room 1 _ := hr.mono (by decide)
    refine ⟨_, pss_one (ps_ret (pe_lc (own := [("first", 2), ("behind", 3)]) (g := gTup K 2 (gCons (gName 2) (gCons (gName 3) gNil))) (tt := tYes) (te := tTup (tCons (tOp (rIxL K) (tVar 0) (tVar 2)) (tCons (tCall (spValue K) [] E0 (tCons (tVar 0) (tCons (tVar 1) (tCons (tVar 2) (tCons (tVar 3) tNil))))) tNil))) (by rfl) scEntries.nd (pi_list (pe_fn GS hr1 rfl (pa_cons (pv 1) pa_nil)))
        (blkOk_by (own := [("first", 2), ("behind", 3)]) (N := nEntries) (sc := defScope sEntries) (by decide +kernel))
        (fun _ _ _ _ _ => pg_tup (by rfl) (pgs_cons (pg_name (i := 2) scEntries.nd rfl (Or.inl rfl)) (pgs_cons (pg_name (i := 3) scEntries.nd rfl (Or.inl rfl)) pgs_nil)))
        (fun _ _ _ _ _ => pts_nil) (fun _ _ _ _ _ => pe_tup (pa_cons (pe_ix ix_list (pv 0) (pv 2) (fun _ _ => rfl)) (pa_cons (pe_fn GV hr rfl (pa_cons (pv 0) (pa_cons (pv 1) (pa_cons (pv 2) (pa_cons (pv 3) pa_nil))))) pa_nil))))), ?_⟩
    refine ⟨_, rfl, b, wy, rfl, hb, by omega, fun H1 p ts s1 hp ⟨e1, e2, e3⟩ => ⟨p, rfl, ⟨_, SqL.of e1⟩, fun D hD => ?_⟩⟩
    refine lc_list (K := K) (a := p) (xs := ts.map V.ref) (fun i H' => Same H1 H' ∧ ∃ rs : List V, H' D = some (.lst rs) ∧ rs.length = i ∧ ∀ (j : Nat) (t : V) (e : Str × Val), rs[j]? = some t → (entriesL os wy)[j]? = some e → EntAt H' t e) ⟨Same.new (Same.refl H1) hD, [], upd_same, rfl, fun j t e h => by cases h⟩ (fun i H' _ ⟨s', _⟩ => SqL.of (s' _ _ e1)) ?_ ?_
    · rintro i v H2 hi ⟨s2, rs, r1, r2, r3⟩
      rw [List.getElem?_map] at hi
      cases ht : ts[i]? with
      | none => rw [ht] at hi; cases hi
      | some t =>
      rw [ht] at hi
      have hv : v = V.ref t := (Option.some.inj hi).symm
      subst hv
      have hil : i < (firstsL wy).length := by rw [← e2]; exact (List.getElem?_eq_some_iff.mp ht).1
      have fl := firsts_len wy
      have bl := behinds_len wy
      obtain ⟨x, hx⟩ : ∃ x, (firstsL wy)[i]? = some x := ⟨_, List.getElem?_eq_getElem hil⟩
      obtain ⟨y, hy⟩ : ∃ y, (behindsL wy)[i]? = some y := ⟨_, List.getElem?_eq_getElem (by omega)⟩
      obtain ⟨n1, n2, n3⟩ := span_ok hx hy
      have hxl : x < os.length := by omega
      obtain ⟨o, ho⟩ : ∃ o, os[x]? = some o := ⟨_, List.getElem?_eq_getElem hxl⟩
      obtain ⟨u, hu⟩ : ∃ u, xs[x]? = some u := ⟨_, List.getElem?_eq_getElem (by rw [hT.1]; exact hxl)⟩
      obtain ⟨pst, st, _, _, hstep⟩ := (run_steps hw).2 _ o ho
      obtain ⟨yy, _, hyy, _, _⟩ := step_look hstep
      obtain ⟨z, rfl⟩ := sort_text hyy
      have hxz : u = .str z := by
        rcases hT.2 _ u _ hu ho with ⟨z', e1', e2', e3'⟩ | ⟨e, _⟩
        · cases e2'
          exact e1'
        · cases e
      subst hxz
      have htk : tokA os x = z := by
        unfold tokA
        rw [ho]
        rfl
      have s12 := s1.trans s2
      refine ⟨t, _, rfl, SqT.of (s2 _ _ (e3 i t x y ht hx hy)), rfl, _, _, rfl, _, _, rfl, rfl, rfl, ?_⟩
      refine ⟨_, rfl, _, rfl, a, xs, _, .str z, rfl, rfl, s12.seq ha, at_of (j := x) (by omega) hu, _, rfl, _, rfl, _, rfl, _, rfl, a, b, x, y, L, xs, os, wy, rfl, s12.seq ha, s12.seq hb, hT.same s12, hw, n1, n2, by omega, hl, fun v' H3 s3 va => ⟨by show 2 ≤ sizeLine; decide, fun u' hu' => ?_⟩⟩
      have s4 := Same.new (o := .tup [.str z, v']) s3 hu'
      have dn : upd H3 u' (.tup [.str z, v']) D = some (.lst rs) := s4 _ _ r1
      refine ⟨rs, dn, ?_, Same.put (s2.trans s4) hD, rs ++ [.ref u'], upd_same, by rw [List.length_append, r2]; rfl, fun j t' e' h1 h2 => ?_⟩
      · rw [r2]
        exact Nat.lt_of_lt_of_le (show i < 1000 by omega) (by decide)
      · have sD : Same H2 (upd (upd H3 u' (.tup [.str z, v'])) D (.lst (rs ++ [.ref u']))) ∨ True := .inr trivial
        by_cases c : j < rs.length
        · rw [List.getElem?_append_left c] at h1
          obtain ⟨u2, v2, f1, f2, f3⟩ := r3 j t' e' h1 h2
          have nD : u2 ≠ D := ne_of f2 r1 (by intro z; cases z)
          refine ⟨u2, v2, f1, by rw [upd_ne nD]; exact s4 _ _ f2, (f3.same s4).put dn⟩
        · rw [List.getElem?_append_right (by omega)] at h1
          have hj0 : j - rs.length = 0 := by
            cases q0 : j - rs.length with
            | zero => rfl
            | succ n => rw [q0] at h1; cases h1
          rw [hj0] at h1
          cases h1
          have hji : j = i := by omega
          subst hji
          rw [entries_at hx hy] at h2
          cases h2
          refine ⟨u', v', rfl, ?_, VAt.put (va.same (Same.new (Same.refl H3) hu')) dn⟩
          rw [upd_ne (ne_of upd_same dn (by intro z; cases z)), upd_same, htk]
    · rintro H2 ⟨s2, rs, r1, r2, r3⟩
      refine q D H2 (s1.free hD) (s1.trans s2) ⟨rs, r1, by rw [r2, List.length_map, e2, entries_len], r3⟩
theorem scRead : FnScope ["language", "file"] ["language", "file"] (defScope sRead) := ⟨rfl, rfl, rfl, by decide +kernel, rfl, by decide +kernel, by decide +kernel⟩
theorem ok_read {f : Addr} {fd : FuncData} (F : Fun K "read" "read" sRead f fd) (GE : Fn P w K mg base 6 "entries_by" ["file", "way"] (spEntries K)) (GS : FnE P w K mg base 4 "states" ["language", "file"] (spStates K C CU)) :
    FnOk P w K mg base (L2.CX P w) 7 f fd ["language", "file"] (spRead K C CU) := by
  refine F.okX scRead (fun vs H Q E h => ?_) (fun cdv A outer s H vs Q E hr h => ?_)
  · obtain ⟨x, a, L, xs, os, rfl, _⟩ := h
    rfl
  · obtain ⟨x, a, L, xs, os, rfl, hL, ha, hT, hl, q, qe⟩ := h
    have hr4 : Room 4 _ := hr.mono (by decide)
    refine ⟨_, pss_one (ps_ret (pe_fn GE hr rfl (pa_cons (pv 1) (pa_cons (pe_fnE (E := E) GS hr4 rfl (takes_of rfl rfl rfl rfl) (fun _ _ _ _ h => h) (pa_cons (pv 0) (pa_cons (pv 1) pa_nil))) pa_nil)))), ?_⟩
    refine ⟨_, rfl, _, rfl, _, rfl, x, a, L, xs, os, rfl, hL, ha, hT, hl, fun wy hw l H1 hl0 s1 h1 => ?_, qe⟩
    exact ⟨a, l, L, xs, os, wy, rfl, s1.seq ha, SqL.of h1, hT.same s1, hw, by rw [← hT.1]; exact hl, fun p H2 hp s2 en => q wy hw p H2 (s1.free hp) (s1.trans s2) en⟩
theorem scSpansF : FnScope ["language", "file"] ["language", "file"] (defScope sSpansF) := ⟨rfl, rfl, rfl, by decide +kernel, rfl, by decide +kernel, by decide +kernel⟩
theorem ok_spansF {f : Addr} {fd : FuncData} (F : Fun K "spans" "spans" sSpansF f fd) (GE : Fn P w K mg base 1 "spans_of" ["way"] (spSpansOf K)) (GS : FnE P w K mg base 4 "states" ["language", "file"] (spStates K C CU)) :
    FnOk P w K mg base (L2.CX P w) 5 f fd ["language", "file"] (spSpansF K C CU) := by
  refine F.okX scSpansF (fun vs H Q E h => ?_) (fun cdv A outer s H vs Q E hr h => ?_)
  · obtain ⟨x, a, L, xs, os, rfl, _⟩ := h
    rfl
  · obtain ⟨x, a, L, xs, os, rfl, hL, ha, hT, hl, q, qe⟩ := h
    have hr1 : Room 1 _ := hr.mono (by decide)
    refine ⟨_, pss_one (ps_ret (pe_fn GE hr1 rfl (pa_cons (pe_fnE (E := E) GS hr rfl (takes_of rfl rfl rfl rfl) (fun _ _ _ _ h => h) (pa_cons (pv 0) (pa_cons (pv 1) pa_nil))) pa_nil))), ?_⟩
    refine ⟨_, rfl, _, rfl, x, a, L, xs, os, rfl, hL, ha, hT, hl, fun wy hw l H1 hl0 s1 h1 => ?_, qe⟩
    obtain ⟨wl, _⟩ := run_steps hw
    exact ⟨l, wy, rfl, SqL.of h1, by have := hT.1; omega, fun H2 p ts s2 hp en => q wy hw p ts H2 (s1.free hp) (s1.trans s2) en⟩
end
end K5

namespace K5
open PySem L2
/-! a file read token by token: what is read so far, as the tokens come -/
abbrev Ent := Str × (Val × List Str)
/-- the entries so far, each with its value and its items -/
def pairsP (os : List (Option Str)) (w : List Str) : List Ent := ((firstsL w).zip (behindsL w)).map fun p => (tokA os p.1, valN os w p.1 (p.2 - p.1 - 1))
theorem pairs_entries (os : List (Option Str)) (w : List Str) : (pairsP os w).map (fun e => (e.1, e.2.1)) = entriesL os w := by
  unfold pairsP entriesL
  rw [List.map_map]
  rfl
def modLast (f : Ent → Ent) (P : List Ent) : List Ent := P.dropLast ++ (P.getLast?.map f).toList
theorem modLast_snoc (f : Ent → Ent) (P : List Ent) (e : Ent) : modLast f (P ++ [e]) = P ++ [f e] := by
  unfold modLast
  rw [List.dropLast_concat, List.getLast?_concat]
  rfl
theorem firsts_snoc (w : List Str) (s : Str) : firstsL (w ++ [s]) = firstsL w ++ (if s = "name" then [w.length] else []) := by
  unfold firstsL
  rw [List.length_append, List.length_singleton, List.range_succ, List.filter_append]
  congr 1
  · apply List.filter_congr
    intro i hi
    unfold isFirst
    rw [List.getElem?_append_left (List.mem_range.mp hi)]
  · unfold isFirst
    rw [List.filter_cons, List.getElem?_concat_length, List.filter_nil]
    by_cases h : s = "name"
    · rw [h]; rfl
    · rw [if_neg (by simpa using h), if_neg h]
theorem valN_pre {os os' : List (Option Str)} {w w' : List Str} {x : Nat} : ∀ {k : Nat}, x + k < w.length → x + k < os.length → valN (os ++ os') (w ++ w') x k = valN os w x k
  | 0, _, _ => rfl
  | k + 1, h1, h2 => by
    rw [valN, valN, valN_pre (by omega) (by omega)]
    unfold tokA wAt
    rw [List.getElem?_append_left (by omega), List.getElem?_append_left (by omega)]
theorem firsts_lt {w : List Str} {x : Nat} (h : x ∈ firstsL w) : x < w.length := (firsts_mem h).1
theorem map_pre {os os' : List (Option Str)} {w w' : List Str} (hl : os.length = w.length) : ∀ {l : List (Nat × Nat)}, (∀ p ∈ l, p.1 < p.2 ∧ p.2 ≤ w.length) →
    l.map (fun p => ((tokA (os ++ os') p.1, valN (os ++ os') (w ++ w') p.1 (p.2 - p.1 - 1)) : Ent)) = l.map (fun p => ((tokA os p.1, valN os w p.1 (p.2 - p.1 - 1)) : Ent))
  | [], _ => rfl
  | p :: l, h => by
    have hp := h p (List.mem_cons_self ..)
    rw [List.map_cons, List.map_cons, map_pre hl fun q hq => h q (List.mem_cons_of_mem _ hq)]
    congr 1
    rw [valN_pre (by omega) (by omega)]
    unfold tokA
    rw [List.getElem?_append_left (by omega)]
theorem spans_lt {w : List Str} {p : Nat × Nat} (h : p ∈ (firstsL w).zip (behindsL w)) : p.1 < p.2 ∧ p.2 ≤ w.length := by
  obtain ⟨j, hj⟩ := List.getElem?_of_mem h
  obtain ⟨h1, h2⟩ := List.getElem?_zip_eq_some.mp hj
  exact (span_ok h1 h2).2
/-- a name begins an entry -/
theorem pairs_name {os : List (Option Str)} {w : List Str} (hl : os.length = w.length) (z : Str) : pairsP (os ++ [some z]) (w ++ [("name" : Str)]) = pairsP os w ++ [(z, (.word "yes", []))] := by
  have z0 : ((firstsL (w ++ [("name" : Str)])).zip (behindsL (w ++ [("name" : Str)]))) = (firstsL w).zip (behindsL w) ++ [(w.length, w.length + 1)] := by
    unfold behindsL
    rw [firsts_snoc, if_pos rfl, List.length_append, List.length_singleton]
    cases e : firstsL w with
    | nil => rfl
    | cons f fs =>
      show ((f :: fs) ++ [w.length]).zip ((fs ++ [w.length]) ++ [w.length + 1]) = (f :: fs).zip (fs ++ [w.length]) ++ [(w.length, w.length + 1)]
      rw [List.zip_append (by rw [List.length_append, List.length_cons]; rfl)]
      rfl
  unfold pairsP
  rw [z0, List.map_append, map_pre hl fun p hp => spans_lt hp]
  congr 1
  show [((tokA (os ++ [some z]) w.length, valN (os ++ [some z]) (w ++ [("name" : Str)]) w.length (w.length + 1 - w.length - 1)) : Ent)] = _
  rw [show w.length + 1 - w.length - 1 = 0 by omega]
  unfold tokA
  rw [← hl, List.getElem?_concat_length]
  rfl
/-- another token belongs to the last entry -/
theorem pairs_more {os : List (Option Str)} {w : List Str} (hl : os.length = w.length) {z s : Str} (hs : s ≠ "name") (hne : firstsL w ≠ []) : pairsP (os ++ [some z]) (w ++ [s]) = modLast (fun e => (e.1, stepVal e.2 z s)) (pairsP os w) := by
  obtain ⟨gs, f, e⟩ : ∃ gs f, firstsL w = gs ++ [f] := ⟨_, _, (List.dropLast_concat_getLast hne).symm⟩
  have fl : f < w.length := firsts_lt (by rw [e]; simp)
  have cut : ∀ n : Nat, (gs ++ [f]).zip ((gs ++ [f]).drop 1 ++ [n]) = gs.zip ((gs ++ [f]).drop 1) ++ [(f, n)] := fun n => by
    rw [List.zip_append (by rw [List.length_drop, List.length_append, List.length_singleton]; omega)]
    rfl
  have lt : ∀ p ∈ gs.zip ((gs ++ [f]).drop 1), p.1 < p.2 ∧ p.2 ≤ w.length := fun p hp => by
    refine spans_lt (w := w) ?_
    unfold behindsL
    rw [e, cut]
    exact List.mem_append_left _ hp
  unfold pairsP behindsL
  rw [firsts_snoc, if_neg hs, List.append_nil, List.length_append, List.length_singleton, e, cut, cut, List.map_append, List.map_append, map_pre hl lt]
  show _ ++ [((tokA (os ++ [some z]) f, valN (os ++ [some z]) (w ++ [s]) f (w.length + 1 - f - 1)) : Ent)] = modLast _ (_ ++ [((tokA os f, valN os w f (w.length - f - 1)) : Ent)])
  rw [modLast_snoc]
  congr 2
  rw [show w.length + 1 - f - 1 = (w.length - f - 1) + 1 by omega, valN_succ (z := z) (s := s) (by rw [show f + 1 + (w.length - f - 1) = os.length by omega]; exact List.getElem?_concat_length) (by rw [show f + 1 + (w.length - f - 1) = w.length by omega]; exact List.getElem?_concat_length), valN_pre (by omega) (by omega)]
  unfold tokA
  rw [List.getElem?_append_left (by omega)]
/-- one token more -/
def tokStep (L : Lang) (m : Str × List Ent) (z : Str) : Option (Str × List Ent) := (stepL L m.1 (sortO (some z))).map fun s => (s, if s = "name" then m.2 ++ [(z, (.word "yes", []))] else modLast (fun e => (e.1, stepVal e.2 z s)) m.2)
def runM (L : Lang) : Str × List Ent → List Str → Option (Str × List Ent)
  | m, [] => some m
  | m, z :: zs => (tokStep L m z).bind fun m' => runM L m' zs
theorem runM_app {L : Lang} : ∀ {m : Str × List Ent} {a b : List Str}, runM L m (a ++ b) = (runM L m a).bind fun m' => runM L m' b
  | m, [], b => rfl
  | m, z :: a, b => by
    show (tokStep L m z).bind (fun m' => runM L m' (a ++ b)) = ((tokStep L m z).bind fun m' => runM L m' a).bind fun m' => runM L m' b
    cases tokStep L m z with
    | none => rfl
    | some m' => exact runM_app
theorem start_name {L : Lang} {z : Option Str} {s : Str} (h : stepL L "start" z = some s) : s = "name" := by
  unfold stepL at h
  cases z with
  | none => cases h
  | some z =>
    have h : wStart.lookup z = some s := h
    have m := look_mem h
    cases m with
    | head => rfl
    | tail _ m => cases m
theorem runM_go {L : Lang} : ∀ {F : List Str} {st st' : Str} {P P' : List Ent} {os : List (Option Str)} {w : List Str}, os.length = w.length → pairsP os w = P → (st = "start" ∨ firstsL w ≠ []) → runM L (st, P) F = some (st', P') →
    ∃ w', (∀ os2 : List (Option Str), runL L st (F.map some ++ os2) = (match runL L st' os2 with
      | .inl v => (Sum.inl (w' ++ v) : List Str ⊕ (Nat × Str))
      | .inr (j, y) => .inr (F.length + j, y))) ∧ w'.length = F.length ∧ pairsP (os ++ F.map some) (w ++ w') = P'
  | [], st, st', P, P', os, w, hl, hp, hs, h => by
    cases h
    refine ⟨[], fun os2 => ?_, rfl, by rw [List.map_nil, List.append_nil, List.append_nil]; exact hp⟩
    show runL L st os2 = _
    cases runL L st os2 with
    | inl v => rfl
    | inr p =>
      obtain ⟨j, y⟩ := p
      show (Sum.inr (j, y) : List Str ⊕ (Nat × Str)) = .inr (0 + j, y)
      rw [Nat.zero_add]
  | z :: F, st, st', P, P', os, w, hl, hp, hs, h => by
    have h : (tokStep L (st, P) z).bind (fun m' => runM L m' F) = some (st', P') := h
    cases e : stepL L st (sortO (some z)) with
    | none =>
      unfold tokStep at h
      rw [e] at h
      cases h
    | some s =>
      unfold tokStep at h
      rw [e] at h
      have h : runM L (s, if s = "name" then P ++ [(z, (.word "yes", []))] else modLast (fun e => (e.1, stepVal e.2 z s)) P) F = some (st', P') := h
      have hne : s ≠ "name" → firstsL w ≠ [] := fun n => hs.resolve_left fun q => by rw [q] at e; exact n (start_name e)
      have hp2 : pairsP (os ++ [some z]) (w ++ [s]) = if s = "name" then P ++ [(z, (.word "yes", []))] else modLast (fun e => (e.1, stepVal e.2 z s)) P := by
        by_cases n : s = "name"
        · rw [if_pos n, n, pairs_name hl, hp]
        · rw [if_neg n, pairs_more hl n (hne n), hp]
      have hs2 : s = "start" ∨ firstsL (w ++ [s]) ≠ [] := by
        refine .inr ?_
        rw [firsts_snoc]
        by_cases n : s = "name"
        · rw [if_pos n]; simp
        · rw [if_neg n, List.append_nil]; exact hne n
      obtain ⟨w', g1, g2, g3⟩ := runM_go (by rw [List.length_append, List.length_append, hl]; rfl) hp2 hs2 h
      refine ⟨s :: w', fun os2 => ?_, by rw [List.length_cons, List.length_cons, g2], by rw [← g3, List.append_assoc, List.append_assoc]; rfl⟩
      rw [List.map_cons, List.cons_append, runL, e]
      show (match runL L s (F.map some ++ os2) with
        | .inl w => (Sum.inl (s :: w) : List Str ⊕ (Nat × Str))
        | .inr (k, z) => .inr (k + 1, z)) = _
      rw [g1 os2]
      cases runL L st' os2 with
      | inl v => rfl
      | inr p =>
        obtain ⟨j, y⟩ := p
        show (Sum.inr (F.length + j + 1, y) : List Str ⊕ (Nat × Str)) = .inr (F.length + 1 + j, y)
        rw [Nat.add_right_comm]
/-- a file whose tokens lead to where it may end is read, with the entries that came -/
theorem runM_read {L : Lang} {F : List Str} {st : Str} {P : List Ent} (h : runM L ("start", []) F = some (st, P)) (c : closesL L st = true) : ∃ w, runL L "start" (F.map some) = .inl w ∧ w.length = F.length ∧ entriesL (F.map some) w = P.map fun e => (e.1, e.2.1) := by
  obtain ⟨w, g1, g2, g3⟩ := runM_go (os := []) (w := []) rfl rfl (.inl rfl) h
  refine ⟨w, ?_, g2, ?_⟩
  · have := g1 []
    rw [List.append_nil, runL, if_pos c] at this
    rw [this]
    show Sum.inl (w ++ []) = _
    rw [List.append_nil]
  · rw [← pairs_entries]
    have g3 : pairsP (F.map some) w = P := g3
    rw [g3]
end K5

namespace K5S
open PySem L2 K5
theorem line_ge {n : Nat} (h : n ≤ 1000000) : n ≤ sizeLine := Nat.le_trans h (by decide)
def lt (c : Nat) : Bool := decide (97 ≤ c) && decide (c ≤ 122)
def dg (c : Nat) : Bool := decide (48 ≤ c) && decide (c ≤ 57)
def an (c : Nat) : Bool := lt c || dg c
def sg (c : Nat) : Bool := c == 61 || (c == 59 || (c == 44 || (c == 91 || c == 93)))
def bk (c : Nat) : Bool := c == 32 || c == 10
def S (r : List Nat) : Str := ⟨r.toArray⟩
theorem S_cps (r : List Nat) : (S r).cps.toList = r := by simp [S]
theorem S_len (r : List Nat) : (S r).length = r.length := by simp [S, Str.length]
theorem S_of (z : Str) : S z.cps.toList = z := by simp [S]
theorem S_inj {r t : List Nat} (h : S r = S t) : r = t := by rw [← S_cps r, h, S_cps]
theorem str_zero : ("0" : Str) = S [48] := by decide +kernel
theorem str_blank : (" " : Str) = S [32] := by decide +kernel
def lstS (ts : List (List Nat)) : List V := ts.map fun r => V.str (S r)
theorem lstS_add (ts : List (List Nat)) (r : List Nat) : lstS ts ++ [V.str (S r)] = lstS (ts ++ [r]) := by unfold lstS; rw [List.map_append]; rfl
theorem Same.put {H H1 : Hp} {l : Addr} {o : HO} (a : Same H H1) (hl : H l = none) : Same H (upd H1 l o) := fun b u h => by
  rw [upd_ne (ne_of_none h hl)]
  exact a b u h
theorem eq_strB (x y : Str) : decide (V.str x = V.str y) = decide (x = y) := by
  by_cases h : x = y
  · rw [h]; simp
  · have : ¬ V.str x = V.str y := fun z => h (V.str.inj z)
    rw [decide_eq_false h, decide_eq_false this]
theorem join_none : ∀ ys : List (List Nat), TL.joinL [] ys = ys.flatten
  | [] => rfl
  | [y] => by simp [TL.joinL]
  | y :: z :: r => by
    show y ++ ([] ++ TL.joinL [] (z :: r)) = _
    rw [join_none (z :: r)]
    simp
theorem glue (ys : List (List Nat)) : Txt.join (S []) (ys.map S) = S ys.flatten := by
  rw [← join_none]
  exact SX.join_S [] ys
theorem flat_ones (rs : List Nat) : (rs.map fun c => [c]).flatten = rs := by
  induction rs with
  | nil => rfl
  | cons c rs ih => simp [ih]
def onesV (rs : List Nat) : List V := rs.map fun c => V.str (S [c])
theorem onesV_add (rs : List Nat) (c : Nat) : onesV rs ++ [V.str (S [c])] = onesV (rs ++ [c]) := by unfold onesV; rw [List.map_append]; rfl
theorem onesV_eq (rs : List Nat) : onesV rs = ((rs.map fun c => [c]).map S).map V.str := by unfold onesV; rw [List.map_map, List.map_map]; rfl
theorem ones_sum (rs : List Nat) : (((rs.map fun c => [c]).map S).map (·.length)).sum = rs.length := by
  induction rs with
  | nil => rfl
  | cons c rs ih =>
    rw [List.map_cons, List.map_cons, List.map_cons, List.sum_cons, ih, S_len, List.length_cons]
    simp; omega
theorem at_sign {z : Str} {l : List Nat} (hz : z.cps.toList = l) {p : Nat → Bool} (hp : l.all p = true) {r : Int} (h0 : 0 ≤ r) (h1 : r < (l.length : Int)) : ∃ c, atI z.cps.toList r = some c ∧ p c = true := by
  have hr : r.toNat < l.length := by omega
  refine ⟨l[r.toNat], ?_, List.all_eq_true.mp hp _ (List.getElem_mem hr)⟩
  have e : atI l ((r.toNat : Nat) : Int) = some l[r.toNat] := atI_nat (List.getElem?_eq_getElem hr)
  rw [show ((r.toNat : Nat) : Int) = r by omega] at e
  rw [hz]
  exact e
theorem S_app (a b : List Nat) : S a ++ S b = S (a ++ b) := TL.ext_tl (by rw [TL.tl_append]; simp [S, TL.tl])
theorem str_none : ("" : Str) = S [] := by decide +kernel
theorem all_lt : ([97, 98, 99, 100, 101, 102, 103, 104, 105, 106, 107, 108, 109, 110, 111, 112, 113, 114, 115, 116, 117, 118, 119, 120, 121, 122] : List Nat).all lt = true := by decide
theorem all_dg : ([48, 49, 50, 51, 52, 53, 54, 55, 56, 57] : List Nat).all dg = true := by decide
def Ones (p D : Addr) (H2 : Hp) (c : Nat) (t : Nat → Bool) (i : Nat) (H' : Hp) : Prop := ∃ rs : List Nat, rs.length = i ∧ rs.all t = true ∧ H' D = some (.lst (onesV rs)) ∧ Keep p H2 H' ∧ Pool H' p (c + i)
theorem Ones.next {p D : Addr} {H2 H' H'' : Hp} {c i n : Nat} {t : Nat → Bool} (O : Ones p D H2 c t i H') (hD : H2 D = none) (hDp : D ≠ p) (hk : Keep p H' H'') (hp : Pool H'' p (c + i + 1)) {d : Nat} (hd : t d = true) (hi : i < n) (hn : n ≤ 1000) :
    ∃ acc, H'' D = some (.lst acc) ∧ acc.length < sizeLine ∧ Ones p D H2 c t (i + 1) (upd H'' D (.lst (acc ++ [V.str ⟨#[d]⟩]))) := by
  obtain ⟨rs, h1, h2, h3, h4, h5⟩ := O
  refine ⟨onesV rs, hk _ _ hDp h3, ?_, rs ++ [d], by simp [h1], by simp [h2, hd], ?_, ?_, ?_⟩
  · unfold onesV
    rw [List.length_map, h1]
    exact Nat.lt_of_lt_of_le hi (Nat.le_trans hn (by decide))
  · rw [upd_same]
    exact congrArg (fun x => some (HO.lst x)) (onesV_add rs d)
  · intro b o n e
    rw [upd_ne (ne_of_none e hD)]
    exact hk b o n (h4 b o n e)
  · exact hp.other (Ne.symm hDp)
theorem cps_lits : ("abcdefghijklmnopqrstuvwxyz" : Str).cps.toList = [97, 98, 99, 100, 101, 102, 103, 104, 105, 106, 107, 108, 109, 110, 111, 112, 113, 114, 115, 116, 117, 118, 119, 120, 121, 122] := by decide +kernel
theorem eq_noneB (r : List Nat) : decide (V.str (S r) = V.str ("" : Str)) = decide (r = []) := by
  rw [eq_strB, str_none]
  by_cases h : r = []
  · rw [h]; simp
  · rw [decide_eq_false h]
    exact decide_eq_false fun z => h (S_inj z)
theorem lst_short {ts : List (List Nat)} {n : Nat} (h : ts.length ≤ n) (hn : n ≤ 1000000) : (lstS ts).length < sizeLine := by
  unfold lstS
  rw [List.length_map]
  exact Nat.lt_of_le_of_lt (Nat.le_trans h hn) (by decide)
theorem pool_ne {H' : Hp} {p D : Addr} {n : Nat} (a : Pool H' p n) (h : H' D = none) : D ≠ p := by
  obtain ⟨_, _, _, e, _⟩ := a
  exact Ne.symm (ne_of_none e h)
theorem Keep.free {p D : Addr} {H H1 : Hp} (k : Keep p H H1) (n : D ≠ p) (h : H1 D = none) : H D = none := by
  cases e : H D with
  | none => rfl
  | some o =>
    rw [k D o n e] at h
    cases h
theorem Same.keep {p : Addr} {H H1 : Hp} (s : Same H H1) : Keep p H H1 := fun b o _ e => s b o e
theorem Pool.same {H H1 : Hp} {p : Addr} {c : Nat} (a : Pool H p c) (s : Same H H1) : Pool H1 p c := by
  obtain ⟨g, m, k, h, r⟩ := a
  exact ⟨g, m, k, s _ _ h, r⟩
theorem lst_at {rs : List (List Nat)} {i : Nat} {y : V} (h : (lstS rs)[i]? = some y) : ∃ r, rs[i]? = some r ∧ y = V.str (S r) := by
  unfold lstS at h
  rw [List.getElem?_map] at h
  cases e : rs[i]? with
  | none => rw [e] at h; cases h
  | some r => rw [e] at h; exact ⟨r, rfl, (Option.some.inj h).symm⟩
theorem Same.free {H H1 : Hp} {T' : Addr} (s : Same H H1) (h : H1 T' = none) : H T' = none := by
  cases e : H T' with
  | none => rfl
  | some o =>
    rw [s _ _ e] at h
    cases h
theorem Keep.same {p : Addr} {H H1 H2 : Hp} (k : Keep p H1 H2) (s : Same H H1) (hp : H p = none) : Same H H2 := fun b o e => k b o (ne_of_none e hp) (s b o e)
end K5S

namespace K5S
open PySem L2 K5
abbrev sOf : Stmt := top 47
abbrev sLawWord : Stmt := top 48
abbrev sLawWords : Stmt := top 49
def spOf : Sp := fun vs H Q _ => ∃ (p : Addr) (c : Nat) (a : Addr) (xs : List V), vs = [.ref p, .ref a] ∧ Pool H p c ∧ c ≤ 900000 ∧ H a = some (.lst xs) ∧ a ≠ p ∧ xs ≠ [] ∧ xs.length ≤ 1000 ∧
  ∀ (v : V) (H' : Hp), v ∈ xs → Keep p H H' → Pool H' p (c + 1) → Q v H'
theorem at_mem {xs : List V} {r : Int} (h0 : 0 ≤ r) (h1 : r < (xs.length : Int)) : ∃ v, atI xs r = some v ∧ v ∈ xs := by
  have hk : r.toNat < xs.length := by omega
  refine ⟨xs[r.toNat], at_of (j := r.toNat) (by omega) (List.getElem?_eq_getElem hk), List.getElem_mem hk⟩
theorem lstS_eq (ts : List (List Nat)) : lstS ts = (ts.map S).map V.str := by unfold lstS; rw [List.map_map]; rfl
theorem inS (y : List Nat) (ts : List (List Nat)) : inV (.str (S y)) (lstS ts) = decide (y ∈ ts) := by
  rw [lstS_eq, inV_strs]
  have : S y ∈ ts.map S ↔ y ∈ ts := by
    rw [List.mem_map]
    exact ⟨fun ⟨x, hx, e⟩ => S_inj e ▸ hx, fun h => ⟨y, h, rfl⟩⟩
  by_cases h : y ∈ ts
  · rw [decide_eq_true h, decide_eq_true (this.mpr h)]
  · rw [decide_eq_false h, decide_eq_false fun x => h (this.mp x)]
def abc : List Nat := [97, 98, 99, 100, 101, 102, 103, 104, 105, 106, 107, 108, 109, 110, 111, 112, 113, 114, 115, 116, 117, 118, 119, 120, 121, 122]
/-- what may be taken for a word m -/
def cands (m : List Nat) : List (List Nat) := m :: abc.map fun c => m ++ [c]
theorem cands_lt {m : List Nat} (h : m.all lt = true) : ∀ t ∈ cands m, t.all lt = true ∧ t.length ≤ m.length + 1 := by
  intro t ht
  rcases List.mem_cons.mp ht with rfl | ht
  · exact ⟨h, by omega⟩
  · obtain ⟨c, hc, rfl⟩ := List.mem_map.mp ht
    refine ⟨?_, by simp⟩
    rw [List.all_append, h, Bool.true_and]
    have : abc.all lt = true := all_lt
    simp [List.all_eq_true.mp this c hc]
theorem cands_free {m : List Nat} {tk : List (List Nat)} (h : tk.length ≤ 2) : ((cands m).filter fun t => !decide (t ∈ tk)) ≠ [] := by
  intro e
  have all : ∀ y ∈ cands m, y ∈ tk := fun y hy => by
    apply Classical.byContradiction
    intro n
    have : y ∈ (cands m).filter fun t => !decide (t ∈ tk) := List.mem_filter.mpr ⟨hy, by rw [decide_eq_false n]; rfl⟩
    rw [e] at this
    cases this
  have h1 := all m (List.mem_cons_self ..)
  have h2 := all (m ++ [97]) (List.mem_cons_of_mem _ (List.mem_map.mpr ⟨97, by decide, rfl⟩))
  have h3 := all (m ++ [98]) (List.mem_cons_of_mem _ (List.mem_map.mpr ⟨98, by decide, rfl⟩))
  have n12 : m ≠ m ++ [97] := fun q => by have := congrArg List.length q; simp at this
  have n13 : m ≠ m ++ [98] := fun q => by have := congrArg List.length q; simp at this
  have n23 : m ++ [97] ≠ m ++ [98] := fun q => by simp at q
  match tk, h with
  | [], _ => cases h1
  | [x], _ => exact n12 ((List.mem_singleton.mp h1).trans (List.mem_singleton.mp h2).symm)
  | [x, y], _ =>
    simp only [List.mem_cons, List.not_mem_nil, or_false] at h1 h2 h3
    rcases h1 with h1 | h1 <;> rcases h2 with h2 | h2 <;> rcases h3 with h3 | h3
    all_goals first | exact n12 (h1.trans h2.symm) | exact n13 (h1.trans h3.symm) | exact n23 (h2.trans h3.symm)
/-- a drawn word that is not taken -/
def spLawWord : Sp := fun vs H Q _ => ∃ (p : Addr) (c : Nat) (a : Addr) (tk : List (List Nat)), vs = [.ref p, .ref a] ∧ Pool H p c ∧ c ≤ 800000 ∧ H a = some (.lst (lstS tk)) ∧ a ≠ p ∧ tk.length ≤ 2 ∧
  ∀ (r : List Nat) (H' : Hp), r.all lt = true → (1 ≤ r.length ∧ r.length ≤ 12) → Keep p H H' → Pool H' p (c + 12) → Q (.str (S r)) H'
section
variable {P : Program} {w : World} {K : PySem.W.Frag} {mg : Str → Option Value} {base : Heap} {aS : Addr}
theorem scOf : FnScope ["_law_pool_here", "_law_some"] ["_law_pool_here", "_law_some"] (defScope sOf) := ⟨rfl, rfl, rfl, by decide +kernel, rfl, by decide +kernel, by decide +kernel⟩
theorem ok_of {f fP : Addr} {fd fdP : FuncData} (F : Fun K "_law_of" "_law_of" sOf f fd) (T : Mod K mg aS)
    (kP : PySem.W.keepIn K (.ref fP) = true) (GP : FnOk P w K mg base CX0 1 fP fdP ["_law_pool_here", "_law_many"] spPick) (bP : Binds K fdP ["_law_pool_here", "_law_many"] []) (mP : mg "_law_pick" = some (.ref fP)) :
    FnOk P w K mg base CX0 2 f fd ["_law_pool_here", "_law_some"] spOf := by
  refine F.ok scOf (fun vs H Q E h => ?_) (fun cdv A outer s H vs Q E hr h => ?_)
  · obtain ⟨p, c, a, xs, rfl, _⟩ := h
    rfl
  · obtain ⟨p, c, a, xs, rfl, hp, hc, ha, hap, hn, hl, q⟩ := h
    refine ⟨_, pss_one (ps_ret (pe_ix ix_list (pv 1) (pe_call GP hr rfl mP kP bP .nil pass0 (pa_cons (pv 0) (pa_cons (pe_callB call_len_seq (by rfl) T.len PySem.boot_len (pa_cons (pv 1) pa_nil)) pa_nil))) (fun _ _ => rfl))), ?_⟩
    have := List.length_pos_iff.mpr hn
    refine ⟨_, rfl, _, rfl, _, rfl, a, xs, rfl, .inl (SqL.of ha), p, c, _, rfl, hp, by omega, by omega, by omega, fun r H' r0 r1 hk hp' => ?_⟩
    obtain ⟨v, hv, hm⟩ := at_mem r0 r1
    exact ⟨a, xs, r, v, rfl, rfl, SqL.of (hk _ _ hap ha), hv, q v H' hm hk hp'⟩
abbrev nWord : List Str := ["_law_pool_here", "_law_taken", "_law_letters", "_law_many", "_law_wide", "_law_made", "_law_k", "_law_letter", "_law_one"]
theorem scLawWord : FnScope nWord ["_law_pool_here", "_law_taken"] (defScope sLawWord) := ⟨rfl, rfl, rfl, by decide +kernel, rfl, by decide +kernel, by decide +kernel⟩
theorem at_many {r : Int} (h0 : 0 ≤ r) (h1 : r < 6) : ∃ m : Nat, 1 ≤ m ∧ m ≤ 11 ∧ atI [V.int 1, V.int 1, V.int 1, V.int 2, V.int 3, V.int 11] r = some (V.int m) := by
  rcases (show r = 0 ∨ r = 1 ∨ r = 2 ∨ r = 3 ∨ r = 4 ∨ r = 5 by omega) with h | h | h | h | h | h <;> subst h
  · exact ⟨1, by decide, by decide, rfl⟩
  · exact ⟨1, by decide, by decide, rfl⟩
  · exact ⟨1, by decide, by decide, rfl⟩
  · exact ⟨2, by decide, by decide, rfl⟩
  · exact ⟨3, by decide, by decide, rfl⟩
  · exact ⟨11, by decide, by decide, rfl⟩
theorem cands_ne {ls : List Nat} (h : 1 ≤ ls.length) : ∀ r ∈ cands ls, 1 ≤ r.length := fun r hr => by
  unfold cands at hr
  rcases List.mem_cons.mp hr with rfl | hr
  · exact h
  · obtain ⟨c, _, rfl⟩ := List.mem_map.mp hr
    rw [List.length_append]
    show 1 ≤ ls.length + 1
    omega
theorem ok_lawWord {f fP : Addr} {fd fdP : FuncData} (F : Fun K "_law_word" "_law_word" sLawWord f fd) (T : Mod K mg aS)
    (kP : PySem.W.keepIn K (.ref fP) = true) (GP : FnOk P w K mg base CX0 1 fP fdP ["_law_pool_here", "_law_many"] spPick) (bP : Binds K fdP ["_law_pool_here", "_law_many"] []) (mP : mg "_law_pick" = some (.ref fP)) :
    FnOk P w K mg base CX0 2 f fd ["_law_pool_here", "_law_taken"] spLawWord := by
  refine F.ok scLawWord (fun vs H Q E h => ?_) (fun cdv A outer s H vs Q E hr h => ?_)
  · obtain ⟨p, c, a, tk, rfl, _⟩ := h
    rfl
  · obtain ⟨p, c, a, tk, rfl, hp, hc, ha, hap, htk, q⟩ := h
    refine ⟨_, pss_cons (ps_set (i := 2) scLawWord.nd rfl (.inr rfl) pe_str)
      (C8.pss_cut (ps_set (i := 3) scLawWord.nd rfl (.inl rfl) (pe_ix ix_list (pe_lst (pa_cons pe_int (pa_cons pe_int (pa_cons pe_int (pa_cons pe_int (pa_cons pe_int (pa_cons pe_int pa_nil))))))) (pe_call GP hr rfl mP kP bP .nil pass0 (pa_cons (pv 0) (pa_cons pe_int pa_nil))) (fun _ _ => rfl)))
      (C8.pss_cut (ps_set (i := 4) scLawWord.nd rfl (.inr rfl) (pe_ifExp (pt_cmpR op_eq (pv 3) pe_int (nomark _)) pe_int pe_int))
      (C8.pss_cut (ps_set (i := 5) scLawWord.nd rfl (.inr rfl) (pe_join pe_str (pe_lc (own := [("_law_k", 6)]) (g := gName 6) (tt := tYes) (by rfl) scLawWord.nd (pi_range1 (by rfl) T.range (pa_cons (pv 3) pa_nil))
        (blkOk_by (own := [("_law_k", 6)]) (N := nWord) (sc := defScope sLawWord) (by decide +kernel)) (fun _ _ _ _ _ => pg_name (i := 6) scLawWord.nd rfl (Or.inl rfl))
        (fun _ _ _ _ _ => pts_nil) (fun _ _ _ _ _ => pe_ix ix_str (pv 2) (pe_call GP hr rfl mP kP bP .nil pass0 (pa_cons (pv 0) (pa_cons (pv 4) pa_nil))) (fun _ _ => rfl)))))
      (pss_one (ps_ret (pe_ix ix_list (pe_lc (own := [("_law_one", 8)]) (g := gName 8) (tt := tTest (tOp (rIn K true) (tVar 8) (tVar 1))) (by rfl) scLawWord.nd (pi_list (pe_op op_cat (pe_lst (pa_cons (pv 5) pa_nil)) (pe_lc (own := [("_law_letter", 7)]) (g := gName 7) (tt := tYes) (by rfl) scLawWord.nd (pi_str (pv 2))
            (blkOk_by (own := [("_law_letter", 7)]) (N := nWord) (sc := defScope sLawWord) (by decide +kernel)) (fun _ _ _ _ _ => pg_name (i := 7) scLawWord.nd rfl (Or.inl rfl)) (fun _ _ _ _ _ => pts_nil) (fun _ _ _ _ _ => pe_op op_add_str (pv 5) (pv 7)))))
          (blkOk_by (own := [("_law_one", 8)]) (N := nWord) (sc := defScope sLawWord) (by decide +kernel)) (fun _ _ _ _ _ => pg_name (i := 8) scLawWord.nd rfl (Or.inl rfl)) (fun _ _ _ _ _ => pts_one (pt_cmpR op_notIn_seq (pv 8) (pv 1) (by rfl))) (fun _ _ _ _ _ => pv 8)) pe_int (fun _ _ => rfl))))))), ?_⟩
    refine ⟨fun σ H' => ∃ m : Nat, 1 ≤ m ∧ m ≤ 11 ∧ σ = [some (.ref p), some (.ref a), some (.str "abcdefghijklmnopqrstuvwxyz"), some (.int m), none, none, none, none, none] ∧ Keep p H H' ∧ Pool H' p (c + 1), ?_, ?_⟩
    · refine ⟨by show 6 ≤ sizeLine; decide, fun l hl => ⟨_, rfl, p, c, 6, rfl, hp.new hl, by omega, by decide, by decide, fun r H2 r0 r1 hk hp2 => ?_⟩⟩
      obtain ⟨m, m1, m2, hm⟩ := at_many r0 r1
      exact ⟨l, _, r, _, rfl, rfl, SqL.of (hk _ _ (pool_ne hp hl) upd_same), hm, m, m1, m2, rfl, ((Keep.refl p H).new hl).trans hk, hp2⟩
    rintro σ H1 ⟨m, m1, m2, rfl, k1, p1⟩
    refine ⟨fun σ H' => ∃ x : Nat, 1 ≤ x ∧ x ≤ 26 ∧ σ = [some (.ref p), some (.ref a), some (.str "abcdefghijklmnopqrstuvwxyz"), some (.int m), some (.int x), none, none, none, none] ∧ H' = H1, ?_, ?_⟩
    · refine ⟨_, rfl, rfl, _, rfl, ite2 (fun _ => ⟨4, by decide, by decide, rfl, rfl⟩) (fun _ => ⟨26, by decide, by decide, rfl, rfl⟩)⟩
    rintro σ H1' ⟨x, x1, x2, rfl, rfl⟩
    refine ⟨fun σ H' => ∃ ls : List Nat, ls.length = m ∧ ls.all lt = true ∧ σ = [some (.ref p), some (.ref a), some (.str "abcdefghijklmnopqrstuvwxyz"), some (.int m), some (.int x), some (.str (S ls)), none, none, none] ∧ Keep p H H' ∧ Pool H' p (c + 1 + m), ?_, ?_⟩
    · refine ⟨⟨_, rfl⟩, _, rfl, m, rfl, by omega, by omega, fun D hD => ?_⟩
      have hDp := pool_ne p1 hD
      refine lc_range (lo := 0) (n := m) (Ones p D H1' (c + 1) lt) ⟨[], rfl, rfl, upd_same, (Keep.refl p H1').new hD, p1.new hD⟩ ?_ ?_
      · intro i H' hi O
        obtain ⟨_, _, _, _, _, pi⟩ := id O
        refine ⟨rfl, ?_⟩
        refine ⟨_, rfl, _, rfl, _, rfl, p, c + 1 + i, x, rfl, pi, by omega, by omega, by omega, fun r H'' r0 r1 hk hp' => ?_⟩
        obtain ⟨d, hd, hl⟩ := at_sign cps_lits all_lt r0 (by simp; omega)
        exact ⟨_, r, d, rfl, rfl, by decide +kernel, hd, O.next hD hDp hk hp' hl hi (by omega)⟩
      · rintro H' ⟨rs, h1, h2, h3, h4, h5⟩
        refine ⟨_, D, (rs.map fun c => [c]).map S, rfl, rfl, .inl (SqL.of (by rw [h3, onesV_eq])), ?_, ?_⟩
        · rw [ones_sum, str_none, S_len]
          simp
          omega
        · rw [str_none, glue, flat_ones]
          exact ⟨rs, h1, h2, rfl, k1.trans h4, h5⟩
    rintro σ H2 ⟨ls, l1, l2, rfl, k2, p2⟩
    have pk2 := k2
    refine ⟨_, rfl, by show 1 ≤ sizeLine; decide, fun m1' hm1 => ⟨_, rfl, _, rfl, fun D hD => ?_⟩⟩
    have h1n : H2 m1' = none := hm1
    refine lc_it walk_str (fun i H' => Same H2 H' ∧ H' m1' = some (.lst [V.str (S ls)]) ∧ H' D = some (.lst (((("abcdefghijklmnopqrstuvwxyz" : Str).cps.toList.take i).map fun c => V.str (S (ls ++ [c])))))) ?_ (fun _ _ _ _ => trivial) ?_ ?_
    · exact ⟨Same.new (Same.new (Same.refl H2) hm1) hD, by rw [upd_ne (ne_of_none upd_same hD)]; exact upd_same, upd_same⟩
    · rintro i x0 H3 H4 hi ⟨s3, h3, h4⟩ ⟨rfl, c0, hc0, rfl⟩
      refine ⟨rfl, ?_⟩
      have hi' : i < 26 := hi
      refine ⟨_, rfl, _, rfl, _, _, rfl, rfl, ?_, _, h4, ?_, fun b o e => ?_, ?_, ?_⟩
      · rw [S_len]
        show ls.length + 1 ≤ sizeLine
        exact line_ge (by omega)
      · rw [List.length_map, List.length_take]
        exact Nat.lt_of_lt_of_le (show _ < 1000 by omega) (by decide)
      · rw [upd_ne (ne_of_none ((Same.new (o := .lst [V.str (S ls)]) (Same.refl H2) hm1) _ _ e |> fun z => by
          exact z) hD)]
        exact s3 b o e
      · rw [upd_ne (ne_of_none upd_same hD)]; exact h3
      · have : S ls ++ (⟨#[c0]⟩ : Str) = S (ls ++ [c0]) := S_app ls [c0]
        rw [upd_same, this, ← take_more (fun c => V.str (S (ls ++ [c]))) (cps_at hc0)]
    · rintro H3 ⟨s3, h3, h4⟩
      have e26 : ("abcdefghijklmnopqrstuvwxyz" : Str).cps.toList.take ("abcdefghijklmnopqrstuvwxyz" : Str).cps.size = abc := by
        rw [List.take_of_length_le (by simp), cps_lits]
        rfl
      have key : ([V.str (S ls)] : List V) ++ ((("abcdefghijklmnopqrstuvwxyz" : Str).cps.toList.take ("abcdefghijklmnopqrstuvwxyz" : Str).cps.size).map fun c => V.str (S (ls ++ [c]))) = lstS (cands ls) := by
        rw [e26]
        unfold lstS cands
        rw [List.map_cons, List.map_map]
        rfl
      have hap2 : H2 a = some (.lst (lstS tk)) := k2 _ _ hap ha
      refine ⟨m1', D, _, _, rfl, rfl, h3, h4, ?_, fun L hL => ⟨L, rfl, ⟨_, SqL.of upd_same⟩, fun D2 hD2 => ?_⟩⟩
      · rw [e26]
        show 1 + 26 ≤ sizeLine
        decide
      rw [key] at hD2 ⊢
      have t0 : Same H2 (upd H3 L (.lst (lstS (cands ls)))) := Same.new s3 hL
      have hcl : (lstS (cands ls)).length = 27 := by unfold lstS; rw [List.length_map]; rfl
      refine lc_list (K := K) (a := L) (xs := lstS (cands ls)) (fun i H' => Same (upd H3 L (.lst (lstS (cands ls)))) H' ∧ H' D2 = some (.lst (lstS (((cands ls).take i).filter fun t => !decide (t ∈ tk))))) ⟨Same.new (Same.refl _) hD2, upd_same⟩ (fun i H' _ ⟨s', _⟩ => SqL.of (s' _ _ upd_same)) ?_ ?_
      · rintro i y H5 hi ⟨s5, h5⟩
        obtain ⟨r, hr0, rfl⟩ := lst_at hi
        have hi27 : i < 27 := (List.getElem?_eq_some_iff.mp hr0).1
        refine ⟨rfl, ?_⟩
        refine ⟨_, rfl, _, rfl, a, _, rfl, .inl (SqL.of (s5 _ _ (t0 _ _ hap2))), rfl, (by rw [lstS_eq]; exact flat_strs _), _, rfl, ?_⟩
        show if (!inV (.str (S r)) (lstS tk)) = true then _ else _
        rw [inS]
        have tk1 : (cands ls).take (i + 1) = (cands ls).take i ++ [r] := by rw [List.take_add_one, hr0]; rfl
        by_cases hm : r ∈ tk
        · rw [decide_eq_true hm]
          refine iteF ⟨s5, ?_⟩
          rw [tk1, List.filter_append, List.filter_cons_of_neg (by rw [decide_eq_true hm]; decide), List.filter_nil, List.append_nil]
          exact h5
        · rw [decide_eq_false hm]
          refine iteT ⟨_, rfl, _, h5, ?_, Same.put s5 hD2, ?_⟩
          · refine lst_short (n := 27) ?_ (by decide)
            refine Nat.le_trans (List.length_filter_le _ _) ?_
            rw [List.length_take]; omega
          · rw [upd_same, lstS_add, tk1, List.filter_append, List.filter_cons_of_pos (by rw [decide_eq_false hm]; rfl), List.filter_nil]
      · rintro H5 ⟨s5, h5⟩
        rw [hcl, List.take_of_length_le (show (cands ls).length ≤ 27 from Nat.le_refl _)] at h5
        have hn := cands_free (m := ls) htk
        cases hL2 : (cands ls).filter fun t => !decide (t ∈ tk) with
        | nil => exact absurd hL2 hn
        | cons r rs =>
          rw [hL2] at h5
          have hr0 : r ∈ cands ls := (List.mem_filter.mp (by rw [hL2]; exact List.mem_cons_self ..)).1
          obtain ⟨r1, r2⟩ := cands_lt l2 r hr0
          refine ⟨D2, _, 0, _, rfl, rfl, SqL.of h5, atI_nat (j := 0) rfl, q r H5 r1 ⟨cands_ne (by omega) r hr0, by omega⟩ (k2.trans (Same.keep (t0.trans s5))) ((p2.same (t0.trans s5)).mono (by omega))⟩
end
end K5S

namespace K5
open PySem L2
/-! the law's own table beside the program's -/
abbrev Row := List (Str × Option Str)
def sm (b : Bool) (z : Str) : Option Str := if b = true then some z else none
def lEnd (d : Bool) : Row := [("word", some "name"), (";", sm d "ended")]
def lName (m w b : Bool) : Row := [("=", some "equals"), ("word", if m = true then some "done" else sm w "name"), ("number", sm m "done"), ("[", sm m "open"), (";", sm b "ended")]
def lEqu (d x : Bool) : Row := [("=", sm d "equals"), ("word", some "done"), ("number", some "done"), ("[", some "open"), (";", sm x "ended")]
def lOpen : Row := [("word", some "item"), ("]", some "done")]
def lItem (m c j : Bool) : Row := [(",", some "comma"), ("word", if c = true then some "item" else sm j "pair"), ("]", sm (!m) "done")]
def lPair (m : Bool) : Row := [(",", some "comma"), ("]", sm (!m) "done")]
def lCom (d n : Bool) : Row := [("word", some "item"), (",", sm d "comma"), ("]", sm (!n) "done")]
def lDone (m : Bool) : Row := [(";", some "ended"), ("word", sm m "name")]
def lStart : Row := [("word", some "name")]
/-- what a token may be told to be -/
def sorts8 : List Str := ["word", "number", "=", ";", ",", "[", "]", "odd"]
def unodd (z : Str) : Option Str := if z = "odd" then none else some z
theorem r_end : ∀ d : Bool, ∀ z ∈ sorts8, ((lEnd d).lookup z).join = (unodd z).bind fun z => (aEnd d).lookup z := by decide +kernel
theorem r_name : ∀ m w b : Bool, ∀ z ∈ sorts8, ((lName m w b).lookup z).join = (unodd z).bind fun z => (aName m w b).lookup z := by decide +kernel
theorem r_equ : ∀ d x : Bool, ∀ z ∈ sorts8, ((lEqu d x).lookup z).join = (unodd z).bind fun z => (aEqu d x).lookup z := by decide +kernel
theorem r_open : ∀ z ∈ sorts8, (lOpen.lookup z).join = (unodd z).bind fun z => wOpen.lookup z := by decide +kernel
theorem r_item : ∀ m c j : Bool, ∀ z ∈ sorts8, ((lItem m c j).lookup z).join = (unodd z).bind fun z => (aItem m c j).lookup z := by decide +kernel
theorem r_pair : ∀ m : Bool, ∀ z ∈ sorts8, ((lPair m).lookup z).join = (unodd z).bind fun z => (aBeh m).lookup z := by decide +kernel
theorem r_com : ∀ d n : Bool, ∀ z ∈ sorts8, ((lCom d n).lookup z).join = (unodd z).bind fun z => (aCom d n).lookup z := by decide +kernel
theorem r_done : ∀ m : Bool, ∀ z ∈ sorts8, ((lDone m).lookup z).join = (unodd z).bind fun z => (aDone m).lookup z := by decide +kernel
theorem r_start : ∀ z ∈ sorts8, (lStart.lookup z).join = (unodd z).bind fun z => wStart.lookup z := by decide +kernel
/-- the law's table for the options of L -/
def lTab (L : Lang) : List (Str × Row) := [("start", lStart), ("ended", lEnd (inDb L ";")), ("name", lName (isE L) (L.b && isN L) L.b), ("equals", lEqu (inDb L "=") L.x), ("open", lOpen), ("item", lItem (decide (L.l = "must")) (decide (L.c = "may")) (decide (L.c = "joins"))), ("pair", lPair (decide (L.l = "must"))), ("comma", lCom (inDb L ",") (decide (L.l = "never"))), ("done", lDone (isN L))]
def lNext (L : Lang) (st z : Str) : Option Str := ((lTab L).lookup st).bind fun r => (r.lookup z).join
theorem lNext_eq (L : Lang) : ∀ st ∈ nine, ∀ z ∈ sorts8, lNext L st z = stepL L st (unodd z) := by
  intro st hs z hz
  simp only [nine, List.mem_cons, List.not_mem_nil, or_false] at hs
  unfold stepL
  rcases hs with rfl | rfl | rfl | rfl | rfl | rfl | rfl | rfl | rfl
  · exact r_start z hz
  · exact r_name _ _ _ z hz
  · exact r_equ _ _ z hz
  · exact r_open z hz
  · exact r_item _ _ _ z hz
  · exact r_pair _ z hz
  · exact r_com _ _ z hz
  · exact r_done _ z hz
  · exact r_end _ z hz
/-- what the law takes a token for -/
def tagO (o : Option Str) : Str := (sortO o).getD "odd"
theorem sorts_in : ∀ z ∈ K5S.signs, z ∈ sorts8 ∧ z ≠ "odd" := by decide +kernel
theorem sortO_in {o : Option Str} {z : Str} (h : sortO o = some z) : z ∈ sorts8 ∧ z ≠ "odd" := by
  cases o with
  | none => cases h
  | some y =>
    have h : (if y ∈ K5S.signs then some y else if K5S.inAll y K5S.cLetters = true then some ("word" : Str) else if K5S.numOk y = true then some ("number" : Str) else none) = some z := h
    by_cases h1 : y ∈ K5S.signs
    · rw [if_pos h1] at h
      cases h
      exact sorts_in _ h1
    · rw [if_neg h1] at h
      by_cases h2 : K5S.inAll y K5S.cLetters = true
      · rw [if_pos h2] at h
        cases h
        exact ⟨by decide +kernel, by decide +kernel⟩
      · rw [if_neg h2] at h
        by_cases h3 : K5S.numOk y = true
        · rw [if_pos h3] at h
          cases h
          exact ⟨by decide +kernel, by decide +kernel⟩
        · rw [if_neg h3] at h
          cases h
theorem tag_in (o : Option Str) : tagO o ∈ sorts8 := by
  unfold tagO
  cases e : sortO o with
  | none => decide +kernel
  | some z => exact (sortO_in e).1
theorem tag_un (o : Option Str) : unodd (tagO o) = sortO o := by
  unfold tagO unodd
  cases e : sortO o with
  | none => rfl
  | some z => exact if_neg (sortO_in e).2
/-- so the law's step is the program's -/
theorem lNext_step (L : Lang) {st : Str} (hs : st ∈ nine) (o : Option Str) : lNext L st (tagO o) = stepL L st (sortO o) := by
  rw [lNext_eq L st hs _ (tag_in o), tag_un]
/-- and what it awaits too -/
theorem onward_eq (L : Lang) {st : Str} (hs : st ∈ nine) : (sorts7.filter fun z => (lNext L st z).isSome) = sorts7.filter fun z => (stepL L st (some z)).isSome := List.filter_congr fun z hz => by
  have h : ∀ z ∈ sorts7, z ∈ sorts8 ∧ unodd z = some z := by decide +kernel
  rw [lNext_eq L st hs z (h z hz).1, (h z hz).2]
end K5

namespace K5
open PySem L2
abbrev sLNext : Stmt := top 52
abbrev sLClo : Stmt := top 53
/-- the options as the law keeps them -/
structure Opts where
  e : Str
  n : Str
  c : Str
  l : Str
  zs : List Str
  b : Bool
  x : Bool
def Opts.lang (o : Opts) : Lang := { e := o.e, n := o.n, c := o.c, l := o.l, D := sgn3.filter fun z => decide (z ∈ o.zs), b := o.b, x := o.x }
def OptsAt (H : Hp) (oa : Addr) (o : Opts) : Prop := ∃ la, H oa = some (.tup [.str o.e, .str o.n, .str o.c, .str o.l, .ref la, .bl o.b, .bl o.x]) ∧ H la = some (.tup (o.zs.map V.str))
theorem OptsAt.same {H H' : Hp} {oa : Addr} {o : Opts} (h : OptsAt H oa o) (s : Same H H') : OptsAt H' oa o := by
  obtain ⟨la, h1, h2⟩ := h
  exact ⟨la, s _ _ h1, s _ _ h2⟩
def spLClo : Sp := fun vs H Q _ => ∃ (oa : Addr) (st : Str) (o : Opts), vs = [.ref oa, .str st] ∧ OptsAt H oa o ∧ ∀ H', Same H H' → Q (.bl (closesL o.lang st)) H'
section
variable {P : Program} {w : World} {K : PySem.W.Frag} {mg : Str → Option Value} {base : Heap}
theorem scLClo : FnScope ["_law_options_here", "_law_state"] ["_law_options_here", "_law_state"] (defScope sLClo) := ⟨rfl, rfl, rfl, by decide +kernel, rfl, by decide +kernel, by decide +kernel⟩
theorem ok_lclo {f : Addr} {fd : FuncData} (F : Fun K "_law_closes" "_law_closes" sLClo f fd) : FnOk P w K mg base CX0 1 f fd ["_law_options_here", "_law_state"] spLClo := by
  refine F.ok scLClo (fun vs H Q E h => ?_) (fun cdv A outer s H vs Q E hr h => ?_)
  · obtain ⟨oa, st, o, rfl, _⟩ := h
    rfl
  · obtain ⟨oa, st, o, rfl, ⟨la, h1, h2⟩, q⟩ := h
    refine ⟨_, C8.pss_cut (ps_if (pt_cmpR op_in_seq (pv 1) (pe_lst (pa_cons pe_str (pa_cons pe_str pa_nil))) (by rfl)) (pss_one (ps_ret pe_bl)) pss_nil)
      (C8.pss_cut (ps_if (pt_cmpR op_eq (pe_ix ix_tup (pv 0) pe_int (fun _ _ => rfl)) pe_str (nomark _)) (pss_one (ps_ret pe_bl)) pss_nil)
      (pss_one (ps_ret (pe_or (pe_cmpR op_eq (pv 1) pe_str (nomark _)) (pe_or (pe_and (pe_cmpR op_eq (pv 1) pe_str (nomark _)) (pe_one (pe_ix ix_tup (pv 0) pe_int (fun _ _ => rfl)))) (pe_one (pe_and (pe_cmpR op_eq (pv 1) pe_str (nomark _)) (pe_one (pe_ix ix_tup (pv 0) pe_int (fun _ _ => rfl)))))))))), ?_⟩
    unfold closesL at q
    refine ⟨fun σ H' => σ = [some (.ref oa), some (.str st)] ∧ Same H H' ∧ ¬ (st = "start" ∨ st = "ended"), ?_, ?_⟩
    · refine ⟨_, rfl, by show 2 ≤ sizeLine; decide, fun u hu => ⟨u, _, rfl, .inl (SqL.of upd_same), rfl, rfl, _, rfl, ?_⟩⟩
      have s1 := Same.new (o := .lst [.str "start", .str "ended"]) (Same.refl H) hu
      show if inV (V.str st) ((["start", "ended"] : List Str).map V.str) = true then _ else _
      rw [inV_strs]
      by_cases c : st = "start" ∨ st = "ended"
      · rw [decide_eq_true (by simpa using c)]
        rw [if_pos c] at q
        exact iteT (q _ s1)
      · rw [decide_eq_false (by simpa using c)]
        exact iteF ⟨rfl, s1, c⟩
    rintro σ H1 ⟨rfl, s1, c⟩
    rw [if_neg c] at q
    have sq : SqT K H1 oa _ := SqT.of (s1 _ _ h1)
    refine ⟨fun σ H' => σ = [some (.ref oa), some (.str st)] ∧ H' = H1 ∧ ¬ o.n = "must", ?_, ?_⟩
    · refine ⟨_, rfl, oa, _, 1, _, rfl, rfl, sq, atI_nat (j := 1) rfl, rfl, _, rfl, ?_⟩
      show if decide (V.str o.n = V.str "must") = true then _ else _
      rw [eq_strB]
      by_cases cn : o.n = "must"
      · rw [decide_eq_true cn]
        rw [if_pos (show o.lang.n = "must" from cn)] at q
        exact iteT (q _ s1)
      · rw [decide_eq_false cn]
        exact iteF ⟨rfl, rfl, cn⟩
    rintro σ H2 ⟨rfl, rfl, cn⟩
    rw [if_neg (show ¬ o.lang.n = "must" from cn)] at q
    have q := q _ s1
    refine ⟨_, rfl, rfl, _, rfl, ?_⟩
    show if decide (V.str st = V.str "done") = true then _ else _
    rw [eq_strB]
    by_cases cd : st = "done"
    · rw [decide_eq_true cd]
      rw [if_pos cd] at q
      exact iteT q
    rw [decide_eq_false cd]
    rw [if_neg cd] at q
    refine iteF ⟨_, rfl, rfl, _, rfl, ?_⟩
    show if decide (V.str st = V.str "name") = true then _ else _
    rw [eq_strB]
    have fin : ∀ (v1 v2 : Bool), v1 = decide (st = "name") → v2 = decide (st = "equals") → Q (.bl ((v1 && o.b) || (v2 && o.x))) H2 := fun v1 v2 e1 e2 => by rw [e1, e2]; exact q
    cases h1' : decide (st = "name") with
    | true =>
      refine iteT ⟨_, rfl, oa, _, 5, _, rfl, rfl, sq, atI_nat (j := 5) rfl, _, rfl, ?_⟩
      have n2 : decide (st = "equals") = false := decide_eq_false fun e => by
        have := of_decide_eq_true h1'
        rw [this] at e
        exact absurd e (by decide +kernel)
      have f1 := fin true false h1'.symm n2.symm
      cases hb : o.b with
      | true =>
        rw [hb] at f1
        exact iteT f1
      | false =>
        rw [hb] at f1
        refine iteF ⟨_, rfl, rfl, _, rfl, ?_⟩
        show if decide (V.str st = V.str "equals") = true then _ else _
        rw [eq_strB, n2]
        exact iteF f1
    | false =>
      refine iteF ⟨_, rfl, ?_⟩
      refine iteF ⟨_, rfl, rfl, _, rfl, ?_⟩
      show if decide (V.str st = V.str "equals") = true then _ else _
      rw [eq_strB]
      cases h2' : decide (st = "equals") with
      | true =>
        refine iteT ⟨_, rfl, oa, _, 6, _, rfl, rfl, sq, atI_nat (j := 6) rfl, ?_⟩
        have f1 := fin false true h1'.symm h2'.symm
        cases hb : o.x with
        | true => rw [hb] at f1; exact f1
        | false => rw [hb] at f1; exact f1
      | false => exact iteF (fin false false h1'.symm h2'.symm)
end
end K5

namespace K5
open PySem L2
/-- a row of the law's table, as a dict -/
def rK (r : Row) : List (Key × V) := r.map fun x => (Sum.inr x.1, tokV x.2)
theorem ite_v {b : Bool} {x y : V} {H : Hp} {Q : VK} (h : Q (if b = true then x else y) H) : if b = true then Q x H else Q y H := by
  cases b
  · exact h
  · exact h
theorem iv (b : Bool) (z : Str) : (if b = true then V.str z else V.non) = tokV (sm b z) := by cases b <;> rfl
theorem iv' (b : Bool) (z : Str) : (if b = true then V.non else V.str z) = tokV (sm (!b) z) := by cases b <;> rfl
theorem tIf_eq (c : TT) (x y : V) : tIf c (tC x) (tC y) = fun σ H Q => c σ H fun b H' => Q (if b = true then x else y) H' := by
  funext σ H Q
  show (c σ H fun b H' => if b = true then Q x H' else Q y H') = _
  congr 1
  funext b H'
  cases b <;> rfl
structure Opts.Ok (o : Opts) : Prop where
  c : o.c ∈ (["must", "may", "joins"] : List Str)
theorem inDb_eq (o : Opts) : ∀ s ∈ sgn3, inDb o.lang s = decide (s ∈ o.zs) := fun s hs => by
  show decide (s ∈ sgn3.filter fun z => decide (z ∈ o.zs)) = _
  by_cases c : s ∈ o.zs
  · rw [decide_eq_true c]
    exact decide_eq_true (List.mem_filter.mpr ⟨hs, decide_eq_true c⟩)
  · rw [decide_eq_false c]
    exact decide_eq_false fun h => c (of_decide_eq_true (List.mem_filter.mp h).2)
def spLNext : Sp := fun vs H Q _ => ∃ (oa : Addr) (st z : Str) (o : Opts), vs = [.ref oa, .str st, .str z] ∧ OptsAt H oa o ∧ o.Ok ∧ st ∈ nine ∧ ∀ H', Same H H' → Q (tokV (lNext o.lang st z)) H'
abbrev nLNext : List Str := ["_law_options_here", "_law_state", "_law_sort", "_law_signs", "_law_ends", "_law_commas", "_law_final", "_law_twice", "_law_may_be_bare", "_law_may_lack", "_law_is_free", "_law_table"]
/-- the law's cells when it tells its table -/
abbrev c12 (oa la : Addr) (st z : Str) (o : Opts) : St := [some (.ref oa), some (.str st), some (.str z), some (.str o.e), some (.str o.n), some (.str o.c), some (.str o.l), some (.ref la), some (.bl o.b), some (.bl o.x), some (.bl (isE o.lang)), none]
/-- a new dict with these pairs, others as they were -/
def NewR (H : Hp) (r : Row) (Q : VK) : Prop := ∀ a G, H a = none → Same H G → G a = some (.dK (rK r)) → Q (.ref a) G
theorem NewR.go {H : Hp} {r : Row} {Q : VK} {a : Addr} (h : NewR H r Q) (ha : H a = none) (e : mergeK [] (rK r) = rK r) : Q (.ref a) (upd (upd H a (.dK [])) a (.dK (mergeK [] (rK r)))) :=
  h a _ ha (Same.put (Same.new (Same.refl H) ha) ha) (by rw [upd_same, e])
abbrev yn (K : PySem.W.Frag) (s z : Str) : TE := tIf (tTest (tOp (rIn K false) (tC (.str s)) (tVar 7))) (tC (.str z)) (tC .non)
theorem m_end : ∀ d : Bool, mergeK [] (rK (lEnd d)) = rK (lEnd d) := by intro d; cases d <;> kernel_rfl
theorem m_name : ∀ m w b : Bool, mergeK [] (rK (lName m w b)) = rK (lName m w b) := by intro m w b; cases m <;> cases w <;> cases b <;> kernel_rfl
theorem m_equ : ∀ d x : Bool, mergeK [] (rK (lEqu d x)) = rK (lEqu d x) := by intro d x; cases d <;> cases x <;> kernel_rfl
theorem m_item : ∀ m c j : Bool, mergeK [] (rK (lItem m c j)) = rK (lItem m c j) := by intro m c j; cases m <;> cases c <;> cases j <;> kernel_rfl
theorem m_pair : ∀ m : Bool, mergeK [] (rK (lPair m)) = rK (lPair m) := by intro m; cases m <;> kernel_rfl
theorem m_com : ∀ d n : Bool, mergeK [] (rK (lCom d n)) = rK (lCom d n) := by intro d n; cases d <;> cases n <;> kernel_rfl
theorem m_done : ∀ m : Bool, mergeK [] (rK (lDone m)) = rK (lDone m) := by intro m; cases m <;> kernel_rfl
section
variable {K : PySem.W.Frag} {oa la : Addr} {st z : Str} {o : Opts} {H : Hp} {Q : VK}
theorem go_end (hl : SqT K H la (o.zs.map V.str)) (h : NewR H (lEnd (inDb o.lang ";")) Q) : tDisp [(tC (.str "word"), tC (.str "name")), (tC (.str ";"), yn K ";" "ended")] (c12 oa la st z o) H Q := by
  intro a ha
  refine ⟨_, rfl, la, _, rfl, .inr (SqT.ext hl (Same.new (Same.refl H) ha)), rfl, flat_strs _, _, rfl, ?_⟩
  show if inV (V.str ";") (o.zs.map V.str) = true then _ else _
  rw [inV_strs, ← inDb_eq o ";" (by decide +kernel)]
  cases e : inDb o.lang ";" with
  | true =>
    rw [e] at h
    exact iteT ⟨upd_same, rK (lEnd true), rfl, by decide, h.go ha (m_end true)⟩
  | false =>
    rw [e] at h
    exact iteF ⟨upd_same, rK (lEnd false), rfl, by decide, h.go ha (m_end false)⟩
abbrev kk (z : Str) : TE := tC (.str z)
abbrev eqv4 (i : Nat) (s : Str) : TT := tTest (tOp rEq (tVar i) (tC (.str s)))
theorem go_start (h : NewR H lStart Q) : tDisp [(kk "word", kk "name")] (c12 oa la st z o) H Q := by
  intro a ha
  exact ⟨upd_same, rK lStart, rfl, by decide, h.go ha (by kernel_rfl)⟩
theorem go_open (h : NewR H lOpen Q) : tDisp [(kk "word", kk "item"), (kk "]", kk "done")] (c12 oa la st z o) H Q := by
  intro a ha
  exact ⟨upd_same, rK lOpen, rfl, by decide, h.go ha (by kernel_rfl)⟩
theorem go_equ (hl : SqT K H la (o.zs.map V.str)) (h : NewR H (lEqu (inDb o.lang "=") o.x) Q) : tDisp [(kk "=", yn K "=" "equals"), (kk "word", kk "done"), (kk "number", kk "done"), (kk "[", kk "open"), (kk ";", tIf (tB (tVar 9)) (kk "ended") (tC .non))] (c12 oa la st z o) H Q := by
  intro a ha
  refine ⟨_, rfl, la, _, rfl, .inr (SqT.ext hl (Same.new (Same.refl H) ha)), rfl, flat_strs _, _, rfl, ?_⟩
  show if inV (V.str "=") (o.zs.map V.str) = true then _ else _
  rw [inV_strs, ← inDb_eq o "=" (by decide +kernel)]
  cases e : inDb o.lang "=" with
  | true =>
    rw [e] at h
    refine iteT ⟨_, rfl, _, rfl, ?_⟩
    cases ex : o.x with
    | true => rw [ex] at h; exact iteT ⟨upd_same, rK (lEqu true true), rfl, by decide, h.go ha (m_equ _ _)⟩
    | false => rw [ex] at h; exact iteF ⟨upd_same, rK (lEqu true false), rfl, by decide, h.go ha (m_equ _ _)⟩
  | false =>
    rw [e] at h
    refine iteF ⟨_, rfl, _, rfl, ?_⟩
    cases ex : o.x with
    | true => rw [ex] at h; exact iteT ⟨upd_same, rK (lEqu false true), rfl, by decide, h.go ha (m_equ _ _)⟩
    | false => rw [ex] at h; exact iteF ⟨upd_same, rK (lEqu false false), rfl, by decide, h.go ha (m_equ _ _)⟩
theorem go_pair (h : NewR H (lPair (decide (o.lang.l = "must"))) Q) : tDisp [(kk ",", kk "comma"), (kk "]", tIf (eqv4 6 "must") (tC .non) (kk "done"))] (c12 oa la st z o) H Q := by
  intro a ha
  refine ⟨_, rfl, rfl, _, rfl, ?_⟩
  show if decide (V.str o.l = V.str "must") = true then _ else _
  rw [eq_strB]
  have h : NewR H (lPair (decide (o.l = "must"))) Q := h
  cases e : decide (o.l = "must") with
  | true => rw [e] at h; exact iteT ⟨upd_same, rK (lPair true), rfl, by decide, h.go ha (m_pair _)⟩
  | false => rw [e] at h; exact iteF ⟨upd_same, rK (lPair false), rfl, by decide, h.go ha (m_pair _)⟩
theorem go_done (h : NewR H (lDone (isN o.lang)) Q) : tDisp [(kk ";", kk "ended"), (kk "word", tIf (eqv4 4 "may") (kk "name") (tC .non))] (c12 oa la st z o) H Q := by
  intro a ha
  refine ⟨_, rfl, rfl, _, rfl, ?_⟩
  show if decide (V.str o.n = V.str "may") = true then _ else _
  rw [eq_strB]
  have h : NewR H (lDone (decide (o.n = "may"))) Q := h
  cases e : decide (o.n = "may") with
  | true => rw [e] at h; exact iteT ⟨upd_same, rK (lDone true), rfl, by decide, h.go ha (m_done _)⟩
  | false => rw [e] at h; exact iteF ⟨upd_same, rK (lDone false), rfl, by decide, h.go ha (m_done _)⟩
theorem go_com (hl : SqT K H la (o.zs.map V.str)) (h : NewR H (lCom (inDb o.lang ",") (decide (o.lang.l = "never"))) Q) : tDisp [(kk "word", kk "item"), (kk ",", yn K "," "comma"), (kk "]", tIf (eqv4 6 "never") (tC .non) (kk "done"))] (c12 oa la st z o) H Q := by
  intro a ha
  refine ⟨_, rfl, la, _, rfl, .inr (SqT.ext hl (Same.new (Same.refl H) ha)), rfl, flat_strs _, _, rfl, ?_⟩
  show if inV (V.str ",") (o.zs.map V.str) = true then _ else _
  rw [inV_strs, ← inDb_eq o "," (by decide +kernel)]
  have h : NewR H (lCom (inDb o.lang ",") (decide (o.l = "never"))) Q := h
  cases e : inDb o.lang "," with
  | true =>
    rw [e] at h
    refine iteT ⟨_, rfl, rfl, _, rfl, ?_⟩
    show if decide (V.str o.l = V.str "never") = true then _ else _
    rw [eq_strB]
    cases ex : decide (o.l = "never") with
    | true => rw [ex] at h; exact iteT ⟨upd_same, rK (lCom true true), rfl, by decide, h.go ha (m_com _ _)⟩
    | false => rw [ex] at h; exact iteF ⟨upd_same, rK (lCom true false), rfl, by decide, h.go ha (m_com _ _)⟩
  | false =>
    rw [e] at h
    refine iteF ⟨_, rfl, rfl, _, rfl, ?_⟩
    show if decide (V.str o.l = V.str "never") = true then _ else _
    rw [eq_strB]
    cases ex : decide (o.l = "never") with
    | true => rw [ex] at h; exact iteT ⟨upd_same, rK (lCom false true), rfl, by decide, h.go ha (m_com _ _)⟩
    | false => rw [ex] at h; exact iteF ⟨upd_same, rK (lCom false false), rfl, by decide, h.go ha (m_com _ _)⟩
theorem go_name (h : NewR H (lName (isE o.lang) (o.b && isN o.lang) o.b) Q) : tDisp [(kk "=", kk "equals"), (kk "word", tIf (tB (tVar 10)) (kk "done") (tIf (tAnd (tB (tVar 8)) (eqv4 4 "may")) (kk "name") (tC .non))), (kk "number", tIf (tB (tVar 10)) (kk "done") (tC .non)), (kk "[", tIf (tB (tVar 10)) (kk "open") (tC .non)), (kk ";", tIf (tB (tVar 8)) (kk "ended") (tC .non))] (c12 oa la st z o) H Q := by
  intro a ha
  refine ⟨_, rfl, isE o.lang, rfl, ?_⟩
  have h : NewR H (lName (isE o.lang) (o.b && decide (o.n = "may")) o.b) Q := h
  cases em : isE o.lang with
  | true =>
    rw [em] at h
    refine iteT ⟨_, rfl, true, by rw [← em], iteT ⟨_, rfl, true, by rw [← em], iteT ⟨_, rfl, o.b, rfl, ?_⟩⟩⟩
    cases eb : o.b with
    | true =>
      rw [eb] at h
      exact iteT ⟨upd_same, rK (lName true (true && decide (o.n = "may")) true), rfl, by show 5 ≤ 15; decide, h.go ha (m_name _ _ _)⟩
    | false =>
      rw [eb] at h
      exact iteF ⟨upd_same, rK (lName true (false && decide (o.n = "may")) false), rfl, by show 5 ≤ 15; decide, h.go ha (m_name _ _ _)⟩
  | false =>
    rw [em] at h
    refine iteF ⟨_, rfl, o.b, rfl, ?_⟩
    cases eb : o.b with
    | true =>
      rw [eb] at h
      refine iteT ⟨_, rfl, rfl, _, rfl, ?_⟩
      show if decide (V.str o.n = V.str "may") = true then _ else _
      rw [eq_strB]
      cases en : decide (o.n = "may") with
      | true =>
        rw [en] at h
        exact iteT ⟨_, rfl, false, by rw [← em], iteF ⟨_, rfl, false, by rw [← em], iteF ⟨_, rfl, true, by rw [← eb], iteT ⟨upd_same, rK (lName false true true), rfl, by decide, h.go ha (m_name _ _ _)⟩⟩⟩⟩
      | false =>
        rw [en] at h
        exact iteF ⟨_, rfl, false, by rw [← em], iteF ⟨_, rfl, false, by rw [← em], iteF ⟨_, rfl, true, by rw [← eb], iteT ⟨upd_same, rK (lName false false true), rfl, by decide, h.go ha (m_name _ _ _)⟩⟩⟩⟩
    | false =>
      rw [eb] at h
      exact iteF (iteF ⟨_, rfl, false, by rw [← em], iteF ⟨_, rfl, false, by rw [← em], iteF ⟨_, rfl, false, by rw [← eb], iteF ⟨upd_same, rK (lName false false false), rfl, by decide, h.go ha (m_name _ _ _)⟩⟩⟩⟩)
/-- what may follow an item, by the option -/
theorem com3 (ok : o.Ok) : ∃ v, valV (mergeK [] [((.inr "must" : Key), V.non), (.inr "may", .str "item"), (.inr "joins", .str "pair")]) (.inr o.c) = some v ∧ v = tokV (if decide (o.c = "may") = true then some "item" else sm (decide (o.c = "joins")) "pair") := by
  have h := ok.c
  simp only [List.mem_cons, List.not_mem_nil, or_false] at h
  rcases h with e | e | e <;> rw [e]
  · exact ⟨.non, by kernel_rfl, by kernel_rfl⟩
  · exact ⟨.str "item", by kernel_rfl, by kernel_rfl⟩
  · exact ⟨.str "pair", by kernel_rfl, by kernel_rfl⟩
theorem go_item (ok : o.Ok) (h : NewR H (lItem (decide (o.lang.l = "must")) (decide (o.lang.c = "may")) (decide (o.lang.c = "joins"))) Q) : tDisp [(kk ",", kk "comma"), (kk "word", tDGet (tDisp [(kk "must", tC .non), (kk "may", kk "item"), (kk "joins", kk "pair")]) (tVar 5)), (kk "]", tIf (eqv4 6 "must") (tC .non) (kk "done"))] (c12 oa la st z o) H Q := by
  intro a ha
  intro b hb
  have hb' : b ≠ a := (ne_of_none upd_same hb).symm
  refine ⟨upd_same, [(.inr "must", .non), (.inr "may", .str "item"), (.inr "joins", .str "pair")], rfl, by decide, ?_⟩
  obtain ⟨v, e1, e2⟩ := com3 ok
  refine ⟨_, rfl, b, v, rfl, by rw [← e1]; exact DGet.k (k := .inr o.c) upd_same, ?_⟩
  refine ⟨_, rfl, rfl, _, rfl, ?_⟩
  show if decide (V.str o.l = V.str "must") = true then _ else _
  rw [eq_strB]
  have h : NewR H (lItem (decide (o.l = "must")) (decide (o.c = "may")) (decide (o.c = "joins"))) Q := h
  -- the small dict lies beside
  have free0 : H b = none := by rw [upd_ne hb'] at hb; exact hb
  have last : ∀ m : Bool, decide (o.l = "must") = m → Q (.ref a) (upd (upd (upd (upd H a (.dK [])) b (.dK [])) b (.dK (mergeK [] [((.inr "must" : Key), V.non), (.inr "may", .str "item"), (.inr "joins", .str "pair")]))) a (.dK (mergeK [] (rK (lItem m (decide (o.c = "may")) (decide (o.c = "joins"))))))) := fun m em => by
    rw [em] at h
    refine h a _ ha ?_ (by rw [upd_same, m_item])
    exact Same.put (Same.put (Same.new (Same.new (Same.refl H) ha) hb) free0) ha
  have ea : (upd (upd (upd H a (.dK [])) b (.dK [])) b (.dK (mergeK [] [((.inr "must" : Key), V.non), (.inr "may", .str "item"), (.inr "joins", .str "pair")]))) a = some (.dK []) := by rw [upd_ne hb'.symm, upd_ne hb'.symm, upd_same]
  cases el : decide (o.l = "must") with
  | true => exact iteT ⟨ea, rK (lItem true (decide (o.c = "may")) (decide (o.c = "joins"))), by rw [e2]; rfl, by show 3 ≤ 15; decide, last true el⟩
  | false => exact iteF ⟨ea, rK (lItem false (decide (o.c = "may")) (decide (o.c = "joins"))), by rw [e2]; rfl, by show 3 ≤ 15; decide, last false el⟩
/-- rows one behind another -/
theorem tab_go {σ : St} {zs : List V} : ∀ (rs : List (Str × TE × Row)), (∀ x ∈ rs, ∀ (H : Hp) (Q : VK), SqT K H la zs → NewR H x.2.2 Q → x.2.1 σ H Q) → ∀ (H : Hp) (k : List (V × V) → Hp → Prop), SqT K H la zs →
    (∀ (ps : List Addr) (G : Hp), ps.length = rs.length → Same H G → (∀ (i : Nat) (p : Addr) (x : Str × TE × Row), ps[i]? = some p → rs[i]? = some x → G p = some (.dK (rK x.2.2))) → k ((rs.map fun x => V.str x.1).zip (ps.map V.ref)) G) → tPairs (rs.map fun x => (kk x.1, x.2.1)) σ H k
  | [], _, H, k, _, h => h [] H rfl (Same.refl H) (fun _ _ _ e => nomatch e)
  | x :: rs, hr, H, k, hl, h => by
    show x.2.1 σ H fun y H2 => tPairs (rs.map fun x => (kk x.1, x.2.1)) σ H2 fun ps H3 => k ((V.str x.1, y) :: ps) H3
    refine hr x List.mem_cons_self H _ hl fun a G ha s e => ?_
    refine tab_go rs (fun y hy => hr y (List.mem_cons_of_mem _ hy)) G _ (SqT.ext hl s) fun ps G2 hps s2 h2 => ?_
    refine h (a :: ps) G2 (by rw [List.length_cons, List.length_cons, hps]) (s.trans s2) fun i p y hp hy => ?_
    cases i with
    | zero => cases hp; cases hy; exact s2 _ _ e
    | succ i => exact h2 i p y hp hy
/-- the law's rows -/
def rs9 (K : PySem.W.Frag) (o : Opts) : List (Str × TE × Row) := [("start", tDisp [(kk "word", kk "name")], lStart), ("ended", tDisp [(kk "word", kk "name"), (kk ";", yn K ";" "ended")], lEnd (inDb o.lang ";")),
  ("name", tDisp [(kk "=", kk "equals"), (kk "word", tIf (tB (tVar 10)) (kk "done") (tIf (tAnd (tB (tVar 8)) (eqv4 4 "may")) (kk "name") (tC .non))), (kk "number", tIf (tB (tVar 10)) (kk "done") (tC .non)), (kk "[", tIf (tB (tVar 10)) (kk "open") (tC .non)), (kk ";", tIf (tB (tVar 8)) (kk "ended") (tC .non))], lName (isE o.lang) (o.b && isN o.lang) o.b),
  ("equals", tDisp [(kk "=", yn K "=" "equals"), (kk "word", kk "done"), (kk "number", kk "done"), (kk "[", kk "open"), (kk ";", tIf (tB (tVar 9)) (kk "ended") (tC .non))], lEqu (inDb o.lang "=") o.x),
  ("open", tDisp [(kk "word", kk "item"), (kk "]", kk "done")], lOpen),
  ("item", tDisp [(kk ",", kk "comma"), (kk "word", tDGet (tDisp [(kk "must", tC .non), (kk "may", kk "item"), (kk "joins", kk "pair")]) (tVar 5)), (kk "]", tIf (eqv4 6 "must") (tC .non) (kk "done"))], lItem (decide (o.lang.l = "must")) (decide (o.lang.c = "may")) (decide (o.lang.c = "joins"))),
  ("pair", tDisp [(kk ",", kk "comma"), (kk "]", tIf (eqv4 6 "must") (tC .non) (kk "done"))], lPair (decide (o.lang.l = "must"))),
  ("comma", tDisp [(kk "word", kk "item"), (kk ",", yn K "," "comma"), (kk "]", tIf (eqv4 6 "never") (tC .non) (kk "done"))], lCom (inDb o.lang ",") (decide (o.lang.l = "never"))),
  ("done", tDisp [(kk ";", kk "ended"), (kk "word", tIf (eqv4 4 "may") (kk "name") (tC .non))], lDone (isN o.lang))]
theorem rs9_go (ok : o.Ok) : ∀ x ∈ rs9 K o, ∀ (H : Hp) (Q : VK), SqT K H la (o.zs.map V.str) → NewR H x.2.2 Q → x.2.1 (c12 oa la st z o) H Q := by
  intro x hx H Q hl h
  simp only [rs9, List.mem_cons, List.not_mem_nil, or_false] at hx
  rcases hx with rfl | rfl | rfl | rfl | rfl | rfl | rfl | rfl | rfl
  · exact go_start h
  · exact go_end hl h
  · exact go_name h
  · exact go_equ hl h
  · exact go_open h
  · exact go_item ok h
  · exact go_pair h
  · exact go_com hl h
  · exact go_done h
theorem rs9_tab (i : Nat) (s : Str) (r : Row) (h : (lTab o.lang)[i]? = some (s, r)) : ∃ te, (rs9 K o)[i]? = some (s, te, r) := by
  match i, h with
  | 0, h => cases h; exact ⟨_, rfl⟩
  | 1, h => cases h; exact ⟨_, rfl⟩
  | 2, h => cases h; exact ⟨_, rfl⟩
  | 3, h => cases h; exact ⟨_, rfl⟩
  | 4, h => cases h; exact ⟨_, rfl⟩
  | 5, h => cases h; exact ⟨_, rfl⟩
  | 6, h => cases h; exact ⟨_, rfl⟩
  | 7, h => cases h; exact ⟨_, rfl⟩
  | 8, h => cases h; exact ⟨_, rfl⟩
  | n + 9, h => cases h
theorem row_ne : ∀ x ∈ rs9 K o, rK x.2.2 ≠ [] := by
  intro x hx
  simp only [rs9, List.mem_cons, List.not_mem_nil, or_false] at hx
  rcases hx with rfl | rfl | rfl | rfl | rfl | rfl | rfl | rfl | rfl <;> exact fun e => (nomatch e)
theorem kv9 (L : Lang) (a1 a2 a3 a4 a5 a6 a7 a8 a9 : Addr) : mergeK [] (((lTab L).map (·.1)).zip [a1, a2, a3, a4, a5, a6, a7, a8, a9] |>.map fun x => ((Sum.inr x.1 : Key), V.ref x.2)) = (((lTab L).map (·.1)).zip [a1, a2, a3, a4, a5, a6, a7, a8, a9] |>.map fun x => (Sum.inr x.1, V.ref x.2)) := by kernel_rfl
end
section
variable {P : Program} {w : World} {K : PySem.W.Frag} {mg : Str → Option Value} {base : Heap}
theorem scLNext : FnScope nLNext ["_law_options_here", "_law_state", "_law_sort"] (defScope sLNext) := ⟨rfl, rfl, rfl, by decide +kernel, rfl, by decide +kernel, by decide +kernel⟩
theorem ok_lnext {f : Addr} {fd : FuncData} (F : Fun K "_law_next" "_law_next" sLNext f fd) : FnOk P w K mg base CX0 1 f fd ["_law_options_here", "_law_state", "_law_sort"] spLNext := by
  refine F.ok scLNext (fun vs H Q E h => ?_) (fun cdv A outer s H vs Q E hr h => ?_)
  · obtain ⟨oa, st, z, o, rfl, _⟩ := h
    rfl
  · obtain ⟨oa, st, z, o, rfl, ⟨la, h1, h2⟩, ok, hs, q⟩ := h
    have hu := hu_of hr
    have nl : ∀ zz : ([] : List (Expr × Expr)) = [] , True := fun _ => trivial
    refine ⟨_, C8.pss_cut (ps_asg (pv 0) (pg_tup (by rfl) (pgs_cons (pg_name (i := 3) scLNext.nd rfl (.inl rfl)) (pgs_cons (pg_name (i := 4) scLNext.nd rfl (.inl rfl)) (pgs_cons (pg_name (i := 5) scLNext.nd rfl (.inl rfl)) (pgs_cons (pg_name (i := 6) scLNext.nd rfl (.inl rfl)) (pgs_cons (pg_name (i := 7) scLNext.nd rfl (.inl rfl)) (pgs_cons (pg_name (i := 8) scLNext.nd rfl (.inl rfl)) (pgs_cons (pg_name (i := 9) scLNext.nd rfl (.inl rfl)) pgs_nil)))))))))
      (C8.pss_cut (ps_set (i := 10) scLNext.nd rfl (.inl rfl) (pe_cmpR op_eq (pv 3) pe_str (nomark _)))
      (C8.pss_cut (ps_set (i := 11) scLNext.nd rfl (.inl rfl) (pe_disp
        (pps_cons pe_str (pe_disp (pps_cons pe_str pe_str pps_nil) (by rfl) (by rfl) (fun z => by cases z) (by decide))
        (pps_cons pe_str (pe_disp (pps_cons pe_str pe_str (pps_cons pe_str (pe_ifExp (pt_cmpR op_in_seq pe_str (pv 7) (by rfl)) pe_str pe_non) pps_nil)) (by rfl) (by rfl) (fun z => by cases z) (by decide))
        (pps_cons pe_str (pe_disp (pps_cons pe_str pe_str (pps_cons pe_str (pe_ifExp (pt_val (pv 10)) pe_str (pe_ifExp (PW.pt (pw_and (pt_val (pv 8)) (pw_and1 (pt_cmpR op_eq (pv 4) pe_str (nomark _))))) pe_str pe_non)) (pps_cons pe_str (pe_ifExp (pt_val (pv 10)) pe_str pe_non) (pps_cons pe_str (pe_ifExp (pt_val (pv 10)) pe_str pe_non) (pps_cons pe_str (pe_ifExp (pt_val (pv 8)) pe_str pe_non) pps_nil))))) (by rfl) (by rfl) (fun z => by cases z) (by decide))
        (pps_cons pe_str (pe_disp (pps_cons pe_str (pe_ifExp (pt_cmpR op_in_seq pe_str (pv 7) (by rfl)) pe_str pe_non) (pps_cons pe_str pe_str (pps_cons pe_str pe_str (pps_cons pe_str pe_str (pps_cons pe_str (pe_ifExp (pt_val (pv 9)) pe_str pe_non) pps_nil))))) (by rfl) (by rfl) (fun z => by cases z) (by decide))
        (pps_cons pe_str (pe_disp (pps_cons pe_str pe_str (pps_cons pe_str pe_str pps_nil)) (by rfl) (by rfl) (fun z => by cases z) (by decide))
        (pps_cons pe_str (pe_disp (pps_cons pe_str pe_str (pps_cons pe_str (pe_dget hu (pe_disp (pps_cons pe_str pe_non (pps_cons pe_str pe_str (pps_cons pe_str pe_str pps_nil))) (by rfl) (by rfl) (fun z => by cases z) (by decide)) (pv 5) (fun _ _ => rfl)) (pps_cons pe_str (pe_ifExp (pt_cmpR op_eq (pv 6) pe_str (nomark _)) pe_non pe_str) pps_nil))) (by rfl) (by rfl) (fun z => by cases z) (by decide))
        (pps_cons pe_str (pe_disp (pps_cons pe_str pe_str (pps_cons pe_str (pe_ifExp (pt_cmpR op_eq (pv 6) pe_str (nomark _)) pe_non pe_str) pps_nil)) (by rfl) (by rfl) (fun z => by cases z) (by decide))
        (pps_cons pe_str (pe_disp (pps_cons pe_str pe_str (pps_cons pe_str (pe_ifExp (pt_cmpR op_in_seq pe_str (pv 7) (by rfl)) pe_str pe_non) (pps_cons pe_str (pe_ifExp (pt_cmpR op_eq (pv 6) pe_str (nomark _)) pe_non pe_str) pps_nil))) (by rfl) (by rfl) (fun z => by cases z) (by decide))
        (pps_cons pe_str (pe_disp (pps_cons pe_str pe_str (pps_cons pe_str (pe_ifExp (pt_cmpR op_eq (pv 4) pe_str (nomark _)) pe_str pe_non) pps_nil)) (by rfl) (by rfl) (fun z => by cases z) (by decide)) pps_nil))))))))) (by rfl) (by rfl) (fun z => by cases z) (by decide)))
      (pss_one (ps_ret (pe_dget2 hu (pe_dget hu (pv 11) (pv 1) (fun _ _ => rfl)) (pv 2) pe_non ⟨by rfl, by rfl, by rfl, by rfl⟩))))), ?_⟩
    have sl : 2 ≤ sizeLine := by decide
    refine ⟨fun σ H' => σ = [some (.ref oa), some (.str st), some (.str z), some (.str o.e), some (.str o.n), some (.str o.c), some (.str o.l), some (.ref la), some (.bl o.b), some (.bl o.x), none, none] ∧ H' = H, ?_, ?_⟩
    · exact ⟨_, rfl, oa, _, rfl, SqT.of h1, rfl, _, _, rfl, _, _, rfl, _, _, rfl, _, _, rfl, _, _, rfl, _, _, rfl, _, _, rfl, rfl, rfl, rfl⟩
    rintro σ H0 ⟨rfl, rfl⟩
    refine ⟨fun σ H' => σ = [some (.ref oa), some (.str st), some (.str z), some (.str o.e), some (.str o.n), some (.str o.c), some (.str o.l), some (.ref la), some (.bl o.b), some (.bl o.x), some (.bl (isE o.lang)), none] ∧ H' = H0, ?_, ?_⟩
    · refine ⟨_, rfl, rfl, ?_⟩
      show _ = _ ∧ _
      rw [eq_strB]
      exact ⟨rfl, rfl⟩
    rintro σ H1 ⟨rfl, rfl⟩
    have hin : ∀ s ∈ sgn3, inV (V.str s) (o.zs.map V.str) = inDb o.lang s := fun s hs => by rw [inV_strs, inDb_eq o s hs]
    have hl1 : decide (V.str o.l = V.str "must") = decide (o.lang.l = "must") := eq_strB _ _
    have hl2 : decide (V.str o.l = V.str "never") = decide (o.lang.l = "never") := eq_strB _ _
    have hn1 : decide (V.str o.n = V.str "may") = isN o.lang := eq_strB _ _
    refine ⟨fun σ H' => ∃ (T : Addr) (ps : List Addr), σ = [some (.ref oa), some (.str st), some (.str z), some (.str o.e), some (.str o.n), some (.str o.c), some (.str o.l), some (.ref la), some (.bl o.b), some (.bl o.x), some (.bl (isE o.lang)), some (.ref T)] ∧ ps.length = 9 ∧ H' T = some (.dK (((lTab o.lang).map (·.1)).zip ps |>.map fun x => (Sum.inr x.1, V.ref x.2))) ∧ (∀ (i : Nat) (p : Addr) (s : Str) (r : Row), ps[i]? = some p → (lTab o.lang)[i]? = some (s, r) → H' p = some (.dK (rK r))) ∧ Same H1 H', ?_, ?_⟩
    · intro T hT
      have s0 := Same.new (o := .dK []) (Same.refl H1) hT
      refine tab_go (zs := o.zs.map V.str) (rs9 K o) (rs9_go ok) _ _ (SqT.of (s0 _ _ h2)) fun ps G hps s e => ?_
      have eT : G T = some (.dK []) := s _ _ upd_same
      match ps, hps with
      | [a1, a2, a3, a4, a5, a6, a7, a8, a9], hps =>
        refine ⟨eT, ((lTab o.lang).map (·.1)).zip [a1, a2, a3, a4, a5, a6, a7, a8, a9] |>.map fun x => (Sum.inr x.1, V.ref x.2), rfl, by show 9 ≤ 15; decide, T, [a1, a2, a3, a4, a5, a6, a7, a8, a9], rfl, rfl, by rw [upd_same, kv9], fun i p s' r hp hr => ?_, Same.put (s0.trans s) hT⟩
        obtain ⟨te, ht⟩ := rs9_tab (K := K) i s' r hr
        have ep := e i p _ hp ht
        rw [upd_ne fun z => by
          rw [z, eT] at ep
          exact row_ne _ (List.mem_of_getElem? ht) (HO.dK.inj (Option.some.inj ep)).symm]
        exact ep
    rintro σ H2 ⟨T, ps, rfl, hps, hT, hrows, s2⟩
    obtain ⟨r, hlr⟩ : ∃ r, (lTab o.lang).lookup st = some r := by
      simp only [nine, List.mem_cons, List.not_mem_nil, or_false] at hs
      rcases hs with rfl | rfl | rfl | rfl | rfl | rfl | rfl | rfl | rfl <;> exact ⟨_, rfl⟩
    obtain ⟨i, p, e1, e2, e3⟩ := look_at (ps := ps) (show ps.length = (lTab o.lang).length from hps) hlr
    have hp := hrows i p st r e2 e1
    have dg : DGet H2 T (.str st) (some (.ref p)) := by
      have e : valV (((lTab o.lang).map (·.1)).zip ps |>.map fun x => ((Sum.inr x.1 : Key), V.ref x.2)) (.inr st) = some (.ref p) := by
        rw [val_look V.ref, e3]
        rfl
      rw [← e]
      exact DGet.k (k := .inr st) hT
    refine ⟨_, rfl, _, rfl, T, _, rfl, dg, p, rfl, .inl ⟨_, .inl hp⟩, _, rfl, _, DGet.k (k := .inr z) hp, ?_⟩
    have q := q H2 s2
    unfold lNext at q
    rw [hlr] at q
    unfold rK
    rw [val_look tokV]
    cases e : r.lookup z with
    | none =>
      have q : Q (tokV ((r.lookup z).join)) H2 := q
      rw [e] at q
      exact q
    | some y =>
      have q : Q (tokV ((r.lookup z).join)) H2 := q
      rw [e] at q
      exact q
end
end K5

namespace K5
open PySem L2
abbrev sOnw : Stmt := top 60
def spOnw : Sp := fun vs H Q _ => ∃ (oa : Addr) (st : Str) (o : Opts), vs = [.ref oa, .str st] ∧ OptsAt H oa o ∧ o.Ok ∧ st ∈ nine ∧ ∀ t H', H t = none → Same H H' → H' t = some (.tup ((nextL o.lang st).map V.str)) → Q (.ref t) H'
abbrev nOnw : List Str := ["_law_options_here", "_law_state", "_law_found", "_law_sort"]
section
variable {P : Program} {w : World} {K : PySem.W.Frag} {mg : Str → Option Value} {base : Heap}
theorem scOnw : FnScope nOnw ["_law_options_here", "_law_state"] (defScope sOnw) := ⟨rfl, rfl, rfl, by decide +kernel, rfl, by decide +kernel, by decide +kernel⟩
theorem ok_onw {f : Addr} {fd : FuncData} (F : Fun K "_law_onward" "_law_onward" sOnw f fd) (T : Bare mg) (GN : Fn P w K mg base 1 "_law_next" ["_law_options_here", "_law_state", "_law_sort"] spLNext) (GC : Fn P w K mg base 1 "_law_closes" ["_law_options_here", "_law_state"] spLClo) :
    FnOk P w K mg base CX0 2 f fd ["_law_options_here", "_law_state"] spOnw := by
  refine F.ok scOnw (fun vs H Q E h => ?_) (fun cdv A outer s H vs Q E hr h => ?_)
  · obtain ⟨oa, st, o, rfl, _⟩ := h
    rfl
  · obtain ⟨oa, st, o, rfl, ho, ok, hs, q⟩ := h
    refine ⟨_, C8.pss_cut (ps_setLc (i := 2) (own := [("_law_sort", 3)]) (g := gName 3) (tt := tTest (tOp rNotN (tCall spLNext [] E0 (tCons (tVar 0) (tCons (tVar 1) (tCons (tVar 3) tNil)))) (tC .non))) (te := tVar 3) (by rfl) scOnw.nd rfl rfl (sw_true rfl rfl rfl (by decide +kernel)) (pi_list (pe_lst (pa_cons pe_str (pa_cons pe_str (pa_cons pe_str (pa_cons pe_str (pa_cons pe_str (pa_cons pe_str (pa_cons pe_str pa_nil)))))))))
        (blkOk_by (own := [("_law_sort", 3)]) (N := nOnw) (sc := defScope sOnw) (by decide +kernel)) (fun _ _ _ _ _ => pg_name (i := 3) scOnw.nd rfl (Or.inl rfl)) (fun _ _ _ _ _ => pts_one (pt_cmpR op_notN1 (pe_fn GN hr rfl (pa_cons (pv 0) (pa_cons (pv 1) (pa_cons (pv 3) pa_nil)))) pe_non (nomark _))) (fun _ _ _ _ _ => pv 3))
      (pss_one (ps_ret (pe_callTy call_tuple_of (by rfl) T.tuple (by decide +kernel) (pa_cons (pe_ifExp (pt_val (pe_fn GC hr rfl (pa_cons (pv 0) (pa_cons (pv 1) pa_nil)))) (pe_op op_cat (pv 2) (pe_lst (pa_cons pe_str pa_nil))) (pv 2)) pa_nil)))), ?_⟩
    refine ⟨fun σ H' => ∃ l, σ = [some (.ref oa), some (.str st), some (.ref l), none] ∧ H' l = some (.lst ((sorts7.filter fun z => (stepL o.lang st (some z)).isSome).map V.str)) ∧ Same H H', ?_, ?_⟩
    · refine ⟨by show 7 ≤ sizeLine; decide, fun M hM => ⟨M, rfl, ⟨_, SqL.of upd_same⟩, fun D hD => ?_⟩⟩
      have sM := Same.new (o := .lst (sorts7.map V.str)) (Same.refl H) hM
      refine lc_list (K := K) (a := M) (xs := sorts7.map V.str) (fun i H' => Same (upd H M (.lst (sorts7.map V.str))) H' ∧ H' D = some (.lst (((sorts7.take i).filter fun z => (stepL o.lang st (some z)).isSome).map V.str))) ⟨Same.new (Same.refl _) hD, upd_same⟩ (fun i H' _ ⟨s', _⟩ => SqL.of (s' _ _ upd_same)) ?_ ?_
      · rintro i y H5 hi ⟨s5, h5⟩
        rw [List.getElem?_map] at hi
        obtain ⟨z, hz, rfl⟩ := Option.map_eq_some_iff.mp hi
        have hz7 : z ∈ sorts7 := List.mem_of_getElem? hz
        have h78 : ∀ z ∈ sorts7, z ∈ sorts8 ∧ unodd z = some z := by decide +kernel
        refine ⟨rfl, _, rfl, _, rfl, _, rfl, oa, st, z, o, rfl, ho.same (sM.trans s5), ok, hs, fun H6 s6 => ?_⟩
        rw [lNext_eq o.lang st hs z (h78 z hz7).1, (h78 z hz7).2]
        refine ⟨rfl, _, rfl, ?_⟩
        have h6 := s6 _ _ h5
        have s7 := s5.trans s6
        have more : (sorts7.take (i + 1)).filter (fun z => (stepL o.lang st (some z)).isSome) = (sorts7.take i).filter (fun z => (stepL o.lang st (some z)).isSome) ++ (if (stepL o.lang st (some z)).isSome = true then [z] else []) := by
          rw [List.take_add_one, hz, List.filter_append]
          congr 1
          exact filt_one _ z
        cases e : stepL o.lang st (some z) with
        | none =>
          rw [e] at more
          refine iteF ⟨s7, ?_⟩
          rw [h6, more]
          simp
        | some y =>
          rw [e] at more
          refine iteT ⟨_, rfl, _, h6, ?_, Same.put s7 hD, ?_⟩
          · rw [List.length_map]
            have l1 := List.length_filter_le (fun z => (stepL o.lang st (some z)).isSome) (sorts7.take i)
            have l2 := List.length_take_le' i sorts7
            have l3 : sorts7.length = 7 := rfl
            exact line50 (by omega)
          · rw [upd_same, more, List.map_append]
            rfl
      · rintro H5 ⟨s5, h5⟩
        exact ⟨D, rfl, h5, sM.trans s5⟩
    rintro σ H1 ⟨l, rfl, h1, s1⟩
    refine ⟨_, rfl, _, rfl, oa, st, o, rfl, ho.same s1, fun H2 s2 => ⟨closesL o.lang st, rfl, ?_⟩⟩
    have h2 := s2 _ _ h1
    have s3 := s1.trans s2
    unfold nextL at q
    cases e : closesL o.lang st with
    | true =>
      rw [e] at q
      refine iteT ⟨_, rfl, by show 1 ≤ sizeLine; decide, fun M hM => ⟨l, M, _, _, rfl, rfl, (Same.new (Same.refl H2) hM) _ _ h2, upd_same, ?_, fun N hN => ?_⟩⟩
      · rw [List.length_map]
        have l1 := List.length_filter_le (fun z => (stepL o.lang st (some z)).isSome) sorts7
        have l3 : sorts7.length = 7 := rfl
        exact Nat.le_of_lt (line50 (by show _ + 1 ≤ 50; omega))
      · have s4 := Same.new (o := .lst ((sorts7.filter fun z => (stepL o.lang st (some z)).isSome).map V.str ++ [.str "end"])) (Same.new (o := .lst [.str "end"]) s3 hM) hN
        refine ⟨N, _, rfl, .inl ⟨SqL.of upd_same, fun t ht => q t _ (s4.free ht) (Same.new s4 ht) ?_⟩⟩
        rw [upd_same, if_pos rfl, List.map_append]
        rfl
    | false =>
      rw [e] at q
      refine iteF ⟨_, rfl, l, _, rfl, .inl ⟨SqL.of h2, fun t ht => q t _ (s3.free ht) (Same.new s3 ht) ?_⟩⟩
      rw [upd_same, if_neg (by decide), List.append_nil]
end
end K5

namespace K5
open PySem L2
abbrev sPath : Stmt := top 61
def spTag (K : PySem.W.Frag) : Sp := fun vs H Q _ => ∃ (v : V) (o : Option Str), vs = [v] ∧ K5S.Thing K H v o ∧ (∀ z, o = some z → PyData.strOk z = true) ∧ ∀ H', Same H H' → Q (.str (tagO o)) H'
/-- texts of signs that there are -/
def Asc (os : List (Option Str)) : Prop := ∀ z, some z ∈ os → PyData.strOk z = true
/-- the way of a file, or where it breaks beside what is awaited -/
def spPath (K : PySem.W.Frag) : Sp := fun vs H Q _ => ∃ (oa a : Addr) (o : Opts) (xs : List V) (os : List (Option Str)), vs = [.ref oa, .ref a] ∧ OptsAt H oa o ∧ o.Ok ∧ SqL K H a xs ∧ Things K H xs os ∧ Asc os ∧ xs.length ≤ 900 ∧
  (∀ w, runL o.lang "start" os = .inl w → ∀ l H', H l = none → Same H H' → H' l = some (.lst ((("start" : Str) :: w).map V.str)) → Q (.ref l) H') ∧
  (∀ k z, runL o.lang "start" os = .inr (k, z) → z ∈ nine → ∀ u t H', H u = none → H t = none → Same H H' → H' t = some (.tup ((nextL o.lang z).map V.str)) → H' u = some (.tup [.int (k : Nat), .ref t]) → Q (.ref u) H')
abbrev nPath : List Str := ["_law_options_here", "_law_file", "_law_found", "_law_place", "_law_one", "_law_after"]
theorem last_at {w : List Str} {st : Str} (h : (("start" : Str) :: w).getLast? = some st) : atI ((("start" : Str) :: w).map V.str) (-1) = some (V.str st) := by
  obtain ⟨ys, e⟩ := List.getLast?_eq_some_iff.mp h
  rw [e, List.map_append]
  exact atI_last _ _
section
variable {P : Program} {w : World} {K : PySem.W.Frag} {mg : Str → Option Value} {base : Heap}
theorem scPath : FnScope nPath ["_law_options_here", "_law_file"] (defScope sPath) := ⟨rfl, rfl, rfl, by decide +kernel, rfl, by decide +kernel, by decide +kernel⟩
theorem ok_path {f : Addr} {fd : FuncData} (F : Fun K "_law_path" "_law_path" sPath f fd) (T : Bare mg) (hE : mg "enumerate" = none) (GN : Fn P w K mg base 1 "_law_next" ["_law_options_here", "_law_state", "_law_sort"] spLNext) (GC : Fn P w K mg base 1 "_law_closes" ["_law_options_here", "_law_state"] spLClo)
    (GT : Fn P w K mg base 1 "_law_tag" ["_law_one"] (spTag K)) (GO : Fn P w K mg base 2 "_law_onward" ["_law_options_here", "_law_state"] spOnw) :
    FnOk P w K mg base CX0 3 f fd ["_law_options_here", "_law_file"] (spPath K) := by
  refine F.ok scPath (fun vs H Q E h => ?_) (fun cdv A outer s H vs Q E hr h => ?_)
  · obtain ⟨oa, a, o, xs, os, rfl, _⟩ := h
    rfl
  · obtain ⟨oa, a, o, xs, os, rfl, ho, ok, ha, hT, hA, hl9, q, qe⟩ := h
    have hr1 : Room 1 _ := hr.mono (by decide)
    refine ⟨_, C8.pss_cut (ps_set (i := 2) scPath.nd rfl (.inl rfl) (pe_lst (pa_cons pe_str pa_nil)))
      (C8.pss_cut (ps_for PassesOwn.never rfl (pi_enum (by rfl) hE (pa_cons (pv 1) pa_nil)) (pg_tup (by rfl) (pgs_cons (pg_name (i := 3) scPath.nd rfl (.inl rfl)) (pgs_cons (pg_name (i := 4) scPath.nd rfl (.inl rfl)) pgs_nil)))
        (C8.pss_cut (ps_set (i := 5) scPath.nd rfl (.inl rfl) (pe_fn GN hr1 rfl (pa_cons (pv 0) (pa_cons (pe_ix ix_list (pv 2) (pe_un un_neg pe_int) (fun _ _ => rfl)) (pa_cons (pe_fn GT hr1 rfl (pa_cons (pv 4) pa_nil)) pa_nil)))))
        (C8.pss_cut (ps_if (pt_cmpR op_isN1 (pv 5) pe_non (nomark _)) (pss_one (ps_ret (pe_tup (pa_cons (pv 3) (pa_cons (pe_fn GO hr rfl (pa_cons (pv 0) (pa_cons (pe_ix ix_list (pv 2) (pe_un un_neg pe_int) (fun _ _ => rfl)) pa_nil))) pa_nil))))) pss_nil)
        (pss_one (ps_expr (pe_bm PySem.F.plainAttrs_list PySem.F.slot_list_append PySem.F.type_list_append mt_append (pv 2) (pa_cons (pv 5) pa_nil)))))))
      (C8.pss_cut (ps_if (pt_not (pt_val (pe_fn GC hr1 rfl (pa_cons (pv 0) (pa_cons (pe_ix ix_list (pv 2) (pe_un un_neg pe_int) (fun _ _ => rfl)) pa_nil))))) (pss_one (ps_ret (pe_tup (pa_cons (pe_callB call_len_seq (by rfl) T.len PySem.boot_len (pa_cons (pv 1) pa_nil)) (pa_cons (pe_fn GO hr rfl (pa_cons (pv 0) (pa_cons (pe_ix ix_list (pv 2) (pe_un un_neg pe_int) (fun _ _ => rfl)) pa_nil))) pa_nil))))) pss_nil)
      (pss_one (ps_ret (pv 2))))), ?_⟩
    have two : 2 ≤ sizeLine := by decide
    refine ⟨fun σ H' => ∃ l, σ = [some (.ref oa), some (.ref a), some (.ref l), none, none, none] ∧ H' l = some (.lst [.str "start"]) ∧ H l = none ∧ Same H H', ?_, ?_⟩
    · exact ⟨by show 1 ≤ sizeLine; decide, fun l hl => ⟨l, rfl, upd_same, hl, Same.new (Same.refl H) hl⟩⟩
    rintro σ H1 ⟨l, rfl, h1, hl, s1⟩
    refine ⟨fun σ H' => ∃ wy st v3 v4 v5, σ = [some (.ref oa), some (.ref a), some (.ref l), v3, v4, v5] ∧ H' l = some (.lst (((("start" : Str) :: wy)).map V.str)) ∧ Sofar o.lang os os.length wy st ∧ (("start" : Str) :: wy).getLast? = some st ∧ Same H H', ?_, ?_⟩
    · refine ⟨_, rfl, a, xs, rfl, s1.seq ha, for_it walk_enum (fun i σ H' => ∃ wy st v3 v4 v5, σ = [some (.ref oa), some (.ref a), some (.ref l), v3, v4, v5] ∧ H' l = some (.lst (((("start" : Str) :: wy)).map V.str)) ∧ Sofar o.lang os i wy st ∧ (("start" : Str) :: wy).getLast? = some st ∧ Same H H') ⟨[], "start", _, _, _, rfl, h1, Sofar.zero o.lang os, rfl, s1⟩ (fun i σ H' _ ⟨_, _, _, _, _, _, _, _, _, s'⟩ => s'.seq ha) ?_ ?_⟩
      · rintro i y σ H2 H2' hi ⟨wy, st, v3, v4, v5, rfl, h2, so, la, s2⟩ ⟨U, u, z, rfl, hU, rfl, hu, hz⟩
        cases hu
        have s3 := Same.new (o := .tup [.int (i : Nat), z]) s2 hU
        have hl3 : upd H2 U (.tup [.int (i : Nat), z]) l = some (.lst (((("start" : Str) :: wy)).map V.str)) := by rw [upd_ne (ne_of_none h2 hU)]; exact h2
        obtain ⟨oo, hoo⟩ : ∃ oo, os[i]? = some oo := ⟨os[i]'(by have := hT.1; omega), List.getElem?_eq_getElem (by have := hT.1; omega)⟩
        refine ⟨U, _, rfl, SqT.of upd_same, rfl, _, _, rfl, _, _, rfl, rfl, ?_⟩
        refine ⟨fun σ H' => σ = [some (.ref oa), some (.ref a), some (.ref l), some (.int (i : Nat)), some z, some (tokV (stepL o.lang st (sortO oo)))] ∧ H' l = some (.lst (((("start" : Str) :: wy)).map V.str)) ∧ Same H H', ?_, ?_⟩
        · refine ⟨_, rfl, _, rfl, _, rfl, l, _, -1, _, rfl, rfl, SqL.of hl3, last_at la, _, rfl, z, oo, rfl, (hT.same s3).2 i z oo hz hoo, (fun y e => hA y (by rw [← e]; exact List.mem_of_getElem? hoo)), fun H3 s4 => ?_⟩
          refine ⟨oa, st, tagO oo, o, rfl, ho.same (s3.trans s4), ok, so.nin, fun H4 s5 => ?_⟩
          rw [lNext_step o.lang so.nin oo]
          exact ⟨rfl, s5 _ _ (s4 _ _ hl3), s3.trans (s4.trans s5)⟩
        rintro σ H3 ⟨rfl, h3, s4⟩
        refine ⟨fun σ H' => ∃ s, σ = [some (.ref oa), some (.ref a), some (.ref l), some (.int (i : Nat)), some z, some (.str s)] ∧ stepL o.lang st (sortO oo) = some s ∧ H' = H3, ?_, ?_⟩
        · refine ⟨_, rfl, rfl, _, rfl, ?_⟩
          cases e : stepL o.lang st (sortO oo) with
          | none =>
            refine iteT ⟨_, rfl, _, rfl, _, rfl, _, rfl, l, _, -1, _, rfl, rfl, SqL.of h3, last_at la, oa, st, o, rfl, ho.same s4, ok, so.nin, fun t' H4 ht' s5 h4 => ⟨two, fun u hu => ?_⟩⟩
            have s6 := Same.new (o := .tup [.int (i : Nat), .ref t']) s5 hu
            exact qe i st (so.stop hoo e) so.nin u t' _ (s4.free (s5.free hu)) (s4.free ht') (s4.trans s6) (by rw [upd_ne (ne_of_none h4 hu)]; exact h4) upd_same
          | some s => exact iteF ⟨s, rfl, rfl, rfl⟩
        rintro σ H4 ⟨s', rfl, hs', rfl⟩
        refine ⟨_, rfl, .inl ⟨rfl, _, SqL.of h3⟩, _, rfl, l, _, _, rfl, rfl, h3, ?_, wy ++ [s'], s', _, _, _, rfl, ?_, so.next hoo hs', ?_, Same.put s4 hl⟩
        · rw [List.length_map, List.length_cons, so.len]
          exact line_ge (Nat.le_trans (show i + 1 + 1 ≤ 902 by omega) (by decide))
        · rw [upd_same, List.map_cons, List.map_cons, List.map_append]
          rfl
        · rw [← List.cons_append, List.getLast?_append]
          rfl
      · rintro σ H2 ⟨wy, st, v3, v4, v5, rfl, h2, so, la, s2⟩
        rw [hT.1] at so
        exact ⟨wy, st, v3, v4, v5, rfl, h2, so, la, s2⟩
    rintro σ H2 ⟨wy, st, v3, v4, v5, rfl, h2, so, la, s2⟩
    have dn := so.done
    refine ⟨fun σ H' => σ = [some (.ref oa), some (.ref a), some (.ref l), v3, v4, v5] ∧ H' l = some (.lst (((("start" : Str) :: wy)).map V.str)) ∧ Same H H' ∧ runL o.lang "start" os = .inl wy, ?_, ?_⟩
    · refine ⟨_, rfl, _, rfl, _, rfl, l, _, -1, _, rfl, rfl, SqL.of h2, last_at la, oa, st, o, rfl, ho.same s2, fun H3 s3 => ?_⟩
      cases e : closesL o.lang st with
      | true =>
        rw [if_pos e] at dn
        exact ⟨true, rfl, iteF ⟨rfl, s3 _ _ h2, s2.trans s3, dn⟩⟩
      | false =>
        rw [if_neg (by rw [e]; decide)] at dn
        refine ⟨false, rfl, iteT ⟨_, rfl, a, xs, rfl, .inl ((s2.trans s3).seq ha), _, rfl, _, rfl, _, rfl, l, _, -1, _, rfl, rfl, SqL.of (s3 _ _ h2), last_at la, oa, st, o, rfl, ho.same (s2.trans s3), ok, so.nin, fun t' H4 ht' s4 h4 => ⟨two, fun u hu => ?_⟩⟩⟩
        have s5 := s2.trans s3
        have s6 := Same.new (o := .tup [.int ((xs.length : Nat) : Int), .ref t']) s4 hu
        refine qe os.length st dn so.nin u t' _ (s5.free (s4.free hu)) (s5.free ht') (s5.trans s6) (by rw [upd_ne (ne_of_none h4 hu)]; exact h4) ?_
        rw [upd_same, hT.1]
    rintro σ H3 ⟨rfl, h3, s3, dn'⟩
    exact ⟨_, rfl, q wy dn' l H3 hl s3 h3⟩
end
end K5

namespace K5
open PySem L2
abbrev sTag : Stmt := top 59
abbrev nTag : List Str := ["_law_one", "_law_sign"]
/-- the signs of z that cs lacks -/
def lacks (z cs : Str) : List Nat := z.cps.toList.filter fun c => !decide (c ∈ cs.cps.toList)
theorem lacks_nil (z cs : Str) : decide (lacks z cs = []) = z.cps.toList.all fun c => decide (c ∈ cs.cps.toList) := by
  unfold lacks
  cases e : (z.cps.toList.all fun c => decide (c ∈ cs.cps.toList)) with
  | true =>
    refine decide_eq_true (List.filter_eq_nil_iff.mpr fun c hc => ?_)
    have := List.all_eq_true.mp e c hc
    rw [this]
    decide
  | false =>
    refine decide_eq_false fun h => ?_
    have : (z.cps.toList.all fun c => decide (c ∈ cs.cps.toList)) = true := List.all_eq_true.mpr fun c hc => by
      have q := List.filter_eq_nil_iff.mp h c hc
      cases d : decide (c ∈ cs.cps.toList) with
      | true => rfl
      | false => rw [d] at q; exact absurd rfl q
    rw [e] at this
    cases this
def sgs (l : List Nat) : List Str := l.map fun c => (⟨#[c]⟩ : Str)
theorem lay_strs : ∀ l : List Str, (∀ z ∈ l, PyData.strOk z = true) → PyData.canLayAll0 (l.map PyData.str) = true
  | [], _ => by rw [List.map_nil, PyData.canLayAll0]
  | z :: l, h => by
    rw [List.map_cons, PyData.canLayAll0, PyData.canLay0, lay_strs l fun y hy => h y (List.mem_cons_of_mem _ hy), h z List.mem_cons_self]
    rfl
theorem dep_strs : ∀ l : List Str, PyData.depthAll (l.map PyData.str) ≤ 1
  | [] => by rw [List.map_nil, PyData.depthAll]; omega
  | z :: l => by
    rw [List.map_cons, PyData.depthAll, PyData.depth]
    have := dep_strs l
    omega
theorem shaped_strs {l : List Str} (h : ∀ z ∈ l, PyData.strOk z = true) : SeqAt.shaped (.list (l.map PyData.str)) = true := by
  unfold SeqAt.shaped
  rw [PyData.canLay0, lay_strs l h, PyData.depth, Bool.true_and]
  have := dep_strs l
  exact decide_eq_true (by omega)
theorem sgs_ok {z cs : Str} (h : PyData.strOk z = true) : ∀ y ∈ sgs (lacks z cs), PyData.strOk y = true := by
  intro y hy
  obtain ⟨c, hc, rfl⟩ := List.mem_map.mp hy
  have hm := (List.mem_filter.mp hc).1
  unfold PyData.strOk at h ⊢
  have := (Array.all_eq_true_iff_forall_mem.mp h) c (Array.mem_toList_iff.mp hm)
  rw [Array.all_eq_true_iff_forall_mem]
  intro d hd
  have : d = c := by simpa using hd
  rw [this]
  assumption
theorem shaped_none : SeqAt.shaped (.list []) = true := by decide +kernel
theorem eqv_none (l : List Str) : PyData.eqv (.list (l.map PyData.str)) (.list []) = decide (l = []) := by
  rw [PyData.eqv]
  exact strs_eqv l []
def rNis : R2 := fun x y H Q => ∃ (c : Nat) (z : Str), x = .str ⟨#[c]⟩ ∧ y = .str z ∧ Q (.bl (!decide (c ∈ z.cps.toList))) H
theorem op_nis {X : Cx} : OpR X (compareOp .NotIn) rNis := op_notIn_sign
theorem tag_odd {z : Str} (h : ¬ (1 ≤ z.length ∧ z.length ≤ 12)) : tagO (some z) = "odd" := by
  have hs : z ∉ K5S.signs := fun m => h (by
    have all : ∀ y ∈ K5S.signs, 1 ≤ y.length ∧ y.length ≤ 12 := by decide +kernel
    exact all z m)
  have hi : ∀ cs, K5S.inAll z cs = false := fun cs => by
    unfold K5S.inAll
    by_cases c : 1 ≤ z.length
    · rw [decide_eq_false (fun e => h ⟨c, e⟩), Bool.and_false, Bool.false_and]
    · rw [decide_eq_false c, Bool.false_and, Bool.false_and]
  show ((if z ∈ K5S.signs then some z else if K5S.inAll z K5S.cLetters = true then some ("word" : Str) else if K5S.numOk z = true then some ("number" : Str) else none) : Option Str).getD "odd" = "odd"
  unfold K5S.numOk
  rw [if_neg hs, hi, if_neg Bool.false_ne_true, hi, Bool.false_and, if_neg Bool.false_ne_true]
  rfl
theorem tag_sign {z : Str} (h : z ∈ K5S.signs) : tagO (some z) = z := by
  show ((if z ∈ K5S.signs then some z else if K5S.inAll z K5S.cLetters = true then some ("word" : Str) else if K5S.numOk z = true then some ("number" : Str) else none) : Option Str).getD "odd" = z
  rw [if_pos h]
  rfl
theorem tag_not {z : Str} (h : z ∉ K5S.signs) (l1 : 1 ≤ z.length) (l2 : z.length ≤ 12) : tagO (some z) = if lacks z K5S.cLetters = [] then "word" else if lacks z K5S.cDigits = [] ∧ (z = "0" ∨ ¬ (⟨#[z.cps.toList.headD 0]⟩ : Str) = "0") then "number" else "odd" := by
  show ((if z ∈ K5S.signs then some z else if K5S.inAll z K5S.cLetters = true then some ("word" : Str) else if K5S.numOk z = true then some ("number" : Str) else none) : Option Str).getD "odd" = _
  have hi : ∀ cs, K5S.inAll z cs = decide (lacks z cs = []) := fun cs => by
    unfold K5S.inAll
    rw [decide_eq_true l1, decide_eq_true l2, Bool.true_and, Bool.true_and, lacks_nil]
  rw [if_neg h, hi]
  by_cases c : lacks z K5S.cLetters = []
  · rw [if_pos c, decide_eq_true c, if_pos rfl]; rfl
  · rw [if_neg c, decide_eq_false c, if_neg Bool.false_ne_true]
    unfold K5S.numOk
    rw [hi]
    by_cases d : lacks z K5S.cDigits = [] ∧ (z = "0" ∨ ¬ (⟨#[z.cps.toList.headD 0]⟩ : Str) = "0")
    · rw [if_pos d, decide_eq_true d.1, Bool.true_and]
      have : (decide (z = "0") || !decide ((⟨#[z.cps.toList.headD 0]⟩ : Str) = "0")) = true := by
        rcases d.2 with e | e
        · rw [decide_eq_true e]; rfl
        · rw [decide_eq_false e, Bool.or_comm]; rfl
      rw [this]; rfl
    · rw [if_neg d]
      have : (decide (lacks z K5S.cDigits = []) && (decide (z = "0") || !decide ((⟨#[z.cps.toList.headD 0]⟩ : Str) = "0"))) = false := by
        by_cases e : lacks z K5S.cDigits = []
        · rw [decide_eq_true e, Bool.true_and]
          by_cases f : z = "0"
          · exact absurd ⟨e, .inl f⟩ d
          · by_cases g : (⟨#[z.cps.toList.headD 0]⟩ : Str) = "0"
            · rw [decide_eq_false f, decide_eq_true g]; rfl
            · exact absurd ⟨e, .inr g⟩ d
        · rw [decide_eq_false e, Bool.false_and]
      rw [this]; rfl
section
variable {P : Program} {w : World} {K : PySem.W.Frag} {mg : Str → Option Value} {base : Heap}
theorem scTag : FnScope nTag ["_law_one"] (defScope sTag) := ⟨rfl, rfl, rfl, by decide +kernel, rfl, by decide +kernel, by decide +kernel⟩
theorem ok_tag {f : Addr} {fd : FuncData} (F : Fun K "_law_tag" "_law_tag" sTag f fd) (T : Bare mg) : FnOk P w K mg base CX0 1 f fd ["_law_one"] (spTag K) := by
  refine F.ok scTag (fun vs H Q E h => ?_) (fun cdv A outer s H vs Q E hr h => ?_)
  · obtain ⟨v, o, rfl, _⟩ := h
    rfl
  · obtain ⟨v, o, rfl, hv, ho, q⟩ := h
    refine ⟨_, C8.pss_cut (ps_if (PW.pt (pw_or (pt_not (pt_val (pe_callB call_isi (by rfl) T.isi (by decide +kernel) (pa_cons (pv 0) (pa_cons (pe_bltn (v := .ty "str") (by rfl) T.str (by decide +kernel) rfl) pa_nil)))))
        (pw_or (pt_cmpR op_eq (pv 0) pe_str (nomark _)) (pw_or1 (pt_cmpR op_gt (pe_callB call_len_str (by rfl) T.len PySem.boot_len (pa_cons (pv 0) pa_nil)) pe_int (nomark _)))))) (pss_one (ps_ret pe_str)) pss_nil)
      (C8.pss_cut (ps_if (pt_cmpR op_in_seq (pv 0) (pe_lst (pa_cons pe_str (pa_cons pe_str (pa_cons pe_str (pa_cons pe_str (pa_cons pe_str pa_nil)))))) (by rfl)) (pss_one (ps_ret (pv 0))) pss_nil)
      (C8.pss_cut (ps_if (pt_cmpR (op_eqD hr.units) (pe_lc (own := [("_law_sign", 1)]) (g := gName 1) (tt := tTest (tOp rNis (tVar 1) (tC (.str K5S.cLetters)))) (by rfl) scTag.nd (pi_str (pv 0))
          (blkOk_by (own := [("_law_sign", 1)]) (N := nTag) (sc := defScope sTag) (by decide +kernel)) (fun _ _ _ _ _ => pg_name (i := 1) scTag.nd rfl (Or.inl rfl)) (fun _ _ _ _ _ => pts_one (pt_cmpR op_nis (pv 1) pe_str rfl)) (fun _ _ _ _ _ => pv 1)) (pe_lst pa_nil) (nomark _)) (pss_one (ps_ret pe_str)) pss_nil)
      (C8.pss_cut (ps_if (PW.pt (pw_and (pt_cmpR (op_eqD hr.units) (pe_lc (own := [("_law_sign", 1)]) (g := gName 1) (tt := tTest (tOp rNis (tVar 1) (tC (.str K5S.cDigits)))) (by rfl) scTag.nd (pi_str (pv 0))
          (blkOk_by (own := [("_law_sign", 1)]) (N := nTag) (sc := defScope sTag) (by decide +kernel)) (fun _ _ _ _ _ => pg_name (i := 1) scTag.nd rfl (Or.inl rfl)) (fun _ _ _ _ _ => pts_one (pt_cmpR op_nis (pv 1) pe_str rfl)) (fun _ _ _ _ _ => pv 1)) (pe_lst pa_nil) (nomark _))
          (pw_and1 (PW.pt (pw_or (pt_cmpR op_eq (pv 0) pe_str (nomark _)) (pw_or1 (pt_cmpR op_ne (pe_ix ix_str (pv 0) pe_int (fun _ _ => rfl)) pe_str (nomark _)))))))) (pss_one (ps_ret pe_str)) pss_nil)
      (pss_one (ps_ret pe_str))))), ?_⟩
    rcases hv with ⟨z, rfl, rfl, hz⟩ | ⟨rfl, t', ty, kt⟩
    case inr =>
      exact ⟨fun _ _ => False, ⟨_, rfl, v, .ty "str", t', .type "str", false, rfl, .ty "str", .base ty, kt, false, rfl, iteT (iteT (q H (Same.refl H)))⟩, fun _ _ z => z.elim⟩
    have hok := ho z rfl
    have ite : ∀ (z x : Str) (A B : Prop), (z = x → A) → (z ≠ x → B) → (if decide (V.str z = V.str x) = true then A else B) := fun z x A B h1 h2 => by
      rw [eq_strB]
      by_cases c : z = x
      · rw [decide_eq_true c]; exact iteT (h1 c)
      · rw [decide_eq_false c]; exact iteF (h2 c)
    refine ⟨fun σ H' => σ = [some (.str z), none] ∧ H' = H ∧ 1 ≤ z.length ∧ z.length ≤ 12, ?_, ?_⟩
    · refine ⟨_, rfl, .str z, .ty "str", .type "str", .type "str", true, rfl, .ty "str", .base (.str z), kit_ty (by decide +kernel), true, rfl, ?_⟩
      refine iteF ⟨_, rfl, rfl, _, rfl, ite z "" _ _ (fun c => iteT ?_) fun c => ?_⟩
      · have := q H (Same.refl H)
        rw [tag_odd (by rw [c]; decide +kernel)] at this
        exact this
      · refine ⟨_, rfl, z, rfl, hz, _, _, rfl, rfl, _, rfl, ?_⟩
        refine ite2 (fun h => ?_) (fun h => ⟨rfl, rfl, ?_, ?_⟩)
        · have h : (12 : Int) < (z.length : Int) := of_decide_eq_true h
          have := q H (Same.refl H)
          rw [tag_odd (by omega)] at this
          exact this
        · apply Classical.byContradiction
          intro n
          exact c (by
            have e : z.cps.toList = [] := by
              have := K5S.str_len z
              exact List.length_eq_zero_iff.mp (by omega)
            rw [← K5S.S_of z, e]
            exact K5S.str_none.symm)
        · have h : ¬ (12 : Int) < (z.length : Int) := fun e => h (decide_eq_true e)
          omega
    rintro σ H1 ⟨rfl, rfl, l1, l2⟩
    refine ⟨fun σ H' => σ = [some (.str z), none] ∧ Same H1 H' ∧ z ∉ K5S.signs, ?_, ?_⟩
    · refine ⟨_, rfl, by show 5 ≤ sizeLine; decide, fun u hu => ⟨u, _, rfl, .inl (SqL.of upd_same), rfl, rfl, _, rfl, ?_⟩⟩
      have s1 := Same.new (o := .lst [.str "=", .str ";", .str ",", .str "[", .str "]"]) (Same.refl H1) hu
      show if inV (V.str z) (K5S.signs.map V.str) = true then _ else _
      rw [K5S.inV_strs]
      by_cases c : z ∈ K5S.signs
      · rw [decide_eq_true c]
        have := q _ s1
        rw [tag_sign c] at this
        exact iteT ⟨_, rfl, this⟩
      · rw [decide_eq_false c]
        exact iteF ⟨rfl, s1, c⟩
    rintro σ H1' ⟨rfl, s1, hs⟩
    have q : ∀ H', Same H1' H' → Q (.str (tagO (some z))) H' := fun H' s => q H' (s1.trans s)
    clear s1
    rw [tag_not hs l1 l2] at q
    refine ⟨fun σ H' => σ = [some (.str z), none] ∧ Same H1' H' ∧ ¬ lacks z K5S.cLetters = [], ?_, ?_⟩
    · refine ⟨_, rfl, z, rfl, fun D hD => ?_⟩
      refine lc_it walk_str (fun i H' => Same H1' H' ∧ H' D = some (.lst ((sgs ((z.cps.toList.take i).filter fun c => !decide (c ∈ K5S.cLetters.cps.toList))).map V.str))) ⟨Same.new (Same.refl H1') hD, upd_same⟩ (fun _ _ _ _ => trivial) ?_ ?_
      · rintro i x H2 H3 hi2 ⟨s2, h2⟩ ⟨rfl, c, hc, rfl⟩
        refine ⟨rfl, ?_⟩
        refine ⟨_, rfl, c, K5S.cLetters, rfl, rfl, _, rfl, ?_⟩
        have tk : z.cps.toList.take (i + 1) = z.cps.toList.take i ++ [c] := by rw [List.take_add_one, K5S.cps_at hc]; rfl
        by_cases m : c ∈ K5S.cLetters.cps.toList
        · rw [decide_eq_true m]
          refine iteF ⟨s2, ?_⟩
          rw [tk, List.filter_append, List.filter_cons_of_neg (by rw [decide_eq_true m]; decide), List.filter_nil, List.append_nil]
          exact h2
        · rw [decide_eq_false m]
          refine iteT ⟨_, rfl, _, h2, ?_, Same.put s2 hD, ?_⟩
          · unfold sgs
            rw [List.length_map, List.length_map]
            refine Nat.lt_of_le_of_lt (Nat.le_trans (List.length_filter_le _ _) ?_) (show 12 < sizeLine by decide)
            rw [List.length_take, K5S.str_len]
            omega
          · rw [upd_same, tk, List.filter_append, List.filter_cons_of_pos (by rw [decide_eq_false m]; rfl), List.filter_nil]
            unfold sgs
            rw [List.map_append, List.map_append]
            rfl
      rintro H2 ⟨s2, h2⟩
      have h2 : H2 D = some (.lst ((sgs (lacks z K5S.cLetters)).map V.str)) := by
        rw [h2, List.take_of_length_le (by simp)]
        rfl
      refine ⟨Nat.zero_le _, fun M hM => ⟨.list ((sgs (lacks z K5S.cLetters)).map PyData.str), .list [], .lst (SqL.of (by rw [upd_ne (ne_of_none h2 hM)]; exact h2)) (dp_strs _ _ _), .lst (SqL.of upd_same) .nil, shaped_strs (sgs_ok hok), shaped_none, _, rfl, ?_⟩⟩
      have s3 := Same.new (o := .lst []) s2 hM
      have ed : PyData.eqv (.list ((sgs (lacks z K5S.cLetters)).map PyData.str)) (.list []) = decide (lacks z K5S.cLetters = []) := by
        rw [eqv_none]
        unfold sgs
        by_cases e : lacks z K5S.cLetters = []
        · rw [e]; rfl
        · rw [decide_eq_false e]
          exact decide_eq_false fun h => e (List.map_eq_nil_iff.mp h)
      show if PyData.eqv (.list ((sgs (lacks z K5S.cLetters)).map PyData.str)) (.list []) = true then _ else _
      rw [ed]
      by_cases e : lacks z K5S.cLetters = []
      · rw [decide_eq_true e]
        rw [if_pos e] at q
        exact iteT (q _ s3)
      · rw [decide_eq_false e]
        exact iteF ⟨rfl, s3, e⟩
    rintro σ H1'' ⟨rfl, s1, e1⟩
    rw [if_neg e1] at q
    have q : ∀ H', Same H1'' H' → Q _ H' := fun H' s => q H' (s1.trans s)
    refine ⟨fun σ H' => σ = [some (.str z), none] ∧ Same H1'' H' ∧ ¬ (lacks z K5S.cDigits = [] ∧ (z = "0" ∨ ¬ (⟨#[z.cps.toList.headD 0]⟩ : Str) = "0")), ?_, ?_⟩
    · refine ⟨_, rfl, z, rfl, fun D hD => ?_⟩
      refine lc_it walk_str (fun i H' => Same H1'' H' ∧ H' D = some (.lst ((sgs ((z.cps.toList.take i).filter fun c => !decide (c ∈ K5S.cDigits.cps.toList))).map V.str))) ⟨Same.new (Same.refl H1'') hD, upd_same⟩ (fun _ _ _ _ => trivial) ?_ ?_
      · rintro i x H2 H3 hi2 ⟨s2, h2⟩ ⟨rfl, c, hc, rfl⟩
        refine ⟨rfl, ?_⟩
        refine ⟨_, rfl, c, K5S.cDigits, rfl, rfl, _, rfl, ?_⟩
        have tk : z.cps.toList.take (i + 1) = z.cps.toList.take i ++ [c] := by rw [List.take_add_one, K5S.cps_at hc]; rfl
        by_cases m : c ∈ K5S.cDigits.cps.toList
        · rw [decide_eq_true m]
          refine iteF ⟨s2, ?_⟩
          rw [tk, List.filter_append, List.filter_cons_of_neg (by rw [decide_eq_true m]; decide), List.filter_nil, List.append_nil]
          exact h2
        · rw [decide_eq_false m]
          refine iteT ⟨_, rfl, _, h2, ?_, Same.put s2 hD, ?_⟩
          · unfold sgs
            rw [List.length_map, List.length_map]
            refine Nat.lt_of_le_of_lt (Nat.le_trans (List.length_filter_le _ _) ?_) (show 12 < sizeLine by decide)
            rw [List.length_take, K5S.str_len]
            omega
          · rw [upd_same, tk, List.filter_append, List.filter_cons_of_pos (by rw [decide_eq_false m]; rfl), List.filter_nil]
            unfold sgs
            rw [List.map_append, List.map_append]
            rfl
      rintro H2 ⟨s2, h2⟩
      have h2 : H2 D = some (.lst ((sgs (lacks z K5S.cDigits)).map V.str)) := by
        rw [h2, List.take_of_length_le (by simp)]
        rfl
      refine ⟨Nat.zero_le _, fun M hM => ⟨.list ((sgs (lacks z K5S.cDigits)).map PyData.str), .list [], .lst (SqL.of (by rw [upd_ne (ne_of_none h2 hM)]; exact h2)) (dp_strs _ _ _), .lst (SqL.of upd_same) .nil, shaped_strs (sgs_ok hok), shaped_none, _, rfl, ?_⟩⟩
      have s3 := Same.new (o := .lst []) s2 hM
      have ed : PyData.eqv (.list ((sgs (lacks z K5S.cDigits)).map PyData.str)) (.list []) = decide (lacks z K5S.cDigits = []) := by
        rw [eqv_none]
        unfold sgs
        by_cases e : lacks z K5S.cDigits = []
        · rw [e]; rfl
        · rw [decide_eq_false e]
          exact decide_eq_false fun h => e (List.map_eq_nil_iff.mp h)
      show if PyData.eqv (.list ((sgs (lacks z K5S.cDigits)).map PyData.str)) (.list []) = true then _ else _
      rw [ed]
      by_cases e : lacks z K5S.cDigits = []
      · rw [decide_eq_true e]
        refine iteT ⟨_, rfl, rfl, _, rfl, ite z "0" _ _ (fun c => iteT ?_) fun c => ⟨_, rfl, z, 0, _, rfl, rfl, line_ge (by omega), K5S.at_zero l1, rfl, _, rfl, ?_⟩⟩
        · rw [if_pos ⟨e, .inl c⟩] at q
          exact q _ s3
        · show if (!decide (V.str (⟨#[z.cps.toList.headD 0]⟩ : Str) = V.str "0")) = true then _ else _
          rw [eq_strB]
          by_cases d : (⟨#[z.cps.toList.headD 0]⟩ : Str) = "0"
          · rw [decide_eq_true d]
            exact iteF ⟨rfl, s3, fun h => h.2.elim c fun f => f d⟩
          · rw [decide_eq_false d]
            rw [if_pos ⟨e, .inr d⟩] at q
            exact iteT (q _ s3)
      · rw [decide_eq_false e]
        exact iteF ⟨rfl, s3, fun h => e h.1⟩
    rintro σ H2 ⟨rfl, s2, e2⟩
    rw [if_neg e2] at q
    exact q _ s2
end
end K5

namespace K5
open PySem L2
abbrev sWords : Stmt := top 49
abbrev sOptions : Stmt := top 50
/-- some of the signs, in any order, each once -/
structure Mixed (zs : List Str) : Prop where
  nd : zs.Nodup
  sub : ∀ z ∈ zs, z ∈ sgn3
/-- options that a language takes -/
structure Opts.Fit (o : Opts) : Prop where
  e : o.e ∈ (["must", "may"] : List Str)
  n : o.n ∈ (["must", "between", "may"] : List Str)
  c : o.c ∈ (["must", "may", "joins"] : List Str)
  l : o.l ∈ (["never", "may", "must"] : List Str)
  z : Mixed o.zs
def strsTA : List Str → TA
  | [] => tNil
  | z :: zs => tCons (tC (.str z)) (strsTA zs)
def tupsTA : List (List Str) → TA
  | [] => tNil
  | zs :: r => tCons (tTup (strsTA zs)) (tupsTA r)
theorem strs_read : ∀ (zs : List Str) (σ : St) (H : Hp) (Q : List V → Hp → Prop), Q (zs.map V.str) H → strsTA zs σ H Q
  | [], _, _, _, h => h
  | z :: zs, σ, H, Q, h => strs_read zs σ H (fun xs H1 => Q (V.str z :: xs) H1) h
/-- written tuples of texts, all new -/
theorem tups_read : ∀ (zss : List (List Str)) (σ : St) (H : Hp) (Q : List V → Hp → Prop), (∀ zs ∈ zss, zs.length ≤ 1000) →
    (∀ (ts : List Addr) (H' : Hp), ts.length = zss.length → (∀ t ∈ ts, H t = none) → Same H H' → (∀ (i : Nat) (t : Addr) (zs : List Str), ts[i]? = some t → zss[i]? = some zs → H' t = some (.tup (zs.map V.str))) → Q (ts.map V.ref) H') → tupsTA zss σ H Q
  | [], _, H, Q, _, h => h [] H rfl (fun _ z => nomatch z) (Same.refl H) (fun i t zs e => by cases e)
  | zs :: r, σ, H, Q, hl, h => by
    show strsTA zs σ H _
    refine strs_read zs σ H _ ⟨?_, fun p hp => ?_⟩
    · rw [List.length_map]
      exact line_ge (Nat.le_trans (hl zs List.mem_cons_self) (by decide))
    have s1 := Same.new (o := .tup (zs.map V.str)) (Same.refl H) hp
    refine tups_read r σ _ _ (fun y hy => hl y (List.mem_cons_of_mem _ hy)) fun ts H' l n s a => ?_
    refine h (p :: ts) H' (by rw [List.length_cons, List.length_cons, l]) (fun t ht => ?_) (s1.trans s) (fun i t y e1 e2 => ?_)
    · rcases List.mem_cons.mp ht with rfl | ht
      · exact hp
      · exact s1.free (n t ht)
    · cases i with
      | zero =>
        cases e1
        cases e2
        exact s _ _ upd_same
      | succ i => exact a i t y e1 e2
def nine9 : List (List Str) := [[], [], ["="], [";"], [","], ["=", ";"], ["=", ","], [";", ","], ["=", ";", ","]]
theorem nine_ta : tupsTA nine9 = tCons (tTup tNil) (tCons (tTup tNil) (tCons (tTup (tCons (tC (.str "=")) tNil)) (tCons (tTup (tCons (tC (.str ";")) tNil)) (tCons (tTup (tCons (tC (.str ",")) tNil)) (tCons (tTup (tCons (tC (.str "=")) (tCons (tC (.str ";")) tNil))) (tCons (tTup (tCons (tC (.str "=")) (tCons (tC (.str ",")) tNil))) (tCons (tTup (tCons (tC (.str ";")) (tCons (tC (.str ",")) tNil))) (tCons (tTup (tCons (tC (.str "=")) (tCons (tC (.str ";")) (tCons (tC (.str ",")) tNil)))) tNil)))))))) := by
  unfold nine9
  simp only [tupsTA, strsTA]
def rTups (zss : List (List Str)) : TA := fun _ H Q => ∀ (ts : List Addr) (H' : Hp), ts.length = zss.length → (∀ t ∈ ts, H t = none) → Same H H' → (∀ (i : Nat) (t : Addr) (zs : List Str), ts[i]? = some t → zss[i]? = some zs → H' t = some (.tup (zs.map V.str))) → Q (ts.map V.ref) H'
theorem nine_read (σ : St) (H : Hp) (Q : List V → Hp → Prop) (h : rTups nine9 σ H Q) : (tCons (tTup tNil) (tCons (tTup tNil) (tCons (tTup (tCons (tC (.str "=")) tNil)) (tCons (tTup (tCons (tC (.str ";")) tNil)) (tCons (tTup (tCons (tC (.str ",")) tNil)) (tCons (tTup (tCons (tC (.str "=")) (tCons (tC (.str ";")) tNil))) (tCons (tTup (tCons (tC (.str "=")) (tCons (tC (.str ",")) tNil))) (tCons (tTup (tCons (tC (.str ";")) (tCons (tC (.str ",")) tNil))) (tCons (tTup (tCons (tC (.str "=")) (tCons (tC (.str ";")) (tCons (tC (.str ",")) tNil)))) tNil))))))))) σ H Q := by
  rw [← nine_ta]
  exact tups_read nine9 σ H Q (by decide) h
/-- a reading in the place of another one that follows from it -/
theorem pa_weak {X : Cx} {es : List Expr} {t t' : TA} (h : PA X es t) (w : ∀ σ H Q, t' σ H Q → t σ H Q) : PA X es t' := ⟨fun p pins s σ H Q I q => h.run p pins s σ H Q I (w σ H Q q)⟩
theorem nine_mixed : ∀ zs ∈ nine9, Mixed zs := by
  have h : ∀ zs ∈ nine9, zs.Nodup ∧ ∀ z ∈ zs, z ∈ sgn3 := by decide +kernel
  exact fun zs m => ⟨(h zs m).1, (h zs m).2⟩
def spWords3 : Sp := fun vs H Q _ => ∃ (p : Addr) (c : Nat) (a : Addr), vs = [.ref p, .int 3, .ref a] ∧ Pool H p c ∧ c ≤ 700000 ∧ H a = some (.lst []) ∧ a ≠ p ∧
  ∀ (D : Addr) (ts : List (List Nat)) (H' : Hp), H D = none → H' D = some (.lst (K5S.lstS ts)) → ts.length = 3 → (∀ r ∈ ts, r.all K5S.lt = true ∧ (1 ≤ r.length ∧ r.length ≤ 12)) → Keep p H H' → Pool H' p (c + 36) → Q (.ref D) H'
def spOptions : Sp := fun vs H Q _ => ∃ (p : Addr) (c : Nat), vs = [.ref p] ∧ Pool H p c ∧ c ≤ 700000 ∧
  ∀ (oa : Addr) (o : Opts) (H' : Hp), H oa = none → OptsAt H' oa o → o.Fit → Keep p H H' → Pool H' p (c + 7) → Q (.ref oa) H'
section
variable {P : Program} {w : World} {K : PySem.W.Frag} {mg : Str → Option Value} {base : Heap} {aS : Addr}
abbrev nWords : List Str := ["_law_pool_here", "_law_many", "_law_taken", "_law_found", "_law_k"]
theorem scWords : FnScope nWords ["_law_pool_here", "_law_many", "_law_taken"] (defScope sWords) := ⟨rfl, rfl, rfl, by decide +kernel, rfl, by decide +kernel, by decide +kernel⟩
theorem ok_words {f : Addr} {fd : FuncData} (F : Fun K "_law_words" "_law_words" sWords f fd) (T : Bare mg) (GW : Fn P w K mg base 2 "_law_word" ["_law_pool_here", "_law_taken"] K5S.spLawWord) :
    FnOk P w K mg base CX0 3 f fd ["_law_pool_here", "_law_many", "_law_taken"] spWords3 := by
  refine F.ok scWords (fun vs H Q E h => ?_) (fun cdv A outer s H vs Q E hr h => ?_)
  · obtain ⟨p, c, a, rfl, _⟩ := h
    rfl
  · obtain ⟨p, c, a, rfl, hp, hc, ha, hap, q⟩ := h
    refine ⟨_, pss_cons (ps_set (i := 3) scWords.nd rfl (.inl rfl) (pe_lst pa_nil))
      (pss_cons (ps_for PassesOwn.never rfl (pi_range1 (by rfl) T.range (pa_cons (pv 1) pa_nil)) (pg_name (i := 4) scWords.nd rfl (.inl rfl))
        (pss_one (ps_expr (pe_bm PySem.F.plainAttrs_list PySem.F.slot_list_append PySem.F.type_list_append mt_append (pv 3) (pa_cons (pe_fn GW hr rfl (pa_cons (pv 0) (pa_cons (pe_op op_cat (pv 2) (pv 3)) pa_nil))) pa_nil)))))
      (pss_one (ps_ret (pv 3)))), ?_⟩
    refine ⟨Nat.zero_le _, fun D hD => ⟨_, rfl, 3, rfl, by decide, by decide, for_range (lo := 0) (n := 3) (fun i σ H' => ∃ (v : Option V) (ts : List (List Nat)), σ = [some (.ref p), some (.int 3), some (.ref a), some (.ref D), v] ∧ ts.length = i ∧ (∀ r ∈ ts, r.all K5S.lt = true ∧ (1 ≤ r.length ∧ r.length ≤ 12)) ∧ H' D = some (.lst (K5S.lstS ts)) ∧ Keep p H H' ∧ Pool H' p (c + 12 * i))
      ⟨none, [], rfl, rfl, fun _ h => (nomatch h), upd_same, (Keep.refl p H).new hD, hp.new hD⟩ ?_ ?_⟩⟩
    · rintro i σ H1 hi ⟨v, ts, rfl, ht, hty, h1, k1, p1⟩
      have hDp : D ≠ p := pool_ne hp hD
      have hDa : a ≠ D := ne_of_none ha hD
      have ha1 := k1 _ _ hap ha
      refine ⟨_, rfl, .inl ⟨rfl, _, SqL.of h1⟩, _, rfl, _, rfl, _, rfl, a, D, [], _, rfl, rfl, ha1, h1, ?_, fun L hL => ?_⟩
      · unfold K5S.lstS; rw [List.length_map]; exact line_ge (by show 0 + ts.length ≤ _; omega)
      refine ⟨p, c + 12 * i, L, ts, rfl, p1.new hL, by omega, upd_same, pool_ne p1 hL, by omega, fun r H2 r1 r2 k2 p2 => ?_⟩
      have h2 : H2 D = some (.lst (K5S.lstS ts)) := k2 _ _ hDp (by rw [upd_ne (ne_of_none h1 hL)]; exact h1)
      refine ⟨D, _, _, rfl, rfl, h2, K5S.lst_short (n := i) (by omega) (by omega), _, ts ++ [r], rfl, by simp [ht], ?_, by rw [upd_same, K5S.lstS_add], ?_, (p2.other (Ne.symm hDp)).mono (by omega)⟩
      · intro x hx
        rcases List.mem_append.mp hx with hx | hx
        · exact hty x hx
        · rw [List.mem_singleton.mp hx]; exact ⟨r1, r2⟩
      · intro b o n e
        rw [upd_ne (ne_of_none e hD)]
        exact ((k1.new hL).trans k2) b o n e
    · rintro σ H1 ⟨v, ts, rfl, ht, hty, h1, k1, p1⟩
      exact ⟨_, rfl, q D ts H1 hD h1 ht hty k1 p1⟩
abbrev nOptions : List Str := ["_law_pool_here", "_law_twice", "_law_signs", "_law_lists"]
theorem scOptions : FnScope nOptions ["_law_pool_here"] (defScope sOptions) := ⟨rfl, rfl, rfl, by decide +kernel, rfl, by decide +kernel, by decide +kernel⟩
theorem ok_options {f : Addr} {fd : FuncData} (F : Fun K "_law_options" "_law_options" sOptions f fd) (GP : Fn P w K mg base 1 "_law_pick" ["_law_pool_here", "_law_many"] spPick) (GO : Fn P w K mg base 2 "_law_of" ["_law_pool_here", "_law_some"] K5S.spOf) :
    FnOk P w K mg base CX0 3 f fd ["_law_pool_here"] spOptions := by
  refine F.ok scOptions (fun vs H Q E h => ?_) (fun cdv A outer s H vs Q E hr h => ?_)
  · obtain ⟨p, c, rfl, _⟩ := h
    rfl
  · obtain ⟨p, c, rfl, hp, hc, q⟩ := h
    have hr1 : Room 1 _ := hr.mono (by decide)
    refine ⟨_, C8.pss_cut (ps_set (i := 1) scOptions.nd rfl (.inl rfl) (pe_ix ix_list (pe_lst (pa_weak (t' := rTups nine9) (t := tCons (tTup tNil) (tCons (tTup tNil) (tCons (tTup (tCons (tC (.str "=")) tNil)) (tCons (tTup (tCons (tC (.str ";")) tNil)) (tCons (tTup (tCons (tC (.str ",")) tNil)) (tCons (tTup (tCons (tC (.str "=")) (tCons (tC (.str ";")) tNil))) (tCons (tTup (tCons (tC (.str "=")) (tCons (tC (.str ",")) tNil))) (tCons (tTup (tCons (tC (.str ";")) (tCons (tC (.str ",")) tNil))) (tCons (tTup (tCons (tC (.str "=")) (tCons (tC (.str ";")) (tCons (tC (.str ",")) tNil)))) tNil))))))))) (pa_cons (pe_tup pa_nil) (pa_cons (pe_tup pa_nil) (pa_cons (pe_tup (pa_cons pe_str pa_nil)) (pa_cons (pe_tup (pa_cons pe_str pa_nil)) (pa_cons (pe_tup (pa_cons pe_str pa_nil)) (pa_cons (pe_tup (pa_cons pe_str (pa_cons pe_str pa_nil))) (pa_cons (pe_tup (pa_cons pe_str (pa_cons pe_str pa_nil))) (pa_cons (pe_tup (pa_cons pe_str (pa_cons pe_str pa_nil))) (pa_cons (pe_tup (pa_cons pe_str (pa_cons pe_str (pa_cons pe_str pa_nil)))) pa_nil))))))))) nine_read)) (pe_fn GP hr1 rfl (pa_cons (pv 0) (pa_cons pe_int pa_nil))) (fun _ _ => rfl)))
      (C8.pss_cut (ps_set (i := 2) scOptions.nd rfl (.inl rfl) (pe_tup (pa_cons (pe_fn GO hr rfl (pa_cons (pv 0) (pa_cons (pe_lst (pa_cons pe_str (pa_cons pe_str (pa_cons pe_str pa_nil)))) pa_nil))) (pa_cons (pe_fn GO hr rfl (pa_cons (pv 0) (pa_cons (pe_lst (pa_cons pe_str (pa_cons pe_str (pa_cons pe_str pa_nil)))) pa_nil))) pa_nil))))
      (C8.pss_cut (ps_set (i := 3) scOptions.nd rfl (.inl rfl) (pe_tup (pa_cons (pe_fn GO hr rfl (pa_cons (pv 0) (pa_cons (pe_lst (pa_cons pe_str (pa_cons pe_str (pa_cons pe_str pa_nil)))) pa_nil))) (pa_cons (pe_fn GO hr rfl (pa_cons (pv 0) (pa_cons (pe_lst (pa_cons pe_str (pa_cons pe_str (pa_cons pe_str pa_nil)))) pa_nil))) pa_nil))))
      (pss_one (ps_ret (pe_op op_catT (pe_op op_catT (pv 2) (pv 3)) (pe_tup (pa_cons (pv 1) (pa_cons (pe_cmpR op_eq (pe_fn GP hr1 rfl (pa_cons (pv 0) (pa_cons pe_int pa_nil))) pe_int (nomark _)) (pa_cons (pe_cmpR op_eq (pe_fn GP hr1 rfl (pa_cons (pv 0) (pa_cons pe_int pa_nil))) pe_int (nomark _)) pa_nil))))))))), ?_⟩
    refine ⟨fun σ H' => ∃ tw zs, σ = [some (.ref p), some (.ref tw), none, none] ∧ H' tw = some (.tup (zs.map V.str)) ∧ H tw = none ∧ Mixed zs ∧ Keep p H H' ∧ Pool H' p (c + 1), ?_, ?_⟩
    · refine fun ts H1 l1 nw s1 at1 => ⟨by rw [List.length_map, l1]; exact line_ge (by decide), fun L hL => ?_⟩
      have s2 := Same.new (o := .lst (ts.map V.ref)) s1 hL
      have hp1 := hp.same s2
      refine ⟨_, rfl, p, c, 9, rfl, hp1, by omega, by decide, by decide, fun r H2 r0 r1 kn pn => ?_⟩
      have hr9 : r.toNat < ts.length := by rw [l1]; show _ < 9; omega
      obtain ⟨t, ht⟩ : ∃ t, ts[r.toNat]? = some t := ⟨_, List.getElem?_eq_getElem hr9⟩
      obtain ⟨zs, hzs⟩ : ∃ zs, nine9[r.toNat]? = some zs := ⟨_, List.getElem?_eq_getElem (by rw [← l1]; exact hr9)⟩
      have tn : H t = none := nw t (List.mem_of_getElem? ht)
      have tp : t ≠ p := pool_ne hp tn
      have Lp : L ≠ p := pool_ne (hp.same s1) hL
      have e1 : upd H1 L (.lst (ts.map V.ref)) t = some (.tup (zs.map V.str)) := by
        rw [upd_ne (ne_of_none (at1 _ t zs ht hzs) hL)]
        exact at1 _ t zs ht hzs
      refine ⟨L, _, r, .ref t, rfl, rfl, SqL.of (kn _ _ Lp upd_same), at_of (j := r.toNat) (by omega) (by rw [List.getElem?_map, ht]; rfl), t, zs, rfl, kn _ _ tp e1, tn, nine_mixed zs (List.mem_of_getElem? hzs), (Same.keep s2).trans kn, pn⟩
    rintro σ H1 ⟨tw, zs, rfl, htw, ntw, hmx, k1, p1⟩
    have twp : tw ≠ p := pool_ne hp ntw
    have mem3 : ∀ {v : V} {x y z : Str}, v ∈ [V.str x, V.str y, V.str z] → ∃ t, v = .str t ∧ t ∈ [x, y, z] := fun {v x y z} h => by
      simp only [List.mem_cons, List.not_mem_nil, or_false] at h
      rcases h with rfl | rfl | rfl
      · exact ⟨_, rfl, by simp⟩
      · exact ⟨_, rfl, by simp⟩
      · exact ⟨_, rfl, by simp⟩
    refine ⟨fun σ H' => ∃ sg e n, σ = [some (.ref p), some (.ref tw), some (.ref sg), none] ∧ H' sg = some (.tup [.str e, .str n]) ∧ sg ≠ p ∧ e ∈ (["must", "must", "may"] : List Str) ∧ n ∈ (["must", "between", "may"] : List Str) ∧ Keep p H1 H' ∧ Pool H' p (c + 3), ?_, ?_⟩
    · refine ⟨_, rfl, by show 3 ≤ sizeLine; decide, fun l1 h1 => ⟨p, c + 1, l1, _, rfl, p1.new h1, by omega, upd_same, pool_ne p1 h1, by simp, by decide, fun v H2 hv k2 p2 => ?_⟩⟩
      obtain ⟨e, rfl, he⟩ := mem3 hv
      refine ⟨_, rfl, by show 3 ≤ sizeLine; decide, fun l2 h2 => ⟨p, c + 2, l2, _, rfl, p2.new h2, by omega, upd_same, pool_ne p2 h2, by simp, by decide, fun v H3 hv3 k3 p3 => ?_⟩⟩
      obtain ⟨n, rfl, hn⟩ := mem3 hv3
      exact ⟨by show 2 ≤ sizeLine; decide, fun sg hsg => ⟨sg, e, n, rfl, upd_same, pool_ne p3 hsg, he, hn, ((((Keep.refl p H1).new h1).trans k2).new h2 |>.trans k3).new hsg, p3.new hsg⟩⟩
    rintro σ H2 ⟨sg, e, n, rfl, hsg, sgp, he, hn, k2, p2⟩
    refine ⟨fun σ H' => ∃ li cc l, σ = [some (.ref p), some (.ref tw), some (.ref sg), some (.ref li)] ∧ H' li = some (.tup [.str cc, .str l]) ∧ li ≠ p ∧ cc ∈ (["must", "may", "joins"] : List Str) ∧ l ∈ (["never", "may", "must"] : List Str) ∧ Keep p H2 H' ∧ Pool H' p (c + 5), ?_, ?_⟩
    · refine ⟨_, rfl, by show 3 ≤ sizeLine; decide, fun l1 h1 => ⟨p, c + 3, l1, _, rfl, p2.new h1, by omega, upd_same, pool_ne p2 h1, by simp, by decide, fun v H3 hv k3 p3 => ?_⟩⟩
      obtain ⟨cc, rfl, hcc⟩ := mem3 hv
      refine ⟨_, rfl, by show 3 ≤ sizeLine; decide, fun l2 h2 => ⟨p, c + 4, l2, _, rfl, p3.new h2, by omega, upd_same, pool_ne p3 h2, by simp, by decide, fun v H4 hv4 k4 p4 => ?_⟩⟩
      obtain ⟨l, rfl, hl⟩ := mem3 hv4
      exact ⟨by show 2 ≤ sizeLine; decide, fun li hli => ⟨li, cc, l, rfl, upd_same, pool_ne p4 hli, hcc, hl, ((((Keep.refl p H2).new h1).trans k3).new h2 |>.trans k4).new hli, p4.new hli⟩⟩
    rintro σ H3 ⟨li, cc, l, rfl, hli, lip, hcc, hl, k3, p3⟩
    refine ⟨_, rfl, _, rfl, sg, li, _, _, rfl, rfl, SqT.of (k3 _ _ sgp hsg), SqT.of hli, by simp, by show 2 + 2 ≤ sizeLine; decide, fun z => (nomatch z), fun _ u1 hu1 => ?_⟩
    have p4 := p3.new (o := .tup [.str e, .str n, .str cc, .str l]) hu1
    have u1p : u1 ≠ p := pool_ne p3 hu1
    refine ⟨_, rfl, _, rfl, p, c + 5, 2, rfl, p4, by omega, by decide, by decide, fun r H5 r0 r1 k5 p5 => ⟨rfl, _, rfl, p, c + 6, 2, rfl, p5, by omega, by decide, by decide, fun r' H6 r0' r1' k6 p6 => ⟨rfl, by show 3 ≤ sizeLine; decide, fun u2 hu2 => ?_⟩⟩⟩
    have e6 : H6 u1 = some (.tup [.str e, .str n, .str cc, .str l]) := k6 _ _ u1p (k5 _ _ u1p upd_same)
    refine ⟨u1, u2, _, _, rfl, rfl, SqT.of (by rw [upd_ne (ne_of_none e6 hu2)]; exact e6), SqT.of upd_same, by simp, by show 4 + 3 ≤ sizeLine; decide, fun z => (nomatch z), fun _ oa hoa => ?_⟩
    have kall : Keep p H H6 := ((k1.trans k2).trans k3).trans (((Keep.refl p H3).new hu1).trans (k5.trans k6))
    have k8 := (kall.new (o := .tup [.ref tw, .bl (decide (V.int r = V.int 0)), .bl (decide (V.int r' = V.int 0))]) hu2)
    have p8 := p6.new (o := .tup [.ref tw, .bl (decide (V.int r = V.int 0)), .bl (decide (V.int r' = V.int 0))]) hu2
    have etw : H6 tw = some (.tup (zs.map V.str)) := k6 _ _ twp (k5 _ _ twp (by
      have := k3 _ _ twp (k2 _ _ twp htw)
      rw [upd_ne (ne_of_none this hu1)]
      exact this))
    have etw2 : upd H6 u2 (.tup [.ref tw, .bl (decide (V.int r = V.int 0)), .bl (decide (V.int r' = V.int 0))]) tw = some (.tup (zs.map V.str)) := by
      rw [upd_ne (ne_of_none etw hu2)]; exact etw
    refine q oa { e := e, n := n, c := cc, l := l, zs := zs, b := decide (V.int r = V.int 0), x := decide (V.int r' = V.int 0) } _ (k8.free (pool_ne p8 hoa) hoa) ⟨tw, upd_same, ?_⟩ ⟨?_, hn, hcc, hl, hmx⟩ (k8.new hoa) (p8.new hoa)
    · rw [upd_ne (ne_of_none etw2 hoa)]
      exact etw2
    · simp only [List.mem_cons, List.not_mem_nil, or_false] at he ⊢
      rcases he with h | h | h
      · exact .inl h
      · exact .inl h
      · exact .inr h
end
end K5

/-! C(k = v, ..) in a try -/
namespace L2
open PySem PySem.Spec PyProof.Rows
def tMakeKS (C : Addr) (m : Nat) (sp : Sp) (gV : List V → List V → List V) (E : St → XK) (tk : TA) : TE := fun σ H Q => tk σ H fun zs H2 => zs.length = m ∧ ∀ x dx, H2 x = none → H2 dx = none → dx ≠ x →
  sp (gV [.ref x] zs) (upd (upd H2 dx (.own x)) x (.ins C dx [])) (fun v H3 => v = .non ∧ Q (.ref x) H3) (E σ)
section
variable {X : Cx} {CX : CXT} {k : Nat} {f C : Addr} {fd : FuncData} {ps ks : List Str} {sp : Sp} {E : St → XK} {x : Str} {p pos : Pos} {kws : List Keyword} {tk : TA} {g : List Value → List Value → List Value} {gV : List V → List V → List V}
theorem pe_makeKS (M : Mk X.K C f) (F : FnOk X.prog X.w X.K X.mg X.base CX k f fd ps sp) (hr : Room (k + 1) X.A) (hg : Gl X x) (hm : X.mg x = some (.ref C)) (hb : KBn X.K fd ps 1 ks g gV) (hx : ∀ σ, PassesAt CX X σ (E σ)) (hkw : PK X kws tk)
    (hall : (backToKw pos (keywordEach kws X.env)).all (·.1.isSome) = true := by rfl) (hks : (backToKw pos (keywordEach kws X.env)).filterMap (·.1) = ks := by rfl) (hdb : (x == ("__debug__" : Str)) = false := by decide)
    (hpl : ((backTo pos (starEach [] X.env)).any (·.1) || (backToKw pos (keywordEach kws X.env)).any (·.1.isNone)) = false := by rfl) :
    PE X (.Call (.Name x p) [] kws pos) (tMakeKS C ks.length sp gV E tk) := by
  refine ⟨fun pins s σ H Q I h => ?_⟩
  refine wpAny_Call_Name_kw (ld_glob I hg hm ?_ hdb)
  refine PySem.W.callWith_KW0 (h₀ := X.base) I.ok.mod.kin M.kp hall ?_ hpl
  refine thn (hkw.run pos pins s σ H _ I h) fun ws s2 ⟨zs, H2, I2, rz, l2, h2⟩ => ⟨I2.kIn, ?_⟩
  rw [hks]
  have hq := h2 (s2.heap.objs.size + 1) s2.heap.objs.size (I2.hok.fresh (Nat.le_succ _)) (I2.hok.fresh (Nat.le_refl _)) (Nat.ne_of_lt (Nat.lt_succ_self _))
  have I3 := Inv.made (C := C) I2
  have r1 : Vals [V.ref (s2.heap.objs.size + 1)] [Value.ref (s2.heap.objs.size + 1)] := .cons rfl .nil
  have r2 := hb.rel r1 rz
  refine wpAny_call (make_map (f := f) I2.kIn M.makes M.init (beq_iff_eq.mp M.fn) (codeAny_mono (F.run _ X.stack _ _ ⟨[Value.ref (s2.heap.objs.size + 1)], ks.zip ws⟩ (g [Value.ref (s2.heap.objs.size + 1)] ws) _ _ (E σ) (hr.make C [] (ks.zip ws))
    (I3.env0.make C [] (ks.zip ws)) (hb.to _ [Value.ref (s2.heap.objs.size + 1)] ws I3.kIn rfl (rz.length.symm.trans l2)) r2 hq) fun r s' hq' => ?_))
  cases r with
  | error e => exact hx σ pins _ _ e s' I3 hq'
  | ok fl =>
    cases fl with
    | ret u =>
      obtain ⟨v, H', I4, rv, ev, q3⟩ := I3.after hq'
      subst ev
      exact ⟨rv, ⟨V.ref (s2.heap.objs.size + 1), H', I4, rfl, q3⟩⟩
    | next => exact False.elim hq'
    | brk => exact False.elim hq'
    | cont => exact False.elim hq'
end
end L2

namespace K5
open PySem L2
abbrev sLanguage : Stmt := top 51
theorem left_some {zs : List Str} (h : zs.length < 3) : (sgn3.filter fun z => !decide (z ∈ zs)) ≠ [] := by
  intro e
  have all : ∀ z ∈ sgn3, z ∈ zs := fun z hz => by
    by_cases c : z ∈ zs
    · exact c
    · have : z ∈ sgn3.filter fun z => !decide (z ∈ zs) := List.mem_filter.mpr ⟨hz, by rw [decide_eq_false c]; rfl⟩
      rw [e] at this
      cases this
  have h1 := all "=" (by decide +kernel)
  have h2 := all ";" (by decide +kernel)
  have h3 := all "," (by decide +kernel)
  have n12 : ("=" : Str) ≠ ";" := by decide +kernel
  have n13 : ("=" : Str) ≠ "," := by decide +kernel
  have n23 : (";" : Str) ≠ "," := by decide +kernel
  match zs, h with
  | [], _ => cases h1
  | [x], _ =>
    have a := List.mem_singleton.mp h1
    have b := List.mem_singleton.mp h2
    exact n12 (a.trans b.symm)
  | [x, y], _ =>
    simp only [List.mem_cons, List.not_mem_nil, or_false] at h1 h2 h3
    rcases h1 with rfl | rfl
    · rcases h2 with h2 | rfl
      · exact n12 h2.symm
      · rcases h3 with h3 | h3
        · exact n13 h3.symm
        · exact n23 h3.symm
    · rcases h2 with rfl | h2
      · rcases h3 with h3 | h3
        · exact n23 h3.symm
        · exact n13 h3.symm
      · exact n12 h2.symm
theorem texts_id : ∀ zs : List Str, (zs.map PyData.str).filterMap strD = zs
  | [] => rfl
  | z :: zs => by
    rw [List.map_cons, List.filterMap_cons]
    show z :: (zs.map PyData.str).filterMap strD = z :: zs
    rw [texts_id zs]
theorem okSeq_of {zs : List Str} (h : Mixed zs) : okSeq (zs.map PyData.str) = true := by
  unfold okSeq
  rw [texts_id, decide_eq_true h.nd, Bool.and_true, List.all_eq_true]
  intro d hd
  obtain ⟨z, hz, rfl⟩ := List.mem_map.mp hd
  exact decide_eq_true (h.sub z hz)
theorem inD_of {ws : List Str} {z : Str} (h : z ∈ ws) : inD ws (.str z) = true := decide_eq_true h
theorem Mixed.le {zs : List Str} (h : Mixed zs) : zs.length ≤ 3 := by
  apply Classical.byContradiction
  intro c
  have e : (sgn3.filter fun z => !decide (z ∈ zs.take 2)) ≠ [] := left_some (by rw [List.length_take]; omega)
  match zs, h, c with
  | x :: y :: z :: w :: r, h, _ =>
    have nd := h.nd
    have sx := h.sub x (by simp)
    have sy := h.sub y (by simp)
    have sz := h.sub z (by simp)
    have sw := h.sub w (by simp)
    simp only [List.nodup_cons, List.mem_cons, not_or] at nd
    simp only [sgn3, List.mem_cons, List.not_mem_nil, or_false] at sx sy sz sw
    obtain ⟨⟨n1, n2, n3, _⟩, ⟨n4, n5, _⟩, ⟨n6, _⟩, _⟩ := nd
    rcases sx with rfl | rfl | rfl <;> rcases sy with rfl | rfl | rfl <;> rcases sz with rfl | rfl | rfl <;> rcases sw with rfl | rfl | rfl <;> first | exact absurd rfl n1 | exact absurd rfl n2 | exact absurd rfl n3 | exact absurd rfl n4 | exact absurd rfl n5 | exact absurd rfl n6
  | [], _, c => exact c (by decide)
  | [_], _, c => exact c (by show 1 ≤ 3; decide)
  | [_, _], _, c => exact c (by show 2 ≤ 3; decide)
  | [_, _, _], _, c => exact c (by show 3 ≤ 3; decide)

/-- the options as data -/
def Opts.d (o : Opts) : List PyData := [.str o.e, .str o.n, .str o.c, .str o.l, .tuple (o.zs.map PyData.str), .bool o.b, .bool o.x]
theorem Opts.Fit.good {o : Opts} (k : o.Fit) : badOf names7 o.d = none :=
  sound_of.mpr ⟨inD_of k.e, inD_of k.n, inD_of k.c, inD_of k.l, okSeq_of k.z, rfl, rfl⟩
theorem langOf_d (o : Opts) : langOf o.d = o.lang := by
  show ({ e := o.e, n := o.n, c := o.c, l := o.l, D := sgn3.filter fun z => decide (z ∈ textsD (.tuple (o.zs.map PyData.str))), b := o.b, x := o.x } : Lang) = _
  rw [show textsD (.tuple (o.zs.map PyData.str)) = o.zs from texts_id o.zs]
  rfl
theorem Opts.Fit.short {o : Opts} (k : o.Fit) : AllShort o.d := by
  intro d hd ds e
  have := k.z.le
  simp only [Opts.d, List.mem_cons, List.not_mem_nil, or_false] at hd
  rcases hd with rfl | rfl | rfl | rfl | rfl | rfl | rfl
  · rcases e with e | e <;> cases e
  · rcases e with e | e <;> cases e
  · rcases e with e | e <;> cases e
  · rcases e with e | e <;> cases e
  · rcases e with e | e
    · cases e
    · cases e
      rw [List.length_map]
      omega
  · rcases e with e | e <;> cases e
  · rcases e with e | e <;> cases e
def spLanguage (C : Addr) : Sp := fun vs H Q _ => ∃ (oa : Addr) (o : Opts), vs = [.ref oa] ∧ OptsAt H oa o ∧ o.Fit ∧ ∀ x H', H x = none → Same H H' → LangW C H' x o.lang → Q (.ref x) H'
section
variable {P : Program} {w : World} {K : PySem.W.Frag} {mg : Str → Option Value} {base : Heap} {C CB fI : Addr} {fdI : FuncData}
theorem scLanguage : FnScope ["_law_options_here"] ["_law_options_here"] (defScope sLanguage) := ⟨rfl, rfl, rfl, by decide +kernel, rfl, by decide +kernel, by decide +kernel⟩
theorem ok_language {f : Addr} {fd : FuncData} (F : Fun K "_law_language" "_law_language" sLanguage f fd) (mL : mg "Language" = some (.ref C)) (M : Mk K C fI) (GI : FnOk P w K mg base (L2.CX P w) 4 fI fdI pInit (spInit K C CB)) (kb : KBn K fdI pInit 1 names7 (fun us ws => us ++ ws) (fun vs zs => vs ++ zs)) :
    FnOk P w K mg base CX0 6 f fd ["_law_options_here"] (spLanguage C) := by
  refine F.ok scLanguage (fun vs H Q E h => ?_) (fun cdv A outer s H vs Q E hr h => ?_)
  · obtain ⟨oa, o, rfl, _⟩ := h
    rfl
  · obtain ⟨oa, o, rfl, ⟨la, h1, h2⟩, fit, q⟩ := h
    refine ⟨_, pss_one (ps_ret (pe_makeK0 M GI hr (by rfl) mL kb passNo (pk_cons (pe_ix ix_tup (pv 0) pe_int (fun _ _ => rfl)) (pk_cons (pe_ix ix_tup (pv 0) pe_int (fun _ _ => rfl)) (pk_cons (pe_ix ix_tup (pv 0) pe_int (fun _ _ => rfl)) (pk_cons (pe_ix ix_tup (pv 0) pe_int (fun _ _ => rfl)) (pk_cons (pe_ix ix_tup (pv 0) pe_int (fun _ _ => rfl)) (pk_cons (pe_ix ix_tup (pv 0) pe_int (fun _ _ => rfl)) (pk_cons (pe_ix ix_tup (pv 0) pe_int (fun _ _ => rfl)) pk_nil))))))))), ?_⟩
    have sq : SqT K H oa _ := SqT.of h1
    refine ⟨_, rfl, oa, _, 0, _, rfl, rfl, sq, atI_nat (j := 0) rfl, _, rfl, oa, _, 1, _, rfl, rfl, sq, atI_nat (j := 1) rfl, _, rfl, oa, _, 2, _, rfl, rfl, sq, atI_nat (j := 2) rfl, _, rfl, oa, _, 3, _, rfl, rfl, sq, atI_nat (j := 3) rfl, _, rfl, oa, _, 4, _, rfl, rfl, sq, atI_nat (j := 4) rfl, _, rfl, oa, _, 5, _, rfl, rfl, sq, atI_nat (j := 5) rfl, _, rfl, oa, _, 6, _, rfl, rfl, sq, atI_nat (j := 6) rfl, rfl, rfl, fun x dx hx hdx hne => ?_⟩
    have s1 : Same H (upd (upd H dx (.own x)) x (.ins C dx [])) := Same.new (Same.new (Same.refl H) hdx) (by rw [upd_ne (Ne.symm hne)]; exact hx)
    refine ⟨x, dx, _, o.d, rfl, rfl, upd_same, .cons (.str _) (.cons (.str _) (.cons (.str _) (.cons (.str _) (.cons (.tup (SqT.of (s1 _ _ h2)) (dp_strs _ _ _)) (.cons (.bl _) (.cons (.bl _) .nil)))))), fit.short, fun _ H' k hL => ⟨rfl, ?_⟩, fun o' ho' => ?_⟩
    · rw [langOf_d] at hL
      exact q x H' hx (fun b o' e => k b o' (ne_of_none e hx) (s1 _ _ e)) hL
    · rw [fit.good] at ho'
      cases ho'
end
end K5

namespace L2
open PySem PySem.Spec PyProof.Rows
/-- a text many times (twice or more) -/
def mulS (a : Str) (n : Nat) : Str := ⟨(List.replicate n a.cps).foldl (· ++ ·) #[]⟩
def rMulS : R2 := fun x y H Q => ∃ (a : Str) (n : Nat), x = .str a ∧ y = .int n ∧ 2 ≤ n ∧ n ≤ 1000 ∧ 1 ≤ a.length ∧ a.length ≤ 1000 ∧ (mulS a n).length ≤ sizeLine ∧ Q (.str (mulS a n)) H
theorem op_mulS {X : Cx} : OpR X (binaryOp .Mult) rMulS := by
  intro pins s σ H x y v u Q I rx ry h
  obtain ⟨a, n, rfl, rfl, h1, h2, h3, h4, h5, q⟩ := h
  obtain ⟨t, rfl⟩ := rx
  obtain ⟨t2, rfl⟩ := ry
  have hn : ((n : Int) == 1 || a.length == 0) = false := by
    rw [Bool.or_eq_false_iff]
    exact ⟨beq_eq_false_iff_ne.mpr (by omega), beq_eq_false_iff_ne.mpr (by omega)⟩
  refine P.mul_str ?_ (fun _ _ => ?_) (fun _ _ => ?_) ?_
  · rw [decide_eq_false (by omega), decide_eq_false (by omega)]
    rfl
  · intro h
    have n0 : (0 : Int) < (n : Int) := Int.natCast_pos.mpr (Nat.lt_of_lt_of_le (by decide) h1)
    have b : a.length * n ≤ 1000 * 1000 := Nat.mul_le_mul h4 h2
    have c : ((a.length : Int)) * (n : Int) ≤ 1000000 := by
      rw [← Int.natCast_mul]
      exact Int.ofNat_le.mpr b
    have d := Int.lt_mul_of_ediv_lt n0 h
    exact absurd (Int.lt_of_lt_of_le d c) (by decide)
  · show decide _ = false
    refine decide_eq_false ?_
    have : a.length * (n : Int).toNat ≤ 1000 * 1000 := Nat.mul_le_mul h4 (by omega)
    have h6 : (1000 * 1000 : Nat) ≤ sizeLine := by decide
    omega
  · rw [if_neg (by omega), if_neg (by rw [hn]; decide), Int.toNat_natCast]
    exact ⟨h5, .str (mulS a n), H, I.tok _, ⟨_, rfl⟩, q⟩
end L2

namespace K5
open PySem L2
/-- short texts of tiny signs -/
def tiny (z : Str) : Bool := decide (z.length ≤ 30) && z.cps.toList.all fun c => decide (c < 128)
theorem tiny_len {z : Str} (h : tiny z = true) : z.length ≤ 30 := by
  unfold tiny at h
  exact of_decide_eq_true (Bool.and_eq_true_iff.mp h).1
theorem tiny_cps {z : Str} (h : tiny z = true) : ∀ c ∈ z.cps.toList, c < 128 := by
  unfold tiny at h
  exact fun c hc => of_decide_eq_true (List.all_eq_true.mp (Bool.and_eq_true_iff.mp h).2 c hc)
theorem tiny_ok {z : Str} (h : tiny z = true) : PyData.strOk z = true := by
  unfold PyData.strOk
  rw [Array.all_eq_true_iff_forall_mem]
  intro c hc
  have := tiny_cps h c (Array.mem_toList_iff.mpr hc)
  exact decide_eq_true (by omega)
theorem tiny_fair {z : Str} (h : tiny z = true) : Fair1 (.str z) := by
  refine ⟨?_, by rw [PyData.depth]; decide, by rw [PyData.showable], by rw [PyData.hasDict], ?_⟩
  · rw [PyData.canLay0]
    exact tiny_ok h
  · rw [PyData.shown]
    have a := StrLaws.reprText_len z fun c hc => by
      have := tiny_cps h c hc
      omega
    have := tiny_len h
    omega
/-- what the law draws for a token -/
inductive Dr (H : Hp) : V → PyData → Prop
  | str {z : Str} (h : tiny z = true) : Dr H (.str z) (.str z)
  | non : Dr H .non .none
  | tru : Dr H (.bl true) (.bool true)
  | sev : Dr H (.int 7) (.int 7)
  | lst {a : Addr} (h : H a = some (.lst [.str "a"])) : Dr H (.ref a) (.list [.str "a"])
  | tup {a : Addr} (h : H a = some (.tup [.str "a"])) : Dr H (.ref a) (.tuple [.str "a"])
theorem Dr.same {H H' : Hp} {v : V} {d : PyData} (h : Dr H v d) (s : Same H H') : Dr H' v d := by
  cases h with
  | str h => exact .str h
  | non => exact .non
  | tru => exact .tru
  | sev => exact .sev
  | lst h => exact .lst (s _ _ h)
  | tup h => exact .tup (s _ _ h)
theorem Dr.put {H H' : Hp} {v : V} {d : PyData} {D : Addr} {o : HO} (h : Dr H v d) (s : Same H H') (n : v ≠ .ref D) : Dr (upd H' D o) v d := by
  cases h with
  | str h => exact .str h
  | non => exact .non
  | tru => exact .tru
  | sev => exact .sev
  | lst h => exact .lst (by rw [upd_ne fun z => n (by rw [z])]; exact s _ _ h)
  | tup h => exact .tup (by rw [upd_ne fun z => n (by rw [z])]; exact s _ _ h)
theorem Dr.keep {H H' : Hp} {p : Addr} {c : Nat} {v : V} {d : PyData} (h : Dr H v d) (k : Keep p H H') (hp : Pool H p c) : Dr H' v d := by
  obtain ⟨g, m, j, e, _⟩ := hp
  cases h with
  | str h => exact .str h
  | non => exact .non
  | tru => exact .tru
  | sev => exact .sev
  | lst h => exact .lst (k _ _ (ne_lst h e (by intro z; cases z)) h)
  | tup h => exact .tup (k _ _ (ne_of h e (by intro z; cases z)) h)
theorem a_tiny : tiny "a" = true := by decide +kernel
theorem Dr.dp {K : PySem.W.Frag} {H : Hp} {v : V} {d : PyData} (h : Dr H v d) : Dp K H v d := by
  cases h with
  | str h => exact .str _
  | non => exact .non
  | tru => exact .bl _
  | sev => exact .int _
  | lst h => exact .lst (SqL.of h) (.cons (.str _) .nil)
  | tup h => exact .tup (SqT.of h) (.cons (.str _) .nil)
theorem Dr.fair {H : Hp} {v : V} {d : PyData} (h : Dr H v d) : Fair1 d := by
  cases h with
  | str h => exact tiny_fair h
  | non => exact fair_of (by decide +kernel)
  | tru => exact fair_of (by decide +kernel)
  | sev => exact fair_of (by decide +kernel)
  | lst h => exact fair_of (by decide +kernel)
  | tup h => exact fair_of (by decide +kernel)
theorem Dr.thing {K : PySem.W.Frag} {H : Hp} {v : V} {d : PyData} (h : Dr H v d) : K5S.Thing K H v (strD d) := by
  cases h with
  | str h => exact .inl ⟨_, rfl, rfl, line_ge (Nat.le_trans (tiny_len h) (by decide))⟩
  | non => exact .inr ⟨rfl, _, .non, kit_ty (by decide +kernel)⟩
  | tru => exact .inr ⟨rfl, _, .bl _, kit_ty (by decide +kernel)⟩
  | sev => exact .inr ⟨rfl, _, .int _, kit_ty (by decide +kernel)⟩
  | lst h => exact .inr ⟨rfl, _, .lst h, kit_ty (by decide +kernel)⟩
  | tup h => exact .inr ⟨rfl, _, .tup h, kit_ty (by decide +kernel)⟩
theorem Dr.ok {H : Hp} {v : V} {d : PyData} (h : Dr H v d) : ∀ z, strD d = some z → PyData.strOk z = true := by
  cases h with
  | str h =>
    intro z e
    cases e
    exact tiny_ok h
  | non => intro z e; cases e
  | tru => intro z e; cases e
  | sev => intro z e; cases e
  | lst h => intro z e; cases e
  | tup h => intro z e; cases e
end K5

namespace K5
open PySem L2
/-! words and numbers as tokens; where each token leads -/
def isWd (z : Str) : Bool := decide (sortO (some z) = some ("word" : Str))
def wd (z : Str) : Bool := tiny z && isWd z
theorem wd_t {z : Str} (h : wd z = true) : tiny z = true := (Bool.and_eq_true_iff.mp h).1
theorem wd_w {z : Str} (h : wd z = true) : sortO (some z) = some ("word" : Str) := of_decide_eq_true (Bool.and_eq_true_iff.mp h).2
theorem sort_word {z : Str} (h1 : z ∉ K5S.signs) (h2 : K5S.inAll z K5S.cLetters = true) : sortO (some z) = some ("word" : Str) := by
  show (if z ∈ K5S.signs then some z else if K5S.inAll z K5S.cLetters = true then some ("word" : Str) else if K5S.numOk z = true then some ("number" : Str) else none) = _
  rw [if_neg h1, if_pos h2]
theorem ascii_lt {r : List Nat} (h : r.all K5S.lt = true) : ∀ c ∈ r, 97 ≤ c ∧ c ≤ 122 := fun c hc => by
  have := List.all_eq_true.mp h c hc
  unfold K5S.lt at this
  rw [Bool.and_eq_true] at this
  exact ⟨of_decide_eq_true this.1, of_decide_eq_true this.2⟩
theorem signs_cps : ∀ z ∈ K5S.signs, ∃ c, z.cps.toList = [c] ∧ c < 97 ∧ (c < 48 ∨ 57 < c) := by
  intro z hz
  simp only [K5S.signs, List.mem_cons, List.not_mem_nil, or_false] at hz
  rcases hz with rfl | rfl | rfl | rfl | rfl
  · exact ⟨61, by decide +kernel, by decide, by decide⟩
  · exact ⟨59, by decide +kernel, by decide, by decide⟩
  · exact ⟨44, by decide +kernel, by decide, by decide⟩
  · exact ⟨91, by decide +kernel, by decide, by decide⟩
  · exact ⟨93, by decide +kernel, by decide, by decide⟩
theorem wd_S {r : List Nat} (h : r.all K5S.lt = true ∧ 1 ≤ r.length ∧ r.length ≤ 12) : wd (K5S.S r) = true := by
  have w := sort_word (z := K5S.S r) (fun m => by
    obtain ⟨c, e, l, _⟩ := signs_cps _ m
    rw [K5S.S_cps] at e
    have := ascii_lt h.1 c (by rw [e]; exact List.mem_singleton.mpr rfl)
    omega) (by
    unfold K5S.inAll
    rw [K5S.S_len, K5S.S_cps]
    simp only [Bool.and_eq_true, decide_eq_true_eq]
    refine ⟨⟨by omega, by omega⟩, List.all_eq_true.mpr fun c hc => decide_eq_true ?_⟩
    have := ascii_lt h.1 c hc
    have e : K5S.cLetters.cps.toList = (List.range 26).map (97 + ·) := by decide +kernel
    rw [e]
    exact List.mem_map.mpr ⟨c - 97, List.mem_range.mpr (by omega), by omega⟩)
  unfold wd isWd
  rw [decide_eq_true w, Bool.and_true]
  unfold tiny
  rw [K5S.S_len, decide_eq_true (by omega : r.length ≤ 30), Bool.true_and, K5S.S_cps]
  exact List.all_eq_true.mpr fun c hc => decide_eq_true (by have := ascii_lt h.1 c hc; omega)
/-- a written number -/
def numT (n : Int) : Str := ((toString n : String) : Str)
theorem num_S {n : Int} (h0 : 0 ≤ n) : numT n = K5S.S (TL.numL n.toNat) := by
  have e : n = ((n.toNat : Nat) : Int) := by omega
  unfold numT
  rw [e]
  exact SX.num_S n.toNat
theorem num_head : ∀ n : Nat, 0 < n → ∃ c r, TL.numL n = c :: r ∧ 49 ≤ c ∧ c ≤ 57 := by
  intro n
  induction n using Nat.strongRecOn with
  | _ n ih =>
    intro hn
    by_cases h : n < 10
    · exact ⟨48 + n, [], TL.numL_lt h, by omega, by omega⟩
    · obtain ⟨c, r, e, h1, h2⟩ := ih (n / 10) (by omega) (by omega)
      refine ⟨c, r ++ [48 + n % 10], ?_, h1, h2⟩
      rw [TL.numL_step (by omega), e]
      rfl
theorem letters_e : K5S.cLetters.cps.toList = (List.range 26).map (97 + ·) := by decide +kernel
theorem digits_e : K5S.cDigits.cps.toList = (List.range 10).map (48 + ·) := by decide +kernel
theorem num_kind {n : Int} (h0 : 0 ≤ n) (h1 : n < 1000000000000) : numT n ∉ K5S.signs ∧ K5S.inAll (numT n) K5S.cLetters = false ∧ K5S.numOk (numT n) = true := by
  rw [num_S h0]
  have hd := TL.numL_digits n.toNat
  have hl : (TL.numL n.toNat).length ≤ 12 := TL.numL_len (by decide) (by omega)
  have hne := TL.numL_ne n.toNat
  obtain ⟨c, r, e⟩ : ∃ c r, TL.numL n.toNat = c :: r := by
    cases q : TL.numL n.toNat with
    | nil => exact absurd q hne
    | cons c r => exact ⟨c, r, rfl⟩
  have hc : 48 ≤ c ∧ c ≤ 57 := hd c (by rw [e]; exact List.mem_cons_self ..)
  refine ⟨fun m => ?_, ?_, ?_⟩
  · obtain ⟨d, e', _, h⟩ := signs_cps _ m
    rw [K5S.S_cps, e] at e'
    cases e'
    omega
  · unfold K5S.inAll
    rw [K5S.S_cps, e, List.all_cons, letters_e]
    have : decide (c ∈ (List.range 26).map (97 + ·)) = false := decide_eq_false fun m => by
      obtain ⟨x, _, h⟩ := List.mem_map.mp m
      omega
    rw [this, Bool.false_and, Bool.and_false]
  · unfold K5S.numOk
    rw [Bool.and_eq_true]
    constructor
    · unfold K5S.inAll
      rw [K5S.S_len, K5S.S_cps]
      simp only [Bool.and_eq_true, decide_eq_true_eq]
      refine ⟨⟨by rw [e]; show 1 ≤ r.length + 1; omega, hl⟩, List.all_eq_true.mpr fun d hd' => decide_eq_true ?_⟩
      have := hd d hd'
      rw [digits_e]
      exact List.mem_map.mpr ⟨d - 48, List.mem_range.mpr (by omega), by omega⟩
    · by_cases z : n.toNat = 0
      · rw [z]
        decide +kernel
      · obtain ⟨c', r', e', g1, g2⟩ := num_head n.toNat (by omega)
        rw [e] at e'
        cases e'
        rw [K5S.S_cps, e]
        refine Bool.or_eq_true_iff.mpr (.inr ?_)
        have : ¬ (⟨#[c]⟩ : Str) = "0" := fun q => by
          have := congrArg (fun z : Str => z.cps.toList) q
          have e0 : ("0" : Str).cps.toList = [48] := by decide +kernel
          have this : [c] = (("0" : Str).cps.toList) := this
          rw [e0] at this
          have h : [c] = [48] := this
          cases h
          omega
        show (!decide ((⟨#[c]⟩ : Str) = "0")) = true
        rw [decide_eq_false this]
        rfl
theorem num_sort {n : Int} (h0 : 0 ≤ n) (h1 : n < 1000000000000) : sortO (some (numT n)) = some ("number" : Str) := by
  obtain ⟨a, b, c⟩ := num_kind h0 h1
  show (if numT n ∈ K5S.signs then some (numT n) else if K5S.inAll (numT n) K5S.cLetters = true then some ("word" : Str) else if K5S.numOk (numT n) = true then some ("number" : Str) else none) = _
  rw [if_neg a, if_neg (by rw [b]; simp), if_pos c]
theorem num_val {n : Int} (h0 : 0 ≤ n) (h1 : n < 1000000000000) : numV (numT n) = n := by
  have hl : (TL.numL n.toNat).length ≤ 12 := TL.numL_len (by decide) (by omega)
  unfold numV
  rw [num_S h0, PySem.intText_digits (by rw [K5S.S_cps]; exact TL.numL_digits _) (by rw [K5S.S_cps]; exact TL.numL_ne _) (by rw [K5S.S_len]; omega), K5S.S_cps, TL.numL_val]
  show ((n.toNat : Nat) : Int) = n
  omega
theorem single_num {n : Int} (h0 : 0 ≤ n) (h1 : n < 1000000000000) (ms : List Str) : single (numT n) ms = .num n := by
  obtain ⟨a, b, c⟩ := num_kind h0 h1
  unfold single
  rw [if_neg (fun e => a (by rw [e]; decide +kernel))]
  have : K5S.sortV (numT n) = .str "number" := by
    unfold K5S.sortV
    rw [if_neg a, if_neg (by rw [b]; simp), if_pos c]
  rw [if_pos this, num_val h0 h1]
theorem single_word {z : Str} (h : wd z = true) (ms : List Str) : single z ms = .word z := by
  have w := wd_w h
  have nb : z ≠ "]" := fun e => by
    rw [e] at w
    exact absurd w (by decide +kernel)
  unfold single
  rw [if_neg nb, if_neg fun e => ?_]
  have s := sort_eq (some z)
  have s : K5S.sortV z = tokV (sortO (some z)) := s
  rw [s, w] at e
  exact absurd (V.str.inj e) (by decide +kernel)
/-! where each token leads -/
theorem t_name1 : ∀ m w b : Bool, (aName m w b).lookup ("=" : Str) = some ("equals" : Str) := by decide +kernel
theorem t_name2 : ∀ w b : Bool, (aName true w b).lookup ("word" : Str) = some ("done" : Str) ∧ (aName true w b).lookup ("number" : Str) = some ("done" : Str) ∧ (aName true w b).lookup ("[" : Str) = some ("open" : Str) := by decide +kernel
theorem t_name3 : ∀ b : Bool, (aName false true b).lookup ("word" : Str) = some ("name" : Str) := by decide +kernel
theorem t_name4 : ∀ m w : Bool, (aName m w true).lookup (";" : Str) = some ("ended" : Str) := by decide +kernel
theorem t_equ1 : ∀ x : Bool, (aEqu true x).lookup ("=" : Str) = some ("equals" : Str) := by decide +kernel
theorem t_equ2 : ∀ d x : Bool, (aEqu d x).lookup ("word" : Str) = some ("done" : Str) ∧ (aEqu d x).lookup ("number" : Str) = some ("done" : Str) ∧ (aEqu d x).lookup ("[" : Str) = some ("open" : Str) := by decide +kernel
theorem t_equ3 : ∀ d : Bool, (aEqu d true).lookup (";" : Str) = some ("ended" : Str) := by decide +kernel
theorem t_item1 : ∀ m c j : Bool, (aItem m c j).lookup ("," : Str) = some ("comma" : Str) := by decide +kernel
theorem t_item2 : ∀ m j : Bool, (aItem m true j).lookup ("word" : Str) = some ("item" : Str) := by decide +kernel
theorem t_item3 : ∀ m : Bool, (aItem m false true).lookup ("word" : Str) = some ("pair" : Str) := by decide +kernel
theorem t_item4 : ∀ c j : Bool, (aItem false c j).lookup ("]" : Str) = some ("done" : Str) := by decide +kernel
theorem t_pair1 : ∀ m : Bool, (aBeh m).lookup ("," : Str) = some ("comma" : Str) := by decide +kernel
theorem t_com1 : ∀ d n : Bool, (aCom d n).lookup ("word" : Str) = some ("item" : Str) := by decide +kernel
theorem t_com2 : ∀ n : Bool, (aCom true n).lookup ("," : Str) = some ("comma" : Str) := by decide +kernel
theorem t_com3 : ∀ d : Bool, (aCom d false).lookup ("]" : Str) = some ("done" : Str) := by decide +kernel
theorem t_done1 : ∀ w : Bool, (aDone w).lookup (";" : Str) = some ("ended" : Str) := by decide +kernel
theorem t_end1 : ∀ d : Bool, (aEnd d).lookup ("word" : Str) = some ("name" : Str) := by decide +kernel
section
variable (L : Lang)
theorem s_start : stepL L "start" (some ("word" : Str)) = some ("name" : Str) := by kernel_rfl
theorem s_ended : stepL L "ended" (some ("word" : Str)) = some ("name" : Str) := t_end1 (inDb L ";")
theorem s_end2 (h : inDb L ";" = true) : stepL L "ended" (some (";" : Str)) = some ("ended" : Str) := by
  show (aEnd (inDb L ";")).lookup (";" : Str) = _
  rw [h]; decide +kernel
theorem s_doneE : stepL L "done" (some (";" : Str)) = some ("ended" : Str) := t_done1 (isN L)
theorem s_doneW (h : isN L = true) : stepL L "done" (some ("word" : Str)) = some ("name" : Str) := by
  show (aDone (isN L)).lookup ("word" : Str) = _
  rw [h]; decide +kernel
theorem s_nameE : stepL L "name" (some ("=" : Str)) = some ("equals" : Str) := t_name1 (isE L) (L.b && isN L) L.b
theorem s_nameV (h : isE L = true) : stepL L "name" (some ("word" : Str)) = some ("done" : Str) ∧ stepL L "name" (some ("number" : Str)) = some ("done" : Str) ∧ stepL L "name" (some ("[" : Str)) = some ("open" : Str) := by
  show (aName (isE L) (L.b && isN L) L.b).lookup ("word" : Str) = _ ∧ (aName (isE L) (L.b && isN L) L.b).lookup ("number" : Str) = _ ∧ (aName (isE L) (L.b && isN L) L.b).lookup ("[" : Str) = _
  rw [h]; exact t_name2 _ _
theorem s_nameW (h : isE L = false) (hb : L.b = true) (hn : isN L = true) : stepL L "name" (some ("word" : Str)) = some ("name" : Str) := by
  show (aName (isE L) (L.b && isN L) L.b).lookup ("word" : Str) = _
  rw [h, hb, hn]; decide +kernel
theorem s_nameS (hb : L.b = true) : stepL L "name" (some (";" : Str)) = some ("ended" : Str) := by
  show (aName (isE L) (L.b && isN L) L.b).lookup (";" : Str) = _
  rw [hb]; exact t_name4 _ _
theorem s_equE (h : inDb L "=" = true) : stepL L "equals" (some ("=" : Str)) = some ("equals" : Str) := by
  show (aEqu (inDb L "=") L.x).lookup ("=" : Str) = _
  rw [h]; exact t_equ1 _
theorem s_equV : stepL L "equals" (some ("word" : Str)) = some ("done" : Str) ∧ stepL L "equals" (some ("number" : Str)) = some ("done" : Str) ∧ stepL L "equals" (some ("[" : Str)) = some ("open" : Str) := t_equ2 (inDb L "=") L.x
theorem s_equS (h : L.x = true) : stepL L "equals" (some (";" : Str)) = some ("ended" : Str) := by
  show (aEqu (inDb L "=") L.x).lookup (";" : Str) = _
  rw [h]; exact t_equ3 _
theorem s_open : stepL L "open" (some ("word" : Str)) = some ("item" : Str) ∧ stepL L "open" (some ("]" : Str)) = some ("done" : Str) := by
  show wOpen.lookup ("word" : Str) = _ ∧ wOpen.lookup ("]" : Str) = _
  decide +kernel
theorem s_itemC : stepL L "item" (some ("," : Str)) = some ("comma" : Str) := t_item1 (decide (L.l = "must")) (decide (L.c = "may")) (decide (L.c = "joins"))
theorem s_itemW (h : L.c = "may") : stepL L "item" (some ("word" : Str)) = some ("item" : Str) := by
  show (aItem (decide (L.l = "must")) (decide (L.c = "may")) (decide (L.c = "joins"))).lookup ("word" : Str) = _
  rw [decide_eq_true h]; exact t_item2 _ _
theorem s_itemP (h : L.c = "joins") : stepL L "item" (some ("word" : Str)) = some ("pair" : Str) := by
  show (aItem (decide (L.l = "must")) (decide (L.c = "may")) (decide (L.c = "joins"))).lookup ("word" : Str) = _
  rw [h]
  exact t_item3 _
theorem s_itemD (h : L.l ≠ "must") : stepL L "item" (some ("]" : Str)) = some ("done" : Str) := by
  show (aItem (decide (L.l = "must")) (decide (L.c = "may")) (decide (L.c = "joins"))).lookup ("]" : Str) = _
  rw [decide_eq_false h]; exact t_item4 _ _
theorem s_pairC : stepL L "pair" (some ("," : Str)) = some ("comma" : Str) := t_pair1 (decide (L.l = "must"))
theorem s_pairD (h : L.l ≠ "must") : stepL L "pair" (some ("]" : Str)) = some ("done" : Str) := by
  show (aBeh (decide (L.l = "must"))).lookup ("]" : Str) = _
  rw [decide_eq_false h]; decide +kernel
theorem s_comW : stepL L "comma" (some ("word" : Str)) = some ("item" : Str) := t_com1 (inDb L ",") (decide (L.l = "never"))
theorem s_comC (h : inDb L "," = true) : stepL L "comma" (some ("," : Str)) = some ("comma" : Str) := by
  show (aCom (inDb L ",") (decide (L.l = "never"))).lookup ("," : Str) = _
  rw [h]; exact t_com2 _
theorem s_comD (h : L.l ≠ "never") : stepL L "comma" (some ("]" : Str)) = some ("done" : Str) := by
  show (aCom (inDb L ",") (decide (L.l = "never"))).lookup ("]" : Str) = _
  rw [decide_eq_false h]; exact t_com3 _
end
end K5

namespace K5
open PySem L2
abbrev sRole : Stmt := top 23
abbrev sRoles : Stmt := top 27
/-- the role that a sign has by itself -/
def roleS (z : Str) : Option Str := if z = "=" then some ("equals" : Str) else if z = "," then some ("comma" : Str) else if z = "[" then some ("open" : Str) else if z = "]" then some ("close" : Str) else if z = ";" then some ("end" : Str) else none
def roleL (y st : Str) : Str := (roleS y).getD (if y = "number" then "number" else if st = "name" then "name" else if st = "done" then "word" else "item")
structure RolesC (K : PySem.W.Frag) (w : World) (mg : Str → Option Value) (aR : Addr) : Prop where
  gl : mg "ROLES" = some (.ref aR)
  kd : ∃ es n, KDict K w aR es n
  ro : ∀ z ∈ sorts7, (roleS z = none → PySem.W.nsIn K aR z = some none) ∧ ∀ r, roleS z = some r → ∃ t, PySem.W.nsIn K aR z = some (some (.str r t))
def spRole : Sp := fun vs H Q _ => ∃ (y st : Str), vs = [.str y, .str st] ∧ y ∈ sorts7 ∧ Q (.str (roleL y st)) H
def rolesL (os : List (Option Str)) (w : List Str) : List Str := (os.zip w).map fun p => roleL ((sortO p.1).getD "") p.2
def spRoles (K : PySem.W.Frag) (C CU : Addr) : Sp := fun vs H Q E => ∃ (x a : Addr) (L : Lang) (xs : List V) (os : List (Option Str)), vs = [.ref x, .ref a] ∧ LangW C H x L ∧ SqL K H a xs ∧ Things K H xs os ∧ xs.length ≤ 900 ∧
  (∀ w, runL L "start" os = .inl w → ∀ p H', H p = none → Same H H' → H' p = some (.lst ((rolesL os w).map V.str)) → Q (.ref p) H') ∧ raisesU L os CU H E
abbrev nRoles : List Str := ["language", "file", "way", "at", "token"]
theorem sort7 {o : Option Str} {y : Str} (h : sortO o = some y) : y ∈ sorts7 := by
  obtain ⟨h1, h2⟩ := sortO_in h
  simp only [sorts8, List.mem_cons, List.not_mem_nil, or_false] at h1
  rcases h1 with rfl | rfl | rfl | rfl | rfl | rfl | rfl | rfl
  all_goals first | exact absurd rfl h2 | decide +kernel
section
variable {P : Program} {w : World} {K : PySem.W.Frag} {mg : Str → Option Value} {base : Heap} {C CU aR : Addr}
theorem scRole : FnScope ["sort", "after"] ["sort", "after"] (defScope sRole) := ⟨rfl, rfl, rfl, by decide +kernel, rfl, by decide +kernel, by decide +kernel⟩
theorem ok_role {f : Addr} {fd : FuncData} (F : Fun K "role_of" "role_of" sRole f fd) (R : RolesC K w mg aR) : FnOk P w K mg base CX0 1 f fd ["sort", "after"] spRole := by
  obtain ⟨es, n, kd⟩ := R.kd
  refine F.ok scRole (fun vs H Q E h => ?_) (fun cdv A outer s H vs Q E hr h => ?_)
  · obtain ⟨y, st, rfl, _⟩ := h
    rfl
  · obtain ⟨y, st, rfl, hy, q⟩ := h
    refine ⟨_, pss_cons (ps_if (pt_cmpR (op_in_kd kd) (pv 0) (pe_glob (v := .ref aR) (by rfl) R.gl rfl) (by rfl)) (pss_one (ps_ret (pe_ix ix_kdict (pe_glob (v := .ref aR) (by rfl) R.gl rfl) (pv 0) (fun _ _ => rfl)))) pss_nil)
      (pss_cons (ps_if (pt_cmpR op_eq (pv 0) pe_str (nomark _)) (pss_one (ps_ret pe_str)) pss_nil)
      (pss_cons (ps_if (pt_cmpR op_eq (pv 1) pe_str (nomark _)) (pss_one (ps_ret pe_str)) pss_nil)
      (pss_one (ps_ret (pe_ifExp (pt_cmpR op_eq (pv 1) pe_str (nomark _)) pe_str pe_str))))), ?_⟩
    obtain ⟨c1, c2⟩ := R.ro y hy
    unfold roleL at q
    have ite : ∀ (z x : Str) (A B : Prop), (z = x → A) → (z ≠ x → B) → (if decide (V.str z = V.str x) = true then A else B) := fun z x A B h1 h2 => by
      rw [eq_strB]
      by_cases c : z = x
      · rw [decide_eq_true c]; exact iteT (h1 c)
      · rw [decide_eq_false c]; exact iteF (h2 c)
    cases hc : roleS y with
    | some r =>
      rw [hc] at q
      obtain ⟨t, e1⟩ := c2 r hc
      exact ⟨_, rfl, y, some (.str r t), rfl, rfl, e1, _, rfl, iteT ⟨_, rfl, aR, y, .str r, rfl, rfl, ⟨es, n, .str r t, kd.at_, kd.lit, e1, ⟨t, rfl⟩⟩, q⟩⟩
    | none =>
      rw [hc, Option.getD_none] at q
      refine ⟨_, rfl, y, none, rfl, rfl, c1 hc, _, rfl, iteF ⟨_, rfl, rfl, _, rfl, ite y "number" _ _ (fun c => ?_) fun c => ⟨_, rfl, rfl, _, rfl, ite st "name" _ _ (fun d => ?_) fun d => ⟨_, rfl, rfl, _, rfl, ite st "done" _ _ (fun e => ?_) fun e => ?_⟩⟩⟩⟩
      · rw [if_pos c] at q; exact q
      · rw [if_neg c, if_pos d] at q; exact q
      · rw [if_neg c, if_neg d, if_pos e] at q; exact q
      · rw [if_neg c, if_neg d, if_neg e] at q; exact q
theorem scRoles : FnScope nRoles ["language", "file"] (defScope sRoles) := ⟨rfl, rfl, rfl, by decide +kernel, rfl, by decide +kernel, by decide +kernel⟩
theorem ok_roles {f : Addr} {fd : FuncData} (F : Fun K "roles" "roles" sRoles f fd) (hE : mg "enumerate" = none) (GS : FnE P w K mg base 4 "states" ["language", "file"] (spStates K C CU)) (GR : Fn P w K mg base 1 "role_of" ["sort", "after"] spRole) (GT : Fn P w K mg base 3 "sort_of" ["thing"] (K5S.spSort K)) :
    FnOk P w K mg base (L2.CX P w) 5 f fd ["language", "file"] (spRoles K C CU) := by
  refine F.okX scRoles (fun vs H Q E h => ?_) (fun cdv A outer s H vs Q E hr h => ?_)
  · obtain ⟨x, a, L, xs, os, rfl, _⟩ := h
    rfl
  · obtain ⟨x, a, L, xs, os, rfl, hL, ha, hT, hl, q, qe⟩ := h
    have hr1 : Room 1 _ := hr.mono (by decide)
    have hr3 : Room 3 _ := hr.mono (by decide)
    refine ⟨_, C8.pss_cut (ps_set (i := 2) scRoles.nd rfl (.inr rfl) (pe_fnE (E := E) GS hr rfl (takes_of rfl rfl rfl rfl) (fun _ _ _ _ h => h) (pa_cons (pv 0) (pa_cons (pv 1) pa_nil))))
      (pss_one (ps_ret (pe_lc (own := [("at", 3), ("token", 4)]) (g := gTup K 2 (gCons (gName 3) (gCons (gName 4) gNil))) (tt := tYes) (te := tCall spRole [] E0 (tCons (tCall (K5S.spSort K) [] E0 (tCons (tVar 4) tNil)) (tCons (tOp (rIxL K) (tVar 2) (tOp (rI0 fun i j => .int (i + j)) (tVar 3) (tC (.int 1)))) tNil))) (by rfl) scRoles.nd
        (pi_enum (by rfl) hE (pa_cons (pv 1) pa_nil))
        (blkOk_by (own := [("at", 3), ("token", 4)]) (N := nRoles) (sc := defScope sRoles) (by decide +kernel))
        (fun _ _ _ _ _ => pg_tup (by rfl) (pgs_cons (pg_name (i := 3) scRoles.nd rfl (Or.inl rfl)) (pgs_cons (pg_name (i := 4) scRoles.nd rfl (Or.inl rfl)) pgs_nil)))
        (fun _ _ _ _ _ => pts_nil) (fun _ _ _ _ _ => pe_fn GR hr1 rfl (pa_cons (pe_fn GT hr3 rfl (pa_cons (pv 4) pa_nil)) (pa_cons (pe_ix ix_list (pv 2) (pe_op op_add (pv 3) pe_int) (fun _ _ => rfl)) pa_nil)))))), ?_⟩
    refine ⟨fun σ H' => ∃ wy b, σ = [some (.ref x), some (.ref a), some (.ref b), none, none] ∧ runL L "start" os = .inl wy ∧ H' b = some (.lst ((("start" : Str) :: wy).map V.str)) ∧ Same H H', ?_, ?_⟩
    · exact ⟨_, rfl, _, rfl, x, a, L, xs, os, rfl, hL, ha, hT, hl, fun wy hw l H1 hl0 s1 h1 => ⟨wy, l, rfl, hw, h1, s1⟩, qe⟩
    rintro σ H1 ⟨wy, b, rfl, hw, hb, s1⟩
    obtain ⟨wl, go⟩ := run_steps hw
    have hxo := hT.1
    refine ⟨_, rfl, a, xs, rfl, s1.seq ha, fun D hD => ?_⟩
    refine lc_it walk_enum (fun i H' => Same H1 H' ∧ H' D = some (.lst (((rolesL os wy).take i).map V.str))) ⟨Same.new (Same.refl H1) hD, upd_same⟩ (fun i H' _ ⟨s', _⟩ => (s1.trans s').seq ha) ?_ ?_
    · rintro i v H2 H3 hi ⟨s2, h2⟩ ⟨U, u, z, rfl, hU, rfl, hu, hz⟩
      cases hu
      have s3 := Same.new (o := .tup [.int (i : Nat), z]) s2 hU
      have h2' : upd H2 U (.tup [.int (i : Nat), z]) D = some (.lst (((rolesL os wy).take i).map V.str)) := by rw [upd_ne (ne_of_none h2 hU)]; exact h2
      obtain ⟨o, ho⟩ : ∃ o, os[i]? = some o := ⟨_, List.getElem?_eq_getElem (by omega)⟩
      obtain ⟨pst, st, _, hst, hstep⟩ := go i o ho
      obtain ⟨y, _, hy, _, _⟩ := step_look hstep
      have s13 := s1.trans s3
      refine ⟨U, _, rfl, SqT.of upd_same, rfl, _, _, rfl, _, _, rfl, rfl, rfl, ?_⟩
      refine ⟨_, rfl, z, o, rfl, (hT.same s13).2 i z o hz ho, fun H4 s4 => ?_⟩
      have s14 := s3.trans s4
      have er : (rolesL os wy)[i]? = some (roleL y st) := by
        unfold rolesL
        rw [List.getElem?_map, (List.getElem?_zip_eq_some (z := (o, st))).mpr ⟨ho, hst⟩]
        show some (roleL ((sortO o).getD "") st) = _
        rw [hy]
        rfl
      rw [sort_eq, hy]
      refine ⟨_, rfl, _, rfl, _, _, rfl, rfl, b, _, _, .str st, rfl, rfl, SqL.of (s14 _ _ hb), at_of (j := i + 1) (by omega) (by rw [List.getElem?_map, List.getElem?_cons_succ, hst]; rfl), y, st, rfl, sort7 hy, _, s4 _ _ h2', ?_, Same.put s14 hD, ?_⟩
      · rw [List.length_map, List.length_take]
        exact Nat.lt_of_le_of_lt (show _ ≤ 900 by omega) (by decide)
      · rw [upd_same, List.take_add_one, er, List.map_append]
        rfl
    · rintro H2 ⟨s2, h2⟩
      refine q wy hw D H2 (s1.free hD) (s1.trans s2) ?_
      rw [h2, List.take_of_length_le]
      unfold rolesL
      rw [List.length_map, List.length_zip, hxo]
      exact Nat.min_le_left _ _
end
end K5

namespace K5
open PySem L2
/-! the spans of a file, each read alone -/
theorem run_of_steps {L : Lang} : ∀ {os : List (Option Str)} {st : Str} {w : List Str}, w.length = os.length → (∀ (i : Nat) (o : Option Str), os[i]? = some o → ∃ p s, (st :: w)[i]? = some p ∧ w[i]? = some s ∧ stepL L p (sortO o) = some s) → (∀ s, (st :: w).getLast? = some s → closesL L s = true) → runL L st os = .inl w
  | [], st, w, hl, _, c => by
    have e : w = [] := List.eq_nil_of_length_eq_zero hl
    subst e
    rw [runL, if_pos (c st rfl)]
  | _ :: _, _, [], hl, _, _ => by cases hl
  | o :: os, st, s :: w, hl, h, c => by
    obtain ⟨p, s', h1, h2, h3⟩ := h 0 o rfl
    cases h1
    cases h2
    rw [runL, h3]
    have ih := run_of_steps (L := L) (os := os) (st := s) (w := w) (Nat.succ.inj hl) (fun i o e => by
      obtain ⟨p, s', a, b, d⟩ := h (i + 1) o e
      exact ⟨p, s', a, b, d⟩) (fun z hz => c z (by rw [List.getLast?_cons_cons]; exact hz))
    show (match runL L s os with
      | .inl w => (Sum.inl (s :: w) : List Str ⊕ (Nat × Str))
      | .inr (k, z) => .inr (k + 1, z)) = _
    rw [ih]
theorem run_closes {L : Lang} : ∀ {os : List (Option Str)} {st : Str} {w : List Str}, runL L st os = .inl w → ∀ s, (st :: w).getLast? = some s → closesL L s = true
  | [], st, w, h, s, hs => by
    rw [runL] at h
    by_cases c : closesL L st = true
    · rw [if_pos c] at h
      cases h
      cases hs
      exact c
    · rw [if_neg c] at h
      cases h
  | o :: os, st, w, h, s, hs => by
    rw [runL] at h
    cases e : stepL L st (sortO o) with
    | none => rw [e] at h; cases h
    | some s' =>
      rw [e] at h
      have h : (match runL L s' os with
        | .inl w => .inl (s' :: w)
        | .inr (k, z) => .inr (k + 1, z)) = (Sum.inl w : List Str ⊕ (Nat × Str)) := h
      cases r : runL L s' os with
      | inr x => rw [r] at h; cases h
      | inl v =>
        rw [r] at h
        have h : (Sum.inl (s' :: v) : List Str ⊕ (Nat × Str)) = .inl w := h
        cases h
        exact run_closes r s (by rw [List.getLast?_cons_cons] at hs; exact hs)
theorem vals_name : ∀ m wd b : Bool, ∀ p ∈ aName m wd b, p.2 = "name" → p.1 = "word" ∧ wd = true := by decide +kernel
theorem vals_done : ∀ w : Bool, ∀ p ∈ aDone w, p.2 = "name" → p.1 = "word" ∧ w = true := by decide +kernel
theorem vals_start : ∀ d : Bool, ∀ p ∈ wStart ++ aEnd d, p.2 = "name" → p.1 = "word" := by decide +kernel
theorem vals_else : ∀ d x beh c j e n : Bool, ∀ p ∈ aEqu d x ++ (aItem beh c j ++ (aBeh beh ++ (aCom e n ++ wOpen))), p.2 ≠ "name" := by decide +kernel
/-- what leads to a name is a word, and a file may end ahead of it -/
theorem step_name {L : Lang} {st : Str} {z : Option Str} (h : stepL L st z = some ("name" : Str)) : z = some ("word" : Str) ∧ closesL L st = true := by
  obtain ⟨y, ws, rfl, m1, m2⟩ := step_look h
  have els := vals_else (inDb L "=") L.x (decide (L.l = "must")) (decide (L.c = "may")) (decide (L.c = "joins")) (inDb L ",") (decide (L.l = "never"))
  have nm := vals_name (isE L) (L.b && isN L) L.b
  have dn := vals_done (isN L)
  have se := vals_start (inDb L ";")
  simp only [wTab, List.mem_cons, List.not_mem_nil, or_false, Prod.mk.injEq] at m1
  have isn : isN L = true → ¬ L.n = "must" := fun e q => by
    have e : L.n = "may" := of_decide_eq_true e
    rw [e] at q
    exact absurd q (by decide +kernel)
  rcases m1 with ⟨rfl, rfl⟩ | ⟨rfl, rfl⟩ | ⟨_, rfl⟩ | ⟨_, rfl⟩ | ⟨_, rfl⟩ | ⟨_, rfl⟩ | ⟨_, rfl⟩ | ⟨rfl, rfl⟩ | ⟨rfl, rfl⟩
  · have e : y = "word" := se _ (List.mem_append_left _ m2) rfl
    exact ⟨by rw [e], by kernel_rfl⟩
  · obtain ⟨e, e2⟩ : y = "word" ∧ (L.b && isN L) = true := nm _ m2 rfl
    obtain ⟨b1, b2⟩ := Bool.and_eq_true_iff.mp e2
    refine ⟨by rw [e], ?_⟩
    unfold closesL
    rw [if_neg (by decide +kernel), if_neg (isn b2), if_neg (by decide +kernel), b1, Bool.and_true]
    exact Bool.or_eq_true_iff.mpr (.inl (by decide +kernel))
  · exact absurd rfl (els _ (List.mem_append_left _ m2))
  · exact absurd rfl (els _ (by simp only [List.mem_append]; exact .inr (.inr (.inr (.inr m2)))))
  · exact absurd rfl (els _ (List.mem_append_right _ (List.mem_append_left _ m2)))
  · exact absurd rfl (els _ (List.mem_append_right _ (List.mem_append_right _ (List.mem_append_left _ m2))))
  · exact absurd rfl (els _ (List.mem_append_right _ (List.mem_append_right _ (List.mem_append_right _ (List.mem_append_left _ m2)))))
  · obtain ⟨e, e2⟩ : y = "word" ∧ isN L = true := dn _ m2 rfl
    refine ⟨by rw [e], ?_⟩
    unfold closesL
    rw [if_neg (by decide +kernel), if_neg (isn e2), if_pos rfl]
  · have e : y = "word" := se _ (List.mem_append_right _ m2) rfl
    exact ⟨by rw [e], by kernel_rfl⟩
theorem firsts_pw (w : List Str) : (firstsL w).Pairwise (· < ·) := List.Pairwise.filter _ List.pairwise_lt_range
theorem firsts_in {w : List Str} {i : Nat} (h : w[i]? = some ("name" : Str)) : i ∈ firstsL w := by
  unfold firstsL
  exact List.mem_filter.mpr ⟨List.mem_range.mpr (List.getElem?_eq_some_iff.mp h).1, by unfold isFirst; exact decide_eq_true h⟩
/-- no name within a span but the first -/
theorem span_none {w : List Str} {j x y i : Nat} (hx : (firstsL w)[j]? = some x) (hy : (behindsL w)[j]? = some y) (h1 : x < i) (h2 : i < y) : w[i]? ≠ some ("name" : Str) := fun hi => by
  obtain ⟨m, hm⟩ := List.getElem?_of_mem (firsts_in hi)
  have pw := List.pairwise_iff_getElem.mp (firsts_pw w)
  obtain ⟨xl, xe⟩ := List.getElem?_eq_some_iff.mp hx
  obtain ⟨ml, me⟩ := List.getElem?_eq_some_iff.mp hm
  have jm : j < m := by
    rcases Nat.lt_trichotomy j m with c | c | c
    · exact c
    · subst c; omega
    · have := pw m j ml xl c; omega
  unfold behindsL at hy
  have ld : ((firstsL w).drop 1).length = (firstsL w).length - 1 := List.length_drop
  rw [List.getElem?_append_left (by omega), List.getElem?_drop] at hy
  obtain ⟨yl, ye⟩ := List.getElem?_eq_some_iff.mp hy
  rcases Nat.lt_trichotomy (1 + j) m with c | c | c
  · have := pw (1 + j) m yl ml c; omega
  · subst c; omega
  · omega
/-- the tokens of a span -/
def cutL {α : Type} (l : List α) (x y : Nat) : List α := (l.drop x).take (y - x)
theorem cut_at {α : Type} {l : List α} {x y i : Nat} (h : i < y - x) : (cutL l x y)[i]? = l[x + i]? := by
  unfold cutL
  rw [List.getElem?_take_of_lt h, List.getElem?_drop]
theorem cut_len {α : Type} {l : List α} {x y : Nat} (h1 : x ≤ y) (h2 : y ≤ l.length) : (cutL l x y).length = y - x := by
  unfold cutL
  rw [List.length_take, List.length_drop]
  omega
theorem part_run {L : Lang} {os : List (Option Str)} {w : List Str} (h : runL L "start" os = .inl w) {j x y : Nat} (hx : (firstsL w)[j]? = some x) (hy : (behindsL w)[j]? = some y) : runL L "start" (cutL os x y) = .inl (cutL w x y) := by
  obtain ⟨wl, go⟩ := run_steps h
  obtain ⟨nx, lt, le⟩ := span_ok hx hy
  have lo : (cutL os x y).length = y - x := cut_len (by omega) (by omega)
  have lw : (cutL w x y).length = y - x := cut_len (by omega) (by omega)
  refine run_of_steps (by omega) (fun i o ho => ?_) (fun s hs => ?_)
  · have il : i < y - x := by rw [← lo]; exact (List.getElem?_eq_some_iff.mp ho).1
    rw [cut_at il] at ho
    obtain ⟨p, s, h1, h2, h3⟩ := go _ o ho
    cases i with
    | zero =>
      rw [Nat.add_zero, nx] at h2
      cases h2
      refine ⟨"start", "name", rfl, by rw [cut_at (by omega)]; exact nx, ?_⟩
      rw [(step_name h3).1]
      exact s_start L
    | succ i =>
      refine ⟨p, s, ?_, by rw [cut_at il]; exact h2, h3⟩
      rw [List.getElem?_cons_succ, cut_at (by omega)]
      rw [show x + (i + 1) = (x + i) + 1 by omega, List.getElem?_cons_succ] at h1
      exact h1
  · have e : (cutL w x y).getLast? = some s := by
      cases q : cutL w x y with
      | nil => rw [q] at lw; simp at lw; omega
      | cons a r => rw [q, List.getLast?_cons_cons] at hs; exact hs
    rw [List.getLast?_eq_getElem?, lw, cut_at (by omega)] at e
    have ey : x + (y - x - 1) = y - 1 := by omega
    rw [ey] at e
    by_cases c : y < w.length
    · unfold behindsL at hy
      have ld : ((firstsL w).drop 1).length = (firstsL w).length - 1 := List.length_drop
      have jl : j < (firstsL w).length := (List.getElem?_eq_some_iff.mp hx).1
      have yn : w[y]? = some ("name" : Str) := by
        by_cases d : j < ((firstsL w).drop 1).length
        · rw [List.getElem?_append_left d, List.getElem?_drop] at hy
          exact (firsts_mem (List.mem_of_getElem? hy)).2
        · rw [List.getElem?_append_right (by omega), show j - ((firstsL w).drop 1).length = 0 by omega] at hy
          cases hy
          omega
      obtain ⟨o, ho⟩ : ∃ o, os[y]? = some o := ⟨_, List.getElem?_eq_getElem (by omega)⟩
      obtain ⟨p, s', h1, h2, h3⟩ := go y o ho
      rw [yn] at h2
      cases h2
      rw [show y = (y - 1) + 1 by omega, List.getElem?_cons_succ, e] at h1
      cases h1
      exact (step_name h3).2
    · refine run_closes h s ?_
      cases q : w with
      | nil => rw [q] at le; simp at le; omega
      | cons a r =>
        rw [List.getLast?_cons_cons, ← q, List.getLast?_eq_getElem?, show w.length - 1 = y - 1 by omega]
        exact e
theorem part_firsts {w : List Str} {j x y : Nat} (hx : (firstsL w)[j]? = some x) (hy : (behindsL w)[j]? = some y) : firstsL (cutL w x y) = [0] := by
  obtain ⟨nx, lt, le⟩ := span_ok hx hy
  have lw : (cutL w x y).length = y - x := cut_len (by omega) (by omega)
  unfold firstsL
  rw [lw, show y - x = (y - x - 1) + 1 by omega, List.range_succ_eq_map, List.filter_cons_of_pos (by unfold isFirst; rw [cut_at (by omega), Nat.add_zero, nx]; exact decide_eq_true rfl)]
  congr 1
  rw [List.filter_eq_nil_iff]
  intro i hi
  obtain ⟨m, hm, rfl⟩ := List.mem_map.mp hi
  have hm := List.mem_range.mp hm
  unfold isFirst
  rw [cut_at (by omega)]
  exact fun e => span_none hx hy (by omega) (by omega) (of_decide_eq_true e)
theorem part_val {os : List (Option Str)} {w : List Str} {x y : Nat} : ∀ {k : Nat}, k < y - x → valN (cutL os x y) (cutL w x y) 0 k = valN os w x k
  | 0, _ => rfl
  | k + 1, h => by
    rw [valN, valN, part_val (by omega)]
    unfold tokA wAt
    rw [cut_at (by omega), cut_at (by omega), show x + (0 + 1 + k) = x + 1 + k by omega]
theorem part_entries {os : List (Option Str)} {w : List Str} {j x y : Nat} {e : Str × Val} (hx : (firstsL w)[j]? = some x) (hy : (behindsL w)[j]? = some y) (he : (entriesL os w)[j]? = some e) : entriesL (cutL os x y) (cutL w x y) = [e] := by
  obtain ⟨nx, lt, le⟩ := span_ok hx hy
  have lw : (cutL w x y).length = y - x := cut_len (by omega) (by omega)
  rw [entries_at hx hy] at he
  cases he
  unfold entriesL behindsL
  rw [part_firsts hx hy, lw]
  show [(tokA (cutL os x y) 0, valL (cutL os x y) (cutL w x y) 0 (y - x))] = _
  unfold valL
  rw [show y - x - 0 - 1 = y - x - 1 by omega, part_val (by omega)]
  unfold tokA
  rw [cut_at (by omega), Nat.add_zero]
/-- where the spans begin, and the end -/
def cutsL (w : List Str) : List Nat := firstsL w ++ [w.length]
theorem cuts_first {w : List Str} {j : Nat} (h : j < (firstsL w).length) : (cutsL w)[j]? = (firstsL w)[j]? := by
  unfold cutsL
  rw [List.getElem?_append_left h]
theorem cuts_next {w : List Str} {j : Nat} (h : j < (firstsL w).length) : (cutsL w)[j + 1]? = (behindsL w)[j]? := by
  unfold cutsL behindsL
  rw [show (firstsL w).drop 1 ++ [w.length] = (firstsL w ++ [w.length]).drop 1 by rw [List.drop_append_of_le_length (by omega)], List.getElem?_drop, Nat.add_comm]
theorem cuts_end (w : List Str) : (cutsL w)[(firstsL w).length]? = some w.length := by
  unfold cutsL
  exact List.getElem?_concat_length
theorem cuts_zero {L : Lang} {os : List (Option Str)} {w : List Str} (h : runL L "start" os = .inl w) : (cutsL w)[0]? = some 0 := by
  cases q : w with
  | nil => rfl
  | cons s r =>
    rw [q] at h
    obtain ⟨wl, go⟩ := run_steps h
    obtain ⟨o, ho⟩ : ∃ o, os[0]? = some o := ⟨_, List.getElem?_eq_getElem (by rw [← wl]; exact Nat.succ_pos _)⟩
    obtain ⟨p, s', h1, h2, h3⟩ := go 0 o ho
    cases h1
    cases h2
    have e := start_name h3
    subst e
    have f : firstsL (("name" : Str) :: r) = 0 :: ((List.range r.length).map Nat.succ).filter (isFirst (("name" : Str) :: r)) := by
      unfold firstsL
      rw [List.length_cons, List.range_succ_eq_map, List.filter_cons_of_pos (by unfold isFirst; exact decide_eq_true rfl)]
    unfold cutsL
    rw [f]
    rfl
/-- the roles by the states -/
theorem role_name {L : Lang} {p st y : Str} (h : stepL L p (some y) = some st) : roleL y st = "name" ↔ st = "name" := by
  constructor
  · intro e
    unfold roleL at e
    cases r : roleS y with
    | some t =>
      rw [r] at e
      have e : t = "name" := e
      subst e
      exfalso
      unfold roleS at r
      repeat (split at r; · exact absurd (Option.some.inj r) (by decide +kernel))
      cases r
    | none =>
      rw [r, Option.getD_none] at e
      by_cases c : y = "number"
      · rw [if_pos c] at e; exact absurd e (by decide +kernel)
      · rw [if_neg c] at e
        by_cases d : st = "name"
        · exact d
        · rw [if_neg d] at e
          by_cases f : st = "done"
          · rw [if_pos f] at e; exact absurd e (by decide +kernel)
          · rw [if_neg f] at e; exact absurd e (by decide +kernel)
  · rintro rfl
    have e : y = "word" := Option.some.inj (step_name h).1
    subst e
    kernel_rfl
theorem roles_at {os : List (Option Str)} {w : List Str} {i : Nat} {o : Option Str} {st : Str} (ho : os[i]? = some o) (hs : w[i]? = some st) : (rolesL os w)[i]? = some (roleL ((sortO o).getD "") st) := by
  unfold rolesL
  rw [List.getElem?_map, (List.getElem?_zip_eq_some (z := (o, st))).mpr ⟨ho, hs⟩]
  rfl
theorem roles_len {os : List (Option Str)} {w : List Str} (h : w.length = os.length) : (rolesL os w).length = os.length := by
  unfold rolesL
  rw [List.length_map, List.length_zip, h, Nat.min_self]
theorem roles_name {L : Lang} {os : List (Option Str)} {w : List Str} (h : runL L "start" os = .inl w) {i : Nat} (hi : i < w.length) : ∃ r, (rolesL os w)[i]? = some r ∧ (r = "name" ↔ w[i]? = some ("name" : Str)) := by
  obtain ⟨wl, go⟩ := run_steps h
  obtain ⟨o, ho⟩ : ∃ o, os[i]? = some o := ⟨_, List.getElem?_eq_getElem (by omega)⟩
  obtain ⟨p, s, h1, h2, h3⟩ := go i o ho
  refine ⟨_, roles_at ho h2, ?_⟩
  obtain ⟨y, _, hy, _, _⟩ := step_look h3
  rw [hy] at h3 ⊢
  rw [h2]
  show roleL y s = "name" ↔ _
  rw [role_name h3]
  exact ⟨fun e => by rw [e], fun e => Option.some.inj e⟩
/-- a span has one name, at its beginning -/
theorem part_roles {L : Lang} {os : List (Option Str)} {w : List Str} (h : runL L "start" os = .inl w) {j x y : Nat} (hx : (firstsL w)[j]? = some x) (hy : (behindsL w)[j]? = some y) : (cutL (rolesL os w) x y).filter (fun z => decide (z = ("name" : Str))) = [("name" : Str)] := by
  obtain ⟨nx, lt, le⟩ := span_ok hx hy
  obtain ⟨wl, _⟩ := run_steps h
  have ll : (cutL (rolesL os w) x y).length = y - x := cut_len (by omega) (by rw [roles_len wl]; omega)
  cases q : cutL (rolesL os w) x y with
  | nil => rw [q] at ll; simp at ll; omega
  | cons a r =>
    have a0 : a = "name" := by
      have e : (cutL (rolesL os w) x y)[0]? = some a := by rw [q]; rfl
      rw [cut_at (by omega), Nat.add_zero] at e
      obtain ⟨r', e1, e2⟩ := roles_name h (i := x) (by omega)
      rw [e1] at e
      cases e
      exact e2.mpr nx
    rw [a0]
    refine (List.filter_cons_of_pos (p := fun z => decide (z = ("name" : Str))) (decide_eq_true (show ("name" : Str) = "name" from rfl))).trans ?_
    congr 1
    rw [List.filter_eq_nil_iff]
    intro z hz e
    have e : z = "name" := of_decide_eq_true e
    subst e
    obtain ⟨i, hi⟩ := List.getElem?_of_mem hz
    have il : i + 1 < y - x := by rw [← ll, q, List.length_cons]; exact Nat.succ_lt_succ (List.getElem?_eq_some_iff.mp hi).1
    have e : (cutL (rolesL os w) x y)[i + 1]? = some ("name" : Str) := by rw [q]; exact hi
    rw [cut_at il] at e
    obtain ⟨r', e1, e2⟩ := roles_name h (i := x + (i + 1)) (by omega)
    rw [e1] at e
    cases e
    exact span_none hx hy (by omega) (by omega) (e2.mp rfl)
end K5

namespace K5
open PySem L2
abbrev sDue : Stmt := top 62
def shownR : Row := [("=", some "equals"), (";", some "end"), (",", some "comma"), ("[", some "open"), ("]", some "close"), ("number", some "number")]
def withinR : Row := [("name", some "name"), ("done", some "word")]
theorem m_shown : mergeK [] (rK shownR) = rK shownR := by kernel_rfl
theorem m_within : mergeK [] (rK withinR) = rK withinR := by kernel_rfl
theorem shown_look : ∀ y ∈ sorts7, y ≠ "word" → ∃ r, shownR.lookup y = some (some r) ∧ ∀ st : Str, roleL y st = r := by
  intro y hy hn
  simp only [sorts7, List.mem_cons, List.not_mem_nil, or_false] at hy
  rcases hy with rfl | rfl | rfl | rfl | rfl | rfl | rfl
  · exact absurd rfl hn
  · exact ⟨"number", by kernel_rfl, fun st => by kernel_rfl⟩
  · exact ⟨"equals", by kernel_rfl, fun st => by kernel_rfl⟩
  · exact ⟨"end", by kernel_rfl, fun st => by kernel_rfl⟩
  · exact ⟨"comma", by kernel_rfl, fun st => by kernel_rfl⟩
  · exact ⟨"open", by kernel_rfl, fun st => by kernel_rfl⟩
  · exact ⟨"close", by kernel_rfl, fun st => by kernel_rfl⟩
theorem within_look (st : Str) : ((valV (rK withinR) (.inr st)).getD (.str "item")) = V.str (roleL "word" st) := by
  have e : roleL "word" st = if st = "name" then ("name" : Str) else if st = "done" then ("word" : Str) else ("item" : Str) := by
    unfold roleL
    have : roleS "word" = none := by kernel_rfl
    rw [this, Option.getD_none, if_neg (by decide +kernel)]
  rw [e]
  unfold rK
  rw [val_look tokV]
  by_cases h1 : st = "name"
  · subst h1; kernel_rfl
  · by_cases h2 : st = "done"
    · subst h2; kernel_rfl
    · rw [if_neg h1, if_neg h2]
      have : List.lookup st withinR = none := by
        unfold withinR
        rw [List.lookup_cons, show (st == ("name" : Str)) = false from beq_eq_false_iff_ne.mpr h1, List.lookup_cons, show (st == ("done" : Str)) = false from beq_eq_false_iff_ne.mpr h2]
        rfl
      rw [this]
      rfl
def spDue (K : PySem.W.Frag) : Sp := fun vs H Q _ => ∃ (oa a : Addr) (o : Opts) (xs : List V) (os : List (Option Str)) (w : List Str), vs = [.ref oa, .ref a] ∧ OptsAt H oa o ∧ o.Ok ∧ SqL K H a xs ∧ Things K H xs os ∧ Asc os ∧ xs.length ≤ 900 ∧
  runL o.lang "start" os = .inl w ∧ ∀ p H', H p = none → Same H H' → H' p = some (.lst ((rolesL os w).map V.str)) → Q (.ref p) H'
abbrev nDue : List Str := ["_law_options_here", "_law_file", "_law_path_here", "_law_shown", "_law_found", "_law_place", "_law_one", "_law_after", "_law_tag_here", "_law_within"]
theorem path_of {K : PySem.W.Frag} {oa a : Addr} {o : Opts} {xs : List V} {os : List (Option Str)} {w : List Str} {H : Hp} {Q : VK} {E : XK} (hO : OptsAt H oa o) (ok : o.Ok) (ha : SqL K H a xs) (hT : Things K H xs os) (as : Asc os) (hl : xs.length ≤ 900) (hw : runL o.lang "start" os = .inl w) (k : ∀ l H', H l = none → Same H H' → H' l = some (.lst ((("start" : Str) :: w).map V.str)) → Q (.ref l) H') : spPath K [.ref oa, .ref a] H Q E :=
  ⟨oa, a, o, xs, os, rfl, hO, ok, ha, hT, as, hl, fun w' hw' l H' n s e => by
    rw [hw] at hw'
    cases hw'
    exact k _ _ n s e, fun j z hk => by rw [hw] at hk; cases hk⟩
section
variable {P : Program} {w : World} {K : PySem.W.Frag} {mg : Str → Option Value} {base : Heap}
theorem scDue : FnScope nDue ["_law_options_here", "_law_file"] (defScope sDue) := ⟨rfl, rfl, rfl, by decide +kernel, rfl, by decide +kernel, by decide +kernel⟩
theorem ok_due {f : Addr} {fd : FuncData} (F : Fun K "_law_due_roles" "_law_due_roles" sDue f fd) (hE : mg "enumerate" = none) (GP : Fn P w K mg base 3 "_law_path" ["_law_options_here", "_law_file"] (spPath K)) (GT : Fn P w K mg base 1 "_law_tag" ["_law_one"] (spTag K)) :
    FnOk P w K mg base CX0 4 f fd ["_law_options_here", "_law_file"] (spDue K) := by
  refine F.ok scDue (fun vs H Q E h => ?_) (fun cdv A outer s H vs Q E hr h => ?_)
  · obtain ⟨oa, a, o, xs, os, w, rfl, _⟩ := h
    rfl
  · obtain ⟨oa, a, o, xs, os, wy, rfl, ho, ok, ha, hT, hA, hl9, hw, q⟩ := h
    have hr1 : Room 1 _ := hr.mono (by decide)
    have hu := hu_of hr
    refine ⟨_, C8.pss_cut (ps_set (i := 2) scDue.nd rfl (.inl rfl) (pe_fn GP hr rfl (pa_cons (pv 0) (pa_cons (pv 1) pa_nil))))
      (C8.pss_cut (ps_set (i := 3) scDue.nd rfl (.inl rfl) (pe_disp (pps_cons pe_str pe_str (pps_cons pe_str pe_str (pps_cons pe_str pe_str (pps_cons pe_str pe_str (pps_cons pe_str pe_str (pps_cons pe_str pe_str pps_nil)))))) (by rfl) (by rfl) (fun z => by cases z) (by decide)))
      (C8.pss_cut (ps_set (i := 4) scDue.nd rfl (.inl rfl) (pe_lst pa_nil))
      (C8.pss_cut (ps_for PassesOwn.never rfl (pi_enum (by rfl) hE (pa_cons (pv 1) pa_nil)) (pg_tup (by rfl) (pgs_cons (pg_name (i := 5) scDue.nd rfl (.inl rfl)) (pgs_cons (pg_name (i := 6) scDue.nd rfl (.inl rfl)) pgs_nil)))
        (C8.pss_cut (ps_par (i := 7) (j := 8) (by rfl) scDue.nd rfl rfl (by decide) rfl rfl (pa_cons (pe_ix ix_list (pv 2) (pe_op op_add (pv 5) pe_int) (fun _ _ => rfl)) (pa_cons (pe_fn GT hr1 rfl (pa_cons (pv 6) pa_nil)) pa_nil)) (by rfl))
        (C8.pss_cut (ps_set (i := 9) scDue.nd rfl (.inl rfl) (pe_disp (pps_cons pe_str pe_str (pps_cons pe_str pe_str pps_nil)) (by rfl) (by rfl) (fun z => by cases z) (by decide)))
        (pss_one (ps_expr (pe_bm PySem.F.plainAttrs_list PySem.F.slot_list_append PySem.F.type_list_append mt_append (pv 4) (pa_cons (pe_ifExp (pt_cmpR op_eq (pv 8) pe_str (nomark _)) (pe_dget2 hu (pv 9) (pv 7) pe_str ⟨by rfl, by rfl, by rfl, by rfl⟩) (pe_dget hu (pv 3) (pv 8) (fun _ _ => rfl))) pa_nil)))))))
      (pss_one (ps_ret (pv 4)))))), ?_⟩
    obtain ⟨wl, go⟩ := run_steps hw
    have hxo := hT.1
    have two : 2 ≤ sizeLine := by decide
    refine ⟨fun σ H' => ∃ b, σ = [some (.ref oa), some (.ref a), some (.ref b), none, none, none, none, none, none, none] ∧ H' b = some (.lst ((("start" : Str) :: wy).map V.str)) ∧ Same H H', ?_, ?_⟩
    · refine ⟨_, rfl, _, rfl, ?_⟩
      dsimp only [tNil]
      exact path_of ho ok ha hT hA hl9 hw fun l H1 _ s1 h1 => ⟨l, rfl, h1, s1⟩
    rintro σ H1 ⟨b, rfl, hb, s1⟩
    refine ⟨fun σ H' => ∃ S, σ = [some (.ref oa), some (.ref a), some (.ref b), some (.ref S), none, none, none, none, none, none] ∧ H' S = some (.dK (rK shownR)) ∧ Same H1 H', ?_, ?_⟩
    · exact fun S hS => ⟨upd_same, rK shownR, rfl, by decide, S, rfl, by rw [upd_same, m_shown], Same.put (Same.new (Same.refl H1) hS) hS⟩
    rintro σ H2 ⟨S, rfl, hS, s2⟩
    refine ⟨fun σ H' => ∃ D, σ = [some (.ref oa), some (.ref a), some (.ref b), some (.ref S), some (.ref D), none, none, none, none, none] ∧ H2 D = none ∧ H' D = some (.lst []) ∧ Same H2 H', ⟨Nat.zero_le _, fun D hD => ⟨D, rfl, hD, upd_same, Same.new (Same.refl H2) hD⟩⟩, ?_⟩
    rintro σ H3 ⟨D, rfl, hD, h3, s3⟩
    have s12 := s1.trans s2
    refine ⟨fun σ H' => ∃ v5 v6 v7 v8 v9, σ = [some (.ref oa), some (.ref a), some (.ref b), some (.ref S), some (.ref D), v5, v6, v7, v8, v9] ∧ H' D = some (.lst ((rolesL os wy).map V.str)) ∧ Same H2 H', ?_, ?_⟩
    · refine ⟨_, rfl, a, xs, rfl, (s12.trans s3).seq ha, for_it walk_enum (fun i σ H' => ∃ v5 v6 v7 v8 v9, σ = [some (.ref oa), some (.ref a), some (.ref b), some (.ref S), some (.ref D), v5, v6, v7, v8, v9] ∧ H' D = some (.lst (((rolesL os wy).take i).map V.str)) ∧ Same H2 H') ⟨_, _, _, _, _, rfl, h3, s3⟩ (fun i σ H' _ ⟨_, _, _, _, _, _, _, s'⟩ => (s12.trans s').seq ha) ?_ ?_⟩
      · rintro i y σ H4 H4' hi ⟨v5, v6, v7, v8, v9, rfl, h4, s4⟩ ⟨U, u, z, rfl, hU, rfl, hu', hz⟩
        cases hu'
        have s5 := Same.new (o := .tup [.int (i : Nat), z]) s4 hU
        have h5 : upd H4 U (.tup [.int (i : Nat), z]) D = some (.lst (((rolesL os wy).take i).map V.str)) := by rw [upd_ne (ne_of_none h4 hU)]; exact h4
        have hU5 : upd H4 U (.tup [.int (i : Nat), z]) U = some (.tup [.int (i : Nat), z]) := upd_same
        generalize upd H4 U (.tup [.int (i : Nat), z]) = H5 at *
        obtain ⟨oo, hoo⟩ : ∃ oo, os[i]? = some oo := ⟨_, List.getElem?_eq_getElem (by omega)⟩
        obtain ⟨pst, st, _, hst, hstep⟩ := go i oo hoo
        obtain ⟨yy, _, hy, _, _⟩ := step_look hstep
        have ty : tagO oo = yy := by unfold tagO; rw [hy]; rfl
        have y7 : yy ∈ sorts7 := sort7 hy
        have er : (rolesL os wy)[i]? = some (roleL yy st) := by rw [roles_at hoo hst, hy]; rfl
        have s15 := s12.trans s5
        refine ⟨U, _, rfl, SqT.of hU5, rfl, _, _, rfl, _, _, rfl, rfl, ?_⟩
        refine ⟨fun σ H' => σ = [some (.ref oa), some (.ref a), some (.ref b), some (.ref S), some (.ref D), some (.int (i : Nat)), some z, some (.str st), some (.str yy), v9] ∧ Same H5 H', ?_, ?_⟩
        · refine ⟨_, rfl, _, rfl, _, _, rfl, rfl, b, _, _, .str st, rfl, rfl, SqL.of ((s2.trans s5) _ _ hb), at_of (j := i + 1) (by omega) (by rw [List.getElem?_map, List.getElem?_cons_succ, hst]; rfl), _, rfl, z, oo, rfl, (hT.same s15).2 i z oo hz hoo, (fun y e => hA y (by rw [← e]; exact List.mem_of_getElem? hoo)), fun H6 s6 => ⟨_, _, rfl, ?_, s6⟩⟩
          rw [ty]
          rfl
        rintro σ H6 ⟨rfl, s6⟩
        refine ⟨fun σ H' => ∃ W, σ = [some (.ref oa), some (.ref a), some (.ref b), some (.ref S), some (.ref D), some (.int (i : Nat)), some z, some (.str st), some (.str yy), some (.ref W)] ∧ H' W = some (.dK (rK withinR)) ∧ Same H6 H', ?_, ?_⟩
        · exact fun W hW => ⟨upd_same, rK withinR, rfl, by decide, W, rfl, by rw [upd_same, m_within], Same.put (Same.new (Same.refl H6) hW) hW⟩
        rintro σ H7 ⟨W, rfl, hW, s7⟩
        have h7 := s7 _ _ (s6 _ _ h5)
        have s57 := s5.trans (s6.trans s7)
        have fin : ∀ v : V, v = .str (roleL yy st) → ∃ l zs v', V.ref D = .ref l ∧ [v] = [v'] ∧ H7 l = some (.lst zs) ∧ zs.length < sizeLine ∧ (∃ v5 v6 v7 v8 v9, ([some (.ref oa), some (.ref a), some (.ref b), some (.ref S), some (.ref D), some (.int (i : Nat)), some z, some (.str st), some (.str yy), some (.ref W)] : St) = [some (.ref oa), some (.ref a), some (.ref b), some (.ref S), some (.ref D), v5, v6, v7, v8, v9] ∧ (upd H7 l (.lst (zs ++ [v']))) D = some (.lst (((rolesL os wy).take (i + 1)).map V.str)) ∧ Same H2 (upd H7 l (.lst (zs ++ [v'])))) := fun v e => by
          subst e
          refine ⟨D, _, _, rfl, rfl, h7, ?_, _, _, _, _, _, rfl, ?_, Same.put s57 hD⟩
          · rw [List.length_map, List.length_take]
            exact Nat.lt_of_le_of_lt (show _ ≤ 900 by omega) (by decide)
          · rw [upd_same, List.take_add_one, er, List.map_append]
            rfl
        refine ⟨_, rfl, .inl ⟨rfl, _, SqL.of h7⟩, _, rfl, rfl, _, rfl, ?_⟩
        show if decide (V.str yy = V.str "word") = true then _ else _
        rw [eq_strB]
        by_cases c : yy = "word"
        · rw [decide_eq_true c]
          refine iteT ⟨_, rfl, W, rfl, .inl ⟨_, .inl hW⟩, _, rfl, _, DGet.k (k := .inr st) hW, fin _ ?_⟩
          rw [within_look, c]
        · rw [decide_eq_false c]
          obtain ⟨r, r1, r2⟩ := shown_look yy y7 c
          refine iteF ⟨_, rfl, _, rfl, S, _, rfl, ?_, fin (.str r) (by rw [r2])⟩
          have e : valV (rK shownR) (.inr yy) = some (.str r) := by
            unfold rK
            rw [val_look tokV, r1]
            rfl
          rw [← e]
          exact DGet.k (k := .inr yy) (s7 _ _ (s6 _ _ (s5 _ _ hS)))
      · rintro σ H4 ⟨v5, v6, v7, v8, v9, rfl, h4, s4⟩
        refine ⟨_, _, _, _, _, rfl, ?_, s4⟩
        rw [h4, List.take_of_length_le (by rw [roles_len wl]; omega)]
    rintro σ H4 ⟨v5, v6, v7, v8, v9, rfl, h4, s4⟩
    exact ⟨_, rfl, q D H4 (s12.free hD) (s12.trans s4) h4⟩
end
end K5

/-! for i, x in enumerate(tuple) -/
namespace EnT
open PySem PySem.Spec PyProof.Rows L2
open AutoSeq1 (wpAny_loadPart')
theorem meets_enum_newT (l : Addr) (items : Array Value) (n : Nat) (dct : Option Addr) (sl : Array (Option Value)) :
    Meets (Builtin.«enumerate.__new__» ⟨[.type "enumerate", .ref l], []⟩) (fun _ R s => s.heap.get? l = some { cls := .type "tuple", dict := dct, data := .seq items n, slots := sl } ∧
      R (.ok (.ret (.ref (s.heap.push { cls := .type "tuple_iterator", data := .fields #[.ref l, .int 0 0] }).objs.size)))
        { s with heap := (s.heap.push { cls := .type "tuple_iterator", data := .fields #[.ref l, .int 0 0] }).push { cls := .type "enumerate", data := .fields #[.none, .bool false, .ref s.heap.objs.size, rawInt 0, .none, .none] } }) :=
  .of_wp fun prog w A R s h => by
    obtain ⟨hp, g, d, tk, os⟩ := s; obtain ⟨hl, h⟩ := h
    have hsub := sub_enumerate
    have hL : Heap.IsTuple (Shared.heap ⟨hp, g, d, tk, os⟩) l items := ⟨_, hl, rfl, n, rfl⟩
    wp_walk using wpAny_loadPart' hl
    refine wpAny_stack_any fun st => wpAny_pure ?_
    split
    · rename_i c _ _ _ _ _
      cases (c == Value.type "enumerate")
      · wp_walk using wpAny_loadPart' hl, wpAny_pyIter_tuple hL
        exact ⟨_, rfl, h⟩
      · wp_walk using wpAny_loadPart' hl, wpAny_pyIter_tuple hL
        exact ⟨_, rfl, h⟩
    · wp_walk using wpAny_loadPart' hl, wpAny_pyIter_tuple hL
      exact ⟨_, rfl, h⟩
theorem call_enumT {prog : Program} {w : World} {A : Around} {E : Value → Shared → Prop} {s : Shared} {l : Addr} {items : Array Value} {Q : Value → Shared → Prop} (hL : s.heap.IsTuple l items)
    (h : ∀ h', IsEnum h' (s.heap.objs.size + 1) s.heap.objs.size 0 .none → h'.IsTupleIter s.heap.objs.size l 0 → h'.objs.size = s.heap.objs.size + 2 →
      (∀ b o, s.heap.get? b = some o → h'.get? b = some o) → Q (.ref (s.heap.objs.size + 1)) { s with heap := h' }) :
    wpAny (model prog w) A (call (.type "enumerate") [.ref l]) Q E s := by
  obtain ⟨⟨c, dct, dt, sl⟩, hl, hc, n, hd⟩ := hL
  replace hc : c = .type "tuple" := hc
  replace hd : dt = .seq items n := hd
  subst hc hd
  refine callType_new PySem.F.called_enumerate (by decide) (PySem.F.typeCall_enumerate_1 _) (PySem.F.newCall_enumerate_1 _) (fun obj => PySem.F.args_object_init_2 obj _) PySem.F.entry_enumerate_new
    (meets_enum_newT l items n dct sl) ⟨hl, ?_⟩
  have hz : (s.heap.push { cls := .type "tuple_iterator", data := .fields #[.ref l, .int 0 0] }).objs.size = s.heap.objs.size + 1 := Heap.size_push ..
  show _ ∧ _
  rw [hz]
  have he : IsEnum ((s.heap.push { cls := .type "tuple_iterator", data := .fields #[.ref l, .int 0 0] }).push
      { cls := .type "enumerate", data := .fields #[.none, .bool false, .ref s.heap.objs.size, rawInt 0, .none, .none] }) (s.heap.objs.size + 1) s.heap.objs.size 0 .none := by
    have := Heap.get?_push_size (s.heap.push { cls := .type "tuple_iterator", data := .fields #[.ref l, .int 0 0] })
      (o := { cls := .type "enumerate", data := .fields #[.none, .bool false, .ref s.heap.objs.size, rawInt 0, .none, .none] }) rfl
    rw [hz] at this; exact this
  refine ⟨⟨_, he, rfl⟩, h _ he ⟨_, Heap.get?_push_of_some _ (Heap.get?_push_size _ rfl), rfl, rfl⟩ (by rw [Heap.size_push, hz]) fun b o x => Heap.get?_push_of_some _ (Heap.get?_push_of_some _ x)⟩
theorem draws_tuple {prog : Program} {w : World} {A : Around} (hh : A.handled = none) (it l : Addr) (hne : l ≠ it) (items : Array Value) :
    Draws prog w A it [it, l] items.size (fun i v => items[i]? = some v) (fun i h => h.IsTupleIter it l i ∧ h.IsTuple l items) where
  live := fun _ _ st => let ⟨o, ho, _⟩ := st.1; ⟨o, ho⟩
  frame := fun _ _ _ st hk => ⟨st.1.at fun o e => hk it (by simp) o e, st.2.at fun o e => hk l (by simp) o e⟩
  item := fun i s Q E hi st hQ => by
    refine RZ.nextOf_tuple_item st.1 st.2 (x := items[i]) (by simp [hi]) fun h' hit' hs' => ?_
    exact hQ _ h' s.toks (by simp [hi]) ⟨hit', st.2.extBut hs'.extBut hne⟩ hs'
  done := fun s Q E st hE => RZ.nextOf_tuple_end hh st.1 st.2 (by simp) hE
/-- the items of a tuple with their places, in new pairs -/
def IteT (K : PySem.W.Frag) (a : Addr) : It :=
  ⟨fun i H => ∃ (xs : List V) (x : V), SqT K H a xs ∧ xs[i]? = some x, fun i H v H' => ∃ T x, v = .ref T ∧ H T = none ∧ H' = upd H T (.tup [.int (i : Nat), x]) ∧ ∀ xs, SqT K H a xs → xs[i]? = some x,
    fun i H => ∃ xs : List V, SqT K H a xs ∧ i = xs.length⟩
theorem turn_enT {P : Program} {w : World} {K : PySem.W.Frag} {elts : List Expr} {kk : Nat} {tpos : Pos} (a e it : Addr) :
    Turn P w K (.Tuple elts kk tpos) (IteT K a) [e, it] e (fun i h => (∃ old, IsEnum h e it ((i : Nat) : Int) old) ∧ h.IsTupleIter it a i ∧ e ≠ it ∧ a ≠ it ∧ a ≠ e) where
  mem := by simp
  obj := fun i h ⟨⟨old, he⟩, ⟨o, ho, hc, hd⟩, _⟩ b hb => by
    rcases (show b = e ∨ b = it by simpa using hb) with z | z <;> rw [z]
    · exact ⟨_, he, fun v q => nomatch q⟩
    · exact ⟨o, ho, fun v q => by rw [hd] at q; cases q⟩
  keep := fun i h h' ⟨⟨old, he⟩, hi, hne⟩ k => ⟨⟨old, k e (by simp) _ he⟩, hi.at fun o q => k it (by simp) o q, hne⟩
  item := by
    intro X hP hw hK hc i pins s σ H E I hf st hg
    subst hP hw hK
    obtain ⟨⟨old, he⟩, hit, hne, hai, hae⟩ := st
    obtain ⟨xs, x, hq, hx⟩ := hg
    obtain ⟨its, rv, p, hz⟩ := I.tuple hq
    obtain ⟨u, hu, ru⟩ := rv.get hx
    have hel : e < s.heap.objs.size := Heap.lt_size he
    have hil : it < s.heap.objs.size := by obtain ⟨o, q, _⟩ := hit; exact Heap.lt_size q
    have D : Draws X.prog X.w X.A.in1 it [it, a] its.toArray.size (fun i v => its.toArray[i]? = some v) (fun i h => h.IsTupleIter it a i ∧ h.IsTuple a its.toArray) := draws_tuple (show X.A.in1.handled = none from I.ok.hd hc) it a hai its.toArray
    have hlt : i < its.toArray.size := by
      have := (List.getElem?_eq_some_iff.mp hu).1
      simpa using this
    refine wpAny_pyNext_enum_itemD D he ⟨hit, p⟩ hlt hne (by simp [hne, Ne.symm hae]) fun v h' tk hv ho hit' hT hsz hk => ?_
    have hv : v = u := by
      have h2 : its[i]? = some v := by simpa using hv
      rw [hu] at h2
      exact (Option.some.inj h2).symm
    subst hv
    refine ⟨_, rfl, wpAny_letOwnedTupleGo_enum (s := { s with heap := h', toks := tk + 1 }) ho fun h'' he' sb => ?_⟩
    have hT2 := (sb.2 _ (Nat.ne_of_gt hel)).trans hT
    have new : ObjOk X.prog X.w (upd H s.heap.objs.size (.tup [.int (i : Nat), x])) h'' s.heap.objs.size (.tup [.int (i : Nat), x]) :=
      ⟨by show 2 ≤ sizeLine; decide, [.int i tk, v], .cons ⟨_, rfl⟩ (.cons ru .nil), ⟨_, hT2, rfl, _, rfl⟩⟩
    have I1 : Inv X pins σ (upd H s.heap.objs.size (.tup [.int (i : Nat), x])) { s with heap := h'', toks := tk + 1 } :=
      I.turnedNew (ch := [e, it]) (fun b ob hb q => (sb.2 b (fun z => hb (by simp [z]))).trans (hk b ob (fun z => hb (by simp [z])) (fun z => hb (by simp [z])) q)) hf (Nat.le_refl _) new
    refine ⟨.ref s.heap.objs.size, _, I1, rfl, ⟨_, x, rfl, I.hok.fresh (Nat.le_refl _), rfl, fun ys hy => by rw [I.tuple_inj hy hq]; exact hx⟩, ⟨⟨_, he'⟩, ?_, hne, hai, hae⟩, fun b hb => ?_⟩
    · exact hit'.1.at fun o q => (sb.2 it (Ne.symm hne)).trans q
    · have hb' : b < s.heap.objs.size := by
        rcases (show b = e ∨ b = it by simpa using hb) with z | z <;> rw [z]
        · exact hel
        · exact hil
      rw [upd_ne (Nat.ne_of_lt hb')]
      exact (hf b hb).1
  done := by
    intro X hP hw hK hc i pins s σ H E I hf st hg
    subst hP hw hK
    obtain ⟨⟨old, he⟩, hit, hne, hai, hae⟩ := st
    obtain ⟨f0, f1, f2, f3, f4, f5⟩ := hf it (by simp)
    obtain ⟨xs, hq, hle⟩ := hg
    obtain ⟨its, rv, p, hz⟩ := I.tuple hq
    have l1 := rv.length
    have e1 : i = its.toArray.size := by simp; omega
    subst e1
    have D := draws_tuple (prog := X.prog) (w := X.w) (show X.A.in1.handled = none from I.ok.hd hc) it a hai its.toArray
    exact wpAny_pyNext_enum_endD D he ⟨hit, p⟩ fun h' eb => ⟨rfl, I.turned (t' := s.toks) (fun b o hb q => eb b o hb q) f0 f1 f3 f4 f5⟩
  self := fun A i s Q E ⟨⟨_, he⟩, _⟩ h => wpAny_pyIter_enum he h
def iEnumT (K : PySem.W.Frag) (ta : TA) : TI := fun σ H R => ta σ H fun vs H1 => ∃ a xs, vs = [.ref a] ∧ SqT K H1 a xs ∧ R (IteT K a) H1
theorem pi_enumT {X : Cx} {e : Expr} {ta : TA} {p pos tpos : Pos} {elts : List Expr} {kk : Nat} (hg : Gl X "enumerate") (hm : X.mg "enumerate" = none) (ha : PA X [e] ta) (hs : starEach [e] X.env = [(false, eval e X.env)] := by rfl) :
    PI X (.Tuple elts kk tpos) (.Call (.Name "enumerate" p) [e] [] pos) (iEnumT X.K ta) := by
  refine ⟨fun pins s σ H R I h => ?_⟩
  refine Call_ (ld_blt I hg hm boot_enumerate (PyProof.Rows.callWith_type1 (thn (ha.run pos pins s σ H _ I h) fun us s1 ⟨vs, H1, I1, r1, q1⟩ => ?_) hs rfl))
  obtain ⟨a, xs, ex, hq, q⟩ := q1
  subst ex
  cases r1 with
  | cons r rr =>
    cases rr
    cases r
    obtain ⟨its, rv, p', hz⟩ := I1.tuple hq
    have la : a < s1.heap.objs.size := let ⟨_, e, _⟩ := p'; Heap.lt_size e
    refine call_enumT p' fun h' he hit hsz hk => wpAny_pyIter_enum he ?_
    have I2 : Inv X pins σ H1 { s1 with heap := h' } := I1.kept (t' := s1.toks) hk
    refine ⟨s1.heap.objs.size + 1, [s1.heap.objs.size + 1, s1.heap.objs.size], _, _, H1, rfl, I2, turn_enT a (s1.heap.objs.size + 1) s1.heap.objs.size, ⟨⟨.none, he⟩, hit, Nat.succ_ne_self _, Nat.ne_of_lt la, Nat.ne_of_lt (Nat.lt_succ_of_lt la)⟩, fun b hb => ?_, q⟩
    have e' : b = s1.heap.objs.size + 1 ∨ b = s1.heap.objs.size := by simpa using hb
    have hle : s1.heap.objs.size ≤ b := by
      rcases e' with z | z
      · rw [z]; exact Nat.le_add_right _ _
      · rw [z]; exact Nat.le_refl _
    exact I1.fpOk hle (I1.hok.fresh hle)
theorem walk_enumT {K : PySem.W.Frag} {a : Addr} {xs : List V} : Walk (IteT K a) xs.length (fun H => SqT K H a xs) (YPair (fun i => some (.int (i : Nat))) (fun i => xs[i]?)) where
  goes := fun i H hi h => ⟨xs, _, h, List.getElem?_eq_getElem hi⟩
  stops := fun H h => ⟨xs, h, rfl⟩
  yields := fun i H x H' hi h ⟨T, y, e1, e2, e3, e4⟩ => ⟨T, _, y, e1, e2, e3, rfl, e4 xs h⟩
end EnT

namespace K5
open PySem L2
theorem seqT {K : PySem.W.Frag} {H H' : Hp} {a : Addr} {xs : List V} (s : Same H H') (h : SqT K H a xs) : SqT K H' a xs := by
  rcases h with h | h
  · exact .inl (h.imp (fun e => s _ _ e) fun ⟨o, e⟩ => ⟨o, s _ _ e⟩)
  · exact .inr h
/-- states of a tuple -/
def spStatesT (K : PySem.W.Frag) (C CU : Addr) : Sp := fun vs H Q E => ∃ (x a : Addr) (L : Lang) (xs : List V) (os : List (Option Str)), vs = [.ref x, .ref a] ∧ LangW C H x L ∧ SqT K H a xs ∧ Things K H xs os ∧ xs.length ≤ 900 ∧
  (∀ w, runL L "start" os = .inl w → ∀ l H', H l = none → Same H H' → H' l = some (.lst ((("start" : Str) :: w).map V.str)) → Q (.ref l) H') ∧
  (∀ k z, runL L "start" os = .inr (k, z) → z ∈ nine → ∀ d t H', H d = none → H t = none → Same H H' → H' t = some (.tup ((nextL L z).map V.str)) → H' d = some (.xd [(("awaited" : Str), .ref t), (("at" : Str), .int (k : Nat))]) → E (.ref CU) (some d) H')
section
variable {P : Program} {w : World} {K : PySem.W.Frag} {mg : Str → Option Value} {base : Heap} {C CU : Addr}
theorem ok_statesT {f fE fS fC fN : Addr} {fd fdS fdC fdN : FuncData} (F : Fun K "states" "states" sStates f fd) (T : Bare mg) (hE : mg "enumerate" = none) (S : LangC K mg C) (TE : K5U.ErrTxt P K mg CU fE)
    (GSort : Fn P w K mg base 3 "sort_of" ["thing"] (K5S.spSort K))
    (mS : Meth K C "step" fS) (GS : FnOk P w K mg base CX0 1 fS fdS ["self", "state", "sort"] (spStep C)) (bS : Binds K fdS ["self", "state", "sort"] [])
    (mC : Meth K C "closes" fC) (GC : FnOk P w K mg base CX0 1 fC fdC ["self", "state"] (spCloses C)) (bC : Binds K fdC ["self", "state"] [])
    (mN : Meth K C "next_sorts" fN) (GN : FnOk P w K mg base CX0 2 fN fdN ["self", "state"] (spNext C)) (bN : Binds K fdN ["self", "state"] []) :
    FnOk P w K mg base (L2.CX P w) 4 f fd ["language", "file"] (spStatesT K C CU) := by
  refine F.okX scStates (fun vs H Q E h => ?_) (fun cdv A outer s H vs Q E hr h => ?_)
  · obtain ⟨x, a, L, xs, os, rfl, _⟩ := h
    rfl
  · obtain ⟨x, a, L, xs, os, rfl, hL, ha, hT, hl9, q, qe⟩ := h
    have hr1 : Room 1 _ := hr.mono (by decide)
    have hr2 : Room 2 _ := hr.mono (by decide)
    refine ⟨_, C8.pss_cut (ps_set (i := 2) scStates.nd rfl (.inl rfl) (pe_lst (pa_cons pe_str pa_nil)))
      (C8.pss_cut (ps_set (i := 3) scStates.nd rfl (.inl rfl) pe_str)
      (C8.pss_cut (ps_for (passes_of rfl) rfl (EnT.pi_enumT (by rfl) hE (pa_cons (pv 1) pa_nil)) (pg_tup (by rfl) (pgs_cons (pg_name (i := 4) scStates.nd rfl (.inl rfl)) (pgs_cons (pg_name (i := 5) scStates.nd rfl (.inl rfl)) pgs_nil)))
        (C8.pss_cut (ps_set (i := 6) scStates.nd rfl (.inl rfl) (pe_meth (pv 0) S.cl mS GS hr1 bS .nil pass0 (pa_cons (pv 3) (pa_cons (pe_fn GSort hr rfl (pa_cons (pv 5) pa_nil)) pa_nil))))
        (C8.pss_cut (ps_if (pt_cmpR op_isN1 (pv 6) pe_non (nomark _)) (pss_one (ps_raiseUnr rfl TE hr (takes_of rfl rfl rfl rfl) (pa_cons (pv 4) (pa_cons (pe_meth (pv 0) S.cl mN GN hr2 bN .nil pass0 (pa_cons (pv 3) pa_nil)) pa_nil)))) pss_nil)
        (C8.pss_cut (ps_set (i := 3) scStates.nd rfl (.inl rfl) (pv 6))
        (pss_one (ps_expr (pe_bm PySem.F.plainAttrs_list PySem.F.slot_list_append PySem.F.type_list_append mt_append (pv 2) (pa_cons (pv 3) pa_nil))))))))
      (C8.pss_cut (ps_if (pt_not (pt_val (pe_meth (pv 0) S.cl mC GC hr1 bC .nil pass0 (pa_cons (pv 3) pa_nil)))) (pss_one (ps_raiseUnr rfl TE hr (takes_of rfl rfl rfl rfl) (pa_cons (pe_callB call_len_seq (by rfl) T.len PySem.boot_len (pa_cons (pv 1) pa_nil)) (pa_cons (pe_meth (pv 0) S.cl mN GN hr2 bN .nil pass0 (pa_cons (pv 3) pa_nil)) pa_nil)))) pss_nil)
      (pss_one (ps_ret (pv 2)))))), ?_⟩
    obtain ⟨dx, t, wp, fs, hx, fl, ht, hw, wa, f1, f2, f3⟩ := id hL
    refine ⟨fun σ H' => ∃ l, σ = [some (.ref x), some (.ref a), some (.ref l), none, none, none, none] ∧ H' l = some (.lst [.str "start"]) ∧ H l = none ∧ Same H H', ?_, ?_⟩
    · exact ⟨by show 1 ≤ sizeLine; decide, fun l hl => ⟨l, rfl, upd_same, hl, Same.new (Same.refl H) hl⟩⟩
    rintro σ H1 ⟨l, rfl, h1, hl, s1⟩
    refine ⟨fun σ H' => σ = [some (.ref x), some (.ref a), some (.ref l), some (.str "start"), none, none, none] ∧ H' = H1, ⟨rfl, rfl⟩, ?_⟩
    rintro σ H1' ⟨rfl, rfl⟩
    refine ⟨fun σ H' => ∃ wy st v4 v5 v6, σ = [some (.ref x), some (.ref a), some (.ref l), some (.str st), v4, v5, v6] ∧ H' l = some (.lst (((("start" : Str) :: wy)).map V.str)) ∧ Sofar L os os.length wy st ∧ Same H H', ?_, ?_⟩
    · refine ⟨_, rfl, a, xs, rfl, seqT s1 ha, for_it EnT.walk_enumT (fun i σ H' => ∃ wy st v4 v5 v6, σ = [some (.ref x), some (.ref a), some (.ref l), some (.str st), v4, v5, v6] ∧ H' l = some (.lst (((("start" : Str) :: wy)).map V.str)) ∧ Sofar L os i wy st ∧ Same H H') ⟨[], "start", _, _, _, rfl, h1, Sofar.zero L os, s1⟩ (fun i σ H' _ ⟨_, _, _, _, _, _, _, _, s'⟩ => seqT s' ha) ?_ ?_⟩
      · rintro i y σ H2 H2' hi ⟨wy, st, v4, v5, v6, rfl, h2, so, s2⟩ ⟨U, u, z, rfl, hU, rfl, hu, hz⟩
        cases hu
        have s3 := Same.new (o := .tup [.int (i : Nat), z]) s2 hU
        have hl3 : upd H2 U (.tup [.int (i : Nat), z]) l = some (.lst (((("start" : Str) :: wy)).map V.str)) := by rw [upd_ne (ne_of_none h2 hU)]; exact h2
        obtain ⟨o, ho⟩ : ∃ o, os[i]? = some o := ⟨os[i]'(by have := hT.1; omega), List.getElem?_eq_getElem (by have := hT.1; omega)⟩
        refine ⟨U, _, rfl, SqT.of upd_same, rfl, _, _, rfl, _, _, rfl, rfl, ?_⟩
        refine ⟨fun σ H' => σ = [some (.ref x), some (.ref a), some (.ref l), some (.str st), some (.int (i : Nat)), some z, some (tokV (stepL L st (sortO o)))] ∧ H' l = some (.lst (((("start" : Str) :: wy)).map V.str)) ∧ Same H H', ?_, ?_⟩
        · refine ⟨_, rfl, x, dx, fs, rfl, s3 _ _ hx, f1, _, rfl, _, rfl, z, o, rfl, (hT.same s3).2 i z o hz ho, fun H3 s4 => ?_⟩
          rw [sort_eq]
          exact ⟨x, st, sortO o, L, rfl, hL.same (s3.trans s4), so.nin, rfl, s4 _ _ hl3, s3.trans s4⟩
        rintro σ H3 ⟨rfl, h3, s4⟩
        refine ⟨fun σ H' => ∃ s, σ = [some (.ref x), some (.ref a), some (.ref l), some (.str st), some (.int (i : Nat)), some z, some (.str s)] ∧ stepL L st (sortO o) = some s ∧ H' = H3, ?_, ?_⟩
        · refine ⟨_, rfl, rfl, _, rfl, ?_⟩
          cases e : stepL L st (sortO o) with
          | none =>
            refine iteT ⟨_, rfl, _, rfl, x, dx, fs, rfl, s4 _ _ hx, f3, _, rfl, x, st, L, rfl, hL.same s4, so.nin, fun t' H4 ht' s5 h4 => ⟨_, _, rfl, fun d hd => ?_⟩⟩
            have s6 := Same.new (o := .xd [(("awaited" : Str), .ref t'), (("at" : Str), .int (i : Nat))]) s5 hd
            exact qe i st (so.stop ho e) so.nin d t' _ (s4.free (s5.free hd)) (s4.free ht') (s4.trans s6) (by rw [upd_ne (ne_of_none h4 hd)]; exact h4) upd_same
          | some s => exact iteF ⟨s, rfl, rfl, rfl⟩
        rintro σ H4 ⟨s', rfl, hs', rfl⟩
        refine ⟨fun σ H' => σ = [some (.ref x), some (.ref a), some (.ref l), some (.str s'), some (.int (i : Nat)), some z, some (.str s')] ∧ H' = H4, ⟨_, rfl, rfl, rfl⟩, ?_⟩
        rintro σ H5 ⟨rfl, rfl⟩
        refine ⟨_, rfl, .inl ⟨rfl, _, SqL.of h3⟩, _, rfl, l, _, _, rfl, rfl, h3, ?_, wy ++ [s'], s', _, _, _, rfl, ?_, so.next ho hs', Same.put s4 hl⟩
        · rw [List.length_map, List.length_cons, so.len]
          exact line_ge (Nat.le_trans (show i + 1 + 1 ≤ 902 by omega) (by decide))
        · rw [upd_same, List.map_cons, List.map_cons, List.map_append]
          rfl
      · rintro σ H2 ⟨wy, st, v4, v5, v6, rfl, h2, so, s2⟩
        rw [hT.1] at so
        exact ⟨wy, st, v4, v5, v6, rfl, h2, so, s2⟩
    rintro σ H2 ⟨wy, st, v4, v5, v6, rfl, h2, so, s2⟩
    have dn := so.done
    refine ⟨fun σ H' => σ = [some (.ref x), some (.ref a), some (.ref l), some (.str st), v4, v5, v6] ∧ H' l = some (.lst (((("start" : Str) :: wy)).map V.str)) ∧ Same H H' ∧ runL L "start" os = .inl wy, ?_, ?_⟩
    · refine ⟨_, rfl, x, dx, fs, rfl, s2 _ _ hx, f2, _, rfl, x, st, L, rfl, hL.same s2, fun H3 s3 => ?_⟩
      cases e : closesL L st with
      | true =>
        rw [if_pos e] at dn
        exact ⟨true, rfl, iteF ⟨rfl, s3 _ _ h2, s2.trans s3, dn⟩⟩
      | false =>
        rw [if_neg (by rw [e]; decide)] at dn
        refine ⟨false, rfl, iteT ⟨_, rfl, a, xs, rfl, .inr (seqT (s2.trans s3) ha), _, rfl, x, dx, fs, rfl, s3 _ _ (s2 _ _ hx), f3, _, rfl, x, st, L, rfl, hL.same (s2.trans s3), so.nin, fun t' H4 ht' s4 h4 => ⟨_, _, rfl, fun d hd => ?_⟩⟩⟩
        have s5 := s2.trans s3
        have s6 := Same.new (o := .xd [(("awaited" : Str), .ref t'), (("at" : Str), .int ((xs.length : Nat) : Int))]) s4 hd
        refine qe os.length st dn so.nin d t' _ (s5.free (s4.free hd)) (s5.free ht') (s5.trans s6) (by rw [upd_ne (ne_of_none h4 hd)]; exact h4) ?_
        rw [upd_same, hT.1]
    rintro σ H3 ⟨rfl, h3, s3, dn'⟩
    exact ⟨_, rfl, q wy dn' l H3 hl s3 h3⟩
end
end K5

namespace K5
open PySem L2
/-! spans and roles of a tuple -/
def spSpansFT (K : PySem.W.Frag) (C CU : Addr) : Sp := fun vs H Q E => ∃ (x a : Addr) (L : Lang) (xs : List V) (os : List (Option Str)), vs = [.ref x, .ref a] ∧ LangW C H x L ∧ SqT K H a xs ∧ Things K H xs os ∧ xs.length ≤ 900 ∧
  (∀ w, runL L "start" os = .inl w → ∀ p ts H', H p = none → Same H H' → SpansAt H' p ts w → Q (.ref p) H') ∧ raisesU L os CU H E
def spRolesT (K : PySem.W.Frag) (C CU : Addr) : Sp := fun vs H Q E => ∃ (x a : Addr) (L : Lang) (xs : List V) (os : List (Option Str)), vs = [.ref x, .ref a] ∧ LangW C H x L ∧ SqT K H a xs ∧ Things K H xs os ∧ xs.length ≤ 900 ∧
  (∀ w, runL L "start" os = .inl w → ∀ p H', H p = none → Same H H' → H' p = some (.lst ((rolesL os w).map V.str)) → Q (.ref p) H') ∧ raisesU L os CU H E
section
variable {P : Program} {w : World} {K : PySem.W.Frag} {mg : Str → Option Value} {base : Heap} {C CU aR : Addr}
theorem ok_spansFT {f : Addr} {fd : FuncData} (F : Fun K "spans" "spans" sSpansF f fd) (GE : Fn P w K mg base 1 "spans_of" ["way"] (spSpansOf K)) (GS : FnE P w K mg base 4 "states" ["language", "file"] (spStatesT K C CU)) :
    FnOk P w K mg base (L2.CX P w) 5 f fd ["language", "file"] (spSpansFT K C CU) := by
  refine F.okX scSpansF (fun vs H Q E h => ?_) (fun cdv A outer s H vs Q E hr h => ?_)
  · obtain ⟨x, a, L, xs, os, rfl, _⟩ := h
    rfl
  · obtain ⟨x, a, L, xs, os, rfl, hL, ha, hT, hl, q, qe⟩ := h
    have hr1 : Room 1 _ := hr.mono (by decide)
    refine ⟨_, pss_one (ps_ret (pe_fn GE hr1 rfl (pa_cons (pe_fnE (E := E) GS hr rfl (takes_of rfl rfl rfl rfl) (fun _ _ _ _ h => h) (pa_cons (pv 0) (pa_cons (pv 1) pa_nil))) pa_nil))), ?_⟩
    refine ⟨_, rfl, _, rfl, x, a, L, xs, os, rfl, hL, ha, hT, hl, fun wy hw l H1 hl0 s1 h1 => ?_, qe⟩
    obtain ⟨wl, _⟩ := run_steps hw
    exact ⟨l, wy, rfl, SqL.of h1, by have := hT.1; omega, fun H2 p ts s2 hp en => q wy hw p ts H2 (s1.free hp) (s1.trans s2) en⟩
theorem ok_rolesT {f : Addr} {fd : FuncData} (F : Fun K "roles" "roles" sRoles f fd) (hE : mg "enumerate" = none) (GS : FnE P w K mg base 4 "states" ["language", "file"] (spStatesT K C CU)) (GR : Fn P w K mg base 1 "role_of" ["sort", "after"] spRole) (GT : Fn P w K mg base 3 "sort_of" ["thing"] (K5S.spSort K)) :
    FnOk P w K mg base (L2.CX P w) 5 f fd ["language", "file"] (spRolesT K C CU) := by
  refine F.okX scRoles (fun vs H Q E h => ?_) (fun cdv A outer s H vs Q E hr h => ?_)
  · obtain ⟨x, a, L, xs, os, rfl, _⟩ := h
    rfl
  · obtain ⟨x, a, L, xs, os, rfl, hL, ha, hT, hl, q, qe⟩ := h
    have hr1 : Room 1 _ := hr.mono (by decide)
    have hr3 : Room 3 _ := hr.mono (by decide)
    refine ⟨_, C8.pss_cut (ps_set (i := 2) scRoles.nd rfl (.inr rfl) (pe_fnE (E := E) GS hr rfl (takes_of rfl rfl rfl rfl) (fun _ _ _ _ h => h) (pa_cons (pv 0) (pa_cons (pv 1) pa_nil))))
      (pss_one (ps_ret (pe_lc (own := [("at", 3), ("token", 4)]) (g := gTup K 2 (gCons (gName 3) (gCons (gName 4) gNil))) (tt := tYes) (te := tCall spRole [] E0 (tCons (tCall (K5S.spSort K) [] E0 (tCons (tVar 4) tNil)) (tCons (tOp (rIxL K) (tVar 2) (tOp (rI0 fun i j => .int (i + j)) (tVar 3) (tC (.int 1)))) tNil))) (by rfl) scRoles.nd
        (EnT.pi_enumT (by rfl) hE (pa_cons (pv 1) pa_nil))
        (blkOk_by (own := [("at", 3), ("token", 4)]) (N := nRoles) (sc := defScope sRoles) (by decide +kernel))
        (fun _ _ _ _ _ => pg_tup (by rfl) (pgs_cons (pg_name (i := 3) scRoles.nd rfl (Or.inl rfl)) (pgs_cons (pg_name (i := 4) scRoles.nd rfl (Or.inl rfl)) pgs_nil)))
        (fun _ _ _ _ _ => pts_nil) (fun _ _ _ _ _ => pe_fn GR hr1 rfl (pa_cons (pe_fn GT hr3 rfl (pa_cons (pv 4) pa_nil)) (pa_cons (pe_ix ix_list (pv 2) (pe_op op_add (pv 3) pe_int) (fun _ _ => rfl)) pa_nil)))))), ?_⟩
    refine ⟨fun σ H' => ∃ wy b, σ = [some (.ref x), some (.ref a), some (.ref b), none, none] ∧ runL L "start" os = .inl wy ∧ H' b = some (.lst ((("start" : Str) :: wy).map V.str)) ∧ Same H H', ?_, ?_⟩
    · exact ⟨_, rfl, _, rfl, x, a, L, xs, os, rfl, hL, ha, hT, hl, fun wy hw l H1 hl0 s1 h1 => ⟨wy, l, rfl, hw, h1, s1⟩, qe⟩
    rintro σ H1 ⟨wy, b, rfl, hw, hb, s1⟩
    obtain ⟨wl, go⟩ := run_steps hw
    have hxo := hT.1
    refine ⟨_, rfl, a, xs, rfl, seqT s1 ha, fun D hD => ?_⟩
    refine lc_it EnT.walk_enumT (fun i H' => Same H1 H' ∧ H' D = some (.lst (((rolesL os wy).take i).map V.str))) ⟨Same.new (Same.refl H1) hD, upd_same⟩ (fun i H' _ ⟨s', _⟩ => seqT (s1.trans s') ha) ?_ ?_
    · rintro i v H2 H3 hi ⟨s2, h2⟩ ⟨U, u, z, rfl, hU, rfl, hu, hz⟩
      cases hu
      have s3 := Same.new (o := .tup [.int (i : Nat), z]) s2 hU
      have h2' : upd H2 U (.tup [.int (i : Nat), z]) D = some (.lst (((rolesL os wy).take i).map V.str)) := by rw [upd_ne (ne_of_none h2 hU)]; exact h2
      obtain ⟨o, ho⟩ : ∃ o, os[i]? = some o := ⟨_, List.getElem?_eq_getElem (by omega)⟩
      obtain ⟨pst, st, _, hst, hstep⟩ := go i o ho
      obtain ⟨y, _, hy, _, _⟩ := step_look hstep
      have s13 := s1.trans s3
      refine ⟨U, _, rfl, SqT.of upd_same, rfl, _, _, rfl, _, _, rfl, rfl, rfl, ?_⟩
      refine ⟨_, rfl, z, o, rfl, (hT.same s13).2 i z o hz ho, fun H4 s4 => ?_⟩
      have s14 := s3.trans s4
      have er : (rolesL os wy)[i]? = some (roleL y st) := by
        unfold rolesL
        rw [List.getElem?_map, (List.getElem?_zip_eq_some (z := (o, st))).mpr ⟨ho, hst⟩]
        show some (roleL ((sortO o).getD "") st) = _
        rw [hy]
        rfl
      rw [sort_eq, hy]
      refine ⟨_, rfl, _, rfl, _, _, rfl, rfl, b, _, _, .str st, rfl, rfl, SqL.of (s14 _ _ hb), at_of (j := i + 1) (by omega) (by rw [List.getElem?_map, List.getElem?_cons_succ, hst]; rfl), y, st, rfl, sort7 hy, _, s4 _ _ h2', ?_, Same.put s14 hD, ?_⟩
      · rw [List.length_map, List.length_take]
        exact Nat.lt_of_le_of_lt (show _ ≤ 900 by omega) (by decide)
      · rw [upd_same, List.take_add_one, er, List.map_append]
        rfl
    · rintro H2 ⟨s2, h2⟩
      refine q wy hw D H2 (s1.free hD) (s1.trans s2) ?_
      rw [h2, List.take_of_length_le]
      unfold rolesL
      rw [List.length_map, List.length_zip, hxo]
      exact Nat.min_le_left _ _
end
end K5

namespace K5
open PySem L2
/-! a written list, token by token -/
theorem one_more {L : Lang} {s s' z lab : Str} {P : List Ent} {x : Val × List Str} (h : stepL L s (sortO (some z)) = some s') (n : s' ≠ "name") : runM L (s, P ++ [(lab, x)]) [z] = some (s', P ++ [(lab, stepVal x z s')]) := by
  show (tokStep L (s, P ++ [(lab, x)]) z).bind (fun m' => runM L m' []) = _
  unfold tokStep
  rw [h]
  show some (s', if s' = "name" then _ else _) = _
  rw [if_neg n, modLast_snoc]
theorem one_name {L : Lang} {s z : Str} {P : List Ent} (h : stepL L s (sortO (some z)) = some ("name" : Str)) : runM L (s, P) [z] = some (("name" : Str), P ++ [(z, (.word "yes", []))]) := by
  show (tokStep L (s, P) z).bind (fun m' => runM L m' []) = _
  unfold tokStep
  rw [h]
  rfl
theorem many_more {L : Lang} {s z lab : Str} {P : List Ent} {x : Val × List Str} (h : stepL L s (sortO (some z)) = some s) (n : s ≠ "name") (e : stepVal x z s = x) : ∀ k : Nat, runM L (s, P ++ [(lab, x)]) (List.replicate k z) = some (s, P ++ [(lab, x)])
  | 0 => rfl
  | k + 1 => by
    rw [List.replicate_succ, show z :: List.replicate k z = [z] ++ List.replicate k z from rfl, runM_app, one_more h n, e]
    exact many_more h n e k
/-- an item: a word, or two where pairs may be -/
def ItemW (mp : Bool) (z : Str) : Prop := (z.length ≤ 25 ∧ PyData.strOk z = true) ∧ ((wd z = true ∧ Txt.split z " " = [z]) ∨ (mp = true ∧ ∃ y1 y2, wd y1 = true ∧ wd y2 = true ∧ z = y1 ++ " " ++ y2 ∧ Txt.split z " " = [y1, y2]))
/-- where a list may stand that has i of n items -/
structure LS (o : Opts) (n i : Nat) (st : Str) : Prop where
  w : i < n → stepL o.lang st (some ("word" : Str)) = some ("item" : Str)
  d : i = n → stepL o.lang st (some ("]" : Str)) = some ("done" : Str)
def LGo (o : Opts) (zs : List Str) (i : Nat) (st : Str) (ws : List Str) : Prop := ∀ (P : List Ent) (lab : Str) (v0 : Val) (s0 : Str), stepL o.lang s0 (some ("[" : Str)) = some ("open" : Str) → runM o.lang (s0, P ++ [(lab, (v0, []))]) ws = some (st, P ++ [(lab, (v0, zs.take i))])
def LRun (o : Opts) (zs : List Str) (i : Nat) (ws : List Str) : Prop := ∃ st, LS o zs.length i st ∧ LGo o zs i st ws
def LMid (o : Opts) (zs : List Str) (i : Nat) (ws : List Str) : Prop := ∃ st, (st = "item" ∨ (st = "pair" ∧ o.c = "joins")) ∧ LGo o zs i st ws
theorem sign_sort : ∀ z ∈ K5S.signs, sortO (some z) = some z := by decide +kernel
theorem l_begin (o : Opts) (zs : List Str) : LRun o zs 0 [("[" : Str)] := by
  refine ⟨"open", ⟨fun _ => (s_open _).1, fun _ => (s_open _).2⟩, fun P lab v0 s0 h => ?_⟩
  exact one_more (by rw [sign_sort _ (by decide +kernel)]; exact h) (by decide +kernel)
theorem sv_item (x : Val × List Str) (z : Str) : stepVal x z "item" = (x.1, x.2 ++ [z]) := by
  unfold stepVal
  rw [if_neg (by decide +kernel), if_pos rfl]
theorem sv_pair (x : Val × List Str) (z : Str) : stepVal x z "pair" = (x.1, x.2.dropLast ++ [x.2.getLastD "" ++ " " ++ z]) := by
  unfold stepVal
  rw [if_neg (by decide +kernel), if_neg (by decide +kernel), if_pos rfl]
theorem sv_done (x : Val × List Str) (z : Str) : stepVal x z "done" = (single z x.2, x.2) := by
  unfold stepVal
  rw [if_neg (by decide +kernel), if_neg (by decide +kernel), if_neg (by decide +kernel), if_pos rfl]
theorem sv_equ (x : Val × List Str) (z : Str) : stepVal x z "equals" = (.non, x.2) := by
  unfold stepVal
  rw [if_pos rfl]
theorem sv_comma (x : Val × List Str) (z : Str) : stepVal x z "comma" = x := by
  unfold stepVal
  rw [if_neg (by decide +kernel), if_neg (by decide +kernel), if_neg (by decide +kernel), if_neg (by decide +kernel)]
theorem sv_ended (x : Val × List Str) (z : Str) : stepVal x z "ended" = x := by
  unfold stepVal
  rw [if_neg (by decide +kernel), if_neg (by decide +kernel), if_neg (by decide +kernel), if_neg (by decide +kernel)]
theorem l_item {o : Opts} {zs ws : List Str} {i : Nat} {z : Str} (h : LRun o zs i ws) (hz : zs[i]? = some z) (hw : ItemW (decide (o.c = "joins")) z) : LMid o zs (i + 1) (ws ++ Txt.split z " ") := by
  obtain ⟨st, ls, go⟩ := h
  have hi : i < zs.length := (List.getElem?_eq_some_iff.mp hz).1
  have tk : zs.take (i + 1) = zs.take i ++ [z] := by rw [List.take_add_one, hz]; rfl
  obtain ⟨_, ⟨w, e⟩ | ⟨mp, y1, y2, w1, w2, ez, e⟩⟩ := hw
  · refine ⟨"item", .inl rfl, fun P lab v0 s0 h0 => ?_⟩
    rw [e, runM_app, go P lab v0 s0 h0]
    show runM o.lang (st, P ++ [(lab, (v0, zs.take i))]) [z] = _
    rw [one_more (s' := "item") (by rw [wd_w w]; exact ls.w hi) (by decide +kernel), sv_item, tk]
  · have cj : o.c = "joins" := of_decide_eq_true mp
    refine ⟨"pair", .inr ⟨rfl, cj⟩, fun P lab v0 s0 h0 => ?_⟩
    rw [e, runM_app, go P lab v0 s0 h0]
    show runM o.lang (st, P ++ [(lab, (v0, zs.take i))]) ([y1] ++ [y2]) = _
    rw [runM_app, one_more (s' := "item") (by rw [wd_w w1]; exact ls.w hi) (by decide +kernel), sv_item]
    show runM o.lang (("item" : Str), P ++ [(lab, (v0, zs.take i ++ [y1]))]) [y2] = _
    rw [one_more (s' := "pair") (by rw [wd_w w2]; exact s_itemP _ cj) (by decide +kernel), sv_pair, tk]
    show some (_, P ++ [(lab, (v0, (zs.take i ++ [y1]).dropLast ++ [(zs.take i ++ [y1]).getLastD "" ++ " " ++ y2]))]) = _
    rw [List.dropLast_concat, List.getLastD_concat, ez]
theorem l_skip {o : Opts} {zs ws : List Str} {i : Nat} (h : LMid o zs i ws) (h1 : i < zs.length → o.c = "may") (h2 : i = zs.length → o.l ≠ "must") : LRun o zs i ws := by
  obtain ⟨st, hs, go⟩ := h
  refine ⟨st, ⟨fun hi => ?_, fun hi => ?_⟩, go⟩
  · rcases hs with rfl | ⟨rfl, cj⟩
    · exact s_itemW _ (h1 hi)
    · have := h1 hi
      rw [cj] at this
      exact absurd this (by decide +kernel)
  · rcases hs with rfl | ⟨rfl, cj⟩
    · exact s_itemD _ (h2 hi)
    · exact s_pairD _ (h2 hi)
theorem l_comma {o : Opts} {zs ws : List Str} {i k : Nat} (h : LMid o zs i ws) (h2 : i = zs.length → o.l ≠ "never") (hk : k = 0 ∨ ("," : Str) ∈ o.zs) : LRun o zs i (ws ++ [("," : Str)] ++ List.replicate k ("," : Str)) := by
  obtain ⟨st, hs, go⟩ := h
  have c1 : stepL o.lang st (sortO (some ("," : Str))) = some ("comma" : Str) := by
    rw [sign_sort _ (by decide +kernel)]
    rcases hs with rfl | ⟨rfl, _⟩
    · exact s_itemC _
    · exact s_pairC _
  refine ⟨"comma", ⟨fun _ => s_comW _, fun hi => s_comD _ (h2 hi)⟩, fun P lab v0 s0 h0 => ?_⟩
  rw [runM_app, runM_app, go P lab v0 s0 h0]
  show ((runM o.lang (st, P ++ [(lab, (v0, zs.take i))]) [("," : Str)]).bind fun m' => runM o.lang m' (List.replicate k ("," : Str))) = _
  rw [one_more c1 (by decide +kernel), sv_comma]
  show runM o.lang (("comma" : Str), P ++ [(lab, (v0, zs.take i))]) (List.replicate k ("," : Str)) = _
  rcases hk with rfl | hk
  · rfl
  · refine many_more ?_ (by decide +kernel) (sv_comma _ _) k
    rw [sign_sort _ (by decide +kernel)]
    exact s_comC _ (by rw [inDb_eq o _ (by decide +kernel)]; exact decide_eq_true hk)
theorem l_end {o : Opts} {zs ws : List Str} (h : LRun o zs zs.length ws) (P : List Ent) (lab : Str) (v0 : Val) (s0 : Str) (h0 : stepL o.lang s0 (some ("[" : Str)) = some ("open" : Str)) : runM o.lang (s0, P ++ [(lab, (v0, []))]) (ws ++ [("]" : Str)]) = some (("done" : Str), P ++ [(lab, (.lst zs, zs))]) := by
  obtain ⟨st, ls, go⟩ := h
  rw [runM_app, go P lab v0 s0 h0]
  show runM o.lang (st, P ++ [(lab, (v0, zs.take zs.length))]) [("]" : Str)] = _
  rw [one_more (s' := "done") (by rw [sign_sort _ (by decide +kernel)]; exact ls.d rfl) (by decide +kernel), sv_done, List.take_length]
  rfl
end K5

namespace K5
open PySem L2
abbrev sItems : Stmt := top 56
abbrev sAmount : Stmt := top 57
/-- drawn words -/
def Wds (ts : List (List Nat)) : Prop := ∀ r ∈ ts, r.all K5S.lt = true ∧ (1 ≤ r.length ∧ r.length ≤ 12)
theorem lt_ascii {r : List Nat} (h : r.all K5S.lt = true) : ∀ c ∈ r, 97 ≤ c ∧ c ≤ 122 := ascii_lt h
theorem wd_tiny {r : List Nat} (h : r.all K5S.lt = true ∧ (1 ≤ r.length ∧ r.length ≤ 12)) : tiny (K5S.S r) = true := wd_t (wd_S h)
theorem join_SS (a : List Nat) (ys : List (List Nat)) : Txt.join (K5S.S a) (ys.map K5S.S) = K5S.S (TL.joinL a ys) := SX.join_S a ys
theorem split_blank {parts : List (List Nat)} (hne : parts ≠ []) (hp : ∀ r ∈ parts, (32 : Nat) ∉ r) : Txt.split (Txt.join " " (parts.map K5S.S)) " " = parts.map K5S.S := by
  refine TL.split_join (y := " ") (s := 32) (S := []) ?_ (by decide +kernel) (fun e => hne (List.map_eq_nil_iff.mp e)) fun p h => ?_
  · rw [K5S.str_blank]; rfl
  · obtain ⟨r, hr, rfl⟩ := List.mem_map.mp h
    exact hp r hr
theorem no_blank {r : List Nat} (h : r.all K5S.lt = true) : (32 : Nat) ∉ r := fun m => by have := lt_ascii h 32 m; omega
theorem item_one {r : List Nat} (h : r.all K5S.lt = true ∧ (1 ≤ r.length ∧ r.length ≤ 12)) (mp : Bool) : ItemW mp (K5S.S r) := by
  refine ⟨⟨by rw [K5S.S_len]; omega, tiny_ok (wd_tiny h)⟩, .inl ⟨wd_S h, ?_⟩⟩
  have e := split_blank (parts := [r]) (by simp) (fun x hx => by rw [List.mem_singleton.mp hx]; exact no_blank h.1)
  rw [K5S.str_blank, join_SS] at e
  rw [K5S.str_blank]
  exact e
theorem item_two {r t : List Nat} (h : r.all K5S.lt = true ∧ (1 ≤ r.length ∧ r.length ≤ 12)) (h' : t.all K5S.lt = true ∧ (1 ≤ t.length ∧ t.length ≤ 12)) : ItemW true (K5S.S r ++ " " ++ K5S.S t) := by
  have e0 : K5S.S r ++ " " ++ K5S.S t = K5S.S (r ++ ([32] ++ t)) := by
    rw [K5S.str_blank, K5S.S_app, K5S.S_app, List.append_assoc]
  refine ⟨⟨?_, ?_⟩, .inr ⟨rfl, K5S.S r, K5S.S t, wd_S h, wd_S h', rfl, ?_⟩⟩
  · rw [e0, K5S.S_len]; simp; omega
  · rw [e0]
    unfold PyData.strOk
    rw [Array.all_eq_true_iff_forall_mem]
    intro d hd
    have m : d ∈ r ++ ([32] ++ t) := by
      rw [← K5S.S_cps (r ++ ([32] ++ t))]
      exact Array.mem_toList_iff.mpr hd
    simp only [List.mem_append, List.mem_cons, List.not_mem_nil, or_false] at m
    refine decide_eq_true ?_
    rcases m with m | m | m
    · have := lt_ascii h.1 d m; omega
    · omega
    · have := lt_ascii h'.1 d m; omega
  · have e := split_blank (parts := [r, t]) (by simp) (fun x hx => by
      simp only [List.mem_cons, List.not_mem_nil, or_false] at hx
      rcases hx with rfl | rfl
      · exact no_blank h.1
      · exact no_blank h'.1)
    rw [e0]
    rw [K5S.str_blank, join_SS] at e
    rw [K5S.str_blank]
    exact e
def spItems : Sp := fun vs H Q _ => ∃ (p : Addr) (c : Nat) (a : Addr) (m : Nat) (mp : Bool) (ts : List (List Nat)), vs = [.ref p, .ref a, .int (m : Nat), .bl mp] ∧ Pool H p c ∧ c ≤ 700000 ∧ H a = some (.lst (K5S.lstS ts)) ∧ a ≠ p ∧ ts ≠ [] ∧ ts.length ≤ 100 ∧ Wds ts ∧ m ≤ 10 ∧
  ∀ (t : Addr) (zs : List Str) (H' : Hp), H t = none → H' t = some (.tup (zs.map V.str)) → zs.length ≤ m → (∀ z ∈ zs, ItemW mp z) → Keep p H H' → Pool H' p (c + 40) → Q (.ref t) H'
abbrev nItems : List Str := ["_law_pool_here", "_law_menu", "_law_most", "_law_may_pair", "_law_found", "_law_k", "_law_item"]
theorem of_menu {ts : List (List Nat)} (h : Wds ts) {v : V} (hv : v ∈ K5S.lstS ts) : ∃ r, v = .str (K5S.S r) ∧ r.all K5S.lt = true ∧ (1 ≤ r.length ∧ r.length ≤ 12) := by
  unfold K5S.lstS at hv
  obtain ⟨r, hr, e⟩ := List.mem_map.mp hv
  exact ⟨r, e.symm, h r hr⟩
theorem lstS_ne {ts : List (List Nat)} (h : ts ≠ []) : K5S.lstS ts ≠ [] := fun e => h (List.map_eq_nil_iff.mp e)
theorem lstS_len (ts : List (List Nat)) : (K5S.lstS ts).length = ts.length := by unfold K5S.lstS; rw [List.length_map]
section
variable {P : Program} {w : World} {K : PySem.W.Frag} {mg : Str → Option Value} {base : Heap}
theorem scItems : FnScope nItems ["_law_pool_here", "_law_menu", "_law_most", "_law_may_pair"] (defScope sItems) := ⟨rfl, rfl, rfl, by decide +kernel, rfl, by decide +kernel, by decide +kernel⟩
theorem ok_items {f : Addr} {fd : FuncData} (F : Fun K "_law_items" "_law_items" sItems f fd) (T : Bare mg) (GP : Fn P w K mg base 1 "_law_pick" ["_law_pool_here", "_law_many"] spPick) (GO : Fn P w K mg base 2 "_law_of" ["_law_pool_here", "_law_some"] K5S.spOf) :
    FnOk P w K mg base CX0 3 f fd ["_law_pool_here", "_law_menu", "_law_most", "_law_may_pair"] spItems := by
  refine F.ok scItems (fun vs H Q E h => ?_) (fun cdv A outer s H vs Q E hr h => ?_)
  · obtain ⟨p, c, a, m, mp, ts, rfl, _⟩ := h
    rfl
  · obtain ⟨p, c, a, m, mp, ts, rfl, hp, hc, ha, hap, hne, hl, hw, hm, q⟩ := h
    have hr1 : Room 1 _ := hr.mono (by decide)
    refine ⟨_, C8.pss_cut (ps_set (i := 4) scItems.nd rfl (.inl rfl) (pe_lst pa_nil))
      (C8.pss_cut (ps_for PassesOwn.never rfl (pi_range1 (by rfl) T.range (pa_cons (pe_fn GP hr1 rfl (pa_cons (pv 0) (pa_cons (pe_op op_add (pv 2) pe_int) pa_nil))) pa_nil)) (pg_name (i := 5) scItems.nd rfl (.inl rfl))
        (C8.pss_cut (ps_set (i := 6) scItems.nd rfl (.inl rfl) (pe_fn GO hr rfl (pa_cons (pv 0) (pa_cons (pv 1) pa_nil))))
        (C8.pss_cut (ps_if (PW.pt (pw_and (pt_val (pv 3)) (pw_and1 (pt_cmpR op_eq (pe_fn GP hr1 rfl (pa_cons (pv 0) (pa_cons pe_int pa_nil))) pe_int (nomark _))))) (pss_one (ps_set (i := 6) scItems.nd rfl (.inl rfl) (pe_op op_add_str (pe_op op_add_str (pv 6) pe_str) (pe_fn GO hr rfl (pa_cons (pv 0) (pa_cons (pv 1) pa_nil)))))) pss_nil)
        (pss_one (ps_expr (pe_bm PySem.F.plainAttrs_list PySem.F.slot_list_append PySem.F.type_list_append mt_append (pv 4) (pa_cons (pv 6) pa_nil)))))))
      (pss_one (ps_ret (pe_callTy call_tuple_of (by rfl) T.tuple (by decide +kernel) (pa_cons (pv 4) pa_nil))))), ?_⟩
    refine ⟨fun σ H' => ∃ D, σ = [some (.ref p), some (.ref a), some (.int (m : Nat)), some (.bl mp), some (.ref D), none, none] ∧ H' = upd H D (.lst []) ∧ H D = none, ⟨Nat.zero_le _, fun D hD => ⟨D, rfl, rfl, hD⟩⟩, ?_⟩
    rintro σ H1 ⟨D, rfl, rfl, hD⟩
    have Dp : D ≠ p := pool_ne hp hD
    have aD : a ≠ D := ne_of_none ha hD
    refine ⟨fun σ H' => ∃ (v5 v6 : Option V) (zs : List Str), σ = [some (.ref p), some (.ref a), some (.int (m : Nat)), some (.bl mp), some (.ref D), v5, v6] ∧ H' D = some (.lst (zs.map V.str)) ∧ zs.length ≤ m ∧ (∀ z ∈ zs, ItemW mp z) ∧ Keep p H H' ∧ Pool H' p (c + 40), ?_, ?_⟩
    · refine ⟨_, rfl, _, rfl, _, _, rfl, rfl, p, c, _, rfl, hp.new hD, by omega, by omega, by omega, fun n Hn n0 n1 kn pn => ?_⟩
      have kn0 : Keep p H Hn := ((Keep.refl p H).new hD).trans kn
      have ha0 := kn0 _ _ hap ha
      refine ⟨n, rfl, by omega, by omega, for_range (lo := 0) (n := n.toNat) (fun i σ H' => ∃ (v5 v6 : Option V) (zs : List Str), σ = [some (.ref p), some (.ref a), some (.int (m : Nat)), some (.bl mp), some (.ref D), v5, v6] ∧ H' D = some (.lst (zs.map V.str)) ∧ zs.length = i ∧ (∀ z ∈ zs, ItemW mp z) ∧ Keep p H H' ∧ Pool H' p (c + 1 + 3 * i)) ⟨none, none, [], rfl, kn _ _ Dp upd_same, rfl, (fun _ z => nomatch z), kn0, pn⟩ ?_ ?_⟩
      · rintro i σ H2 hi ⟨v5, v6, zs, rfl, h2, hz, hzo, k2, p2⟩
        have ha2 := k2 _ _ hap ha
        refine ⟨fun σ H' => ∃ (v5 : Option V) (r : List Nat), σ = [some (.ref p), some (.ref a), some (.int (m : Nat)), some (.bl mp), some (.ref D), v5, some (.str (K5S.S r))] ∧ r.all K5S.lt = true ∧ (1 ≤ r.length ∧ r.length ≤ 12) ∧ Keep p H2 H' ∧ Pool H' p (c + 2 + 3 * i), ?_, ?_⟩
        · refine ⟨_, rfl, _, rfl, p, _, a, _, rfl, p2, by omega, ha2, hap, lstS_ne hne, by rw [lstS_len]; omega, fun v H3 hv k3 p3 => ?_⟩
          obtain ⟨r, rfl, r1, r2⟩ := of_menu hw hv
          exact ⟨_, r, rfl, r1, r2, k3, p3.mono (by omega)⟩
        rintro σ H3 ⟨v5, r, rfl, r1, r2, k3, p3⟩
        refine ⟨fun σ H' => ∃ z : Str, σ = [some (.ref p), some (.ref a), some (.int (m : Nat)), some (.bl mp), some (.ref D), v5, some (.str z)] ∧ ItemW mp z ∧ Keep p H3 H' ∧ Pool H' p (c + 4 + 3 * i), ?_, ?_⟩
        · refine ⟨_, rfl, mp, rfl, ?_⟩
          cases mp with
          | false => exact iteF ⟨_, rfl, item_one ⟨r1, r2⟩ _, Keep.refl _ _, p3.mono (by omega)⟩
          | true =>
            refine iteT ⟨_, rfl, p, _, 4, rfl, p3, by omega, by decide, by decide, fun n' H4 _ _ k4 p4 => ⟨rfl, _, rfl, ite2 (fun _ => ?_) (fun _ => ?_)⟩⟩
            · refine ⟨_, rfl, _, _, rfl, rfl, ?_, _, rfl, _, rfl, p, _, a, _, rfl, p4, by omega, k4 _ _ hap (k3 _ _ hap ha2), hap, lstS_ne hne, by rw [lstS_len]; omega, fun v H5 hv k5 p5 => ?_⟩
              · rw [K5S.S_len, K5S.str_blank, K5S.S_len]; exact line_ge (by show r.length + 1 ≤ _; omega)
              obtain ⟨r', rfl, r1', r2'⟩ := of_menu hw hv
              refine ⟨_, _, rfl, rfl, ?_, _, rfl, item_two ⟨r1, r2⟩ ⟨r1', r2'⟩, k4.trans k5, p5.mono (by omega)⟩
              rw [Str.length_append, K5S.S_len, K5S.S_len, K5S.str_blank, K5S.S_len]; exact line_ge (by show r.length + 1 + r'.length ≤ _; omega)
            · exact ⟨_, rfl, item_one ⟨r1, r2⟩ _, k4, p4.mono (by omega)⟩
        rintro σ H4 ⟨z, rfl, zo, k4, p4⟩
        have h4 : H4 D = some (.lst (zs.map V.str)) := k4 _ _ Dp (k3 _ _ Dp h2)
        refine ⟨_, rfl, .inl ⟨rfl, _, SqL.of h4⟩, _, rfl, D, _, _, rfl, rfl, h4, ?_, _, _, zs ++ [z], rfl, by rw [upd_same, List.map_append]; rfl, by rw [List.length_append, hz]; rfl, fun y hy => ?_, ?_, (p4.other (Ne.symm Dp)).mono (by omega)⟩
        · rw [List.length_map, hz]
          exact Nat.lt_of_lt_of_le (show i < 1000 by omega) (by decide)
        · rcases List.mem_append.mp hy with hy | hy
          · exact hzo y hy
          · rw [List.mem_singleton.mp hy]; exact zo
        · intro b o n e
          rw [upd_ne (ne_of_none e hD)]
          exact ((k2.trans k3).trans k4) b o n e
      · rintro σ H2 ⟨v5, v6, zs, rfl, h2, hz, hzo, k2, p2⟩
        exact ⟨v5, v6, zs, rfl, h2, by omega, hzo, k2, p2.mono (by omega)⟩
    rintro σ H2 ⟨v5, v6, zs, rfl, h2, hz, hzo, k2, p2⟩
    refine ⟨_, rfl, D, _, rfl, .inl ⟨SqL.of h2, fun t ht => ?_⟩⟩
    exact q t zs _ (Keep.free k2 (pool_ne p2 ht) ht) upd_same hz hzo (k2.new ht) (p2.new ht)
end
end K5

namespace K5
open PySem L2
def AmtOk (o : Opts) (m : Nat) : Val → Prop
  | .word z => wd z = true
  | .num n => 0 ≤ n ∧ n < 1000000000000
  | .lst zs => zs.length ≤ m ∧ ∀ z ∈ zs, ItemW (decide (o.c = "joins")) z
  | .non => o.x = true
def spAmount : Sp := fun vs H Q _ => ∃ (p : Addr) (c : Nat) (oa a : Addr) (o : Opts) (m : Nat) (ts : List (List Nat)), vs = [.ref p, .ref oa, .ref a, .int (m : Nat)] ∧ Pool H p c ∧ c ≤ 600000 ∧ OptsAt H oa o ∧ H a = some (.lst (K5S.lstS ts)) ∧ a ≠ p ∧ ts ≠ [] ∧ ts.length ≤ 100 ∧ Wds ts ∧ m ≤ 10 ∧
  ∀ v x H', VAt H' v x → AmtOk o m x → Keep p H H' → Pool H' p (c + 50) → Q v H'
abbrev nAmount : List Str := ["_law_pool_here", "_law_options_here", "_law_menu", "_law_most", "_law_way"]
theorem OptsAt.keep {H H' : Hp} {p oa : Addr} {c : Nat} {o : Opts} (h : OptsAt H oa o) (k : Keep p H H') (hp : Pool H p c) : OptsAt H' oa o := by
  obtain ⟨g, m, j, e, _⟩ := hp
  obtain ⟨la, h1, h2⟩ := h
  exact ⟨la, k _ _ (ne_of h1 e (by intro z; cases z)) h1, k _ _ (ne_of h2 e (by intro z; cases z)) h2⟩
section
variable {P : Program} {w : World} {K : PySem.W.Frag} {mg : Str → Option Value} {base : Heap}
theorem scAmount : FnScope nAmount ["_law_pool_here", "_law_options_here", "_law_menu", "_law_most"] (defScope sAmount) := ⟨rfl, rfl, rfl, by decide +kernel, rfl, by decide +kernel, by decide +kernel⟩
theorem ok_amount {f : Addr} {fd : FuncData} (F : Fun K "_law_amount" "_law_amount" sAmount f fd) (GP : Fn P w K mg base 1 "_law_pick" ["_law_pool_here", "_law_many"] spPick) (GO : Fn P w K mg base 2 "_law_of" ["_law_pool_here", "_law_some"] K5S.spOf) (GI : Fn P w K mg base 3 "_law_items" ["_law_pool_here", "_law_menu", "_law_most", "_law_may_pair"] spItems) :
    FnOk P w K mg base CX0 4 f fd ["_law_pool_here", "_law_options_here", "_law_menu", "_law_most"] spAmount := by
  refine F.ok scAmount (fun vs H Q E h => ?_) (fun cdv A outer s H vs Q E hr h => ?_)
  · obtain ⟨p, c, oa, a, o, m, ts, rfl, _⟩ := h
    rfl
  · obtain ⟨p, c, oa, a, o, m, ts, rfl, hp, hc, ho, ha, hap, hne, hl, hw, hm, q⟩ := h
    have hr1 : Room 1 _ := hr.mono (by decide)
    have hr2 : Room 2 _ := hr.mono (by decide)
    refine ⟨_, C8.pss_cut (ps_set (i := 4) scAmount.nd rfl (.inl rfl) (pe_fn GP hr1 rfl (pa_cons (pv 0) (pa_cons pe_int pa_nil))))
      (C8.pss_cut (ps_if (pt_cmpR op_eq (pv 4) pe_int (nomark _)) (pss_one (ps_ret pe_str)) pss_nil)
      (C8.pss_cut (ps_if (pt_cmpR op_lt (pv 4) pe_int (nomark _)) (pss_one (ps_ret (pe_fn GO hr2 rfl (pa_cons (pv 0) (pa_cons (pv 2) pa_nil))))) pss_nil)
      (C8.pss_cut (ps_if (pt_cmpR op_eq (pv 4) pe_int (nomark _)) (pss_one (ps_ret (pe_ix ix_list (pe_lst (pa_cons pe_int (pa_cons (pe_op op_sub (pe_op op_pow pe_int pe_int) pe_int) (pa_cons (pe_fn GP hr1 rfl (pa_cons (pv 0) (pa_cons pe_int pa_nil))) (pa_cons (pe_fn GP hr1 rfl (pa_cons (pv 0) (pa_cons (pe_op op_pow pe_int pe_int) pa_nil))) pa_nil))))) (pe_fn GP hr1 rfl (pa_cons (pv 0) (pa_cons pe_int pa_nil))) (fun _ _ => rfl)))) pss_nil)
      (C8.pss_cut (ps_if (PW.pt (pw_and (pt_cmpR op_eq (pv 4) pe_int (nomark _)) (pw_and1 (pt_val (pe_ix ix_tup (pv 1) pe_int (fun _ _ => rfl)))))) (pss_one (ps_ret pe_non)) pss_nil)
      (pss_one (ps_ret (pe_fn GI hr rfl (pa_cons (pv 0) (pa_cons (pv 2) (pa_cons (pv 3) (pa_cons (pe_cmpR op_eq (pe_ix ix_tup (pv 1) pe_int (fun _ _ => rfl)) pe_str (nomark _)) pa_nil))))))))))), ?_⟩
    refine ⟨fun σ H' => ∃ r : Int, σ = [some (.ref p), some (.ref oa), some (.ref a), some (.int (m : Nat)), some (.int r)] ∧ Keep p H H' ∧ Pool H' p (c + 1), ?_, ?_⟩
    · exact ⟨_, rfl, p, c, 8, rfl, hp, by omega, by decide, by decide, fun r H' r0 r1 k pn => ⟨r, rfl, k, pn⟩⟩
    rintro σ H1 ⟨r, rfl, k1, p1⟩
    refine ⟨fun σ H' => σ = [some (.ref p), some (.ref oa), some (.ref a), some (.int (m : Nat)), some (.int r)] ∧ H' = H1, ?_, ?_⟩
    · refine ⟨_, rfl, rfl, _, rfl, ite2 (fun _ => ?_) (fun _ => ⟨rfl, rfl⟩)⟩
      exact q _ (.word "yes") H1 rfl (show wd "yes" = true by decide +kernel) k1 (p1.mono (by omega))
    rintro σ H1' ⟨rfl, rfl⟩
    refine ⟨fun σ H' => σ = [some (.ref p), some (.ref oa), some (.ref a), some (.int (m : Nat)), some (.int r)] ∧ H' = H1', ?_, ?_⟩
    · refine ⟨_, rfl, _, _, rfl, rfl, _, rfl, ite2 (fun _ => ?_) (fun _ => ⟨rfl, rfl⟩)⟩
      refine ⟨_, rfl, _, rfl, p, _, a, _, rfl, p1, by omega, k1 _ _ hap ha, hap, lstS_ne hne, by rw [lstS_len]; omega, fun v H3 hv k3 p3 => ?_⟩
      obtain ⟨z, rfl, r1, r2⟩ := of_menu hw hv
      exact q _ (.word (K5S.S z)) H3 rfl (wd_S ⟨r1, r2⟩) (k1.trans k3) (p3.mono (by omega))
    rintro σ H1'' ⟨rfl, rfl⟩
    refine ⟨fun σ H' => σ = [some (.ref p), some (.ref oa), some (.ref a), some (.int (m : Nat)), some (.int r)] ∧ H' = H1'', ?_, ?_⟩
    · refine ⟨_, rfl, rfl, _, rfl, ite2 (fun _ => ?_) (fun _ => ⟨rfl, rfl⟩)⟩
      refine ⟨_, _, rfl, rfl, ⟨by decide, by decide, by decide⟩, _, _, rfl, rfl, ?_⟩
      refine ⟨_, rfl, p, c + 1, 10, rfl, p1, by omega, by decide, by decide, fun n2 H2 n20 n21 k2 p2 => ?_⟩
      refine ⟨_, rfl, _, _, rfl, rfl, ⟨by decide, by decide, by decide⟩, p, c + 2, _, rfl, p2, by omega, by decide, by decide, fun n3 H3 n30 n31 k3 p3 => ?_⟩
      refine ⟨by show 4 ≤ sizeLine; decide, fun L hL => ?_⟩
      refine ⟨_, rfl, p, c + 3, 4, rfl, p3.new hL, by omega, by decide, by decide, fun n4 H4 n40 n41 k4 p4 => ?_⟩
      have Lp : L ≠ p := pool_ne p3 hL
      have kk : Keep p H H4 := ((k1.trans k2).trans (k3.new hL)).trans k4
      have n31 : n3 < 1000000000000 := n31
      have e4 := k4 _ _ Lp upd_same
      rcases (show n4 = 0 ∨ n4 = 1 ∨ n4 = 2 ∨ n4 = 3 by omega) with h | h | h | h <;> subst h
      · exact ⟨L, _, 0, _, rfl, rfl, SqL.of e4, atI_nat (j := 0) rfl, q _ (.num 0) H4 rfl ⟨by decide, by decide⟩ kk (p4.mono (by omega))⟩
      · exact ⟨L, _, 1, _, rfl, rfl, SqL.of e4, atI_nat (j := 1) rfl, q _ (.num ((10 : Int) ^ (12 : Int).toNat - 1)) H4 rfl ⟨by decide, by decide⟩ kk (p4.mono (by omega))⟩
      · exact ⟨L, _, 2, _, rfl, rfl, SqL.of e4, atI_nat (j := 2) rfl, q _ (.num n2) H4 rfl ⟨n20, by omega⟩ kk (p4.mono (by omega))⟩
      · exact ⟨L, _, 3, _, rfl, rfl, SqL.of e4, atI_nat (j := 3) rfl, q _ (.num n3) H4 rfl ⟨n30, n31⟩ kk (p4.mono (by omega))⟩
    rintro σ H2 ⟨rfl, rfl⟩
    have ho2 := ho.keep k1 hp
    obtain ⟨la, o1, o2⟩ := id ho2
    refine ⟨fun σ H' => σ = [some (.ref p), some (.ref oa), some (.ref a), some (.int (m : Nat)), some (.int r)] ∧ H' = H2, ?_, ?_⟩
    · refine ⟨_, rfl, rfl, _, rfl, ite2 (fun _ => ?_) (fun _ => ⟨rfl, rfl⟩)⟩
      refine ⟨_, rfl, oa, _, 6, _, rfl, rfl, SqT.of o1, atI_nat (j := 6) rfl, o.x, rfl, ?_⟩
      cases ox : o.x with
      | true => exact iteT (q _ .non H2 rfl ox k1 (p1.mono (by omega)))
      | false => exact iteF ⟨rfl, rfl⟩
    rintro σ H3 ⟨rfl, rfl⟩
    refine ⟨_, rfl, _, rfl, _, rfl, _, rfl, oa, _, 2, _, rfl, rfl, SqT.of o1, atI_nat (j := 2) rfl, rfl, p, c + 1, a, m, _, ts, rfl, p1, by omega, k1 _ _ hap ha, hap, hne, hl, hw, hm, fun t zs H4 ht h4 hz hzo k4 p4 => ?_⟩
    exact q _ (.lst zs) H4 ⟨t, rfl, h4⟩ ⟨hz, fun z m => by rw [← eq_strB]; exact hzo z m⟩ (k1.trans k4) (p4.mono (by omega))
end
end K5

namespace K5
open PySem L2
abbrev sRows : Stmt := top 58
/-- a drawn entry -/
def RowAt (o : Opts) (m : Nat) (H : Hp) (t : V) : Prop := ∃ (u : Addr) (z : Str) (v : V) (x : Val), t = .ref u ∧ H u = some (.tup [.str z, v]) ∧ wd z = true ∧ VAt H v x ∧ AmtOk o m x
theorem VAt.keep {H H' : Hp} {p : Addr} {c : Nat} {v : V} {x : Val} (h : VAt H v x) (k : Keep p H H') (hp : Pool H p c) : VAt H' v x := by
  obtain ⟨g, m, j, e, _⟩ := hp
  cases x with
  | lst ms =>
    obtain ⟨t, e1, h⟩ := h
    exact ⟨t, e1, k _ _ (ne_of h e (by intro z; cases z)) h⟩
  | word z => exact h
  | num n => exact h
  | non => exact h
theorem RowAt.same {ot : Opts} {m : Nat} {H H' : Hp} {t : V} (h : RowAt ot m H t) (s : Same H H') : RowAt ot m H' t := by
  obtain ⟨u, z, v, x, e1, e2, e3, e4, e5⟩ := h
  exact ⟨u, z, v, x, e1, s _ _ e2, e3, e4.same s, e5⟩
theorem RowAt.keep {ot : Opts} {m : Nat} {H H' : Hp} {p : Addr} {c : Nat} {t : V} (h : RowAt ot m H t) (k : Keep p H H') (hp : Pool H p c) : RowAt ot m H' t := by
  obtain ⟨u, z, v, x, e1, e2, e3, e4, e5⟩ := h
  have e4 := e4.keep k hp
  obtain ⟨g, mm, j, e, _⟩ := hp
  exact ⟨u, z, v, x, e1, k _ _ (ne_of e2 e (by intro z; cases z)) e2, e3, e4, e5⟩
theorem RowAt.put {ot : Opts} {m : Nat} {H : Hp} {D : Addr} {ls : List V} {o : HO} {t : V} (h : RowAt ot m H t) (hD : H D = some (.lst ls)) : RowAt ot m (upd H D o) t := by
  obtain ⟨u, z, v, x, e1, e2, e3, e4, e5⟩ := h
  exact ⟨u, z, v, x, e1, by rw [upd_ne (ne_of e2 hD (by intro z; cases z))]; exact e2, e3, e4.put hD, e5⟩
/-- drawn entries in a list -/
def RowsAt (ot : Opts) (m : Nat) (H : Hp) (D : Addr) (n : Nat) : Prop := ∃ ts : List V, H D = some (.lst ts) ∧ ts.length ≤ n ∧ ∀ t ∈ ts, RowAt ot m H t
def spRows : Sp := fun vs H Q _ => ∃ (p : Addr) (c : Nat) (oa : Addr) (o : Opts) (mr ml : Nat), vs = [.ref p, .ref oa, .int (mr : Nat), .int (ml : Nat)] ∧ Pool H p c ∧ c ≤ 500000 ∧ OptsAt H oa o ∧ mr ≤ 9 ∧ ml ≤ 5 ∧
  ∀ (D : Addr) (H' : Hp), H D = none → RowsAt o ml H' D mr → Keep p H H' → Pool H' p (c + 700) → Q (.ref D) H'
abbrev nRows : List Str := ["_law_pool_here", "_law_options_here", "_law_many", "_law_most", "_law_menu", "_law_found", "_law_k"]
section
variable {P : Program} {w : World} {K : PySem.W.Frag} {mg : Str → Option Value} {base : Heap}
theorem scRows : FnScope nRows ["_law_pool_here", "_law_options_here", "_law_many", "_law_most"] (defScope sRows) := ⟨rfl, rfl, rfl, by decide +kernel, rfl, by decide +kernel, by decide +kernel⟩
theorem ok_rows {f : Addr} {fd : FuncData} (F : Fun K "_law_rows" "_law_rows" sRows f fd) (T : Bare mg) (GP : Fn P w K mg base 1 "_law_pick" ["_law_pool_here", "_law_many"] spPick) (GO : Fn P w K mg base 2 "_law_of" ["_law_pool_here", "_law_some"] K5S.spOf) (GW : Fn P w K mg base 3 "_law_words" ["_law_pool_here", "_law_many", "_law_taken"] spWords3) (GA : Fn P w K mg base 4 "_law_amount" ["_law_pool_here", "_law_options_here", "_law_menu", "_law_most"] spAmount) :
    FnOk P w K mg base CX0 5 f fd ["_law_pool_here", "_law_options_here", "_law_many", "_law_most"] spRows := by
  refine F.ok scRows (fun vs H Q E h => ?_) (fun cdv A outer s H vs Q E hr h => ?_)
  · obtain ⟨p, c, oa, o, mr, ml, rfl, _⟩ := h
    rfl
  · obtain ⟨p, c, oa, o, mr, ml, rfl, hp, hc, ho, h9, h5, q⟩ := h
    have hr1 : Room 1 _ := hr.mono (by decide)
    have hr2 : Room 2 _ := hr.mono (by decide)
    have hr3 : Room 3 _ := hr.mono (by decide)
    refine ⟨_, C8.pss_cut (ps_set (i := 4) scRows.nd rfl (.inl rfl) (pe_op op_cat (pe_fn GW hr3 rfl (pa_cons (pv 0) (pa_cons pe_int (pa_cons (pe_lst pa_nil) pa_nil)))) (pe_lst (pa_cons pe_str pa_nil))))
      (C8.pss_cut (ps_set (i := 5) scRows.nd rfl (.inl rfl) (pe_lst pa_nil))
      (C8.pss_cut (ps_for PassesOwn.never rfl (pi_range1 (by rfl) T.range (pa_cons (pe_fn GP hr1 rfl (pa_cons (pv 0) (pa_cons (pe_op op_add (pv 2) pe_int) pa_nil))) pa_nil)) (pg_name (i := 6) scRows.nd rfl (.inl rfl))
        (pss_one (ps_expr (pe_bm PySem.F.plainAttrs_list PySem.F.slot_list_append PySem.F.type_list_append mt_append (pv 5) (pa_cons (pe_tup (pa_cons (pe_fn GO hr2 rfl (pa_cons (pv 0) (pa_cons (pv 4) pa_nil))) (pa_cons (pe_fn GA hr rfl (pa_cons (pv 0) (pa_cons (pv 1) (pa_cons (pv 4) (pa_cons (pv 3) pa_nil))))) pa_nil))) pa_nil)))))
      (pss_one (ps_ret (pv 5))))), ?_⟩
    refine ⟨fun σ H' => ∃ (M : Addr) (ts : List (List Nat)), σ = [some (.ref p), some (.ref oa), some (.int (mr : Nat)), some (.int (ml : Nat)), some (.ref M), none, none] ∧ H' M = some (.lst (K5S.lstS ts)) ∧ M ≠ p ∧ ts.length = 4 ∧ Wds ts ∧ Keep p H H' ∧ Pool H' p (c + 36), ?_, ?_⟩
    · refine ⟨_, rfl, Nat.zero_le _, fun l hl => ⟨p, c, l, rfl, hp.new hl, by omega, upd_same, pool_ne hp hl, fun D ts H1 hD h1 ht hw k1 p1 => ?_⟩⟩
      refine ⟨by show 1 ≤ sizeLine; decide, fun l2 hl2 => ?_⟩
      have e1 : upd H1 l2 (.lst [.str "yes"]) D = some (.lst (K5S.lstS ts)) := by rw [upd_ne (ne_of_none h1 hl2)]; exact h1
      refine ⟨D, l2, _, _, rfl, rfl, e1, upd_same, ?_, fun M hM => ⟨M, ts ++ [[121, 101, 115]], rfl, ?_, ?_, by rw [List.length_append, ht]; rfl, fun r hr' => ?_, ((((Keep.refl p H).new hl).trans k1).new hl2).new hM, (p1.new hl2).new hM⟩⟩
      · rw [lstS_len, ht]; show 3 + 1 ≤ sizeLine; decide
      · rw [upd_same, ← K5S.lstS_add, show ("yes" : Str) = K5S.S [121, 101, 115] by decide +kernel]
      · exact pool_ne (p1.new hl2) hM
      · rcases List.mem_append.mp hr' with hr' | hr'
        · exact hw r hr'
        · rw [List.mem_singleton.mp hr']; decide
    rintro σ H1 ⟨M, ts, rfl, hM, Mp, ht, hw, k1, p1⟩
    refine ⟨fun σ H' => ∃ (D : Addr), σ = [some (.ref p), some (.ref oa), some (.int (mr : Nat)), some (.int (ml : Nat)), some (.ref M), some (.ref D), none] ∧ H' = upd H1 D (.lst []) ∧ H1 D = none, ⟨Nat.zero_le _, fun D hD => ⟨D, rfl, rfl, hD⟩⟩, ?_⟩
    rintro σ H2 ⟨D, rfl, rfl, hD⟩
    have Dp : D ≠ p := pool_ne p1 hD
    have ho1 := ho.keep k1 hp
    refine ⟨fun σ H' => ∃ (v6 : Option V), σ = [some (.ref p), some (.ref oa), some (.int (mr : Nat)), some (.int (ml : Nat)), some (.ref M), some (.ref D), v6] ∧ RowsAt o ml H' D mr ∧ Keep p H1 H' ∧ Pool H' p (c + 700), ?_, ?_⟩
    · refine ⟨_, rfl, _, rfl, _, _, rfl, rfl, p, c + 36, _, rfl, p1.new hD, by omega, by omega, by omega, fun n Hn n0 n1 kn pn => ?_⟩
      have kn0 : Keep p H1 Hn := ((Keep.refl p H1).new hD).trans kn
      have n1 : n < (mr : Nat) + 1 := n1
      refine ⟨n, rfl, by omega, by omega, for_range (lo := 0) (n := n.toNat) (fun i σ H' => ∃ (v6 : Option V), σ = [some (.ref p), some (.ref oa), some (.int (mr : Nat)), some (.int (ml : Nat)), some (.ref M), some (.ref D), v6] ∧ RowsAt o ml H' D i ∧ Keep p H1 H' ∧ Pool H' p (c + 40 + 60 * i)) ⟨none, rfl, ⟨[], kn _ _ Dp upd_same, Nat.le_refl _, fun _ z => nomatch z⟩, kn0, pn.mono (by omega)⟩ ?_ ?_⟩
      · rintro i σ H2 hi ⟨v6, rfl, ⟨rs, h2, rl, ra⟩, k2, p2⟩
        have hM2 := k2 _ _ Mp hM
        refine ⟨_, rfl, .inl ⟨rfl, _, SqL.of h2⟩, _, rfl, _, rfl, p, _, M, _, rfl, p2, by omega, hM2, Mp, lstS_ne (fun e => by rw [e] at ht; cases ht), by rw [lstS_len, ht]; decide, fun v H3 hv k3 p3 => ?_⟩
        obtain ⟨z, rfl, z1, z2⟩ := of_menu hw hv
        refine ⟨_, rfl, _, rfl, _, rfl, _, rfl, p, _, oa, M, o, ml, ts, rfl, p3, by omega, (ho1.keep k2 p1).keep k3 p2, k3 _ _ Mp hM2, Mp, (fun e => by rw [e] at ht; cases ht), by omega, hw, by omega, fun v x H4 hv4 hx k4 p4 => ?_⟩
        refine ⟨by show 2 ≤ sizeLine; decide, fun u hu => ?_⟩
        have h4 : H4 D = some (.lst rs) := k4 _ _ Dp (k3 _ _ Dp h2)
        have s5 := Same.new (o := .tup [.str (K5S.S z), v]) (Same.refl H4) hu
        have h5 : upd H4 u (.tup [.str (K5S.S z), v]) D = some (.lst rs) := s5 _ _ h4
        refine ⟨D, _, _, rfl, rfl, h5, Nat.lt_of_le_of_lt (show rs.length ≤ 20 by omega) (by decide), _, rfl, ⟨rs ++ [.ref u], upd_same, by rw [List.length_append]; exact Nat.succ_le_succ rl, fun t ht' => ?_⟩, ?_, ((p4.new hu).other (Ne.symm Dp)).mono (by omega)⟩
        · rcases List.mem_append.mp ht' with ht' | ht'
          · exact ((((ra t ht').keep k3 p2).keep k4 p3).same s5).put h5
          · rw [List.mem_singleton.mp ht']
            exact RowAt.put ⟨u, _, v, x, rfl, upd_same, wd_S ⟨z1, z2⟩, hv4.same s5, hx⟩ h5
        · intro b o n e
          rw [upd_ne (ne_of_none e hD)]
          exact (((k2.trans k3).trans k4).new hu) b o n e
      · rintro σ H2 ⟨v6, rfl, ⟨rs, h2, rl, ra⟩, k2, p2⟩
        exact ⟨v6, rfl, ⟨rs, h2, by omega, ra⟩, k2, p2.mono (by omega)⟩
    rintro σ H2 ⟨v6, rfl, hR, k2, p2⟩
    exact ⟨_, rfl, q D H2 (Keep.free k1 Dp hD) hR (k1.trans k2) p2⟩
end
end K5

namespace K5
open PySem L2
abbrev sWList : Stmt := top 55
/-- short texts in a list -/
def TxtAt (H : Hp) (D : Addr) (n : Nat) : Prop := ∃ ws : List Str, H D = some (.lst (ws.map V.str)) ∧ ws.length ≤ n ∧ ∀ z ∈ ws, tiny z = true
theorem TxtAt.same {H H' : Hp} {D : Addr} {n : Nat} (h : TxtAt H D n) (s : Same H H') : TxtAt H' D n := by
  obtain ⟨ws, h1, h2⟩ := h
  exact ⟨ws, s _ _ h1, h2⟩
theorem TxtAt.keep {H H' : Hp} {p D : Addr} {n : Nat} (h : TxtAt H D n) (k : Keep p H H') (e : D ≠ p) : TxtAt H' D n := by
  obtain ⟨ws, h1, h2⟩ := h
  exact ⟨ws, k _ _ e h1, h2⟩
theorem TxtAt.mono {H : Hp} {D : Addr} {n m : Nat} (h : TxtAt H D n) (e : n ≤ m) : TxtAt H D m := by
  obtain ⟨ws, h1, h2, h3⟩ := h
  exact ⟨ws, h1, by omega, h3⟩
theorem rep_one (z : Str) (k : Nat) : (List.replicate k [V.str z]).flatten = (List.replicate k z).map V.str := by
  induction k with
  | zero => rfl
  | succ k ih => rw [List.replicate_succ, List.flatten_cons, ih, List.replicate_succ, List.map_cons]; rfl
theorem tup_keep {H H' : Hp} {p t : Addr} {c : Nat} {xs : List V} (h : H t = some (.tup xs)) (k : Keep p H H') (hp : Pool H p c) : H' t = some (.tup xs) := by
  obtain ⟨g, m, j, e, _⟩ := hp
  exact k _ _ (ne_of h e (by intro z; cases z)) h
theorem comma_tiny : tiny "," = true ∧ tiny "[" = true ∧ tiny "]" = true ∧ tiny "=" = true ∧ tiny ";" = true ∧ tiny "yes" = true := by decide +kernel
/-- a written text of which more is known -/
def TxtR (H : Hp) (D : Addr) (n : Nat) (R : List Str → Prop) : Prop := ∃ ws : List Str, H D = some (.lst (ws.map V.str)) ∧ ws.length ≤ n ∧ (∀ z ∈ ws, tiny z = true) ∧ R ws
theorem TxtR.same {H H' : Hp} {D : Addr} {n : Nat} {R : List Str → Prop} (h : TxtR H D n R) (s : Same H H') : TxtR H' D n R := by
  obtain ⟨ws, h1, h2⟩ := h
  exact ⟨ws, s _ _ h1, h2⟩
theorem TxtR.keep {H H' : Hp} {p D : Addr} {n : Nat} {R : List Str → Prop} (h : TxtR H D n R) (k : Keep p H H') (e : D ≠ p) : TxtR H' D n R := by
  obtain ⟨ws, h1, h2⟩ := h
  exact ⟨ws, k _ _ e h1, h2⟩
theorem TxtR.to {H : Hp} {D : Addr} {n m : Nat} {R R' : List Str → Prop} (h : TxtR H D n R) (e : n ≤ m) (i : ∀ ws, R ws → R' ws) : TxtR H D m R' := by
  obtain ⟨ws, h1, h2, h3, h4⟩ := h
  exact ⟨ws, h1, Nat.le_trans h2 e, h3, i ws h4⟩
/-- a whole written list -/
def LDone (o : Opts) (zs ws : List Str) : Prop := ∀ (P : List Ent) (lab : Str) (v0 : Val) (s0 : Str), stepL o.lang s0 (some ("[" : Str)) = some ("open" : Str) → runM o.lang (s0, P ++ [(lab, (v0, []))]) ws = some (("done" : Str), P ++ [(lab, (.lst zs, zs))])
def LCom (o : Opts) (zs : List Str) (i : Nat) (ws : List Str) : Prop := ∃ ws0, ws = ws0 ++ [("," : Str)] ∧ LMid o zs i ws0
theorem LCom.run {o : Opts} {zs ws : List Str} {i : Nat} (h : LCom o zs i ws) (h2 : i = zs.length → o.l ≠ "never") {k : Nat} (hk : k = 0 ∨ ("," : Str) ∈ o.zs) : LRun o zs i (ws ++ List.replicate k ("," : Str)) := by
  obtain ⟨ws0, rfl, m⟩ := h
  exact l_comma m h2 hk
theorem LCom.run0 {o : Opts} {zs ws : List Str} {i : Nat} (h : LCom o zs i ws) (h2 : i = zs.length → o.l ≠ "never") : LRun o zs i ws := by
  have := h.run h2 (k := 0) (.inl rfl)
  rwa [List.replicate_zero, List.append_nil] at this
def spWList : Sp := fun vs H Q _ => ∃ (p : Addr) (c : Nat) (oa : Addr) (o : Opts) (t : Addr) (zs : List Str), vs = [.ref p, .ref oa, .ref t] ∧ Pool H p c ∧ c ≤ 600000 ∧ OptsAt H oa o ∧ H t = some (.tup (zs.map V.str)) ∧ zs.length ≤ 5 ∧ (∀ z ∈ zs, ItemW (decide (o.c = "joins")) z) ∧
  ∀ (D : Addr) (H' : Hp), H D = none → TxtR H' D 30 (LDone o zs) → Keep p H H' → Pool H' p (c + 20) → Q (.ref D) H'
theorem item_parts {mp : Bool} {z : Str} (h : ItemW mp z) : (Txt.split z " ").length ≤ 2 ∧ ∀ y ∈ Txt.split z " ", tiny y = true := by
  obtain ⟨_, ⟨w, e⟩ | ⟨_, y1, y2, w1, w2, _, e⟩⟩ := h
  · rw [e]
    exact ⟨by show 1 ≤ 2; decide, fun y hy => by rw [List.mem_singleton.mp hy]; exact wd_t w⟩
  · rw [e]
    refine ⟨by show 2 ≤ 2; decide, fun y hy => ?_⟩
    simp only [List.mem_cons, List.not_mem_nil, or_false] at hy
    rcases hy with rfl | rfl
    · exact wd_t w1
    · exact wd_t w2
abbrev nWList : List Str := ["_law_pool_here", "_law_options_here", "_law_items_here", "_law_file", "_law_place", "_law_item", "_law_is_final", "_law_is_wanted", "_law_may_stand"]
section
variable {P : Program} {w : World} {K : PySem.W.Frag} {mg : Str → Option Value} {base : Heap}
theorem scWList : FnScope nWList ["_law_pool_here", "_law_options_here", "_law_items_here"] (defScope sWList) := ⟨rfl, rfl, rfl, by decide +kernel, rfl, by decide +kernel, by decide +kernel⟩
theorem ok_wlist {f : Addr} {fd : FuncData} (F : Fun K "_law_written_list" "_law_written_list" sWList f fd) (T : Bare mg) (hE : mg "enumerate" = none) (GP : Fn P w K mg base 1 "_law_pick" ["_law_pool_here", "_law_many"] spPick) :
    FnOk P w K mg base CX0 2 f fd ["_law_pool_here", "_law_options_here", "_law_items_here"] spWList := by
  refine F.ok scWList (fun vs H Q E h => ?_) (fun cdv A outer s H vs Q E hr h => ?_)
  · obtain ⟨p, c, oa, o, t, zs, rfl, _⟩ := h
    rfl
  · obtain ⟨p, c, oa, o, t, zs, rfl, hp, hc, ho, ht, hl, hz, q⟩ := h
    refine ⟨_, C8.pss_cut (ps_set (i := 3) scWList.nd rfl (.inl rfl) (pe_lst (pa_cons pe_str pa_nil)))
      (C8.pss_cut (ps_for PassesOwn.never rfl (EnT.pi_enumT (by rfl) hE (pa_cons (pv 2) pa_nil)) (pg_tup (by rfl) (pgs_cons (pg_name (i := 4) scWList.nd rfl (.inl rfl)) (pgs_cons (pg_name (i := 5) scWList.nd rfl (.inl rfl)) pgs_nil)))
        (C8.pss_cut (ps_set (i := 3) scWList.nd rfl (.inl rfl) (pe_op op_cat (pv 3) (pe_split (pv 5) pe_str)))
        (C8.pss_cut (ps_set (i := 6) scWList.nd rfl (.inl rfl) (pe_cmpR op_eq (pv 4) (pe_op op_sub (pe_callB call_len_seq (by rfl) T.len PySem.boot_len (pa_cons (pv 2) pa_nil)) pe_int) (nomark _)))
        (C8.pss_cut (ps_set (i := 7) scWList.nd rfl (.inl rfl) (pe_ifExp (pt_not (pt_val (pv 6))) (pe_cmpR op_ne (pe_ix ix_tup (pv 1) pe_int (fun _ _ => rfl)) pe_str (nomark _)) (pe_cmpR op_eq (pe_ix ix_tup (pv 1) pe_int (fun _ _ => rfl)) pe_str (nomark _))))
        (C8.pss_cut (ps_set (i := 8) scWList.nd rfl (.inl rfl) (pe_ifExp (pt_not (pt_val (pv 6))) pe_bl (pe_cmpR op_ne (pe_ix ix_tup (pv 1) pe_int (fun _ _ => rfl)) pe_str (nomark _))))
        (pss_one (ps_if (PW.pt (pw_or (pt_val (pv 7)) (pw_or1 (PW.pt (pw_and (pt_val (pv 8)) (pw_and1 (pt_cmpR op_eq (pe_fn GP hr rfl (pa_cons (pv 0) (pa_cons pe_int pa_nil))) pe_int (nomark _))))))))
          (C8.pss_cut (ps_expr (pe_bm PySem.F.plainAttrs_list PySem.F.slot_list_append PySem.F.type_list_append mt_append (pv 3) (pa_cons pe_str pa_nil)))
          (pss_one (ps_if (pt_cmpR op_in_seq pe_str (pe_ix ix_tup (pv 1) pe_int (fun _ _ => rfl)) (by rfl)) (pss_one (ps_set (i := 3) scWList.nd rfl (.inl rfl) (pe_op op_cat (pv 3) (pe_op op_rep (pe_lst (pa_cons pe_str pa_nil)) (pe_fn GP hr rfl (pa_cons (pv 0) (pa_cons pe_int pa_nil))))))) pss_nil))) pss_nil)))))))
      (pss_one (ps_ret (pe_op op_cat (pv 3) (pe_lst (pa_cons pe_str pa_nil)))))), ?_⟩
    have one : 1 ≤ sizeLine := by decide
    have sgl : ∀ {z : Str}, tiny z = true → ∀ y ∈ [z], tiny y = true := fun h y hy => by rw [List.mem_singleton.mp hy]; exact h
    refine ⟨fun σ H' => ∃ D, σ = [some (.ref p), some (.ref oa), some (.ref t), some (.ref D), none, none, none, none, none] ∧ H' = upd H D (.lst [.str "["]) ∧ H D = none, ⟨one, fun D hD => ⟨D, rfl, rfl, hD⟩⟩, ?_⟩
    rintro σ H0 ⟨D0, rfl, rfl, hD0⟩
    have k0 : Keep p H (upd H D0 (.lst [.str "["])) := (Keep.refl p H).new hD0
    have p0 : Pool (upd H D0 (.lst [.str "["])) p c := hp.new hD0
    refine ⟨fun σ H' => ∃ (D : Addr) (v4 v5 v6 v7 v8 : Option V), σ = [some (.ref p), some (.ref oa), some (.ref t), some (.ref D), v4, v5, v6, v7, v8] ∧ TxtR H' D (1 + 5 * 5) (LRun o zs zs.length) ∧ H D = none ∧ Keep p H H' ∧ Pool H' p (c + 3 * 5), ?_, ?_⟩
    · refine ⟨_, rfl, t, _, rfl, SqT.of (tup_keep ht k0 hp), for_it EnT.walk_enumT (fun i σ H' => ∃ (D : Addr) (v4 v5 v6 v7 v8 : Option V), σ = [some (.ref p), some (.ref oa), some (.ref t), some (.ref D), v4, v5, v6, v7, v8] ∧ TxtR H' D (1 + 5 * i) (LRun o zs i) ∧ H D = none ∧ Keep p H H' ∧ Pool H' p (c + 3 * i)) ⟨D0, _, _, _, _, _, rfl, ⟨[("[" : Str)], upd_same, by simp, sgl comma_tiny.2.1, l_begin o zs⟩, hD0, k0, p0⟩ (fun i σ H' _ ⟨_, _, _, _, _, _, _, _, _, k, _⟩ => SqT.of (tup_keep ht k hp)) ?_ ?_⟩
      · rintro i y σ H2 H2' hi ⟨D, v4, v5, v6, v7, v8, rfl, hT, hD, k2, p2⟩ ⟨U, u, y, rfl, hU, rfl, hu, hy⟩
        cases hu
        obtain ⟨z, hz0, rfl⟩ := str_at hy
        have zo := hz z (List.mem_of_getElem? hz0)
        obtain ⟨e2, e3⟩ := item_parts zo
        have zl := zo.1.1
        have i3 : i < 5 := by
          have := (List.getElem?_eq_some_iff.mp hz0).1
          omega
        have s3 := Same.new (o := .tup [.int (i : Nat), .str z]) (Same.refl H2) hU
        have k3 := k2.new (o := .tup [.int (i : Nat), .str z]) hU
        have p3 := p2.new (o := .tup [.int (i : Nat), .str z]) hU
        have Dp : D ≠ p := pool_ne hp hD
        obtain ⟨ws, w1, w2, w3, w4⟩ := hT
        refine ⟨U, _, rfl, SqT.of upd_same, rfl, _, _, rfl, _, _, rfl, rfl, ?_⟩
        refine ⟨fun σ H' => ∃ (D : Addr), σ = [some (.ref p), some (.ref oa), some (.ref t), some (.ref D), some (.int (i : Nat)), some (.str z), v6, v7, v8] ∧ TxtR H' D (3 + 5 * i) (LMid o zs (i + 1)) ∧ H D = none ∧ Keep p H H' ∧ Pool H' p (c + 3 * i), ?_, ?_⟩
        · refine ⟨_, rfl, _, rfl, ⟨_, rfl⟩, z, " ", rfl, rfl, by decide +kernel, line_ge (by omega), fun L hL => ?_⟩
          have w1' := s3 _ _ w1
          refine ⟨D, L, _, _, rfl, rfl, by rw [upd_ne (ne_of_none w1' hL)]; exact w1', upd_same, ?_, fun D' hD' => ⟨D', rfl, ⟨ws ++ Txt.split z " ", by rw [upd_same, List.map_append], ?_, fun y hy => ?_, l_item w4 hz0 zo⟩, Keep.free (k3.new hL) (pool_ne (p3.new hL) hD') hD', (k3.new hL).new hD', (p3.new hL).new hD'⟩⟩
          · rw [List.length_map, List.length_map]; exact line_ge (by omega)
          · rw [List.length_append]; omega
          · rcases List.mem_append.mp hy with hy | hy
            · exact w3 y hy
            · exact e3 y hy
        rintro σ H4 ⟨D4, rfl, hT4, hD4, k4, p4⟩
        have ht4 := tup_keep ht k4 hp
        obtain ⟨la, o1, o2⟩ := ho.keep k4 hp
        refine ⟨fun σ H' => ∃ b6 : Bool, σ = [some (.ref p), some (.ref oa), some (.ref t), some (.ref D4), some (.int (i : Nat)), some (.str z), some (.bl b6), v7, v8] ∧ (b6 = true ↔ i + 1 = zs.length) ∧ H' = H4, ?_, ?_⟩
        · refine ⟨_, rfl, _, rfl, t, _, rfl, .inr (SqT.of ht4), _, _, rfl, rfl, rfl, _, rfl, ?_, rfl⟩
          constructor
          · intro e
            have := V.int.inj (of_decide_eq_true e)
            rw [List.length_map] at this
            omega
          · intro e
            refine decide_eq_true (congrArg V.int ?_)
            rw [List.length_map]
            omega
        rintro σ H4' ⟨b6, rfl, h6, rfl⟩
        refine ⟨fun σ H' => ∃ b7 : Bool, σ = [some (.ref p), some (.ref oa), some (.ref t), some (.ref D4), some (.int (i : Nat)), some (.str z), some (.bl b6), some (.bl b7), v8] ∧ ((b6 = false → b7 = false → o.c = "may") ∧ (b6 = true → b7 = false → o.l ≠ "must") ∧ (b6 = true → b7 = true → o.l ≠ "never")) ∧ H' = H4', ?_, ?_⟩
        · refine ⟨_, rfl, b6, rfl, ?_⟩
          cases b6 with
          | false => exact iteT ⟨_, rfl, oa, _, 2, _, rfl, rfl, SqT.of o1, atI_nat (j := 2) rfl, rfl, _, rfl, ⟨fun _ h => (by
            by_cases q : o.c = "may"
            · exact q
            · rw [eq_strB, decide_eq_false q] at h
              cases h), fun h => (nomatch h), fun h => (nomatch h)⟩, rfl⟩
          | true => exact iteF ⟨_, rfl, oa, _, 3, _, rfl, rfl, SqT.of o1, atI_nat (j := 3) rfl, rfl, _, rfl, ⟨fun h => (nomatch h), fun _ h q => (by
            rw [eq_strB, decide_eq_true q] at h
            cases h), fun _ h q => (by
            rw [eq_strB, q] at h
            exact absurd h (by decide +kernel))⟩, rfl⟩
        rintro σ H5 ⟨b7, rfl, h7, rfl⟩
        refine ⟨fun σ H' => ∃ b8 : Bool, σ = [some (.ref p), some (.ref oa), some (.ref t), some (.ref D4), some (.int (i : Nat)), some (.str z), some (.bl b6), some (.bl b7), some (.bl b8)] ∧ (b6 = true → b8 = true → o.l ≠ "never") ∧ H' = H5, ?_, ?_⟩
        · refine ⟨_, rfl, b6, rfl, ?_⟩
          cases b6 with
          | false => exact iteT ⟨true, rfl, fun h => (nomatch h), rfl⟩
          | true => exact iteF ⟨_, rfl, oa, _, 3, _, rfl, rfl, SqT.of o1, atI_nat (j := 3) rfl, rfl, _, rfl, fun _ h q => (by
            rw [eq_strB, decide_eq_true q] at h
            cases h), rfl⟩
        rintro σ H6 ⟨b8, rfl, h8, rfl⟩
        have D4p : D4 ≠ p := pool_ne hp hD4
        have skip : ∀ H7, Keep p H6 H7 → Pool H7 p (c + 3 * i + 1) → b7 = false → ∃ (D : Addr) (w4 w5 w6 w7 w8 : Option V), [some (V.ref p), some (.ref oa), some (.ref t), some (.ref D4), some (.int (i : Nat)), some (.str z), some (.bl b6), some (.bl b7), some (.bl b8)] = [some (V.ref p), some (.ref oa), some (.ref t), some (.ref D), w4, w5, w6, w7, w8] ∧ TxtR H7 D (1 + 5 * (i + 1)) (LRun o zs (i + 1)) ∧ H D = none ∧ Keep p H H7 ∧ Pool H7 p (c + 3 * (i + 1)) := fun H7 k7 p7 h =>
          ⟨D4, _, _, _, _, _, rfl, (hT4.keep k7 D4p).to (by omega) fun ws m => l_skip m (fun lt => h7.1 (by cases b6 with | false => rfl | true => exact absurd (h6.mp rfl) (by omega)) h) (fun e => h7.2.1 (h6.mpr e) h), hD4, k4.trans k7, p7.mono (by omega)⟩
        have kr : Keep p H6 H6 := Keep.refl p H6
        have p4' : Pool H6 p (c + 3 * i + 1) := p4.mono (by omega)
        refine ⟨_, rfl, b7, rfl, ?_⟩
        cases b7 with
        | true =>
          have nev : i + 1 = zs.length → o.l ≠ "never" := fun e => h7.2.2 (h6.mpr e) rfl
          refine iteT ?_
          refine ⟨fun σ H' => σ = [some (V.ref p), some (.ref oa), some (.ref t), some (.ref D4), some (.int (i : Nat)), some (.str z), some (.bl b6), some (.bl true), some (.bl b8)] ∧ TxtR H' D4 (4 + 5 * i) (LCom o zs (i + 1)) ∧ Keep p H H' ∧ Pool H' p (c + 3 * i + 1), ?_, ?_⟩
          · obtain ⟨ws4, x1, x2, x3, x4⟩ := hT4.keep kr D4p
            refine ⟨_, rfl, .inl ⟨rfl, _, SqL.of x1⟩, D4, _, _, rfl, rfl, x1, ?_, rfl, ⟨ws4 ++ [("," : Str)], by rw [upd_same, List.map_append]; rfl, ?_, fun y hy => ?_, ws4, rfl, x4⟩, fun b o' n e => ?_, p4'.other (Ne.symm D4p)⟩
            · rw [List.length_map]; exact Nat.lt_of_le_of_lt (show _ ≤ 100 by omega) (by decide)
            · rw [List.length_append]; show ws4.length + 1 ≤ _; omega
            · rcases List.mem_append.mp hy with hy | hy
              · exact x3 y hy
              · exact sgl comma_tiny.1 y hy
            · rw [upd_ne (ne_of_none e hD4)]
              exact (k4.trans kr) b o' n e
          rintro σ H8 ⟨rfl, hT8, k8, p8⟩
          obtain ⟨la8, o1', o2'⟩ := ho.keep k8 hp
          refine ⟨_, rfl, oa, _, 4, _, rfl, rfl, SqT.of o1', atI_nat (j := 4) rfl, la8, _, rfl, .inr (SqT.of o2'), rfl, flat_strs _, _, rfl, ?_⟩
          show if inV (V.str ",") (o.zs.map V.str) = true then _ else _
          cases hcom : inV (V.str ",") (o.zs.map V.str) with
          | false => exact iteF ⟨D4, _, _, _, _, _, rfl, hT8.to (by omega) (fun ws m => m.run0 nev), hD4, k8, p8.mono (by omega)⟩
          | true =>
            have com : ("," : Str) ∈ o.zs := by rw [inV_strs] at hcom; exact of_decide_eq_true hcom
            refine iteT ⟨_, rfl, one, fun L hL => ⟨_, rfl, p, _, 3, rfl, p8.new hL, by omega, by decide, by decide, fun n H9 n0 n1 k9 p9 => ?_⟩⟩
            have Lp : L ≠ p := pool_ne p8 hL
            obtain ⟨ws8, y1, y2, y3, y4⟩ := hT8
            have y9 : H9 D4 = some (.lst (ws8.map V.str)) := k9 _ _ D4p (by rw [upd_ne (ne_of_none y1 hL)]; exact y1)
            refine ⟨L, n, _, rfl, rfl, k9 _ _ Lp upd_same, by omega, by omega, ?_, fun R hR => ?_⟩
            · show 1 * n.toNat ≤ sizeLine
              exact line_ge (by omega)
            refine ⟨D4, R, _, _, rfl, rfl, by rw [upd_ne (ne_of_none y9 hR)]; exact y9, upd_same, ?_, fun D5 hD5 => ?_⟩
            · rw [rep_one, List.length_map, List.length_map, List.length_replicate]; exact line_ge (by omega)
            have k10 := ((k8.new hL).trans k9).new (o := .lst (List.replicate n.toNat [V.str ","]).flatten) hR
            have p10 := p9.new (o := .lst (List.replicate n.toNat [V.str ","]).flatten) hR
            refine ⟨D5, _, _, _, _, _, rfl, ⟨ws8 ++ List.replicate n.toNat ("," : Str), by rw [upd_same, List.map_append, rep_one], ?_, fun y hy => ?_, y4.run nev (.inr com)⟩, Keep.free k10 (pool_ne p10 hD5) hD5, k10.new hD5, (p10.new hD5).mono (by omega)⟩
            · rw [List.length_append, List.length_replicate]; omega
            · rcases List.mem_append.mp hy with hy | hy
              · exact y3 y hy
              · rw [List.eq_of_mem_replicate hy]; exact comma_tiny.1
        | false =>
          refine iteF ⟨_, rfl, b8, rfl, ?_⟩
          cases b8 with
          | false => exact iteF (skip _ kr p4' rfl)
          | true =>
            have nev : i + 1 = zs.length → o.l ≠ "never" := fun e => h8 (h6.mpr e) rfl
            refine iteT ⟨_, rfl, p, _, 2, rfl, p4, by omega, by decide, by decide, fun n' H7 _ _ k7 p7 => ⟨rfl, _, rfl, ite2 (fun _ => ?_) (fun _ => skip _ k7 p7 rfl)⟩⟩
            refine ⟨fun σ H' => σ = [some (V.ref p), some (.ref oa), some (.ref t), some (.ref D4), some (.int (i : Nat)), some (.str z), some (.bl b6), some (.bl false), some (.bl true)] ∧ TxtR H' D4 (4 + 5 * i) (LCom o zs (i + 1)) ∧ Keep p H H' ∧ Pool H' p (c + 3 * i + 1), ?_, ?_⟩
            · obtain ⟨ws4, x1, x2, x3, x4⟩ := hT4.keep k7 D4p
              refine ⟨_, rfl, .inl ⟨rfl, _, SqL.of x1⟩, D4, _, _, rfl, rfl, x1, ?_, rfl, ⟨ws4 ++ [("," : Str)], by rw [upd_same, List.map_append]; rfl, ?_, fun y hy => ?_, ws4, rfl, x4⟩, fun b o' n e => ?_, p7.other (Ne.symm D4p)⟩
              · rw [List.length_map]; exact Nat.lt_of_le_of_lt (show _ ≤ 100 by omega) (by decide)
              · rw [List.length_append]; show ws4.length + 1 ≤ _; omega
              · rcases List.mem_append.mp hy with hy | hy
                · exact x3 y hy
                · exact sgl comma_tiny.1 y hy
              · rw [upd_ne (ne_of_none e hD4)]
                exact (k4.trans k7) b o' n e
            rintro σ H8 ⟨rfl, hT8, k8, p8⟩
            obtain ⟨la8, o1', o2'⟩ := ho.keep k8 hp
            refine ⟨_, rfl, oa, _, 4, _, rfl, rfl, SqT.of o1', atI_nat (j := 4) rfl, la8, _, rfl, .inr (SqT.of o2'), rfl, flat_strs _, _, rfl, ?_⟩
            show if inV (V.str ",") (o.zs.map V.str) = true then _ else _
            cases hcom : inV (V.str ",") (o.zs.map V.str) with
            | false => exact iteF ⟨D4, _, _, _, _, _, rfl, hT8.to (by omega) (fun ws m => m.run0 nev), hD4, k8, p8.mono (by omega)⟩
            | true =>
              have com : ("," : Str) ∈ o.zs := by rw [inV_strs] at hcom; exact of_decide_eq_true hcom
              refine iteT ⟨_, rfl, one, fun L hL => ⟨_, rfl, p, _, 3, rfl, p8.new hL, by omega, by decide, by decide, fun n H9 n0 n1 k9 p9 => ?_⟩⟩
              have Lp : L ≠ p := pool_ne p8 hL
              obtain ⟨ws8, y1, y2, y3, y4⟩ := hT8
              have y9 : H9 D4 = some (.lst (ws8.map V.str)) := k9 _ _ D4p (by rw [upd_ne (ne_of_none y1 hL)]; exact y1)
              refine ⟨L, n, _, rfl, rfl, k9 _ _ Lp upd_same, by omega, by omega, ?_, fun R hR => ?_⟩
              · show 1 * n.toNat ≤ sizeLine
                exact line_ge (by omega)
              refine ⟨D4, R, _, _, rfl, rfl, by rw [upd_ne (ne_of_none y9 hR)]; exact y9, upd_same, ?_, fun D5 hD5 => ?_⟩
              · rw [rep_one, List.length_map, List.length_map, List.length_replicate]; exact line_ge (by omega)
              have k10 := ((k8.new hL).trans k9).new (o := .lst (List.replicate n.toNat [V.str ","]).flatten) hR
              have p10 := p9.new (o := .lst (List.replicate n.toNat [V.str ","]).flatten) hR
              refine ⟨D5, _, _, _, _, _, rfl, ⟨ws8 ++ List.replicate n.toNat ("," : Str), by rw [upd_same, List.map_append, rep_one], ?_, fun y hy => ?_, y4.run nev (.inr com)⟩, Keep.free k10 (pool_ne p10 hD5) hD5, k10.new hD5, (p10.new hD5).mono (by omega)⟩
              · rw [List.length_append, List.length_replicate]; omega
              · rcases List.mem_append.mp hy with hy | hy
                · exact y3 y hy
                · rw [List.eq_of_mem_replicate hy]; exact comma_tiny.1
      · rintro σ H2 ⟨D, v4, v5, v6, v7, v8, rfl, hT, hD, k2, p2⟩
        rw [List.length_map] at hT p2
        exact ⟨D, v4, v5, v6, v7, v8, rfl, hT.to (by omega) (fun _ m => m), hD, k2, p2.mono (by omega)⟩
    rintro σ H2 ⟨D, v4, v5, v6, v7, v8, rfl, ⟨ws, w1, w2, w3, w4⟩, hD, k2, p2⟩
    refine ⟨_, rfl, one, fun L hL => ?_⟩
    refine ⟨D, L, _, _, rfl, rfl, by rw [upd_ne (ne_of_none w1 hL)]; exact w1, upd_same, ?_, fun D' hD' => q D' _ (Keep.free (k2.new hL) (pool_ne (p2.new hL) hD') hD') ⟨ws ++ [("]" : Str)], by rw [upd_same, List.map_append]; rfl, ?_, fun y hy => ?_, fun P lab v0 s0 h0 => l_end w4 P lab v0 s0 h0⟩ ((k2.new hL).new hD') (((p2.new hL).new hD').mono (by omega))⟩
    · rw [List.length_map]; exact line_ge (by show ws.length + 1 ≤ _; omega)
    · rw [List.length_append]; show ws.length + 1 ≤ 30; omega
    · rcases List.mem_append.mp hy with hy | hy
      · exact w3 y hy
      · exact sgl comma_tiny.2.2.1 y hy
end
end K5

namespace K5
open PySem L2
/-! a written entry, token by token -/
abbrev Es := List (Str × Val)
def shape (P : List Ent) : Es := P.map fun e => (e.1, e.2.1)
theorem shape_snoc (P : List Ent) (z : Str) (x : Val × List Str) : shape (P ++ [(z, x)]) = shape P ++ [(z, x.1)] := by
  unfold shape
  rw [List.map_append]
  rfl
/-- where a file may stand that has i of n entries -/
structure WS (o : Opts) (n i : Nat) (st : Str) : Prop where
  w : i < n → stepL o.lang st (some ("word" : Str)) = some ("name" : Str)
  d : i = n → closesL o.lang st = true
/-- i entries stand written -/
def W0 (o : Opts) (es : Es) (i : Nat) (ws : List Str) : Prop := ∃ st P, runM o.lang ("start", []) ws = some (st, P) ∧ shape P = es.take i ∧ WS o es.length i st
/-- and a label -/
def W1 (o : Opts) (es : Es) (i : Nat) (z : Str) (ws : List Str) : Prop := ∃ P, runM o.lang ("start", []) ws = some (("name" : Str), P ++ [(z, (.word "yes", []))]) ∧ shape P = es.take i
/-- where one stands behind the label and its sign -/
def EqS (o : Opts) (x : Val) (b : Bool) (st : Str) (v0 : Val) : Prop := (b = true ∧ st = "name" ∧ v0 = .word "yes") ∨ (b = false ∧ st = "equals" ∧ v0 = .non) ∨ (b = false ∧ st = "name" ∧ x ≠ .non ∧ o.e = "may")
def W2 (o : Opts) (es : Es) (i : Nat) (z : Str) (x : Val) (b : Bool) (ws : List Str) : Prop := ∃ P st v0, runM o.lang ("start", []) ws = some (st, P ++ [(z, (v0, []))]) ∧ shape P = es.take i ∧ EqS o x b st v0
/-- where one stands behind the value -/
def VS (x : Val) (b : Bool) (st : Str) : Prop := (b = true ∧ st = "name") ∨ (b = false ∧ x = .non ∧ st = "equals") ∨ (b = false ∧ x ≠ .non ∧ st = "done")
def W3 (o : Opts) (es : Es) (i : Nat) (z : Str) (x : Val) (b : Bool) (ws : List Str) : Prop := ∃ P st ms, runM o.lang ("start", []) ws = some (st, P ++ [(z, (x, ms))]) ∧ shape P = es.take i ∧ VS x b st
theorem w_begin (o : Opts) (es : Es) : W0 o es 0 [] := ⟨"start", [], rfl, rfl, ⟨fun _ => s_start _, fun _ => rfl⟩⟩
theorem w_label {o : Opts} {es : Es} {i : Nat} {ws : List Str} {z : Str} (h : W0 o es i ws) (hi : i < es.length) (hz : wd z = true) : W1 o es i z (ws ++ [z]) := by
  obtain ⟨st, P, r, e, s⟩ := h
  refine ⟨P, ?_, e⟩
  rw [runM_app, r]
  exact one_name (by rw [wd_w hz]; exact s.w hi)
theorem w_sign {o : Opts} {es : Es} {i k : Nat} {ws : List Str} {z : Str} {x : Val} (h : W1 o es i z ws) (hk : k = 0 ∨ ("=" : Str) ∈ o.zs) : W2 o es i z x false (ws ++ [("=" : Str)] ++ List.replicate k ("=" : Str)) := by
  obtain ⟨P, r, e⟩ := h
  refine ⟨P, "equals", .non, ?_, e, .inr (.inl ⟨rfl, rfl, rfl⟩)⟩
  rw [runM_app, runM_app, r]
  show ((runM o.lang (("name" : Str), P ++ [(z, (.word "yes", []))]) [("=" : Str)]).bind fun m' => runM o.lang m' (List.replicate k ("=" : Str))) = _
  rw [one_more (s' := "equals") (by rw [sign_sort _ (by decide +kernel)]; exact s_nameE _) (by decide +kernel), sv_equ]
  show runM o.lang (("equals" : Str), P ++ [(z, (.non, []))]) (List.replicate k ("=" : Str)) = _
  rcases hk with rfl | hk
  · rfl
  · refine many_more ?_ (by decide +kernel) (sv_equ _ _) k
    rw [sign_sort _ (by decide +kernel)]
    exact s_equE _ (by rw [inDb_eq o _ (by decide +kernel)]; exact decide_eq_true hk)
theorem w_bare {o : Opts} {es : Es} {i : Nat} {ws : List Str} {z : Str} {x : Val} (h : W1 o es i z ws) : W2 o es i z x true ws := by
  obtain ⟨P, r, e⟩ := h
  exact ⟨P, "name", .word "yes", r, e, .inl ⟨rfl, rfl, rfl⟩⟩
theorem w_none {o : Opts} {es : Es} {i : Nat} {ws : List Str} {z : Str} {x : Val} (h : W1 o es i z ws) (hx : x ≠ .non) (he : o.e = "may") : W2 o es i z x false ws := by
  obtain ⟨P, r, e⟩ := h
  exact ⟨P, "name", .word "yes", r, e, .inr (.inr ⟨rfl, rfl, hx, he⟩)⟩
theorem isE_of {o : Opts} (h : o.e = "may") : isE o.lang = true := decide_eq_true h
/-- where a value may begin -/
theorem eq_steps {o : Opts} {x v0 : Val} {st : Str} (h : EqS o x false st v0) : stepL o.lang st (some ("word" : Str)) = some ("done" : Str) ∧ stepL o.lang st (some ("number" : Str)) = some ("done" : Str) ∧ stepL o.lang st (some ("[" : Str)) = some ("open" : Str) := by
  rcases h with ⟨b, _⟩ | ⟨_, rfl, _⟩ | ⟨_, rfl, _, he⟩
  · cases b
  · exact s_equV _
  · exact s_nameV _ (isE_of he)
theorem w_word {o : Opts} {es : Es} {i : Nat} {ws : List Str} {z y : Str} (h : W2 o es i z (.word y) false ws) (hy : wd y = true) : W3 o es i z (.word y) false (ws ++ [y]) := by
  obtain ⟨P, st, v0, r, e, q⟩ := h
  refine ⟨P, "done", [], ?_, e, .inr (.inr ⟨rfl, (fun n => nomatch n), rfl⟩)⟩
  rw [runM_app, r]
  show runM o.lang (st, P ++ [(z, (v0, []))]) [y] = _
  rw [one_more (s' := "done") (by rw [wd_w hy]; exact (eq_steps q).1) (by decide +kernel), sv_done, single_word hy]
theorem w_num {o : Opts} {es : Es} {i : Nat} {ws : List Str} {z : Str} {n : Int} (h : W2 o es i z (.num n) false ws) (h0 : 0 ≤ n) (h1 : n < 1000000000000) : W3 o es i z (.num n) false (ws ++ [numT n]) := by
  obtain ⟨P, st, v0, r, e, q⟩ := h
  refine ⟨P, "done", [], ?_, e, .inr (.inr ⟨rfl, (fun n => nomatch n), rfl⟩)⟩
  rw [runM_app, r]
  show runM o.lang (st, P ++ [(z, (v0, []))]) [numT n] = _
  rw [one_more (s' := "done") (by rw [num_sort h0 h1]; exact (eq_steps q).2.1) (by decide +kernel), sv_done, single_num h0 h1]
theorem w_list {o : Opts} {es : Es} {i : Nat} {ws ys zs : List Str} {z : Str} (h : W2 o es i z (.lst zs) false ws) (hy : LDone o zs ys) : W3 o es i z (.lst zs) false (ws ++ ys) := by
  obtain ⟨P, st, v0, r, e, q⟩ := h
  refine ⟨P, "done", zs, ?_, e, .inr (.inr ⟨rfl, (fun n => nomatch n), rfl⟩)⟩
  rw [runM_app, r]
  exact hy P z v0 st (eq_steps q).2.2
theorem w_yes {o : Opts} {es : Es} {i : Nat} {ws : List Str} {z : Str} (h : W2 o es i z (.word "yes") true ws) : W3 o es i z (.word "yes") true ws := by
  obtain ⟨P, st, v0, r, e, q⟩ := h
  rcases q with ⟨_, rfl, rfl⟩ | ⟨b, _⟩ | ⟨b, _⟩
  · exact ⟨P, _, [], r, e, .inl ⟨rfl, rfl⟩⟩
  · cases b
  · cases b
theorem w_non {o : Opts} {es : Es} {i : Nat} {ws : List Str} {z : Str} (h : W2 o es i z .non false ws) : W3 o es i z .non false ws := by
  obtain ⟨P, st, v0, r, e, q⟩ := h
  rcases q with ⟨b, _⟩ | ⟨_, rfl, rfl⟩ | ⟨_, _, n, _⟩
  · cases b
  · exact ⟨P, _, [], r, e, .inr (.inl ⟨rfl, rfl, rfl⟩)⟩
  · exact absurd rfl n
theorem take_next {es : Es} {i : Nat} {z : Str} {x : Val} (h : es[i]? = some (z, x)) : es.take (i + 1) = es.take i ++ [(z, x)] := by
  rw [List.take_add_one, h]
  rfl
theorem w_end {o : Opts} {es : Es} {i k : Nat} {ws : List Str} {z : Str} {x : Val} {b : Bool} (h : W3 o es i z x b ws) (hz : es[i]? = some (z, x)) (hb : b = true → o.b = true) (hx : x = .non → o.x = true) (hk : k = 0 ∨ (";" : Str) ∈ o.zs) : W0 o es (i + 1) (ws ++ [(";" : Str)] ++ List.replicate k (";" : Str)) := by
  obtain ⟨P, st, ms, r, e, q⟩ := h
  have s1 : stepL o.lang st (sortO (some (";" : Str))) = some ("ended" : Str) := by
    rw [sign_sort _ (by decide +kernel)]
    rcases q with ⟨q, rfl⟩ | ⟨_, q, rfl⟩ | ⟨_, _, rfl⟩
    · exact s_nameS _ (hb q)
    · exact s_equS _ (hx q)
    · exact s_doneE _
  refine ⟨"ended", P ++ [(z, (x, ms))], ?_, by rw [shape_snoc, e, take_next hz], ⟨fun _ => s_ended _, fun _ => by kernel_rfl⟩⟩
  rw [runM_app, runM_app, r]
  show ((runM o.lang (st, P ++ [(z, (x, ms))]) [(";" : Str)]).bind fun m' => runM o.lang m' (List.replicate k (";" : Str))) = _
  rw [one_more s1 (by decide +kernel), sv_ended]
  show runM o.lang (("ended" : Str), P ++ [(z, (x, ms))]) (List.replicate k (";" : Str)) = _
  rcases hk with rfl | hk
  · rfl
  · refine many_more ?_ (by decide +kernel) (sv_ended _ _) k
    rw [sign_sort _ (by decide +kernel)]
    exact s_end2 _ (by rw [inDb_eq o _ (by decide +kernel)]; exact decide_eq_true hk)
theorem w_skip {o : Opts} {es : Es} {i : Nat} {ws : List Str} {z : Str} {x : Val} {b : Bool} (h : W3 o es i z x b ws) (hz : es[i]? = some (z, x)) (fit : o.Fit) (hb : b = true → o.b = true) (hx : x = .non → o.x = true)
    (n1 : o.n ≠ "must") (n2 : i + 1 < es.length → o.n ≠ "between") (n3 : i + 1 < es.length → x ≠ .non ∧ ¬(b = true ∧ o.e = "may")) : W0 o es (i + 1) ws := by
  obtain ⟨P, st, ms, r, e, q⟩ := h
  refine ⟨st, P ++ [(z, (x, ms))], r, by rw [shape_snoc, e, take_next hz], ⟨fun lt => ?_, fun eq => ?_⟩⟩
  · have nm : o.n = "may" := by
      have := fit.n
      simp only [List.mem_cons, List.not_mem_nil, or_false] at this
      rcases this with h | h | h
      · exact absurd h n1
      · exact absurd h (n2 lt)
      · exact h
    have hn : isN o.lang = true := decide_eq_true nm
    obtain ⟨x1, x2⟩ := n3 lt
    rcases q with ⟨q, rfl⟩ | ⟨_, q, rfl⟩ | ⟨_, _, rfl⟩
    · exact s_nameW _ (decide_eq_false fun m => x2 ⟨q, m⟩) (hb q) hn
    · exact absurd q x1
    · exact s_doneW _ hn
  · have hn : ¬ o.lang.n = "must" := n1
    unfold closesL
    rcases q with ⟨q, rfl⟩ | ⟨_, q, rfl⟩ | ⟨_, _, rfl⟩
    · rw [if_neg (by decide +kernel), if_neg hn, if_neg (by decide +kernel)]
      have : o.lang.b = true := hb q
      rw [this, Bool.and_true]
      exact Bool.or_eq_true_iff.mpr (.inl (by decide +kernel))
    · rw [if_neg (by decide +kernel), if_neg hn, if_neg (by decide +kernel)]
      have : o.lang.x = true := hx q
      rw [this, Bool.and_true]
      rw [Bool.or_eq_true_iff]
      exact .inr (by decide +kernel)
    · rw [if_neg (by decide +kernel), if_neg hn, if_pos rfl]
/-- a whole written file is read, and gives its entries back -/
theorem w_read {o : Opts} {es : Es} {ws : List Str} (h : W0 o es es.length ws) : ∃ w, runL o.lang "start" (ws.map some) = .inl w ∧ w.length = ws.length ∧ entriesL (ws.map some) w = es := by
  obtain ⟨st, P, r, e, s⟩ := h
  obtain ⟨w, h1, h2, h3⟩ := runM_read r (s.d rfl)
  refine ⟨w, h1, h2, ?_⟩
  rw [h3]
  have e : shape P = es.take es.length := e
  rw [List.take_length] at e
  exact e
end K5

namespace K5
open PySem L2
abbrev sWritten : Stmt := top 54
/-- a value as data -/
def valD : Val → PyData
  | .word z => .str z
  | .num n => .int n
  | .lst zs => .tuple (zs.map PyData.str)
  | .non => .none
def RowE (o : Opts) (m : Nat) (H : Hp) (t : V) (e : Str × Val) : Prop := ∃ (u : Addr) (v : V), t = .ref u ∧ H u = some (.tup [.str e.1, v]) ∧ wd e.1 = true ∧ VAt H v e.2 ∧ AmtOk o m e.2
def spWritten : Sp := fun vs H Q _ => ∃ (p : Addr) (c : Nat) (oa : Addr) (o : Opts) (e : Addr) (ts : List V) (es : Es), vs = [.ref p, .ref oa, .ref e] ∧ Pool H p c ∧ c ≤ 500000 ∧ OptsAt H oa o ∧ o.Fit ∧ H e = some (.lst ts) ∧ e ≠ p ∧ ts.length = es.length ∧ es.length ≤ 9 ∧ (∀ (j : Nat) (t : V) (q : Str × Val), ts[j]? = some t → es[j]? = some q → RowE o 5 H t q) ∧
  ∀ (D : Addr) (H' : Hp), H D = none → TxtR H' D 420 (W0 o es es.length) → Keep p H H' → Pool H' p (c + 400) → Q (.ref D) H'
theorem eqv_word {z : Str} (h : PyData.eqv (.str z) (.str "yes") = true) : z = "yes" := by rw [PyData.eqv] at h; exact eq_of_beq h
theorem eqv_num {n : Int} (h : PyData.eqv (.int n) (.str "yes") = true) : False := by rw [PyData.eqv] at h; all_goals simp at h
theorem eqv_tup {ds : List PyData} (h : PyData.eqv (.tuple ds) (.str "yes") = true) : False := by rw [PyData.eqv] at h; all_goals simp at h
theorem eqv_non (h : PyData.eqv .none (.str "yes") = true) : False := absurd h (by decide +kernel)
def B15 (o : Opts) (x : Val) (b : Bool) : Prop := b = true → o.b = true ∧ x = .word "yes"
def B16 (o : Opts) (x : Val) (b15 b : Bool) : Prop := b15 = false → b = false → x ≠ .non ∧ o.e = "may"
theorem sign0 {o : Opts} {es : Es} {i : Nat} {ws : List Str} {z : Str} {x : Val} (h : W1 o es i z ws) : W2 o es i z x false (ws ++ [("=" : Str)]) := by
  have := w_sign (x := x) h (k := 0) (.inl rfl)
  rwa [List.replicate_zero, List.append_nil] at this
theorem end0 {o : Opts} {es : Es} {i : Nat} {ws : List Str} {z : Str} {x : Val} {b : Bool} (h : W3 o es i z x b ws) (hz : es[i]? = some (z, x)) (hb : b = true → o.b = true) (hx : x = .non → o.x = true) : W0 o es (i + 1) (ws ++ [(";" : Str)]) := by
  have := w_end h hz hb hx (k := 0) (.inl rfl)
  rwa [List.replicate_zero, List.append_nil] at this
theorem in_zs {z : Str} {zs : List Str} (h : inV (V.str z) (zs.map V.str) = true) : z ∈ zs := by rw [inV_strs] at h; exact of_decide_eq_true h
def B17 (o : Opts) (x : Val) (b15 b : Bool) : Prop := b = false → x ≠ .non ∧ ¬(b15 = true ∧ o.e = "may")
def B18 (o : Opts) (b14 b17 b : Bool) : Prop := b = false → o.n ≠ "must" ∧ (b14 = false → o.n ≠ "between") ∧ (b14 = false → b17 = false)
abbrev nWritten : List Str := ["_law_pool_here", "_law_options_here", "_law_entries", "_law_signs", "_law_ends", "_law_commas", "_law_final", "_law_twice", "_law_may_be_bare", "_law_may_lack", "_law_file", "_law_place", "_law_label", "_law_value", "_law_is_final", "_law_is_bare", "_law_needs_sign", "_law_is_loose", "_law_is_wanted"]
theorem num_tiny {n : Int} (h0 : 0 ≤ n) (h1 : n < 1000000000000) : tiny ((toString n : String) : Str) = true := by
  have e : n = ((n.toNat : Nat) : Int) := by omega
  have e2 : ((toString n : String) : Str) = K5S.S (TL.numL n.toNat) := by
    rw [e]
    exact SX.num_S n.toNat
  have hl : (TL.numL n.toNat).length ≤ 12 := TL.numL_len (by decide) (by omega)
  rw [e2]
  unfold tiny
  rw [K5S.S_len, decide_eq_true (by omega : (TL.numL n.toNat).length ≤ 30), Bool.true_and, K5S.S_cps]
  exact List.all_eq_true.mpr fun c hc => decide_eq_true (by have := TL.numL_digits n.toNat c hc; omega)
/-- str() of a text or an int -/
theorem call_strX {X : Cx} : CallR X (.type "str") (fun xs H Q => (∃ a, xs = [.str a] ∧ Q (.str a) H) ∨ ∃ i : Int, xs = [.int i] ∧ i.natAbs.log2 < 1920 ∧ Q (.str (toString i)) H) := by
  intro pins s σ H xs us Q I r h
  rcases h with h | h
  · exact SkE.call_str_str pins s σ H xs us Q I r h
  · exact call_str_int pins s σ H xs us Q I r h
section
variable {P : Program} {w : World} {K : PySem.W.Frag} {mg : Str → Option Value} {base : Heap}
theorem scWritten : FnScope nWritten ["_law_pool_here", "_law_options_here", "_law_entries"] (defScope sWritten) := ⟨rfl, rfl, rfl, by decide +kernel, rfl, by decide +kernel, by decide +kernel⟩
theorem ok_written {f : Addr} {fd : FuncData} (F : Fun K "_law_written" "_law_written" sWritten f fd) (T : Bare mg) (hE : mg "enumerate" = none) (GP : Fn P w K mg base 1 "_law_pick" ["_law_pool_here", "_law_many"] spPick) (GL : Fn P w K mg base 2 "_law_written_list" ["_law_pool_here", "_law_options_here", "_law_items_here"] spWList) :
    FnOk P w K mg base CX0 3 f fd ["_law_pool_here", "_law_options_here", "_law_entries"] spWritten := by
  refine F.ok scWritten (fun vs H Q E h => ?_) (fun cdv A outer s H vs Q E hr h => ?_)
  · obtain ⟨p, c, oa, o, e, ts, es, rfl, _⟩ := h
    rfl
  · obtain ⟨p, c, oa, o, e, ts, es, rfl, hp, hc, ho, fit, he, hep, hte, hl, hrow, q⟩ := h
    have hr1 : Room 1 _ := hr.mono (by decide)
    refine ⟨_, C8.pss_cut (ps_asg (pv 1) (pg_tup (by rfl) (pgs_cons (pg_name (i := 3) scWritten.nd rfl (.inl rfl)) (pgs_cons (pg_name (i := 4) scWritten.nd rfl (.inl rfl)) (pgs_cons (pg_name (i := 5) scWritten.nd rfl (.inl rfl)) (pgs_cons (pg_name (i := 6) scWritten.nd rfl (.inl rfl)) (pgs_cons (pg_name (i := 7) scWritten.nd rfl (.inl rfl)) (pgs_cons (pg_name (i := 8) scWritten.nd rfl (.inl rfl)) (pgs_cons (pg_name (i := 9) scWritten.nd rfl (.inl rfl)) pgs_nil)))))))))
      (C8.pss_cut (ps_set (i := 10) scWritten.nd rfl (.inl rfl) (pe_lst pa_nil))
      (C8.pss_cut (ps_for PassesOwn.never rfl (pi_enum (by rfl) hE (pa_cons (pv 2) pa_nil)) (pg_tup (by rfl) (pgs_cons (pg_name (i := 11) scWritten.nd rfl (.inl rfl)) (pgs_cons (pg_tup (by rfl) (pgs_cons (pg_name (i := 12) scWritten.nd rfl (.inl rfl)) (pgs_cons (pg_name (i := 13) scWritten.nd rfl (.inl rfl)) pgs_nil))) pgs_nil)))
          (C8.pss_cut (ps_set (i := 14) scWritten.nd rfl (.inl rfl) (pe_cmpR op_eq (pv 11) (pe_op op_sub (pe_callB call_len_seq (by rfl) T.len PySem.boot_len (pa_cons (pv 2) pa_nil)) pe_int) (nomark _)))
          (C8.pss_cut (ps_expr (pe_bm PySem.F.plainAttrs_list PySem.F.slot_list_append PySem.F.type_list_append mt_append (pv 10) (pa_cons (pv 12) pa_nil)))
          (C8.pss_cut (ps_set (i := 15) scWritten.nd rfl (.inl rfl) (pe_and (pv 8) (pe_and (pe_cmpR (op_eqD hr.units) (pv 13) pe_str (nomark _)) (pe_one (pe_cmpR op_gt (pe_fn GP hr1 rfl (pa_cons (pv 0) (pa_cons pe_int pa_nil))) pe_int (nomark _))))))
          (C8.pss_cut (ps_set (i := 16) scWritten.nd rfl (.inl rfl) (pe_or (pe_cmpR op_isN (pv 13) pe_non (nomark _)) (pe_or (pe_cmpR op_eq (pv 3) pe_str (nomark _)) (pe_one (pe_cmpR op_eq (pe_fn GP hr1 rfl (pa_cons (pv 0) (pa_cons pe_int pa_nil))) pe_int (nomark _))))))
          (C8.pss_cut (ps_if (PW.pt (pw_and (pt_not (pt_val (pv 15))) (pw_and1 (pt_val (pv 16))))) (C8.pss_cut (ps_expr (pe_bm PySem.F.plainAttrs_list PySem.F.slot_list_append PySem.F.type_list_append mt_append (pv 10) (pa_cons pe_str pa_nil))) (pss_one (ps_if (pt_cmpR op_in_seq pe_str (pv 7) (by rfl)) (pss_one (ps_set (i := 10) scWritten.nd rfl (.inl rfl) (pe_op op_cat (pv 10) (pe_op op_rep (pe_lst (pa_cons pe_str pa_nil)) (pe_fn GP hr1 rfl (pa_cons (pv 0) (pa_cons pe_int pa_nil))))))) pss_nil))) pss_nil)
          (C8.pss_cut (ps_if (pt_val (pe_callB call_isi (by rfl) T.isi (by decide +kernel) (pa_cons (pv 13) (pa_cons (pe_bltn (v := .ty "tuple") (by rfl) T.tuple (by decide +kernel) rfl) pa_nil)))) (pss_one (ps_set (i := 10) scWritten.nd rfl (.inl rfl) (pe_op op_cat (pv 10) (pe_fn GL hr rfl (pa_cons (pv 0) (pa_cons (pv 1) (pa_cons (pv 13) pa_nil))))))) (pss_one (ps_if (PW.pt (pw_and (pt_not (pt_val (pv 15))) (pw_and1 (pt_cmpR op_notN (pv 13) pe_non (nomark _))))) (pss_one (ps_expr (pe_bm PySem.F.plainAttrs_list PySem.F.slot_list_append PySem.F.type_list_append mt_append (pv 10) (pa_cons (pe_callTy call_strX (by rfl) T.str (by decide +kernel) (pa_cons (pv 13) pa_nil)) pa_nil)))) pss_nil)))
          (C8.pss_cut (ps_set (i := 17) scWritten.nd rfl (.inl rfl) (pe_or (pe_cmpR op_isN (pv 13) pe_non (nomark _)) (pe_one (pe_and (pv 15) (pe_one (pe_cmpR op_eq (pv 3) pe_str (nomark _)))))))
          (C8.pss_cut (ps_set (i := 18) scWritten.nd rfl (.inl rfl) (pe_or (pe_cmpR op_eq (pv 4) pe_str (nomark _)) (pe_or (pe_and (pe_cmpR op_eq (pv 4) pe_str (nomark _)) (pe_one (pe_not (pv 14)))) (pe_one (pe_and (pv 17) (pe_one (pe_not (pv 14))))))))
          (pss_one (ps_if (PW.pt (pw_or (pt_val (pv 18)) (pw_or1 (pt_cmpR op_eq (pe_fn GP hr1 rfl (pa_cons (pv 0) (pa_cons pe_int pa_nil))) pe_int (nomark _))))) (C8.pss_cut (ps_expr (pe_bm PySem.F.plainAttrs_list PySem.F.slot_list_append PySem.F.type_list_append mt_append (pv 10) (pa_cons pe_str pa_nil))) (pss_one (ps_if (pt_cmpR op_in_seq pe_str (pv 7) (by rfl)) (pss_one (ps_set (i := 10) scWritten.nd rfl (.inl rfl) (pe_op op_cat (pv 10) (pe_op op_rep (pe_lst (pa_cons pe_str pa_nil)) (pe_fn GP hr1 rfl (pa_cons (pv 0) (pa_cons pe_int pa_nil))))))) pss_nil))) pss_nil)))))))))))
      (pss_one (ps_ret (pv 10))))), ?_⟩
    have one : 1 ≤ sizeLine := by decide
    have sgl : ∀ {z : Str}, tiny z = true → ∀ y ∈ [z], tiny y = true := fun h y hy => by rw [List.mem_singleton.mp hy]; exact h
    obtain ⟨la, o1, o2⟩ := id ho
    refine ⟨fun σ H' => σ = [some (.ref p), some (.ref oa), some (.ref e), some (.str o.e), some (.str o.n), some (.str o.c), some (.str o.l), some (.ref la), some (.bl o.b), some (.bl o.x), none, none, none, none, none, none, none, none, none] ∧ H' = H, ?_, ?_⟩
    · exact ⟨_, rfl, oa, _, rfl, SqT.of o1, rfl, _, _, rfl, _, _, rfl, _, _, rfl, _, _, rfl, _, _, rfl, _, _, rfl, _, _, rfl, rfl, rfl, rfl⟩
    rintro σ H0 ⟨rfl, rfl⟩
    refine ⟨fun σ H' => ∃ D, σ = [some (.ref p), some (.ref oa), some (.ref e), some (.str o.e), some (.str o.n), some (.str o.c), some (.str o.l), some (.ref la), some (.bl o.b), some (.bl o.x), some (.ref D), none, none, none, none, none, none, none, none] ∧ H' = upd H0 D (.lst []) ∧ H0 D = none, ⟨Nat.zero_le _, fun D hD => ⟨D, rfl, rfl, hD⟩⟩, ?_⟩
    rintro σ H1 ⟨D0, rfl, rfl, hD0⟩
    have k0 : Keep p H0 (upd H0 D0 (.lst [])) := (Keep.refl p H0).new hD0
    have p0 : Pool (upd H0 D0 (.lst [])) p c := hp.new hD0
    refine ⟨fun σ H' => ∃ (D : Addr) (v11 v12 v13 v14 v15 v16 v17 v18 : Option V), σ = [some (.ref p), some (.ref oa), some (.ref e), some (.str o.e), some (.str o.n), some (.str o.c), some (.str o.l), some (.ref la), some (.bl o.b), some (.bl o.x), some (.ref D), v11, v12, v13, v14, v15, v16, v17, v18] ∧ TxtR H' D 420 (W0 o es es.length) ∧ H0 D = none ∧ Keep p H0 H' ∧ Pool H' p (c + 400), ?_, ?_⟩
    · refine ⟨_, rfl, e, _, rfl, SqL.of (k0 _ _ hep he), for_it walk_enum (fun i σ H' => ∃ (D : Addr) (v11 v12 v13 v14 v15 v16 v17 v18 : Option V), σ = [some (.ref p), some (.ref oa), some (.ref e), some (.str o.e), some (.str o.n), some (.str o.c), some (.str o.l), some (.ref la), some (.bl o.b), some (.bl o.x), some (.ref D), v11, v12, v13, v14, v15, v16, v17, v18] ∧ TxtR H' D (45 * i) (W0 o es i) ∧ H0 D = none ∧ Keep p H0 H' ∧ Pool H' p (c + 40 * i)) ⟨D0, _, _, _, _, _, _, _, _, rfl, ⟨[], upd_same, Nat.le_refl _, (fun _ z => nomatch z), w_begin o es⟩, hD0, k0, p0⟩ (fun i σ H' _ ⟨_, _, _, _, _, _, _, _, _, _, _, _, k, _⟩ => SqL.of (k _ _ hep he)) ?_ ?_⟩
      · rintro i y σ H2 H2' hi ⟨D, v11, v12, v13, v14, v15, v16, v17, v18, rfl, hT, hD, k2, p2⟩ ⟨U, u, y, rfl, hU, rfl, hu, hy⟩
        cases hu
        have ie : i < es.length := by rw [← hte]; exact hi
        have i5 : i < 9 := by omega
        obtain ⟨⟨z, x⟩, hzx⟩ : ∃ q, es[i]? = some q := ⟨_, List.getElem?_eq_getElem ie⟩
        obtain ⟨ua, v, rfl, hua0, hz, hv0, hx⟩ := hrow i y (z, x) hy hzx
        have hz : wd z = true := hz
        have hv0 : VAt H0 v x := hv0
        have hx : AmtOk o 5 x := hx
        have hua0 : H0 ua = some (.tup [.str z, v]) := hua0
        have hU3 : upd H2 U (.tup [.int (i : Nat), .ref ua]) U = some (.tup [.int (i : Nat), .ref ua]) := upd_same
        have s3 := Same.new (o := .tup [.int (i : Nat), .ref ua]) (Same.refl H2) hU
        have k3 := k2.new (o := .tup [.int (i : Nat), .ref ua]) hU
        have p3 := p2.new (o := .tup [.int (i : Nat), .ref ua]) hU
        have hT3 := hT.same s3
        have hua3 := tup_keep hua0 k3 hp
        generalize upd H2 U (.tup [.int (i : Nat), .ref ua]) = H3 at *
        refine ⟨U, _, rfl, SqT.of hU3, rfl, _, _, rfl, _, _, rfl, ua, _, rfl, SqT.of hua3, rfl, _, _, rfl, _, _, rfl, rfl, rfl, ?_⟩
        have iteB : ∀ (b : Bool) (A B : Prop), (b = true → A) → (b = false → B) → if b = true then A else B := fun b A B h1 h2 => by
          cases b with
          | true => exact iteT (h1 rfl)
          | false => exact iteF (h2 rfl)
        have hDp : D ≠ p := pool_ne hp hD
        have hvk : ∀ {H'}, Keep p H0 H' → VAt H' v x := fun k => hv0.keep k hp
        refine ⟨fun σ H' => ∃ b14 : Bool, σ = [some (V.ref p), some (.ref oa), some (.ref e), some (.str o.e), some (.str o.n), some (.str o.c), some (.str o.l), some (.ref la), some (.bl o.b), some (.bl o.x), some (.ref D), some (.int (i : Nat)), some (.str z), some v, some (.bl b14), v15, v16, v17, v18] ∧ (b14 = true ↔ i + 1 = es.length) ∧ H' = H3, ?_, ?_⟩
        · refine ⟨_, rfl, _, rfl, e, _, rfl, .inl (SqL.of (k3 _ _ hep he)), _, _, rfl, rfl, rfl, _, rfl, ?_, rfl⟩
          constructor
          · intro e
            have := V.int.inj (of_decide_eq_true e)
            omega
          · intro e
            exact decide_eq_true (congrArg V.int (by omega))
        rintro σ H3' ⟨b14, rfl, h14, rfl⟩
        refine ⟨fun σ H' => σ = [some (V.ref p), some (.ref oa), some (.ref e), some (.str o.e), some (.str o.n), some (.str o.c), some (.str o.l), some (.ref la), some (.bl o.b), some (.bl o.x), some (.ref D), some (.int (i : Nat)), some (.str z), some v, some (.bl b14), v15, v16, v17, v18] ∧ TxtR H' D (45 * i + 1) (W1 o es i z) ∧ H0 D = none ∧ Keep p H0 H' ∧ Pool H' p (c + 40 * i), ?_, ?_⟩
        · obtain ⟨ws, x1, x2, x3, x4⟩ := hT3
          refine ⟨_, rfl, .inl ⟨rfl, _, SqL.of x1⟩, _, rfl, D, _, _, rfl, rfl, x1, ?_, rfl, ⟨ws ++ [z], by rw [upd_same, List.map_append]; rfl, ?_, fun y hy => ?_, w_label x4 ie hz⟩, hD, fun b o' n e' => ?_, p3.other (Ne.symm hDp)⟩
          · rw [List.length_map]; exact Nat.lt_of_le_of_lt (show _ ≤ 500 by omega) (by decide)
          · rw [List.length_append]; show ws.length + 1 ≤ _; omega
          · rcases List.mem_append.mp hy with hy | hy
            · exact x3 y hy
            · exact sgl (wd_t hz) y hy
          · rw [upd_ne (ne_of_none e' hD)]
            exact k3 b o' n e'
        rintro σ H4 ⟨rfl, hT4, _, k4, p4⟩
        have vnon : x = .non → v = .non := fun e => by rw [e] at hv0; exact hv0
        have hxn : x = .non → o.x = true := fun e => by rw [e] at hx; exact hx
        have eqd : ∃ d, Dp K H4 v d ∧ SeqAt.shaped d = true ∧ (PyData.eqv d (.str "yes") = true → x = .word "yes") := by
          have va := hvk k4
          cases x with
          | word w => cases va; exact ⟨_, .str _, (tiny_fair (wd_t hx)).shaped, fun h => by rw [eqv_word h]⟩
          | num n => cases va; exact ⟨_, .int _, by unfold SeqAt.shaped; rw [PyData.canLay0, PyData.depth]; rfl, fun h => (eqv_num h).elim⟩
          | non => cases va; exact ⟨_, .non, by decide +kernel, fun h => (eqv_non h).elim⟩
          | lst zs =>
            obtain ⟨t, rfl, ht⟩ := va
            refine ⟨_, .tup (SqT.of ht) (dp_strs _ _ zs), ?_, fun h => (eqv_tup h).elim⟩
            unfold SeqAt.shaped
            rw [PyData.canLay0, lay_strs zs (fun y hy => (hx.2 y hy).1.2), PyData.depth, Bool.true_and]
            have := dep_strs zs
            exact decide_eq_true (by omega)
        obtain ⟨d, hd, hsd, hdx⟩ := eqd
        refine ⟨fun σ H' => ∃ b15 : Bool, σ = [some (V.ref p), some (.ref oa), some (.ref e), some (.str o.e), some (.str o.n), some (.str o.c), some (.str o.l), some (.ref la), some (.bl o.b), some (.bl o.x), some (.ref D), some (.int (i : Nat)), some (.str z), some v, some (.bl b14), some (.bl b15), v16, v17, v18] ∧ TxtR H' D (45 * i + 1) (W1 o es i z) ∧ H0 D = none ∧ Keep p H0 H' ∧ Pool H' p (c + 40 * i + 1) ∧ B15 o x b15, ?_, ?_⟩
        · have fin3 : ∀ b : Bool, ∀ H', TxtR H' D (45 * i + 1) (W1 o es i z) → Keep p H0 H' → Pool H' p (c + 40 * i + 1) → B15 o x b → ∃ b15 : Bool, [some (V.ref p), some (.ref oa), some (.ref e), some (.str o.e), some (.str o.n), some (.str o.c), some (.str o.l), some (.ref la), some (.bl o.b), some (.bl o.x), some (.ref D), some (.int (i : Nat)), some (.str z), some v, some (.bl b14), some (.bl b), v16, v17, v18] = [some (V.ref p), some (.ref oa), some (.ref e), some (.str o.e), some (.str o.n), some (.str o.c), some (.str o.l), some (.ref la), some (.bl o.b), some (.bl o.x), some (.ref D), some (.int (i : Nat)), some (.str z), some v, some (.bl b14), some (.bl b15), v16, v17, v18] ∧ TxtR H' D (45 * i + 1) (W1 o es i z) ∧ H0 D = none ∧ Keep p H0 H' ∧ Pool H' p (c + 40 * i + 1) ∧ B15 o x b15 := fun b H' t k q hb => ⟨b, rfl, t, hD, k, q, hb⟩
          refine ⟨_, rfl, o.b, rfl, iteB o.b _ _ (fun hob => ?_) (fun _ => fin3 _ _ hT4 k4 (p4.mono (by omega)) (fun h => nomatch h))⟩
          refine ⟨_, rfl, d, .str "yes", hd, .str _, hsd, by decide +kernel, _, rfl, iteB (PyData.eqv d (.str "yes")) _ _ (fun heq => ?_) (fun _ => fin3 _ _ hT4 k4 (p4.mono (by omega)) (fun h => nomatch h))⟩
          exact ⟨_, rfl, p, _, 3, rfl, p4, by omega, by decide, by decide, fun n Hn n0 n1 kn pn => ⟨_, _, rfl, rfl, fin3 _ _ (hT4.keep kn hDp) (k4.trans kn) pn fun _ => ⟨hob, hdx heq⟩⟩⟩
        rintro σ H5 ⟨b15, rfl, hT5, _, k5, p5, h15⟩
        refine ⟨fun σ H' => ∃ b16 : Bool, σ = [some (V.ref p), some (.ref oa), some (.ref e), some (.str o.e), some (.str o.n), some (.str o.c), some (.str o.l), some (.ref la), some (.bl o.b), some (.bl o.x), some (.ref D), some (.int (i : Nat)), some (.str z), some v, some (.bl b14), some (.bl b15), some (.bl b16), v17, v18] ∧ TxtR H' D (45 * i + 1) (W1 o es i z) ∧ H0 D = none ∧ Keep p H0 H' ∧ Pool H' p (c + 40 * i + 2) ∧ B16 o x b15 b16, ?_, ?_⟩
        · have fin4 : ∀ b : Bool, ∀ H', TxtR H' D (45 * i + 1) (W1 o es i z) → Keep p H0 H' → Pool H' p (c + 40 * i + 2) → B16 o x b15 b → ∃ b16 : Bool, [some (V.ref p), some (.ref oa), some (.ref e), some (.str o.e), some (.str o.n), some (.str o.c), some (.str o.l), some (.ref la), some (.bl o.b), some (.bl o.x), some (.ref D), some (.int (i : Nat)), some (.str z), some v, some (.bl b14), some (.bl b15), some (.bl b), v17, v18] = [some (V.ref p), some (.ref oa), some (.ref e), some (.str o.e), some (.str o.n), some (.str o.c), some (.str o.l), some (.ref la), some (.bl o.b), some (.bl o.x), some (.ref D), some (.int (i : Nat)), some (.str z), some v, some (.bl b14), some (.bl b15), some (.bl b16), v17, v18] ∧ TxtR H' D (45 * i + 1) (W1 o es i z) ∧ H0 D = none ∧ Keep p H0 H' ∧ Pool H' p (c + 40 * i + 2) ∧ B16 o x b15 b16 := fun b H' t k q hb => ⟨b, rfl, t, hD, k, q, hb⟩
          refine ⟨_, rfl, rfl, _, rfl, iteB (decide (v = .non)) _ _ (fun _ => fin4 _ _ hT5 k5 (p5.mono (by omega)) (fun _ h => nomatch h)) (fun g1 => ?_)⟩
          refine ⟨_, rfl, rfl, _, rfl, iteB _ _ _ (fun _ => fin4 _ _ hT5 k5 (p5.mono (by omega)) (fun _ h => nomatch h)) (fun g2 => ?_)⟩
          have g3 : x ≠ .non ∧ o.e = "may" := by
            refine ⟨fun e => absurd (vnon e) (of_decide_eq_false g1), ?_⟩
            rw [eq_strB] at g2
            have := fit.e
            simp only [List.mem_cons, List.not_mem_nil, or_false] at this
            exact this.resolve_left (of_decide_eq_false g2)
          exact ⟨_, rfl, p, _, 2, rfl, p5, by omega, by decide, by decide, fun n Hn n0 n1 kn pn => ⟨rfl, fin4 _ _ (hT5.keep kn hDp) (k5.trans kn) pn fun _ _ => g3⟩⟩
        rintro σ H6 ⟨b16, rfl, hT6, _, k6, p6, h16⟩
        have o26 := tup_keep o2 k6 hp
        refine ⟨fun σ H' => ∃ Dn : Addr, σ = [some (V.ref p), some (.ref oa), some (.ref e), some (.str o.e), some (.str o.n), some (.str o.c), some (.str o.l), some (.ref la), some (.bl o.b), some (.bl o.x), some (.ref Dn), some (.int (i : Nat)), some (.str z), some v, some (.bl b14), some (.bl b15), some (.bl b16), v17, v18] ∧ TxtR H' Dn (45 * i + 4) (W2 o es i z x b15) ∧ H0 Dn = none ∧ Keep p H0 H' ∧ Pool H' p (c + 40 * i + 3), ?_, ?_⟩
        · have fin5 : ∀ (D' : Addr) (H' : Hp), TxtR H' D' (45 * i + 4) (W2 o es i z x b15) → H0 D' = none → Keep p H0 H' → Pool H' p (c + 40 * i + 3) → ∃ Dn : Addr, [some (V.ref p), some (.ref oa), some (.ref e), some (.str o.e), some (.str o.n), some (.str o.c), some (.str o.l), some (.ref la), some (.bl o.b), some (.bl o.x), some (.ref D'), some (.int (i : Nat)), some (.str z), some v, some (.bl b14), some (.bl b15), some (.bl b16), v17, v18] = [some (V.ref p), some (.ref oa), some (.ref e), some (.str o.e), some (.str o.n), some (.str o.c), some (.str o.l), some (.ref la), some (.bl o.b), some (.bl o.x), some (.ref Dn), some (.int (i : Nat)), some (.str z), some v, some (.bl b14), some (.bl b15), some (.bl b16), v17, v18] ∧ TxtR H' Dn (45 * i + 4) (W2 o es i z x b15) ∧ H0 Dn = none ∧ Keep p H0 H' ∧ Pool H' p (c + 40 * i + 3) := fun D' H' t h k q => ⟨D', rfl, t, h, k, q⟩
          refine ⟨_, rfl, b15, rfl, iteB (!b15) _ _ (fun f15 => ⟨_, rfl, b16, rfl, iteB b16 _ _ (fun _ => ?_) (fun f16 => fin5 D _ (hT6.to (by omega) fun ws m => by
            have e : b15 = false := by simpa using f15
            obtain ⟨q1, q2⟩ := h16 e f16
            rw [e]; exact w_none m q1 q2) hD k6 (p6.mono (by omega)))⟩) (fun f15 => fin5 D _ (hT6.to (by omega) fun ws m => by
            have e : b15 = true := by simpa using f15
            rw [e]; exact w_bare m) hD k6 (p6.mono (by omega)))⟩
          have e15 : b15 = false := by simpa using f15
          refine ⟨fun σ H' => σ = [some (V.ref p), some (.ref oa), some (.ref e), some (.str o.e), some (.str o.n), some (.str o.c), some (.str o.l), some (.ref la), some (.bl o.b), some (.bl o.x), some (.ref D), some (.int (i : Nat)), some (.str z), some v, some (.bl b14), some (.bl b15), some (.bl b16), v17, v18] ∧ TxtR H' D (45 * i + 1 + 1) (fun ws => ∃ ws0, ws = ws0 ++ [("=" : Str)] ∧ W1 o es i z ws0) ∧ Keep p H0 H' ∧ Pool H' p (c + 40 * i + 2), ?_, ?_⟩
          · obtain ⟨wsa, x1, x2, x3, x4⟩ := hT6
            refine ⟨_, rfl, .inl ⟨rfl, _, SqL.of x1⟩, D, _, _, rfl, rfl, x1, ?_, rfl, ⟨wsa ++ [("=" : Str)], by rw [upd_same, List.map_append]; rfl, ?_, fun y hy => ?_, wsa, rfl, x4⟩, fun b o' n e => ?_, p6.other (Ne.symm hDp)⟩
            · rw [List.length_map]; exact Nat.lt_of_le_of_lt (show _ ≤ 500 by omega) (by decide)
            · rw [List.length_append]; show wsa.length + 1 ≤ _; omega
            · rcases List.mem_append.mp hy with hy | hy
              · exact x3 y hy
              · exact sgl (show tiny "=" = true by decide +kernel) y hy
            · rw [upd_ne (ne_of_none e hD)]
              exact (k6) b o' n e
          rintro σ Ha ⟨rfl, hTa, ka, pa⟩
          have o2a := tup_keep o2 ka hp
          refine ⟨_, rfl, la, _, rfl, .inr (SqT.of o2a), rfl, flat_strs _, _, rfl, ?_⟩
          show if inV (V.str "=") (o.zs.map V.str) = true then _ else _
          cases hin : inV (V.str "=") (o.zs.map V.str) with
          | false => exact iteF (fin5 D Ha (hTa.to (by omega) fun ws ⟨ws0, e, m⟩ => by rw [e, e15]; exact sign0 m) hD ka (pa.mono (by omega)))
          | true =>
            refine iteT ⟨_, rfl, one, fun L hL => ⟨_, rfl, p, _, 3, rfl, pa.new hL, by omega, by decide, by decide, fun n Hb n0 n1 kb pb => ?_⟩⟩
            have Lp : L ≠ p := pool_ne pa hL
            obtain ⟨wsb, y1, y2, y3, ws0, ye, y4⟩ := hTa
            have yb : Hb D = some (.lst (wsb.map V.str)) := kb _ _ hDp (by rw [upd_ne (ne_of_none y1 hL)]; exact y1)
            refine ⟨L, n, _, rfl, rfl, kb _ _ Lp upd_same, by omega, by omega, ?_, fun R hR => ?_⟩
            · show 1 * n.toNat ≤ sizeLine
              exact line_ge (by omega)
            refine ⟨D, R, _, _, rfl, rfl, by rw [upd_ne (ne_of_none yb hR)]; exact yb, upd_same, ?_, fun D5 hD5 => ?_⟩
            · rw [rep_one, List.length_map, List.length_map, List.length_replicate]; exact line_ge (by omega)
            have k10 := ((ka.new hL).trans kb).new (o := .lst (List.replicate n.toNat [V.str "="]).flatten) hR
            have p10 := pb.new (o := .lst (List.replicate n.toNat [V.str "="]).flatten) hR
            refine fin5 D5 _ ⟨wsb ++ List.replicate n.toNat ("=" : Str), by rw [upd_same, List.map_append, rep_one], ?_, fun y hy => ?_, by rw [ye, e15]; exact w_sign y4 (.inr (in_zs hin))⟩ (Keep.free k10 (pool_ne p10 hD5) hD5) (k10.new hD5) ((p10.new hD5).mono (by omega))
            · rw [List.length_append, List.length_replicate]; omega
            · rcases List.mem_append.mp hy with hy | hy
              · exact y3 y hy
              · rw [List.eq_of_mem_replicate hy]; decide +kernel
        rintro σ H7 ⟨Dn, rfl, hT7, hDn, k7, p7⟩
        have hDnp : Dn ≠ p := pool_ne hp hDn
        refine ⟨fun σ H' => ∃ Dm : Addr, σ = [some (V.ref p), some (.ref oa), some (.ref e), some (.str o.e), some (.str o.n), some (.str o.c), some (.str o.l), some (.ref la), some (.bl o.b), some (.bl o.x), some (.ref Dm), some (.int (i : Nat)), some (.str z), some v, some (.bl b14), some (.bl b15), some (.bl b16), v17, v18] ∧ TxtR H' Dm (45 * i + 35) (W3 o es i z x b15) ∧ H0 Dm = none ∧ Keep p H0 H' ∧ Pool H' p (c + 40 * i + 30), ?_, ?_⟩
        · have fin6 : ∀ (D' : Addr) (H' : Hp), TxtR H' D' (45 * i + 35) (W3 o es i z x b15) → H0 D' = none → Keep p H0 H' → Pool H' p (c + 40 * i + 30) → ∃ Dn : Addr, [some (V.ref p), some (.ref oa), some (.ref e), some (.str o.e), some (.str o.n), some (.str o.c), some (.str o.l), some (.ref la), some (.bl o.b), some (.bl o.x), some (.ref D'), some (.int (i : Nat)), some (.str z), some v, some (.bl b14), some (.bl b15), some (.bl b16), v17, v18] = [some (V.ref p), some (.ref oa), some (.ref e), some (.str o.e), some (.str o.n), some (.str o.c), some (.str o.l), some (.ref la), some (.bl o.b), some (.bl o.x), some (.ref Dn), some (.int (i : Nat)), some (.str z), some v, some (.bl b14), some (.bl b15), some (.bl b16), v17, v18] ∧ TxtR H' Dn (45 * i + 35) (W3 o es i z x b15) ∧ H0 Dn = none ∧ Keep p H0 H' ∧ Pool H' p (c + 40 * i + 30) := fun D' H' t h k q => ⟨D', rfl, t, h, k, q⟩
          have va := hvk k7
          have appd : ∀ {y : Str}, tiny y = true → ∀ ws : List Str, W3 o es i z x b15 (ws ++ [y]) → H7 Dn = some (.lst (ws.map V.str)) → ws.length ≤ 45 * i + 4 → (∀ z ∈ ws, tiny z = true) → TxtR (upd H7 Dn (.lst (ws.map V.str ++ [.str y]))) Dn (45 * i + 35) (W3 o es i z x b15) ∧ Keep p H0 (upd H7 Dn (.lst (ws.map V.str ++ [.str y]))) ∧ Pool (upd H7 Dn (.lst (ws.map V.str ++ [.str y]))) p (c + 40 * i + 30) := fun {y} hy ws x0 x1 x2 x3 => by
            refine ⟨⟨ws ++ [y], by rw [upd_same, List.map_append]; rfl, ?_, fun y' hy' => ?_, x0⟩, fun b o' n e' => ?_, (p7.other (Ne.symm hDnp)).mono (by omega)⟩
            · rw [List.length_append]; show ws.length + 1 ≤ _; omega
            · rcases List.mem_append.mp hy' with hy' | hy'
              · exact x3 y' hy'
              · exact sgl hy y' hy'
            · rw [upd_ne (ne_of_none e' hDn)]
              exact k7 b o' n e'
          have skip := fun r => fin6 Dn H7 (hT7.to (by omega) r) hDn k7 (p7.mono (by omega))
          obtain ⟨ws, x1, x2, x3, x4⟩ := hT7
          have short : (ws.map V.str).length < sizeLine := by rw [List.length_map]; exact Nat.lt_of_le_of_lt (show _ ≤ 500 by omega) (by decide)
          cases x with
          | lst zs =>
            have e15 : b15 = false := by
              cases b15 with
              | false => rfl
              | true => exact nomatch (h15 rfl).2
            obtain ⟨t, rfl, ht⟩ := va
            refine ⟨_, rfl, .ref t, .ty "tuple", .type "tuple", .type "tuple", true, rfl, .ty "tuple", .base (.tup ht), kit_ty (by decide +kernel), true, rfl, iteT ?_⟩
            refine ⟨_, rfl, _, rfl, _, rfl, _, rfl, p, _, oa, o, t, zs, rfl, p7, by omega, ho.keep k7 hp, ht, hx.1, hx.2, fun L H8 hL hTL k8 p8 => ?_⟩
            obtain ⟨ys, y1, y2, y3, y4⟩ := hTL
            have x8 := k8 _ _ hDnp x1
            refine ⟨Dn, L, _, _, rfl, rfl, x8, y1, ?_, fun D' hD' => fin6 D' _ ⟨ws ++ ys, by rw [upd_same, List.map_append], ?_, fun y hy => ?_, by rw [e15] at x4 ⊢; exact w_list x4 y4⟩ (Keep.free (k7.trans k8) (pool_ne p8 hD') hD') ((k7.trans k8).new hD') ((p8.new hD').mono (by omega))⟩
            · rw [List.length_map, List.length_map]; exact line_ge (by omega)
            · rw [List.length_append]; omega
            · rcases List.mem_append.mp hy with hy | hy
              · exact x3 y hy
              · exact y3 y hy
          | word y =>
            cases va
            refine ⟨_, rfl, .str y, .ty "tuple", .type "str", .type "tuple", false, rfl, .ty "tuple", .base (.str y), kit_ty (by decide +kernel), false, rfl, iteF ?_⟩
            refine ⟨_, rfl, b15, rfl, iteB (!b15) _ _ (fun f15 => ⟨_, rfl, rfl, _, rfl, iteB _ _ _ (fun _ => ?_) (fun h => nomatch h)⟩) (fun f15 => skip fun ws m => by
              have e : b15 = true := by simpa using f15
              have e2 := (h15 e).2
              rw [e] at m ⊢
              rw [e2] at m ⊢
              exact w_yes m)⟩
            have e15 : b15 = false := by simpa using f15
            obtain ⟨a1, a2, a3⟩ := appd (wd_t hx) ws (by rw [e15] at x4 ⊢; exact w_word x4 hx) x1 x2 x3
            exact ⟨_, rfl, .inl ⟨rfl, _, SqL.of x1⟩, _, rfl, .inl ⟨_, rfl, Dn, _, _, rfl, rfl, x1, short, fin6 Dn _ a1 hDn a2 a3⟩⟩
          | num n =>
            cases va
            refine ⟨_, rfl, .int n, .ty "tuple", .type "int", .type "tuple", false, rfl, .ty "tuple", .base (.int n), kit_ty (by decide +kernel), false, rfl, iteF ?_⟩
            refine ⟨_, rfl, b15, rfl, iteB (!b15) _ _ (fun f15 => ⟨_, rfl, rfl, _, rfl, iteB _ _ _ (fun _ => ?_) (fun h => nomatch h)⟩) (fun f15 => nomatch (h15 (by simpa using f15)).2)⟩
            have e15 : b15 = false := by simpa using f15
            obtain ⟨a1, a2, a3⟩ := appd (num_tiny hx.1 hx.2) ws (by rw [e15] at x4 ⊢; exact w_num x4 hx.1 hx.2) x1 x2 x3
            refine ⟨_, rfl, .inl ⟨rfl, _, SqL.of x1⟩, _, rfl, .inr ⟨_, rfl, ?_, Dn, _, _, rfl, rfl, x1, short, fin6 Dn _ a1 hDn a2 a3⟩⟩
            have n0 : 0 ≤ n := hx.1
            have n1 : n < 1000000000000 := hx.2
            have n2 : n.natAbs.log2 < 40 := PySem.Flt.log2_lt_of (by decide) (show n.natAbs < 2 ^ 40 by omega)
            omega
          | non =>
            cases va
            refine ⟨_, rfl, .non, .ty "tuple", .type "NoneType", .type "tuple", false, rfl, .ty "tuple", .base .non, kit_ty (by decide +kernel), false, rfl, iteF ?_⟩
            exact ⟨_, rfl, b15, rfl, iteB (!b15) _ _ (fun f15 => ⟨_, rfl, rfl, _, rfl, iteB _ _ _ (fun h => nomatch h) (fun _ => skip fun ws m => by
              have e : b15 = false := by simpa using f15
              rw [e] at m ⊢
              exact w_non m)⟩) (fun f15 => nomatch (h15 (by simpa using f15)).2)⟩
        rintro σ H8 ⟨Dm, rfl, hT8, hDm, k8, p8⟩
        refine ⟨fun σ H' => ∃ b17 : Bool, σ = [some (V.ref p), some (.ref oa), some (.ref e), some (.str o.e), some (.str o.n), some (.str o.c), some (.str o.l), some (.ref la), some (.bl o.b), some (.bl o.x), some (.ref Dm), some (.int (i : Nat)), some (.str z), some v, some (.bl b14), some (.bl b15), some (.bl b16), some (.bl b17), v18] ∧ H' = H8 ∧ B17 o x b15 b17, ?_, ?_⟩
        · have fin7 : ∀ b : Bool, B17 o x b15 b → ∃ b17 : Bool, [some (V.ref p), some (.ref oa), some (.ref e), some (.str o.e), some (.str o.n), some (.str o.c), some (.str o.l), some (.ref la), some (.bl o.b), some (.bl o.x), some (.ref Dm), some (.int (i : Nat)), some (.str z), some v, some (.bl b14), some (.bl b15), some (.bl b16), some (.bl b), v18] = [some (V.ref p), some (.ref oa), some (.ref e), some (.str o.e), some (.str o.n), some (.str o.c), some (.str o.l), some (.ref la), some (.bl o.b), some (.bl o.x), some (.ref Dm), some (.int (i : Nat)), some (.str z), some v, some (.bl b14), some (.bl b15), some (.bl b16), some (.bl b17), v18] ∧ H8 = H8 ∧ B17 o x b15 b17 := fun b h => ⟨b, rfl, rfl, h⟩
          refine ⟨_, rfl, rfl, _, rfl, iteB (decide (v = .non)) _ _ (fun _ => fin7 _ (fun h => nomatch h)) (fun g1 => ⟨_, rfl, b15, rfl, iteB b15 _ _ (fun g2 => ?_) (fun g2 => fin7 _ (fun _ => ⟨fun e => absurd (vnon e) (of_decide_eq_false g1), fun q => by rw [g2] at q; exact nomatch q.1⟩))⟩)⟩
          exact ⟨_, rfl, rfl, fin7 _ (fun h => ⟨fun e => absurd (vnon e) (of_decide_eq_false g1), fun q => by
            rw [eq_strB] at h
            exact absurd q.2 (of_decide_eq_false h)⟩)⟩
        rintro σ H8' ⟨b17, rfl, rfl, h17⟩
        refine ⟨fun σ H' => ∃ b18 : Bool, σ = [some (V.ref p), some (.ref oa), some (.ref e), some (.str o.e), some (.str o.n), some (.str o.c), some (.str o.l), some (.ref la), some (.bl o.b), some (.bl o.x), some (.ref Dm), some (.int (i : Nat)), some (.str z), some v, some (.bl b14), some (.bl b15), some (.bl b16), some (.bl b17), some (.bl b18)] ∧ H' = H8' ∧ B18 o b14 b17 b18, ?_, ?_⟩
        · have fin8 : ∀ b : Bool, B18 o b14 b17 b → ∃ b18 : Bool, [some (V.ref p), some (.ref oa), some (.ref e), some (.str o.e), some (.str o.n), some (.str o.c), some (.str o.l), some (.ref la), some (.bl o.b), some (.bl o.x), some (.ref Dm), some (.int (i : Nat)), some (.str z), some v, some (.bl b14), some (.bl b15), some (.bl b16), some (.bl b17), some (.bl b)] = [some (V.ref p), some (.ref oa), some (.ref e), some (.str o.e), some (.str o.n), some (.str o.c), some (.str o.l), some (.ref la), some (.bl o.b), some (.bl o.x), some (.ref Dm), some (.int (i : Nat)), some (.str z), some v, some (.bl b14), some (.bl b15), some (.bl b16), some (.bl b17), some (.bl b18)] ∧ H8' = H8' ∧ B18 o b14 b17 b18 := fun b h => ⟨b, rfl, rfl, h⟩
          have tt : ∀ {P : Prop}, true = false → P := fun h => nomatch h
          refine ⟨_, rfl, rfl, _, rfl, iteB _ _ _ (fun _ => fin8 _ tt) (fun g1 => ?_)⟩
          rw [eq_strB] at g1
          have m1 : o.n ≠ "must" := of_decide_eq_false g1
          have nb : ∀ {b : Bool}, (!b) = false → ∀ {P : Prop}, b = false → P := fun h _ q => by rw [q] at h; exact nomatch h
          refine ⟨_, rfl, rfl, _, rfl, iteB _ _ _ (fun g2 => ⟨_, rfl, b14, rfl, _, rfl, iteB (!b14) _ _ (fun _ => fin8 _ tt) (fun g3 => ⟨_, rfl, b17, rfl, iteB b17 _ _ (fun g4 => ⟨_, rfl, b14, rfl, fin8 _ (fun _ => ⟨m1, nb g3, nb g3⟩)⟩) (fun g4 => fin8 _ (fun _ => ⟨m1, nb g3, nb g3⟩))⟩)⟩) (fun g2 => ⟨false, rfl, iteF ⟨_, rfl, b17, rfl, iteB b17 _ _ (fun g4 => ⟨_, rfl, b14, rfl, fin8 _ (fun h => ?_)⟩) (fun g4 => fin8 _ (fun h => ?_))⟩⟩)⟩
          · rw [eq_strB] at g2
            exact ⟨m1, fun _ => of_decide_eq_false g2, nb h⟩
          · rw [eq_strB] at g2
            exact ⟨m1, fun _ => of_decide_eq_false g2, fun _ => g4⟩
        rintro σ H9 ⟨b18, rfl, rfl, h18⟩
        have bb : b15 = true → o.b = true := fun h => (h15 h).1
        have o29 := tup_keep o2 k8 hp
        have hDmp : Dm ≠ p := pool_ne hp hDm
        have fin9 : ∀ (D' : Addr) (H' : Hp), TxtR H' D' (45 * (i + 1)) (W0 o es (i + 1)) → H0 D' = none → Keep p H0 H' → Pool H' p (c + 40 * (i + 1)) → ∃ (D : Addr) (w11 w12 w13 w14 w15 w16 w17 w18 : Option V), [some (V.ref p), some (.ref oa), some (.ref e), some (.str o.e), some (.str o.n), some (.str o.c), some (.str o.l), some (.ref la), some (.bl o.b), some (.bl o.x), some (.ref D'), some (.int (i : Nat)), some (.str z), some v, some (.bl b14), some (.bl b15), some (.bl b16), some (.bl b17), some (.bl b18)] = [some (V.ref p), some (.ref oa), some (.ref e), some (.str o.e), some (.str o.n), some (.str o.c), some (.str o.l), some (.ref la), some (.bl o.b), some (.bl o.x), some (.ref D), w11, w12, w13, w14, w15, w16, w17, w18] ∧ TxtR H' D (45 * (i + 1)) (W0 o es (i + 1)) ∧ H0 D = none ∧ Keep p H0 H' ∧ Pool H' p (c + 40 * (i + 1)) := fun D' H' t h k q => ⟨D', _, _, _, _, _, _, _, _, rfl, t, h, k, q⟩
        refine ⟨_, rfl, b18, rfl, iteB b18 _ _ (fun _ => ?_) (fun g18 => ⟨_, rfl, p, _, 2, rfl, p8, by omega, by decide, by decide, fun n' Hp9 _ _ kp9 pp9 => ⟨rfl, _, rfl, iteB _ _ _ (fun _ => ?_) (fun _ => fin9 Dm _ ((hT8.keep kp9 hDmp).to (by omega) fun ws m => by
          obtain ⟨q1, q2, q3⟩ := h18 g18
          have f14 : i + 1 < es.length → b14 = false := fun lt => by
            cases b14 with
            | false => rfl
            | true => exact absurd (h14.mp rfl) (by omega)
          exact w_skip m hzx fit bb hxn q1 (fun lt => q2 (f14 lt)) (fun lt => h17 (q3 (f14 lt)))) hDm (k8.trans kp9) (pp9.mono (by omega)))⟩⟩)⟩
        · refine ⟨fun σ H' => σ = [some (V.ref p), some (.ref oa), some (.ref e), some (.str o.e), some (.str o.n), some (.str o.c), some (.str o.l), some (.ref la), some (.bl o.b), some (.bl o.x), some (.ref Dm), some (.int (i : Nat)), some (.str z), some v, some (.bl b14), some (.bl b15), some (.bl b16), some (.bl b17), some (.bl b18)] ∧ TxtR H' Dm (45 * i + 35 + 1) (fun ws => ∃ ws0, ws = ws0 ++ [(";" : Str)] ∧ W3 o es i z x b15 ws0) ∧ Keep p H0 H' ∧ Pool H' p (c + 40 * i + 30), ?_, ?_⟩
          · obtain ⟨wsa, x1, x2, x3, x4⟩ := hT8
            refine ⟨_, rfl, .inl ⟨rfl, _, SqL.of x1⟩, Dm, _, _, rfl, rfl, x1, ?_, rfl, ⟨wsa ++ [(";" : Str)], by rw [upd_same, List.map_append]; rfl, ?_, fun y hy => ?_, wsa, rfl, x4⟩, fun b o' n e => ?_, p8.other (Ne.symm hDmp)⟩
            · rw [List.length_map]; exact Nat.lt_of_le_of_lt (show _ ≤ 500 by omega) (by decide)
            · rw [List.length_append]; show wsa.length + 1 ≤ _; omega
            · rcases List.mem_append.mp hy with hy | hy
              · exact x3 y hy
              · exact sgl (show tiny ";" = true by decide +kernel) y hy
            · rw [upd_ne (ne_of_none e hDm)]
              exact (k8) b o' n e
          rintro σ Ha ⟨rfl, hTa, ka, pa⟩
          have o2a := tup_keep o2 ka hp
          refine ⟨_, rfl, la, _, rfl, .inr (SqT.of o2a), rfl, flat_strs _, _, rfl, ?_⟩
          show if inV (V.str ";") (o.zs.map V.str) = true then _ else _
          cases hin : inV (V.str ";") (o.zs.map V.str) with
          | false => exact iteF (fin9 Dm Ha (hTa.to (by omega) fun ws ⟨ws0, e, m⟩ => by rw [e]; exact end0 m hzx bb hxn) hDm ka (pa.mono (by omega)))
          | true =>
            refine iteT ⟨_, rfl, one, fun L hL => ⟨_, rfl, p, _, 3, rfl, pa.new hL, by omega, by decide, by decide, fun n Hb n0 n1 kb pb => ?_⟩⟩
            have Lp : L ≠ p := pool_ne pa hL
            obtain ⟨wsb, y1, y2, y3, ws0, ye, y4⟩ := hTa
            have yb : Hb Dm = some (.lst (wsb.map V.str)) := kb _ _ hDmp (by rw [upd_ne (ne_of_none y1 hL)]; exact y1)
            refine ⟨L, n, _, rfl, rfl, kb _ _ Lp upd_same, by omega, by omega, ?_, fun R hR => ?_⟩
            · show 1 * n.toNat ≤ sizeLine
              exact line_ge (by omega)
            refine ⟨Dm, R, _, _, rfl, rfl, by rw [upd_ne (ne_of_none yb hR)]; exact yb, upd_same, ?_, fun D5 hD5 => ?_⟩
            · rw [rep_one, List.length_map, List.length_map, List.length_replicate]; exact line_ge (by omega)
            have k10 := ((ka.new hL).trans kb).new (o := .lst (List.replicate n.toNat [V.str ";"]).flatten) hR
            have p10 := pb.new (o := .lst (List.replicate n.toNat [V.str ";"]).flatten) hR
            refine fin9 D5 _ ⟨wsb ++ List.replicate n.toNat (";" : Str), by rw [upd_same, List.map_append, rep_one], ?_, fun y hy => ?_, by rw [ye]; exact w_end y4 hzx bb hxn (.inr (in_zs hin))⟩ (Keep.free k10 (pool_ne p10 hD5) hD5) (k10.new hD5) ((p10.new hD5).mono (by omega))
            · rw [List.length_append, List.length_replicate]; omega
            · rcases List.mem_append.mp hy with hy | hy
              · exact y3 y hy
              · rw [List.eq_of_mem_replicate hy]; decide +kernel
        · refine ⟨fun σ H' => σ = [some (V.ref p), some (.ref oa), some (.ref e), some (.str o.e), some (.str o.n), some (.str o.c), some (.str o.l), some (.ref la), some (.bl o.b), some (.bl o.x), some (.ref Dm), some (.int (i : Nat)), some (.str z), some v, some (.bl b14), some (.bl b15), some (.bl b16), some (.bl b17), some (.bl b18)] ∧ TxtR H' Dm (45 * i + 35 + 1) (fun ws => ∃ ws0, ws = ws0 ++ [(";" : Str)] ∧ W3 o es i z x b15 ws0) ∧ Keep p H0 H' ∧ Pool H' p (c + 40 * i + 30 + 1), ?_, ?_⟩
          · obtain ⟨wsa, x1, x2, x3, x4⟩ := hT8.keep kp9 hDmp
            refine ⟨_, rfl, .inl ⟨rfl, _, SqL.of x1⟩, Dm, _, _, rfl, rfl, x1, ?_, rfl, ⟨wsa ++ [(";" : Str)], by rw [upd_same, List.map_append]; rfl, ?_, fun y hy => ?_, wsa, rfl, x4⟩, fun b o' n e => ?_, pp9.other (Ne.symm hDmp)⟩
            · rw [List.length_map]; exact Nat.lt_of_le_of_lt (show _ ≤ 500 by omega) (by decide)
            · rw [List.length_append]; show wsa.length + 1 ≤ _; omega
            · rcases List.mem_append.mp hy with hy | hy
              · exact x3 y hy
              · exact sgl (show tiny ";" = true by decide +kernel) y hy
            · rw [upd_ne (ne_of_none e hDm)]
              exact (k8.trans kp9) b o' n e
          rintro σ Ha ⟨rfl, hTa, ka, pa⟩
          have o2a := tup_keep o2 ka hp
          refine ⟨_, rfl, la, _, rfl, .inr (SqT.of o2a), rfl, flat_strs _, _, rfl, ?_⟩
          show if inV (V.str ";") (o.zs.map V.str) = true then _ else _
          cases hin : inV (V.str ";") (o.zs.map V.str) with
          | false => exact iteF (fin9 Dm Ha (hTa.to (by omega) fun ws ⟨ws0, e, m⟩ => by rw [e]; exact end0 m hzx bb hxn) hDm ka (pa.mono (by omega)))
          | true =>
            refine iteT ⟨_, rfl, one, fun L hL => ⟨_, rfl, p, _, 3, rfl, pa.new hL, by omega, by decide, by decide, fun n Hb n0 n1 kb pb => ?_⟩⟩
            have Lp : L ≠ p := pool_ne pa hL
            obtain ⟨wsb, y1, y2, y3, ws0, ye, y4⟩ := hTa
            have yb : Hb Dm = some (.lst (wsb.map V.str)) := kb _ _ hDmp (by rw [upd_ne (ne_of_none y1 hL)]; exact y1)
            refine ⟨L, n, _, rfl, rfl, kb _ _ Lp upd_same, by omega, by omega, ?_, fun R hR => ?_⟩
            · show 1 * n.toNat ≤ sizeLine
              exact line_ge (by omega)
            refine ⟨Dm, R, _, _, rfl, rfl, by rw [upd_ne (ne_of_none yb hR)]; exact yb, upd_same, ?_, fun D5 hD5 => ?_⟩
            · rw [rep_one, List.length_map, List.length_map, List.length_replicate]; exact line_ge (by omega)
            have k10 := ((ka.new hL).trans kb).new (o := .lst (List.replicate n.toNat [V.str ";"]).flatten) hR
            have p10 := pb.new (o := .lst (List.replicate n.toNat [V.str ";"]).flatten) hR
            refine fin9 D5 _ ⟨wsb ++ List.replicate n.toNat (";" : Str), by rw [upd_same, List.map_append, rep_one], ?_, fun y hy => ?_, by rw [ye]; exact w_end y4 hzx bb hxn (.inr (in_zs hin))⟩ (Keep.free k10 (pool_ne p10 hD5) hD5) (k10.new hD5) ((p10.new hD5).mono (by omega))
            · rw [List.length_append, List.length_replicate]; omega
            · rcases List.mem_append.mp hy with hy | hy
              · exact y3 y hy
              · rw [List.eq_of_mem_replicate hy]; decide +kernel
      · rintro σ H2 ⟨D, v11, v12, v13, v14, v15, v16, v17, v18, rfl, hT, hD, k2, p2⟩
        rw [hte] at hT p2
        exact ⟨D, v11, v12, v13, v14, v15, v16, v17, v18, rfl, hT.to (by omega) (fun _ m => m), hD, k2, p2.mono (by omega)⟩
    rintro σ H2 ⟨D, v11, v12, v13, v14, v15, v16, v17, v18, rfl, hT, hD, k2, p2⟩
    exact ⟨_, rfl, q D H2 hD hT k2 p2⟩
end
end K5

namespace K5
open PySem L2
/-- the heap without one list -/
def hid (k : Addr) (H : Hp) : Hp := fun b => if b = k then none else H b
theorem hid_sub (k : Addr) (H : Hp) : Same (hid k H) H := fun b o e => by
  unfold hid at e
  by_cases h : b = k
  · rw [if_pos h] at e; cases e
  · rw [if_neg h] at e; exact e
theorem hid_keep {k : Addr} {H H' : Hp} (h : Keep k H H') : Same (hid k H) (hid k H') := fun b o e => by
  unfold hid at e ⊢
  by_cases n : b = k
  · rw [if_pos n] at e; cases e
  · rw [if_neg n] at e ⊢; exact h b o n e
theorem hid_ne {k b : Addr} {H : Hp} (n : b ≠ k) : hid k H b = H b := by
  unfold hid
  rw [if_neg n]
theorem hid_at {k b : Addr} {H : Hp} {l : List V} {o : HO} (hk : H k = some (.lst l)) (h : H b = some o) (n : o ≠ .lst l) : hid k H b = some o := by
  rw [hid_ne (ne_lst h hk n)]
  exact h
theorem LangW.hid {C k x : Addr} {H : Hp} {l : List V} {L : Lang} (h : LangW C H x L) (hk : H k = some (.lst l)) : LangW C (K5.hid k H) x L := by
  obtain ⟨dx, t, wp, fs, h1, h2, h3, h4, ⟨ps, e1, e2, e3⟩, h6⟩ := h
  exact ⟨dx, t, wp, fs, hid_at hk h1 (by simp), h2, hid_at hk h3 (by simp), h4, ⟨ps, e1, hid_at hk e2 (by simp), fun i p s ws a b => hid_at hk (e3 i p s ws a b) (by simp)⟩, h6⟩
theorem OptsAt.hid {k oa : Addr} {H : Hp} {l : List V} {o : Opts} (h : OptsAt H oa o) (hk : H k = some (.lst l)) : OptsAt (K5.hid k H) oa o := by
  obtain ⟨la, h1, h2⟩ := h
  exact ⟨la, hid_at hk h1 (by simp), hid_at hk h2 (by simp)⟩
theorem VAt.hid {k : Addr} {H : Hp} {l : List V} {v : V} {x : Val} (h : VAt H v x) (hk : H k = some (.lst l)) : VAt (K5.hid k H) v x := by
  cases x with
  | lst ms =>
    obtain ⟨t, e, h⟩ := h
    exact ⟨t, e, hid_at hk h (by simp)⟩
  | word z => exact h
  | num n => exact h
  | non => exact h
theorem RowE.hid {k : Addr} {H : Hp} {l : List V} {o : Opts} {m : Nat} {t : V} {e : Str × Val} (h : RowE o m H t e) (hk : H k = some (.lst l)) : RowE o m (K5.hid k H) t e := by
  obtain ⟨u, v, e1, e2, e3, e4, e5⟩ := h
  exact ⟨u, v, e1, hid_at hk e2 (by simp), e3, e4.hid hk, e5⟩
theorem RowE.same {H H' : Hp} {o : Opts} {m : Nat} {t : V} {e : Str × Val} (h : RowE o m H t e) (s : Same H H') : RowE o m H' t e := by
  obtain ⟨u, v, e1, e2, e3, e4, e5⟩ := h
  exact ⟨u, v, e1, s _ _ e2, e3, e4.same s, e5⟩
/-- rows have their entries -/
theorem rows_es {o : Opts} {m : Nat} {H : Hp} : ∀ {ts : List V}, (∀ t ∈ ts, RowAt o m H t) → ∃ es : Es, ts.length = es.length ∧ ∀ (j : Nat) (t : V) (q : Str × Val), ts[j]? = some t → es[j]? = some q → RowE o m H t q
  | [], _ => ⟨[], rfl, fun j t q h => by cases h⟩
  | t :: ts, h => by
    obtain ⟨es, e1, e2⟩ := rows_es fun y hy => h y (List.mem_cons_of_mem _ hy)
    obtain ⟨u, z, v, x, rfl, h1, h2, h3, h4⟩ := h t (List.mem_cons_self ..)
    refine ⟨(z, x) :: es, by rw [List.length_cons, List.length_cons, e1], fun j t q a b => ?_⟩
    cases j with
    | zero =>
      cases a
      cases b
      exact ⟨u, v, rfl, h1, h2, h3, h4⟩
    | succ j => exact e2 j t q a b
structure Rec where
  t : Addr
  oa : Addr
  x : Addr
  R : Addr
  F : Addr
  o : Opts
  es : Es
  ts : List V
  ws : List Str
/-- one drawn language with rows and a written file -/
structure RecOk (C : Addr) (H : Hp) (r : Rec) : Prop where
  tp : H r.t = some (.tup [.ref r.oa, .ref r.x, .ref r.R, .ref r.F])
  op : OptsAt H r.oa r.o
  ok : r.o.Fit
  la : LangW C H r.x r.o.lang
  rl : H r.R = some (.lst r.ts)
  rn : r.ts.length = r.es.length
  r9 : r.es.length ≤ 9
  re : ∀ (j : Nat) (t : V) (q : Str × Val), r.ts[j]? = some t → r.es[j]? = some q → RowE r.o 5 H t q
  fl : H r.F = some (.lst (r.ws.map V.str))
  fn : r.ws.length ≤ 420
  ft : ∀ z ∈ r.ws, tiny z = true
  fw : W0 r.o r.es r.es.length r.ws
theorem RecOk.same {C : Addr} {H H' : Hp} {r : Rec} (h : RecOk C H r) (s : Same H H') : RecOk C H' r :=
  ⟨s _ _ h.tp, h.op.same s, h.ok, h.la.same s, s _ _ h.rl, h.rn, h.r9, fun j t q a b => (h.re j t q a b).same s, s _ _ h.fl, h.fn, h.ft, h.fw⟩
structure Kept (C : Addr) (H : Hp) (kp : Addr) (rs : List Rec) : Prop where
  l : H kp = some (.lst (rs.map fun r => V.ref r.t))
  ok : ∀ r ∈ rs, RecOk C (K5.hid kp H) r
theorem Kept.same {C kp : Addr} {H H' : Hp} {rs : List Rec} (h : Kept C H kp rs) (s : Same H H') : Kept C H' kp rs :=
  ⟨s _ _ h.l, fun r hr => (h.ok r hr).same (hid_keep fun b o _ e => s b o e)⟩
theorem Kept.at {C kp : Addr} {H : Hp} {rs : List Rec} (h : Kept C H kp rs) {r : Rec} (hr : r ∈ rs) : RecOk C H r := (h.ok r hr).same (hid_sub _ _)
end K5

namespace K5
open PySem L2
/-- data of so much depth that shows in so many signs -/
structure Fx (d : PyData) (k n : Nat) : Prop where
  lay : d.canLay0 = true
  dep : d.depth ≤ k
  show_ : d.showable = true
  dict : d.hasDict = false
  len : d.shown.length ≤ n
theorem Fair1.fx {d : PyData} (f : Fair1 d) : Fx d 10 400 := ⟨f.lay, f.dep, f.show_, f.dict, f.len⟩
theorem Fx.mono {d : PyData} {k n k' n' : Nat} (f : Fx d k n) (h : k ≤ k') (h' : n ≤ n') : Fx d k' n' := ⟨f.lay, Nat.le_trans f.dep h, f.show_, f.dict, Nat.le_trans f.len h'⟩
theorem fx_all {k n : Nat} : ∀ {ds : List PyData}, (∀ d ∈ ds, Fx d k n) → PyData.canLayAll0 ds = true ∧ PyData.depthAll ds ≤ k ∧ PyData.showableAll ds = true ∧ PyData.hasDictAll ds = false ∧ ((PyData.shownAll ds).map (·.length)).sum ≤ n * ds.length ∧ (PyData.shownAll ds).length = ds.length
  | [], _ => ⟨rfl, Nat.zero_le _, rfl, rfl, Nat.zero_le _, rfl⟩
  | d :: ds, f => by
    have h := f d (List.mem_cons_self ..)
    obtain ⟨r1, r2, r3, r4, r5, r6⟩ := fx_all (ds := ds) fun x hx => f x (List.mem_cons_of_mem _ hx)
    refine ⟨?_, ?_, ?_, ?_, ?_, ?_⟩
    · rw [PyData.canLayAll0, h.lay, r1]; rfl
    · rw [PyData.depthAll]; exact Nat.max_le.mpr ⟨h.dep, r2⟩
    · rw [PyData.showableAll, h.show_, r3]; rfl
    · rw [PyData.hasDictAll, h.dict, r4]; rfl
    · have a := h.len
      rw [PyData.shownAll, List.map_cons, List.sum_cons, List.length_cons, Nat.mul_add, Nat.mul_one]
      omega
    · rw [PyData.shownAll, List.length_cons, List.length_cons, r6]
theorem Fx.tup {k n m : Nat} {ds : List PyData} (f : ∀ d ∈ ds, Fx d k n) (hm : ds.length ≤ m) : Fx (.tuple ds) (k + 1) (n * m + 2 * m + 3) := by
  obtain ⟨r1, r2, r3, r4, r5, r6⟩ := fx_all f
  refine ⟨by rw [PyData.canLay0]; exact r1, by rw [PyData.depth]; omega, by rw [PyData.showable]; exact r3, by rw [PyData.hasDict]; exact r4, ?_⟩
  have a := tupleText_len_le (PyData.shownAll ds)
  rw [r6] at a
  have b : n * ds.length ≤ n * m := Nat.mul_le_mul_left n hm
  rw [PyData.shown]
  omega
theorem Fx.list {k n m : Nat} {ds : List PyData} (f : ∀ d ∈ ds, Fx d k n) (hm : ds.length ≤ m) : Fx (.list ds) (k + 1) (n * m + 2 * m + 3) := by
  obtain ⟨r1, r2, r3, r4, r5, r6⟩ := fx_all f
  refine ⟨by rw [PyData.canLay0]; exact r1, by rw [PyData.depth]; omega, by rw [PyData.showable]; exact r3, by rw [PyData.hasDict]; exact r4, ?_⟩
  have a := listText_len_le (PyData.shownAll ds)
  rw [r6] at a
  have b : n * ds.length ≤ n * m := Nat.mul_le_mul_left n hm
  rw [PyData.shown]
  omega
theorem Fx.ok {d : PyData} {k n : Nat} (f : Fx d k n) (hk : k ≤ 60) (hn : n ≤ 1000000) : ShownOk d := ⟨f.show_, f.dict, Nat.le_trans f.dep hk, line_ge (Nat.le_trans f.len hn)⟩
theorem Fx.shaped {d : PyData} {k n : Nat} (f : Fx d k n) (hk : k ≤ 60) : SeqAt.shaped d = true := by
  unfold SeqAt.shaped
  rw [f.lay, Bool.true_and]
  exact decide_eq_true (Nat.le_trans f.dep (Nat.le_trans hk (by decide)))
/-- rows as data -/
def rowD (e : Str × Val) : PyData := .tuple [.str e.1, valD e.2]
def rowsD (es : Es) : PyData := .list (es.map rowD)
theorem VAt.dp {K : PySem.W.Frag} {H : Hp} {v : V} {x : Val} (h : VAt H v x) : Dp K H v (valD x) := by
  cases x with
  | lst ms =>
    obtain ⟨t, rfl, h⟩ := h
    exact .tup (SqT.of h) (dp_strs _ _ _)
  | word z => cases h; exact .str _
  | num n => cases h; exact .int _
  | non => cases h; exact .non
theorem dp_rows {K : PySem.W.Frag} {H : Hp} : ∀ {ts : List V} {es : Es}, ts.length = es.length → (∀ (j : Nat) (t : V) (e : Str × Val), ts[j]? = some t → es[j]? = some e → EntAt H t e) → DpAll K H ts (es.map rowD)
  | [], [], _, _ => .nil
  | [], _ :: _, h, _ => by cases h
  | _ :: _, [], h, _ => by cases h
  | t :: ts, e :: es, h, f => by
    obtain ⟨u, v, rfl, h1, h2⟩ := f 0 t e rfl rfl
    exact .cons (.tup (SqT.of h1) (.cons (.str _) (.cons h2.dp .nil))) (dp_rows (Nat.succ.inj h) fun j t q a b => f (j + 1) t q a b)
theorem RowE.ent {o : Opts} {m : Nat} {H : Hp} {t : V} {e : Str × Val} (h : RowE o m H t e) : EntAt H t e := by
  obtain ⟨u, v, e1, e2, _, e4, _⟩ := h
  exact ⟨u, v, e1, e2, e4⟩
theorem item_tiny {mp : Bool} {z : Str} (h : ItemW mp z) : tiny z = true := by
  obtain ⟨⟨l, _⟩, ⟨w, _⟩ | ⟨_, y1, y2, w1, w2, e, _⟩⟩ := h
  · exact wd_t w
  · unfold tiny
    rw [decide_eq_true (by omega : z.length ≤ 30), Bool.true_and]
    have c : z.cps.toList = y1.cps.toList ++ [32] ++ y2.cps.toList := by
      rw [e, ← K5S.S_of y1, ← K5S.S_of y2, K5S.str_blank, K5S.S_app, K5S.S_app, K5S.S_cps, K5S.S_cps, K5S.S_cps]
    rw [c]
    refine List.all_eq_true.mpr fun d hd => decide_eq_true ?_
    simp only [List.mem_append, List.mem_cons, List.not_mem_nil, or_false] at hd
    rcases hd with (hd | rfl) | hd
    · exact tiny_cps (wd_t w1) d hd
    · decide
    · exact tiny_cps (wd_t w2) d hd
theorem int_fx {n : Int} (h0 : 0 ≤ n) (h1 : n < 1000000000000) : Fx (.int n) 11 2013 := by
  refine ⟨by rw [PyData.canLay0], by rw [PyData.depth]; decide, ?_, by rw [PyData.hasDict], ?_⟩
  · rw [PyData.showable]
    have : n.natAbs.log2 < 40 := PySem.Flt.log2_lt_of (by decide) (show n.natAbs < 2 ^ 40 by omega)
    exact decide_eq_true (by omega)
  rw [PyData.shown]
  have := tiny_len (num_tiny h0 h1)
  omega
theorem amt_fx {o : Opts} {x : Val} (h : AmtOk o 5 x) : Fx (valD x) 11 2013 := by
  cases x with
  | word z => exact (tiny_fair (wd_t h)).fx.mono (by decide) (by decide)
  | num n => exact int_fx h.1 h.2
  | lst zs =>
    refine Fx.tup (k := 10) (n := 400) (m := 5) (fun d hd => ?_) (by rw [List.length_map]; exact h.1)
    obtain ⟨z, hz, rfl⟩ := List.mem_map.mp hd
    exact (tiny_fair (item_tiny (h.2 z hz))).fx
  | non => exact (fair_of (show fairB .none = true by decide +kernel)).fx.mono (by decide) (by decide)
theorem row_fx {o : Opts} {e : Str × Val} (hz : wd e.1 = true) (hx : AmtOk o 5 e.2) : Fx (rowD e) 12 4033 := by
  refine Fx.tup (k := 11) (n := 2013) (m := 2) (fun d hd => ?_) (Nat.le_refl 2)
  simp only [List.mem_cons, List.not_mem_nil, or_false] at hd
  rcases hd with rfl | rfl
  · exact (tiny_fair (wd_t hz)).fx.mono (by decide) (by decide)
  · exact amt_fx hx
theorem rows_ok {C : Addr} {H : Hp} {r : Rec} (h : RecOk C H r) : ShownOk (rowsD r.es) := by
  refine (Fx.list (k := 12) (n := 4033) (m := 9) (fun d hd => ?_) (by rw [List.length_map]; exact h.r9)).ok (by decide) (by decide)
  obtain ⟨e, he, rfl⟩ := List.mem_map.mp hd
  obtain ⟨j, hj⟩ := List.getElem?_of_mem he
  have hl : j < r.ts.length := by rw [h.rn]; exact (List.getElem?_eq_some_iff.mp hj).1
  obtain ⟨u, v, _, _, e3, _, e5⟩ := h.re j _ e (List.getElem?_eq_getElem hl) hj
  exact row_fx e3 e5
theorem rows_dp {K : PySem.W.Frag} {C : Addr} {H : Hp} {r : Rec} (h : RecOk C H r) : Dp K H (.ref r.R) (rowsD r.es) := .lst (SqL.of h.rl) (dp_rows h.rn fun j t q a b => (h.re j t q a b).ent)
theorem entries_dp {K : PySem.W.Frag} {H : Hp} {p : Addr} {es : Es} (h : EntriesAt H p es) : Dp K H (.ref p) (rowsD es) := by
  obtain ⟨ts, h1, h2, h3⟩ := h
  exact .lst (SqL.of h1) (dp_rows h2 h3)
/-- texts as data -/
def textsP (ws : List Str) : PyData := .list (ws.map PyData.str)
theorem texts_ok {ws : List Str} (h : ∀ z ∈ ws, Fair1 (.str z)) (hl : ws.length ≤ 430) : ShownOk (textsP ws) ∧ SeqAt.shaped (textsP ws) = true := by
  have f : Fx (textsP ws) 11 (400 * 430 + 2 * 430 + 3) := Fx.list (k := 10) (n := 400) (m := 430) (fun d hd => by
    obtain ⟨z, hz, rfl⟩ := List.mem_map.mp hd
    exact (h z hz).fx) (by rw [List.length_map]; exact hl)
  exact ⟨f.ok (by decide) (by decide), f.shaped (by decide)⟩
theorem texts_dp {K : PySem.W.Frag} {H : Hp} {p : Addr} {ws : List Str} (h : H p = some (.lst (ws.map V.str))) : Dp K H (.ref p) (textsP ws) := .lst (SqL.of h) (dp_strs _ _ _)
theorem nine_fair : ∀ z ∈ nine, fairB (.str z) = true := by decide +kernel
/-- the tokens of a written file are things -/
theorem txt_things {K : PySem.W.Frag} {H : Hp} {ws : List Str} (h : ∀ z ∈ ws, tiny z = true) : Things K H (ws.map V.str) (ws.map some) ∧ Asc (ws.map some) := by
  refine ⟨⟨by rw [List.length_map, List.length_map], fun i x o a b => ?_⟩, fun z hz => ?_⟩
  · rw [List.getElem?_map] at a b
    obtain ⟨z, hz, rfl⟩ := Option.map_eq_some_iff.mp a
    rw [hz] at b
    cases b
    exact .inl ⟨z, rfl, rfl, line_ge (Nat.le_trans (tiny_len (h z (List.mem_of_getElem? hz))) (by decide))⟩
  · obtain ⟨y, hy, e⟩ := List.mem_map.mp hz
    cases e
    exact tiny_ok (h _ hy)
end K5

namespace K5
open PySem L2
/-! spans and roles as data; slices -/
theorem cutV_both {xs : List V} {x y : Nat} (h1 : x ≤ y) (h2 : y ≤ xs.length) : cutV xs (some (x : Int)) (some (y : Int)) = cutL xs x y := by
  unfold cutV cutL
  rw [HT.sIx_nat, HT.sIx_nat, Nat.min_eq_left h2, Nat.min_eq_left (show x ≤ xs.length by omega)]
theorem cutL_map {α β : Type} (f : α → β) (l : List α) (x y : Nat) : cutL (l.map f) x y = (cutL l x y).map f := by
  unfold cutL
  rw [List.map_take, List.map_drop]
def spanP (p : Nat × Nat) : PyData := .tuple [.int (p.1 : Nat), .int (p.2 : Nat)]
def spansP (w : List Str) : PyData := .list (((firstsL w).zip (behindsL w)).map spanP)
theorem dp_pairs {K : PySem.W.Frag} {H : Hp} : ∀ {ts : List Addr} {fs bs : List Nat}, ts.length = fs.length → fs.length ≤ bs.length → (∀ (j : Nat) (t : Addr) (x y : Nat), ts[j]? = some t → fs[j]? = some x → bs[j]? = some y → H t = some (.tup [.int (x : Nat), .int (y : Nat)])) → DpAll K H (ts.map V.ref) ((fs.zip bs).map spanP)
  | [], [], bs, _, _, _ => .nil
  | [], _ :: _, _, h, _, _ => by cases h
  | _ :: _, [], _, h, _, _ => by cases h
  | t :: ts, x :: fs, [], _, h, _ => by cases h
  | t :: ts, x :: fs, y :: bs, h1, h2, f => .cons (.tup (SqT.of (f 0 t x y rfl rfl rfl)) (.cons (.int _) (.cons (.int _) .nil))) (dp_pairs (Nat.succ.inj h1) (Nat.le_of_succ_le_succ h2) fun j t' x' y' a b c => f (j + 1) t' x' y' a b c)
theorem SpansAt.same {H H' : Hp} {p : Addr} {ts : List Addr} {w : List Str} (h : SpansAt H p ts w) (s : Same H H') : SpansAt H' p ts w := ⟨s _ _ h.1, h.2.1, fun j t x y a b c => s _ _ (h.2.2 j t x y a b c)⟩
theorem rows_wide {o : Opts} {H : Hp} {R : Addr} {n : Nat} (h : RowsAt o 4 H R n) : RowsAt o 5 H R n := by
  obtain ⟨ts, h1, h2, h3⟩ := h
  refine ⟨ts, h1, h2, fun t ht => ?_⟩
  obtain ⟨u, z, v, x, e1, e2, e3, e4, e5⟩ := h3 t ht
  refine ⟨u, z, v, x, e1, e2, e3, e4, ?_⟩
  cases x with
  | lst zs => exact ⟨Nat.le_trans e5.1 (by decide), e5.2⟩
  | word z => exact e5
  | num n => exact e5
  | non => exact e5
theorem spans_dp {K : PySem.W.Frag} {H : Hp} {p : Addr} {ts : List Addr} {w : List Str} (h : SpansAt H p ts w) : Dp K H (.ref p) (spansP w) := .lst (SqL.of h.1) (dp_pairs h.2.1 (behinds_len w) h.2.2)
theorem spans_ok {w : List Str} (hw : w.length ≤ 900) (hn : (firstsL w).length ≤ 9) : ShownOk (spansP w) := by
  refine (Fx.list (k := 12) (n := 4033) (m := 9) (fun d hd => ?_) (by rw [List.length_map, List.length_zip]; omega)).ok (by decide) (by decide)
  obtain ⟨p, hp, rfl⟩ := List.mem_map.mp hd
  obtain ⟨p1, p2⟩ := spans_lt hp
  refine Fx.tup (k := 11) (n := 2013) (m := 2) (fun d hd => ?_) (Nat.le_refl 2)
  simp only [List.mem_cons, List.not_mem_nil, or_false] at hd
  rcases hd with rfl | rfl
  · exact int_fx (by omega) (by omega)
  · exact int_fx (by omega) (by omega)
def roleNames : List Str := ["equals", "comma", "open", "close", "end", "number", "name", "word", "item"]
theorem role_in (y st : Str) : roleL y st ∈ roleNames := by
  unfold roleL
  have h2 : (if y = "number" then ("number" : Str) else if st = "name" then ("name" : Str) else if st = "done" then ("word" : Str) else ("item" : Str)) ∈ roleNames := by
    by_cases a : y = "number"
    · rw [if_pos a]; decide +kernel
    · rw [if_neg a]
      by_cases b : st = "name"
      · rw [if_pos b]; decide +kernel
      · rw [if_neg b]
        by_cases c : st = "done"
        · rw [if_pos c]; decide +kernel
        · rw [if_neg c]; decide +kernel
  have h1 : ∀ r, roleS y = some r → r ∈ roleNames := fun r h => by
    unfold roleS at h
    by_cases a : y = "="
    · rw [if_pos a] at h; cases h; decide +kernel
    rw [if_neg a] at h
    by_cases a : y = ","
    · rw [if_pos a] at h; cases h; decide +kernel
    rw [if_neg a] at h
    by_cases a : y = "["
    · rw [if_pos a] at h; cases h; decide +kernel
    rw [if_neg a] at h
    by_cases a : y = "]"
    · rw [if_pos a] at h; cases h; decide +kernel
    rw [if_neg a] at h
    by_cases a : y = ";"
    · rw [if_pos a] at h; cases h; decide +kernel
    rw [if_neg a] at h
    cases h
  cases h : roleS y with
  | none => exact h2
  | some r => exact h1 r h
theorem roleNames_fair : ∀ z ∈ roleNames, fairB (.str z) = true := by decide +kernel
theorem roles_fair {os : List (Option Str)} {w : List Str} : ∀ z ∈ rolesL os w, Fair1 (.str z) := fun z hz => by
  unfold rolesL at hz
  obtain ⟨p, _, rfl⟩ := List.mem_map.mp hz
  exact fair_of (roleNames_fair _ (role_in _ _))
theorem one_ok {o : Opts} {e : Str × Val} (hz : wd e.1 = true) (hx : AmtOk o 5 e.2) : ShownOk (rowsD [e]) := by
  refine (Fx.list (k := 12) (n := 4033) (m := 1) (fun d hd => ?_) (by rw [List.length_map]; exact Nat.le_refl 1)).ok (by decide) (by decide)
  obtain ⟨e', he, rfl⟩ := List.mem_map.mp hd
  rw [List.mem_singleton.mp he]
  exact row_fx hz hx
theorem name_ok : SeqAt.shaped (textsP [("name" : Str)]) = true := by decide +kernel
/-- where the k-th span begins -/
def cN (w : List Str) (k : Nat) : Nat := ((cutsL w)[k]?).getD 0
theorem cN_first {w : List Str} {k : Nat} (h : k < (firstsL w).length) : (firstsL w)[k]? = some (cN w k) := by
  have e := cuts_first h
  unfold cN
  rw [e, List.getElem?_eq_getElem h]
  rfl
theorem cN_behind {w : List Str} {k : Nat} (h : k < (firstsL w).length) : (behindsL w)[k]? = some (cN w (k + 1)) := by
  have e := cuts_next h
  unfold cN
  rw [e, List.getElem?_eq_getElem (Nat.lt_of_lt_of_le h (behinds_len w))]
  rfl
theorem cN_zero {L : Lang} {os : List (Option Str)} {w : List Str} (h : runL L "start" os = .inl w) : cN w 0 = 0 := by
  unfold cN
  rw [cuts_zero h]
  rfl
theorem cN_end (w : List Str) : cN w (firstsL w).length = w.length := by
  unfold cN
  rw [cuts_end]
  rfl
end K5

namespace K5
open PySem L2
def spValueT (K : PySem.W.Frag) : Sp := fun vs H Q _ => ∃ (a b : Addr) (first behind : Nat) (L : Lang) (xs : List V) (os : List (Option Str)) (w : List Str), vs = [.ref a, .ref b, .int (first : Nat), .int (behind : Nat)] ∧ SqT K H a xs ∧ SqL K H b ((("start" : Str) :: w).map V.str) ∧ Things K H xs os ∧
  runL L "start" os = .inl w ∧ w[first]? = some ("name" : Str) ∧ first < behind ∧ behind ≤ os.length ∧ os.length ≤ 900 ∧ ∀ v H', Same H H' → VAt H' v (valL os w first behind) → Q v H'
section
variable {P : Program} {w : World} {K : PySem.W.Frag} {mg : Str → Option Value} {base : Heap}
theorem ok_valueT {f : Addr} {fd : FuncData} (F : Fun K "value_of" "value_of" sValue f fd) (T : Bare mg) (GV : Fn P w K mg base 4 "single_value" ["token", "members"] (spSingle K)) :
    FnOk P w K mg base CX0 5 f fd ["file", "way", "first", "behind"] (spValueT K) := by
  refine F.ok scValue (fun vs H Q E h => ?_) (fun cdv A outer s H vs Q E hr h => ?_)
  · obtain ⟨a, b, first, behind, L, xs, os, wy, rfl, _⟩ := h
    rfl
  · obtain ⟨a, b, first, behind, L, xs, os, wy, rfl, ha, hb, hT, hw, hf, hfb, hbl, hl, q⟩ := h
    refine ⟨_, C8.pss_cut (ps_set (i := 4) scValue.nd rfl (.inl rfl) pe_str)
      (C8.pss_cut (ps_set (i := 5) scValue.nd rfl (.inl rfl) (pe_lst pa_nil))
      (C8.pss_cut (ps_for PassesOwn.never rfl (pi_range2 (by rfl) T.range (pa_cons (pe_op op_add (pv 2) pe_int) (pa_cons (pv 3) pa_nil))) (pg_name (i := 6) scValue.nd rfl (.inl rfl))
        (C8.pss_cut (ps_set (i := 7) scValue.nd rfl (.inl rfl) (pe_ix ix_tup (pv 0) (pv 6) (fun _ _ => rfl)))
        (C8.pss_cut (ps_set (i := 8) scValue.nd rfl (.inl rfl) (pe_ix ix_list (pv 1) (pe_op op_add (pv 6) pe_int) (fun _ _ => rfl)))
        (pss_one (ps_if (pt_cmpR op_eq (pv 8) pe_str (nomark _)) (pss_one (ps_set (i := 4) scValue.nd rfl (.inl rfl) pe_non))
          (pss_one (ps_if (pt_cmpR op_eq (pv 8) pe_str (nomark _)) (pss_one (ps_expr (pe_bm PySem.F.plainAttrs_list PySem.F.slot_list_append PySem.F.type_list_append mt_append (pv 5) (pa_cons (pv 7) pa_nil))))
          (pss_one (ps_if (pt_cmpR op_eq (pv 8) pe_str (nomark _)) (pss_one (ps_asg (pe_joined (.cons (pe_fmt (pe_ix ix_list (pv 5) (pe_un un_neg pe_int) (fun _ _ => rfl))) (.cons pe_str (.cons (pe_fmt (pv 7)) .nil)))) (pg_sub (pv 5) (pe_un un_neg pe_int) set_list)))
          (pss_one (ps_if (pt_cmpR op_eq (pv 8) pe_str (nomark _)) (pss_one (ps_set (i := 4) scValue.nd rfl (.inl rfl) (pe_fn GV hr rfl (pa_cons (pv 7) (pa_cons (pv 5) pa_nil))))) pss_nil)))))))))))
      (pss_one (ps_ret (pv 4))))), ?_⟩
    refine ⟨fun σ H' => σ = [some (.ref a), some (.ref b), some (.int (first : Nat)), some (.int (behind : Nat)), some (.str "yes"), none, none, none, none] ∧ H' = H, ⟨rfl, rfl⟩, ?_⟩
    rintro σ H0 ⟨rfl, rfl⟩
    refine ⟨fun σ H' => ∃ M, σ = [some (.ref a), some (.ref b), some (.int (first : Nat)), some (.int (behind : Nat)), some (.str "yes"), some (.ref M), none, none, none] ∧ H0 M = none ∧ VI os wy first H0 M 0 (.str "yes") H', ⟨Nat.zero_le _, fun M hM => ⟨M, rfl, hM, ?_⟩⟩, ?_⟩
    · refine ⟨rfl, upd_same, Same.new (Same.refl H0) hM, fun e => ?_, fun m hm => (nomatch hm), Nat.le_refl _⟩
      rw [Nat.add_zero, hf] at e
      exact absurd (Option.some.inj e) (by decide +kernel)
    rintro σ H1 ⟨M, rfl, hM, vi0⟩
    refine ⟨fun σ H' => ∃ v4 v6 v7 v8, σ = [some (.ref a), some (.ref b), some (.int (first : Nat)), some (.int (behind : Nat)), some v4, some (.ref M), v6, v7, v8] ∧ VI os wy first H0 M (behind - first - 1) v4 H', ?_, ?_⟩
    · refine ⟨_, rfl, _, _, rfl, rfl, _, rfl, (first : Int) + 1, (behind : Int), rfl, ⟨by omega, by omega, by omega, by omega⟩, for_range (lo := (first : Int) + 1) (n := ((behind : Int) - ((first : Int) + 1)).toNat) (fun k σ H' => ∃ v4 v6 v7 v8, σ = [some (.ref a), some (.ref b), some (.int (first : Nat)), some (.int (behind : Nat)), some v4, some (.ref M), v6, v7, v8] ∧ VI os wy first H0 M k v4 H') ⟨_, _, _, _, rfl, vi0⟩ ?_ ?_⟩
      · rintro k σ H2 hk ⟨v4, v6, v7, v8, rfl, vi⟩
        have hk' : first + 1 + k < os.length := by omega
        obtain ⟨o, ho⟩ : ∃ o, os[first + 1 + k]? = some o := ⟨_, List.getElem?_eq_getElem hk'⟩
        obtain ⟨pst, st, hpst, hst, hstep⟩ := (run_steps hw).2 _ o ho
        obtain ⟨y, _, hy, _, _⟩ := step_look hstep
        obtain ⟨z, rfl⟩ := sort_text hy
        have hpst : wy[first + k]? = some pst := by
          rw [show first + 1 + k = (first + k) + 1 by omega, List.getElem?_cons_succ] at hpst
          exact hpst
        have hxl : first + 1 + k < xs.length := by rw [hT.1]; exact hk'
        obtain ⟨x, hx⟩ : ∃ x, xs[first + 1 + k]? = some x := ⟨_, List.getElem?_eq_getElem hxl⟩
        obtain ⟨hxz, hzl⟩ : x = .str z ∧ z.length ≤ sizeLine := by
          rcases hT.2 _ x _ hx ho with ⟨z', e1, e2, e3⟩ | ⟨e, _⟩
          · cases e2
            exact ⟨e1, e3⟩
          · cases e
        subst hxz
        have ev := valN_succ ho hst
        have s2 := vi.sm
        refine ⟨fun σ H' => σ = [some (.ref a), some (.ref b), some (.int (first : Nat)), some (.int (behind : Nat)), some v4, some (.ref M), some (.int ((first : Int) + 1 + k)), some (.str z), v8] ∧ H' = H2, ?_, ?_⟩
        · exact ⟨_, rfl, _, rfl, a, xs, _, .str z, rfl, rfl, seqT s2 ha, at_of (j := first + 1 + k) (by omega) hx, rfl, rfl⟩
        rintro σ H2' ⟨rfl, rfl⟩
        refine ⟨fun σ H' => σ = [some (.ref a), some (.ref b), some (.int (first : Nat)), some (.int (behind : Nat)), some v4, some (.ref M), some (.int ((first : Int) + 1 + k)), some (.str z), some (.str st)] ∧ H' = H2', ?_, ?_⟩
        · exact ⟨_, rfl, _, rfl, _, _, rfl, rfl, b, _, _, .str st, rfl, rfl, s2.seq hb, at_of (j := first + 1 + k + 1) (by omega) (by rw [List.getElem?_map, List.getElem?_cons_succ, hst]; rfl), rfl, rfl⟩
        rintro σ H3 ⟨rfl, rfl⟩
        have fin : ∀ (v' : V) (H' : Hp), VI os wy first H0 M (k + 1) v' H' → ∃ w4 w6 w7 w8, [some (V.ref a), some (.ref b), some (.int (first : Nat)), some (.int (behind : Nat)), some v', some (.ref M), some (.int ((first : Int) + 1 + k)), some (.str z), some (.str st)] = [some (V.ref a), some (.ref b), some (.int (first : Nat)), some (.int (behind : Nat)), some w4, some (.ref M), w6, w7, w8] ∧ VI os wy first H0 M (k + 1) w4 H' := fun v' H' h => ⟨v', _, _, _, rfl, h⟩
        have it' : wy[first + (k + 1)]? = some st := by rw [show first + (k + 1) = first + 1 + k by omega]; exact hst
        have ite : ∀ (x : Str) (A B : Prop), (st = x → A) → (st ≠ x → B) → (if decide (V.str st = V.str x) = true then A else B) := fun x A B h1 h2 => by
          rw [eq_strB]
          by_cases c : st = x
          · rw [decide_eq_true c]; exact iteT (h1 c)
          · rw [decide_eq_false c]; exact iteF (h2 c)
        refine ⟨_, rfl, rfl, _, rfl, ite "equals" _ _ (fun c => ?_) fun c1 => ⟨_, rfl, rfl, _, rfl, ite "item" _ _ (fun c => ?_) fun c2 => ⟨_, rfl, rfl, _, rfl, ite "pair" _ _ (fun c => ?_) fun c3 => ⟨_, rfl, rfl, _, rfl, ite "done" _ _ (fun c => ?_) fun c4 => ?_⟩⟩⟩⟩
        · have e1 : valN os wy first (k + 1) = (.non, (valN os wy first k).2) := by rw [ev]; unfold stepVal; rw [if_pos c]
          refine fin _ _ ⟨by rw [e1]; rfl, by rw [e1]; exact vi.ms, s2, fun e => ?_, fun m hm => ?_, ?_⟩
          · rw [it', c] at e
            exact absurd (Option.some.inj e) (by decide +kernel)
          · rw [e1] at hm
            exact Nat.le_trans (vi.sz m hm) (by omega)
          · rw [e1]; exact Nat.le_succ_of_le vi.ln
        · have e1 : valN os wy first (k + 1) = ((valN os wy first k).1, (valN os wy first k).2 ++ [z]) := by rw [ev]; unfold stepVal; rw [if_neg c1, if_pos c]
          have l12 : z.length ≤ 12 := word_len (step_item hstep (.inl c))
          have ln := vi.ln
          refine ⟨_, rfl, .inl ⟨rfl, _, SqL.of vi.ms⟩, _, rfl, M, _, _, rfl, rfl, vi.ms, ?_, fin _ _ ⟨by rw [e1]; exact vi.va.put vi.ms, ?_, Same.put s2 hM, fun _ => ?_, fun m hm => ?_, ?_⟩⟩
          · rw [List.length_map]
            exact Nat.lt_of_le_of_lt (show _ ≤ 900 by omega) (by decide)
          · rw [upd_same, e1, List.map_append]
            rfl
          · rw [e1]; simp
          · rw [e1] at hm
            rcases List.mem_append.mp hm with hm | hm
            · exact Nat.le_trans (vi.sz m hm) (by omega)
            · rw [List.mem_singleton.mp hm]; omega
          · rw [e1, List.length_append, List.length_singleton]
            exact Nat.succ_le_succ vi.ln
        · have ne : (valN os wy first k).2 ≠ [] := vi.it (by rw [hpst, step_pair (st := pst) (L := L) (z := sortO (some z)) (by rw [← c]; exact hstep)])
          have e1 : valN os wy first (k + 1) = ((valN os wy first k).1, (valN os wy first k).2.dropLast ++ [(valN os wy first k).2.getLastD "" ++ " " ++ z]) := by rw [ev]; unfold stepVal; rw [if_neg c1, if_neg c2, if_pos c]
          have l12 : z.length ≤ 12 := word_len (step_item hstep (.inr c))
          obtain ⟨la, lm⟩ := last_text ne
          have ls := vi.sz _ lm
          have ln := vi.ln
          have nz : (valN os wy first k).2.length ≠ 0 := fun e => ne (List.length_eq_zero_iff.mp e)
          have b1 : (" " : Str).length = 1 := by decide +kernel
          refine ⟨_, rfl, _, rfl, M, _, -1, _, rfl, rfl, SqL.of vi.ms, la, .inl ⟨_, rfl, line_ge (by omega), _, rfl, ?_, _, rfl, ?_, _, rfl, .inl ⟨_, rfl, hzl, _, rfl, ?_, ?_⟩⟩⟩
          · rw [empty_app]; exact line_ge (by omega)
          · rw [empty_app, Str.length_append]; exact line_ge (by omega)
          · rw [empty_app, Str.length_append, Str.length_append]; exact line_ge (by omega)
          rw [empty_app]
          refine ⟨_, rfl, _, rfl, M, _, -1, (valN os wy first k).2.length - 1, rfl, rfl, vi.ms, by rw [List.length_map]; exact ixN_last nz, fin _ _ ⟨by rw [e1]; exact vi.va.put vi.ms, ?_, Same.put s2 hM, fun _ => ?_, fun m hm => ?_, ?_⟩⟩
          · rw [upd_same, e1, set_last ne, List.map_append]
            rfl
          · rw [e1]; simp
          · rw [e1] at hm
            rcases List.mem_append.mp hm with hm | hm
            · exact Nat.le_trans (vi.sz m (List.dropLast_subset _ hm)) (by omega)
            · rw [List.mem_singleton.mp hm, Str.length_append, Str.length_append]; omega
          · rw [e1, List.length_append, List.length_singleton, List.length_dropLast]
            omega
        · have e1 : valN os wy first (k + 1) = (single z (valN os wy first k).2, (valN os wy first k).2) := by rw [ev]; unfold stepVal; rw [if_neg c1, if_neg c2, if_neg c3, if_pos c]
          refine ⟨_, rfl, _, rfl, z, M, _, rfl, hzl, SqL.of vi.ms, fun v' H4 s4 va => fin _ _ ⟨by rw [e1]; exact va, by rw [e1]; exact s4 _ _ vi.ms, s2.trans s4, fun e => ?_, fun m hm => ?_, ?_⟩⟩
          · rw [it', c] at e
            exact absurd (Option.some.inj e) (by decide +kernel)
          · rw [e1] at hm
            exact Nat.le_trans (vi.sz m hm) (by omega)
          · rw [e1]; exact Nat.le_succ_of_le vi.ln
        · have e1 : valN os wy first (k + 1) = valN os wy first k := by rw [ev]; unfold stepVal; rw [if_neg c1, if_neg c2, if_neg c3, if_neg c4]
          refine fin _ _ ⟨by rw [e1]; exact vi.va, by rw [e1]; exact vi.ms, s2, fun e => ?_, fun m hm => ?_, ?_⟩
          · rw [it'] at e
            exact absurd (Option.some.inj e) c2
          · rw [e1] at hm
            exact Nat.le_trans (vi.sz m hm) (by omega)
          · rw [e1]; exact Nat.le_succ_of_le vi.ln
      · rintro σ H2 ⟨v4, v6, v7, v8, rfl, vi⟩
        rw [show ((behind : Int) - ((first : Int) + 1)).toNat = behind - first - 1 by omega] at vi
        exact ⟨v4, v6, v7, v8, rfl, vi⟩
    rintro σ H2 ⟨v4, v6, v7, v8, rfl, vi⟩
    exact ⟨_, rfl, q _ _ vi.sm vi.va⟩
end
end K5

namespace K5
open PySem L2
def spEntriesT (K : PySem.W.Frag) : Sp := fun vs H Q _ => ∃ (a b : Addr) (L : Lang) (xs : List V) (os : List (Option Str)) (w : List Str), vs = [.ref a, .ref b] ∧ SqT K H a xs ∧ SqL K H b ((("start" : Str) :: w).map V.str) ∧ Things K H xs os ∧
  runL L "start" os = .inl w ∧ os.length ≤ 900 ∧ ∀ p H', H p = none → Same H H' → EntriesAt H' p (entriesL os w) → Q (.ref p) H'
def spReadT (K : PySem.W.Frag) (C CU : Addr) : Sp := fun vs H Q E => ∃ (x a : Addr) (L : Lang) (xs : List V) (os : List (Option Str)), vs = [.ref x, .ref a] ∧ LangW C H x L ∧ SqT K H a xs ∧ Things K H xs os ∧ xs.length ≤ 900 ∧
  (∀ w, runL L "start" os = .inl w → ∀ p H', H p = none → Same H H' → EntriesAt H' p (entriesL os w) → Q (.ref p) H') ∧ raisesU L os CU H E
section
variable {P : Program} {w : World} {K : PySem.W.Frag} {mg : Str → Option Value} {base : Heap} {C CU : Addr}
theorem ok_entriesT {f : Addr} {fd : FuncData} (F : Fun K "entries_by" "entries_by" sEntries f fd) (GV : Fn P w K mg base 5 "value_of" ["file", "way", "first", "behind"] (spValueT K)) (GS : Fn P w K mg base 1 "spans_of" ["way"] (spSpansOf K)) :
    FnOk P w K mg base CX0 6 f fd ["file", "way"] (spEntriesT K) := by
  refine F.ok scEntries (fun vs H Q E h => ?_) (fun cdv A outer s H vs Q E hr h => ?_)
  · obtain ⟨a, b, L, xs, os, wy, rfl, _⟩ := h
    rfl
  · obtain ⟨a, b, L, xs, os, wy, rfl, ha, hb, hT, hw, hl, q⟩ := h
    obtain ⟨wl, _⟩ := run_steps hw
    have hr1 : Room 1 _ := hr.mono (by decide)
    refine ⟨_, pss_one (ps_ret (pe_lc (own := [("first", 2), ("behind", 3)]) (g := gTup K 2 (gCons (gName 2) (gCons (gName 3) gNil))) (tt := tYes) (te := tTup (tCons (tOp (rIxT K) (tVar 0) (tVar 2)) (tCons (tCall (spValueT K) [] E0 (tCons (tVar 0) (tCons (tVar 1) (tCons (tVar 2) (tCons (tVar 3) tNil))))) tNil))) (by rfl) scEntries.nd (pi_list (pe_fn GS hr1 rfl (pa_cons (pv 1) pa_nil)))
        (blkOk_by (own := [("first", 2), ("behind", 3)]) (N := nEntries) (sc := defScope sEntries) (by decide +kernel))
        (fun _ _ _ _ _ => pg_tup (by rfl) (pgs_cons (pg_name (i := 2) scEntries.nd rfl (Or.inl rfl)) (pgs_cons (pg_name (i := 3) scEntries.nd rfl (Or.inl rfl)) pgs_nil)))
        (fun _ _ _ _ _ => pts_nil) (fun _ _ _ _ _ => pe_tup (pa_cons (pe_ix ix_tup (pv 0) (pv 2) (fun _ _ => rfl)) (pa_cons (pe_fn GV hr rfl (pa_cons (pv 0) (pa_cons (pv 1) (pa_cons (pv 2) (pa_cons (pv 3) pa_nil))))) pa_nil))))), ?_⟩
    refine ⟨_, rfl, b, wy, rfl, hb, by omega, fun H1 p ts s1 hp ⟨e1, e2, e3⟩ => ⟨p, rfl, ⟨_, SqL.of e1⟩, fun D hD => ?_⟩⟩
    refine lc_list (K := K) (a := p) (xs := ts.map V.ref) (fun i H' => Same H1 H' ∧ ∃ rs : List V, H' D = some (.lst rs) ∧ rs.length = i ∧ ∀ (j : Nat) (t : V) (e : Str × Val), rs[j]? = some t → (entriesL os wy)[j]? = some e → EntAt H' t e) ⟨Same.new (Same.refl H1) hD, [], upd_same, rfl, fun j t e h => by cases h⟩ (fun i H' _ ⟨s', _⟩ => SqL.of (s' _ _ e1)) ?_ ?_
    · rintro i v H2 hi ⟨s2, rs, r1, r2, r3⟩
      rw [List.getElem?_map] at hi
      cases ht : ts[i]? with
      | none => rw [ht] at hi; cases hi
      | some t =>
      rw [ht] at hi
      have hv : v = V.ref t := (Option.some.inj hi).symm
      subst hv
      have hil : i < (firstsL wy).length := by rw [← e2]; exact (List.getElem?_eq_some_iff.mp ht).1
      have fl := firsts_len wy
      have bl := behinds_len wy
      obtain ⟨x, hx⟩ : ∃ x, (firstsL wy)[i]? = some x := ⟨_, List.getElem?_eq_getElem hil⟩
      obtain ⟨y, hy⟩ : ∃ y, (behindsL wy)[i]? = some y := ⟨_, List.getElem?_eq_getElem (by omega)⟩
      obtain ⟨n1, n2, n3⟩ := span_ok hx hy
      have hxl : x < os.length := by omega
      obtain ⟨o, ho⟩ : ∃ o, os[x]? = some o := ⟨_, List.getElem?_eq_getElem hxl⟩
      obtain ⟨u, hu⟩ : ∃ u, xs[x]? = some u := ⟨_, List.getElem?_eq_getElem (by rw [hT.1]; exact hxl)⟩
      obtain ⟨pst, st, _, _, hstep⟩ := (run_steps hw).2 _ o ho
      obtain ⟨yy, _, hyy, _, _⟩ := step_look hstep
      obtain ⟨z, rfl⟩ := sort_text hyy
      have hxz : u = .str z := by
        rcases hT.2 _ u _ hu ho with ⟨z', e1', e2', e3'⟩ | ⟨e, _⟩
        · cases e2'
          exact e1'
        · cases e
      subst hxz
      have htk : tokA os x = z := by
        unfold tokA
        rw [ho]
        rfl
      have s12 := s1.trans s2
      refine ⟨t, _, rfl, SqT.of (s2 _ _ (e3 i t x y ht hx hy)), rfl, _, _, rfl, _, _, rfl, rfl, rfl, ?_⟩
      refine ⟨_, rfl, _, rfl, a, xs, _, .str z, rfl, rfl, seqT s12 ha, at_of (j := x) (by omega) hu, _, rfl, _, rfl, _, rfl, _, rfl, a, b, x, y, L, xs, os, wy, rfl, seqT s12 ha, s12.seq hb, hT.same s12, hw, n1, n2, by omega, hl, fun v' H3 s3 va => ⟨by show 2 ≤ sizeLine; decide, fun u' hu' => ?_⟩⟩
      have s4 := Same.new (o := .tup [.str z, v']) s3 hu'
      have dn : upd H3 u' (.tup [.str z, v']) D = some (.lst rs) := s4 _ _ r1
      refine ⟨rs, dn, ?_, Same.put (s2.trans s4) hD, rs ++ [.ref u'], upd_same, by rw [List.length_append, r2]; rfl, fun j t' e' h1 h2 => ?_⟩
      · rw [r2]
        exact Nat.lt_of_lt_of_le (show i < 1000 by omega) (by decide)
      · have sD : Same H2 (upd (upd H3 u' (.tup [.str z, v'])) D (.lst (rs ++ [.ref u']))) ∨ True := .inr trivial
        by_cases c : j < rs.length
        · rw [List.getElem?_append_left c] at h1
          obtain ⟨u2, v2, f1, f2, f3⟩ := r3 j t' e' h1 h2
          have nD : u2 ≠ D := ne_of f2 r1 (by intro z; cases z)
          refine ⟨u2, v2, f1, by rw [upd_ne nD]; exact s4 _ _ f2, (f3.same s4).put dn⟩
        · rw [List.getElem?_append_right (by omega)] at h1
          have hj0 : j - rs.length = 0 := by
            cases q0 : j - rs.length with
            | zero => rfl
            | succ n => rw [q0] at h1; cases h1
          rw [hj0] at h1
          cases h1
          have hji : j = i := by omega
          subst hji
          rw [entries_at hx hy] at h2
          cases h2
          refine ⟨u', v', rfl, ?_, VAt.put (va.same (Same.new (Same.refl H3) hu')) dn⟩
          rw [upd_ne (ne_of upd_same dn (by intro z; cases z)), upd_same, htk]
    · rintro H2 ⟨s2, rs, r1, r2, r3⟩
      refine q D H2 (s1.free hD) (s1.trans s2) ⟨rs, r1, by rw [r2, List.length_map, e2, entries_len], r3⟩
theorem scReadT : FnScope ["language", "file"] ["language", "file"] (defScope sRead) := ⟨rfl, rfl, rfl, by decide +kernel, rfl, by decide +kernel, by decide +kernel⟩
theorem ok_readT {f : Addr} {fd : FuncData} (F : Fun K "read" "read" sRead f fd) (GE : Fn P w K mg base 6 "entries_by" ["file", "way"] (spEntriesT K)) (GS : FnE P w K mg base 4 "states" ["language", "file"] (spStatesT K C CU)) :
    FnOk P w K mg base (L2.CX P w) 7 f fd ["language", "file"] (spReadT K C CU) := by
  refine F.okX scRead (fun vs H Q E h => ?_) (fun cdv A outer s H vs Q E hr h => ?_)
  · obtain ⟨x, a, L, xs, os, rfl, _⟩ := h
    rfl
  · obtain ⟨x, a, L, xs, os, rfl, hL, ha, hT, hl, q, qe⟩ := h
    have hr4 : Room 4 _ := hr.mono (by decide)
    refine ⟨_, pss_one (ps_ret (pe_fn GE hr rfl (pa_cons (pv 1) (pa_cons (pe_fnE (E := E) GS hr4 rfl (takes_of rfl rfl rfl rfl) (fun _ _ _ _ h => h) (pa_cons (pv 0) (pa_cons (pv 1) pa_nil))) pa_nil)))), ?_⟩
    refine ⟨_, rfl, _, rfl, _, rfl, x, a, L, xs, os, rfl, hL, ha, hT, hl, fun wy hw l H1 hl0 s1 h1 => ?_, qe⟩
    exact ⟨a, l, L, xs, os, wy, rfl, seqT s1 ha, SqL.of h1, hT.same s1, hw, by rw [← hT.1]; exact hl, fun p H2 hp s2 en => q wy hw p H2 (s1.free hp) (s1.trans s2) en⟩
end
end K5

namespace K5
open PySem L2
abbrev sLaw : Stmt := top 63
def spLaw (K : PySem.W.Frag) : Sp := fun vs H Q _ => ∃ (a : Addr) (ns : List Int), vs = [.ref a] ∧ SqL K H a (ns.map V.int) ∧ ns.length ≤ 63 ∧ ∀ H', Q (.bl true) H'
/-- the law's callees -/
structure Callees (P : Program) (w : World) (K : PySem.W.Frag) (mg : Str → Option Value) (base : Heap) (C CU : Addr) : Prop where
  pool : Fn P w K mg base 1 "_law_pool" ["_law_script", "_law_place"] (spPool K)
  options : Fn P w K mg base 3 "_law_options" ["_law_pool_here"] spOptions
  language : Fn P w K mg base 6 "_law_language" ["_law_options_here"] (spLanguage C)
  rows : Fn P w K mg base 5 "_law_rows" ["_law_pool_here", "_law_options_here", "_law_many", "_law_most"] spRows
  written : Fn P w K mg base 3 "_law_written" ["_law_pool_here", "_law_options_here", "_law_entries"] spWritten
  due : Fn P w K mg base 4 "_law_due_roles" ["_law_options_here", "_law_file"] (spDue K)
  read : FnE P w K mg base 7 "read" ["language", "file"] (spRead K C CU)
  spans : FnE P w K mg base 5 "spans" ["language", "file"] (spSpansF K C CU)
  spansT : FnE P w K mg base 5 "spans" ["language", "file"] (spSpansFT K C CU)
  roles : FnE P w K mg base 5 "roles" ["language", "file"] (spRoles K C CU)
  rolesT : FnE P w K mg base 5 "roles" ["language", "file"] (spRolesT K C CU)
abbrev nLaw : List Str := ["_law_script", "_law_place", "_law_options_here", "_law_made", "_law_rows_here", "_law_pool_here", "_law_file", "_law_kept", "_law_told", "_law_shown", "_law_due", "_law_begin", "_law_k", "_law_part", "_law_first", "_law_one"]
abbrev s16 (a : Addr) (v1 v2 v3 v4 v5 v6 v7 v8 v9 v10 v11 v12 v13 v14 v15 : Option V) : St := [some (.ref a), v1, v2, v3, v4, v5, v6, v7, v8, v9, v10, v11, v12, v13, v14, v15]
def Any16 (a : Addr) (σ : St) : Prop := ∃ v1 v2 v3 v4 v5 v6 v7 v8 v9 v10 v11 v12 v13 v14 v15, σ = s16 a v1 v2 v3 v4 v5 v6 v7 v8 v9 v10 v11 v12 v13 v14 v15
section
variable {P : Program} {w : World} {K : PySem.W.Frag} {mg : Str → Option Value} {base : Heap} {C CU : Addr}
theorem scLaw : FnScope nLaw ["_law_script"] (defScope sLaw) := ⟨rfl, rfl, rfl, by decide +kernel, rfl, by decide +kernel, by decide +kernel⟩
theorem ok_law {f : Addr} {fd : FuncData} (F : Fun K "law" "law" sLaw f fd) (T : Bare mg) (Ca : Callees P w K mg base C CU) : FnG P w K mg base 8 f fd ["_law_script"] (spLaw K) := by
  obtain ⟨fR, fdR, kR, GR, bR, mR⟩ := Ca.read
  obtain ⟨fS, fdS, kS, GS, bS, mS⟩ := Ca.spans
  obtain ⟨fST, fdST, kST, GST, bST, mST⟩ := Ca.spansT
  obtain ⟨fO, fdO, kO, GO, bO, mO⟩ := Ca.roles
  obtain ⟨fOT, fdOT, kOT, GOT, bOT, mOT⟩ := Ca.rolesT
  refine F.okG scLaw (fun vs H Q E h => ?_) (fun cdv A outer s H vs Q hgu hr h => ?_)
  · obtain ⟨a, ns, rfl, _⟩ := h
    rfl
  · obtain ⟨a, ns, rfl, hS, hl, q⟩ := h
    have hr1 : Room 1 _ := hr.mono (by decide)
    have hr3 : Room 3 _ := hr.mono (by decide)
    have hr4 : Room 4 _ := hr.mono (by decide)
    have hr5 : Room 5 _ := hr.mono (by decide)
    have hr6 : Room 6 _ := hr.mono (by decide)
    refine ⟨_, (C8.pss_cut (ps_for PassesOwn.never rfl (pi_range3 (by rfl) T.range (pa_cons pe_int (pa_cons pe_int (pa_cons pe_int pa_nil)))) (pg_name (i := 1) scLaw.nd rfl (.inl rfl))
        (C8.pss_cut (ps_set (i := 2) scLaw.nd rfl (.inl rfl) (pe_fn Ca.options hr3 rfl (pa_cons (pe_fn Ca.pool hr1 rfl (pa_cons (pv 0) (pa_cons (pv 1) pa_nil))) pa_nil)))
        (C8.pss_cut (ps_set (i := 3) scLaw.nd rfl (.inl rfl) (pe_fn Ca.language hr6 rfl (pa_cons (pv 2) pa_nil)))
        (C8.pss_cut (ps_set (i := 4) scLaw.nd rfl (.inl rfl) (pe_fn Ca.rows hr5 rfl (pa_cons (pe_fn Ca.pool hr1 rfl (pa_cons (pv 0) (pa_cons (pe_op op_add (pv 1) pe_int) pa_nil))) (pa_cons (pv 2) (pa_cons pe_int (pa_cons pe_int pa_nil))))))
        (C8.pss_cut (ps_set (i := 5) scLaw.nd rfl (.inl rfl) (pe_fn Ca.pool hr1 rfl (pa_cons (pv 0) (pa_cons (pe_op op_add (pv 1) pe_int) pa_nil))))
        (C8.pss_cut (ps_set (i := 6) scLaw.nd rfl (.inl rfl) (pe_fn Ca.written hr3 rfl (pa_cons (pv 5) (pa_cons (pv 2) (pa_cons (pv 4) pa_nil)))))
        (C8.pss_cut (ps_set (i := 7) scLaw.nd rfl (.inl rfl) (pe_callTy call_list_of (by rfl) T.list (by decide +kernel) (pa_cons (pv 6) pa_nil)))
        (C8.pss_cut (ps_par (i := 8) (j := 9) (by rfl) scLaw.nd rfl rfl (by decide) rfl rfl (pa_cons (pe_call GS hr5 rfl mS kS bS .nil passNo (pa_cons (pv 3) (pa_cons (pv 6) pa_nil))) (pa_cons (pe_call GO hr5 rfl mO kO bO .nil passNo (pa_cons (pv 3) (pa_cons (pv 6) pa_nil))) pa_nil)) (by rfl))
        (C8.pss_cut (ps_set (i := 10) scLaw.nd rfl (.inl rfl) (pe_fn Ca.due hr4 rfl (pa_cons (pv 2) (pa_cons (pv 6) pa_nil))))
        (C8.pss_cut (ps_if (PW.pt (pw_or (pt_cmpR op_ne (pe_callB (call_reprD hgu hr.units) (by rfl) T.repr (by decide +kernel) (pa_cons (pv 9) pa_nil)) (pe_callB (call_reprD hgu hr.units) (by rfl) T.repr (by decide +kernel) (pa_cons (pv 10) pa_nil)) (nomark _)) (pw_or (pt_not (pt_val (pe_callB call_isi (by rfl) T.isi (by decide +kernel) (pa_cons (pv 8) (pa_cons (pe_bltn (v := .ty "list") (by rfl) T.list (by decide +kernel) rfl) pa_nil))))) (pw_or1 (pt_cmpR op_ne (pe_callB call_len_seq (by rfl) T.len PySem.boot_len (pa_cons (pv 8) pa_nil)) (pe_callB call_len_seq (by rfl) T.len PySem.boot_len (pa_cons (pv 4) pa_nil)) (nomark _)))))) (pss_one (ps_ret pe_bl)) pss_nil)
        (C8.pss_cut (ps_set (i := 11) scLaw.nd rfl (.inl rfl) pe_int)
        (C8.pss_cut (ps_for PassesOwn.never rfl (pi_range1 (by rfl) T.range (pa_cons (pe_callB call_len_seq (by rfl) T.len PySem.boot_len (pa_cons (pv 8) pa_nil)) pa_nil)) (pg_name (i := 12) scLaw.nd rfl (.inl rfl))
        (C8.pss_cut (ps_if (PW.pt (pw_or (pt_not (pt_val (pe_callB call_isi (by rfl) T.isi (by decide +kernel) (pa_cons (pe_ix ix_list (pv 8) (pv 12) (fun _ _ => rfl)) (pa_cons (pe_bltn (v := .ty "tuple") (by rfl) T.tuple (by decide +kernel) rfl) pa_nil))))) (pw_or (pt_cmpR op_ne (pe_callB call_len_seq (by rfl) T.len PySem.boot_len (pa_cons (pe_ix ix_list (pv 8) (pv 12) (fun _ _ => rfl)) pa_nil)) pe_int (nomark _)) (pw_or (pt_cmpR op_ne (pe_ix ix_tup (pe_ix ix_list (pv 8) (pv 12) (fun _ _ => rfl)) pe_int (fun _ _ => rfl)) (pv 11) (nomark _)) (pw_or1 (pt_cmpR op_le (pe_ix ix_tup (pe_ix ix_list (pv 8) (pv 12) (fun _ _ => rfl)) pe_int (fun _ _ => rfl)) (pv 11) (nomark _))))))) (pss_one (ps_ret pe_bl)) pss_nil)
        (C8.pss_cut (ps_set (i := 11) scLaw.nd rfl (.inl rfl) (pe_ix ix_tup (pe_ix ix_list (pv 8) (pv 12) (fun _ _ => rfl)) pe_int (fun _ _ => rfl)))
        (C8.pss_cut (ps_set (i := 13) scLaw.nd rfl (.inl rfl) (pe_slice sl_list (pv 6) (po_some (pe_ix ix_tup (pe_ix ix_list (pv 8) (pv 12) (fun _ _ => rfl)) pe_int (fun _ _ => rfl))) (po_some (pe_ix ix_tup (pe_ix ix_list (pv 8) (pv 12) (fun _ _ => rfl)) pe_int (fun _ _ => rfl)))))
        (C8.pss_cut (ps_if (PW.pt (pw_or (pt_cmpR op_ne (pe_ix ix_list (pv 13) pe_int (fun _ _ => rfl)) (pe_ix ix_tup (pe_ix ix_list (pv 4) (pv 12) (fun _ _ => rfl)) pe_int (fun _ _ => rfl)) (nomark _)) (pw_or1 (pt_cmpR op_ne (pe_callB (call_reprD hgu hr.units) (by rfl) T.repr (by decide +kernel) (pa_cons (pe_call GR hr rfl mR kR bR .nil passNo (pa_cons (pv 3) (pa_cons (pv 13) pa_nil))) pa_nil)) (pe_callB (call_reprD hgu hr.units) (by rfl) T.repr (by decide +kernel) (pa_cons (pe_lst (pa_cons (pe_ix ix_list (pv 4) (pv 12) (fun _ _ => rfl)) pa_nil)) pa_nil)) (nomark _))))) (pss_one (ps_ret pe_bl)) pss_nil)
        (pss_one (ps_if (pt_cmpR (op_neD hr.units) (pe_lc (own := [("_law_one", 15)]) (g := gName 15) (tt := tTest (tOp rEq (tVar 15) (tC (.str "name")))) (te := tVar 15) (by rfl) scLaw.nd (pi_list (pe_slice sl_list (pv 10) (po_some (pe_ix ix_tup (pe_ix ix_list (pv 8) (pv 12) (fun _ _ => rfl)) pe_int (fun _ _ => rfl))) (po_some (pe_ix ix_tup (pe_ix ix_list (pv 8) (pv 12) (fun _ _ => rfl)) pe_int (fun _ _ => rfl))))) (blkOk_by (own := [("_law_one", 15)]) (N := nLaw) (sc := defScope sLaw) (by decide +kernel)) (fun _ _ _ _ _ => pg_name (i := 15) scLaw.nd rfl (Or.inl rfl)) (fun _ _ _ _ _ => pts_one (pt_cmpR op_eq (pv 15) pe_str (nomark _))) (fun _ _ _ _ _ => pv 15)) (pe_lst (pa_cons pe_str pa_nil)) (nomark _)) (pss_one (ps_ret pe_bl)) pss_nil)))))))
        (C8.pss_cut (ps_if (PW.pt (pw_or (pt_cmpR op_ne (pv 11) (pe_callB call_len_seq (by rfl) T.len PySem.boot_len (pa_cons (pv 6) pa_nil)) (nomark _)) (pw_or1 (pt_cmpR (op_neD hr.units) (pv 6) (pv 7) (nomark _))))) (pss_one (ps_ret pe_bl)) pss_nil)
        (C8.pss_cut (ps_set (i := 14) scLaw.nd rfl (.inl rfl) (pe_callB (call_reprD hgu hr.units) (by rfl) T.repr (by decide +kernel) (pa_cons (pv 8) pa_nil)))
        (C8.pss_cut (ps_expr (pe_bm PySem.F.plainAttrs_list PySem.F.slot_list_append PySem.F.type_list_append mt_append (pv 8) (pa_cons (pe_tup (pa_cons pe_int (pa_cons pe_int pa_nil))) pa_nil)))
        (C8.pss_cut (ps_expr (pe_bm PySem.F.plainAttrs_list PySem.F.slot_list_append PySem.F.type_list_append mt_append (pv 9) (pa_cons pe_str pa_nil)))
        (pss_one (ps_if (PW.pt (pw_or (pt_cmpR op_ne (pe_callB (call_reprD hgu hr.units) (by rfl) T.repr (by decide +kernel) (pa_cons (pe_call GST hr5 rfl mST kST bST .nil passNo (pa_cons (pv 3) (pa_cons (pe_callTy call_tuple_of (by rfl) T.tuple (by decide +kernel) (pa_cons (pv 6) pa_nil)) pa_nil))) pa_nil)) (pv 14) (nomark _)) (pw_or1 (pt_cmpR op_ne (pe_callB (call_reprD hgu hr.units) (by rfl) T.repr (by decide +kernel) (pa_cons (pe_call GOT hr5 rfl mOT kOT bOT .nil passNo (pa_cons (pv 3) (pa_cons (pe_callTy call_tuple_of (by rfl) T.tuple (by decide +kernel) (pa_cons (pv 6) pa_nil)) pa_nil))) pa_nil)) (pe_callB (call_reprD hgu hr.units) (by rfl) T.repr (by decide +kernel) (pa_cons (pv 10) pa_nil)) (nomark _))))) (pss_one (ps_ret pe_bl)) pss_nil))))))))))))))))))
        (pss_one (ps_ret pe_bl))), ?_⟩
    refine ⟨fun _ _ => True, ?_, fun σ H' _ => q H'⟩
    refine ⟨0, 6, 3, 2, rfl, ⟨by decide, by decide, by decide +kernel, by decide +kernel⟩, for_rangeC (lo := 0) (c := 3) (n := 2) (fun i σ H' => Any16 a σ ∧ Same H H') ⟨⟨_, _, _, _, _, _, _, _, _, _, _, _, _, _, _, rfl⟩, Same.refl H⟩ ?_ (fun _ _ _ => trivial)⟩
    rintro i σ H1 hi ⟨⟨v1, v2, v3, v4, v5, v6, v7, v8, v9, v10, v11, v12, v13, v14, v15, rfl⟩, s1⟩
    obtain ⟨n, hn⟩ : ∃ n : Int, n = 0 + (i : Nat) * 3 := ⟨_, rfl⟩
    have n0 : 0 ≤ n := by omega
    have n9 : n < 9 := by omega
    -- options
    refine ⟨fun σ H' => ∃ (oa : Addr) (o : Opts), σ = s16 a (some (.int n)) (some (.ref oa)) v3 v4 v5 v6 v7 v8 v9 v10 v11 v12 v13 v14 v15 ∧ OptsAt H' oa o ∧ o.Fit ∧ Same H H', ?_, ?_⟩
    · rw [← hn]
      exact ⟨_, rfl, _, rfl, a, ns, n, rfl, s1.seq hS, hl, n0, by omega, fun p H2 hp s2 p2 => ⟨p, 0, rfl, p2, by omega, fun oa o H3 hoa hO fit k3 p3 => ⟨oa, o, rfl, hO, fit, k3.same (s1.trans s2) (s1.free hp)⟩⟩⟩
    rintro σ H2 ⟨oa, o, rfl, hO2, fit, s2⟩
    clear s1
    -- language
    refine ⟨fun σ H' => ∃ x : Addr, σ = s16 a (some (.int n)) (some (.ref oa)) (some (.ref x)) v4 v5 v6 v7 v8 v9 v10 v11 v12 v13 v14 v15 ∧ OptsAt H' oa o ∧ LangW C H' x o.lang ∧ Same H H', ?_, ?_⟩
    · exact ⟨_, rfl, oa, o, rfl, hO2, fit, fun x H3 hx s3 hL => ⟨x, rfl, hO2.same s3, hL, s2.trans s3⟩⟩
    rintro σ H3 ⟨x, rfl, hO3, hL3, s3⟩
    clear s2 hO2
    -- rows
    refine ⟨fun σ H' => ∃ R : Addr, σ = s16 a (some (.int n)) (some (.ref oa)) (some (.ref x)) (some (.ref R)) v5 v6 v7 v8 v9 v10 v11 v12 v13 v14 v15 ∧ RowsAt o 5 H' R 9 ∧ OptsAt H' oa o ∧ LangW C H' x o.lang ∧ Same H H', ?_, ?_⟩
    · refine ⟨_, rfl, _, rfl, _, _, rfl, rfl, a, ns, n + 1, rfl, s3.seq hS, hl, by omega, by omega, fun p H4 hp s4 p4 => ⟨_, rfl, p, 0, oa, o, 9, 4, rfl, p4, by omega, hO3.same s4, by decide, by decide, fun R H5 hR hRo k5 p5 => ?_⟩⟩
      have s5 : Same H3 H5 := k5.same s4 hp
      exact ⟨R, rfl, rows_wide hRo, hO3.same s5, hL3.same s5, s3.trans s5⟩
    rintro σ H4 ⟨R, rfl, ⟨ts, hR4, tl, hts⟩, hO4, hL4, s4⟩
    clear s3 hO3 hL3
    obtain ⟨es, el, he⟩ := rows_es hts
    -- the pool
    refine ⟨fun σ H' => ∃ p : Addr, σ = s16 a (some (.int n)) (some (.ref oa)) (some (.ref x)) (some (.ref R)) (some (.ref p)) v6 v7 v8 v9 v10 v11 v12 v13 v14 v15 ∧ Pool H' p 0 ∧ H4 p = none ∧ Same H4 H', ?_, ?_⟩
    · exact ⟨_, rfl, _, rfl, _, _, rfl, rfl, a, ns, n + 2, rfl, s4.seq hS, hl, by omega, by omega, fun p H5 hp s5 p5 => ⟨p, rfl, p5, hp, s5⟩⟩
    rintro σ H5 ⟨p, rfl, p5, hp, s5⟩
    have Rp : R ≠ p := ne_of_none hR4 hp
    -- the file
    refine ⟨fun σ H' => ∃ (F : Addr) (ws : List Str), σ = s16 a (some (.int n)) (some (.ref oa)) (some (.ref x)) (some (.ref R)) (some (.ref p)) (some (.ref F)) v7 v8 v9 v10 v11 v12 v13 v14 v15 ∧ H' F = some (.lst (ws.map V.str)) ∧ ws.length ≤ 420 ∧ (∀ z ∈ ws, tiny z = true) ∧ W0 o es es.length ws ∧ Same H4 H', ?_, ?_⟩
    · exact ⟨_, rfl, _, rfl, _, rfl, p, 0, oa, o, R, ts, es, rfl, p5, by omega, hO4.same s5, fit, s5 _ _ hR4, Rp, el, by omega, fun j t q a b => (he j t q a b).same s5, fun F H6 hF ⟨ws, w1, w2, w3, w4⟩ k6 p6 => ⟨F, ws, rfl, w1, w2, w3, w4, k6.same s5 hp⟩⟩
    rintro σ H6 ⟨F, ws, rfl, hF6, wl, wt, wf, s6⟩
    clear s5 p5 hp Rp
    obtain ⟨w0, hw, wl0, ew⟩ := w_read wf
    have lw : (ws.map V.str).length ≤ 900 := by rw [List.length_map]; omega
    have thg : ∀ {H'}, Things K H' (ws.map V.str) (ws.map Option.some) := (txt_things wt).1
    have asc : Asc (ws.map Option.some) := (txt_things (K := K) (H := H) wt).2
    have fe : (firstsL w0).length = es.length := by rw [← entries_len (ws.map Option.some), ew]
    have hR6 := s6 _ _ hR4
    have he6 : ∀ (j : Nat) (t : V) (q : Str × Val), ts[j]? = some t → es[j]? = some q → RowE o 5 H6 t q := fun j t q a b => (he j t q a b).same s6
    have hO6 := hO4.same s6
    have hL6 := hL4.same s6
    have sH := s4.trans s6
    clear hR4 he hO4 hL4 s4 s6 hts
    obtain ⟨okw, shw⟩ := texts_ok (fun z hz => tiny_fair (wt z hz)) (by omega : ws.length ≤ 430)
    have oks := spans_ok (w := w0) (by omega) (by omega)
    obtain ⟨okr, shr⟩ := texts_ok (roles_fair (os := ws.map Option.some) (w := w0)) (by rw [roles_len (by rw [List.length_map]; exact wl0), List.length_map]; omega)
    -- kept
    refine ⟨fun σ H' => ∃ B : Addr, σ = s16 a (some (.int n)) (some (.ref oa)) (some (.ref x)) (some (.ref R)) (some (.ref p)) (some (.ref F)) (some (.ref B)) v8 v9 v10 v11 v12 v13 v14 v15 ∧ H' B = some (.lst (ws.map V.str)) ∧ Same H6 H', ?_, ?_⟩
    · exact ⟨_, rfl, F, _, rfl, .inl (SqL.of hF6), fun B hB => ⟨B, rfl, upd_same, Same.new (Same.refl H6) hB⟩⟩
    rintro σ H7 ⟨B, rfl, hB7, s7⟩
    -- told, shown
    refine ⟨fun σ H' => ∃ (A G : Addr) (us : List Addr), σ = s16 a (some (.int n)) (some (.ref oa)) (some (.ref x)) (some (.ref R)) (some (.ref p)) (some (.ref F)) (some (.ref B)) (some (.ref A)) (some (.ref G)) v10 v11 v12 v13 v14 v15 ∧ SpansAt H' A us w0 ∧ H7 A = none ∧ H7 G = none ∧ A ≠ G ∧ H' G = some (.lst ((rolesL (ws.map Option.some) w0).map V.str)) ∧ Same H7 H', ?_, ?_⟩
    · refine ⟨_, rfl, _, rfl, x, F, o.lang, _, ws.map Option.some, rfl, hL6.same s7, SqL.of (s7 _ _ hF6), thg, lw, fun w' hw' A us H8 hA s8 sp => ?_, fun k z hk => by rw [hw] at hk; cases hk⟩
      rw [hw] at hw'
      cases hw'
      refine ⟨_, rfl, _, rfl, x, F, o.lang, _, ws.map Option.some, rfl, (hL6.same s7).same s8, SqL.of (s8 _ _ (s7 _ _ hF6)), thg, lw, fun w' hw' G H9 hG s9 rg => ?_, fun k z hk => by rw [hw] at hk; cases hk⟩
      rw [hw] at hw'
      cases hw'
      exact ⟨_, _, rfl, A, G, us, rfl, sp.same s9, hA, s8.free hG, ne_of_none sp.1 hG, rg, s8.trans s9⟩
    rintro σ H8 ⟨A, G, us, rfl, hA8, nA, nG, AG, hG8, s8⟩
    -- due
    refine ⟨fun σ H' => ∃ Z : Addr, σ = s16 a (some (.int n)) (some (.ref oa)) (some (.ref x)) (some (.ref R)) (some (.ref p)) (some (.ref F)) (some (.ref B)) (some (.ref A)) (some (.ref G)) (some (.ref Z)) v11 v12 v13 v14 v15 ∧ H' Z = some (.lst ((rolesL (ws.map Option.some) w0).map V.str)) ∧ H8 Z = none ∧ Same H8 H', ?_, ?_⟩
    · exact ⟨_, rfl, _, rfl, oa, F, o, _, ws.map Option.some, w0, rfl, (hO6.same s7).same s8, ⟨fit.c⟩, SqL.of (s8 _ _ (s7 _ _ hF6)), thg, asc, lw, hw, fun Z H9 hZ s9 zg => ⟨Z, rfl, zg, hZ, s9⟩⟩
    rintro σ H9 ⟨Z, rfl, hZ9, nZ, s9⟩
    have s79 := s8.trans s9
    have s69 := s7.trans s79
    have hA9 := hA8.same s9
    have hG9 := s9 _ _ hG8
    have hB9 := s79 _ _ hB7
    have hF9 := s69 _ _ hF6
    have hR9 := s69 _ _ hR6
    have hL9 := hL6.same s69
    have he9 : ∀ (j : Nat) (t : V) (q : Str × Val), ts[j]? = some t → es[j]? = some q → RowE o 5 H9 t q := fun j t q a b => (he6 j t q a b).same s69
    have sH9 := sH.trans s69
    have nA9 : H6 A = none := s7.free nA
    have nG9 : H6 G = none := s7.free nG
    have FA : F ≠ A := ne_of_none (s7 _ _ hF6) nA
    have FG : F ≠ G := ne_of_none (s7 _ _ hF6) nG
    have AZ : A ≠ Z := ne_of_none hA8.1 nZ
    have GZ : G ≠ Z := ne_of_none hG8 nZ
    have BA : B ≠ A := ne_of_none hB7 nA
    clear hO6 hR6 he6 hB7 hA8 hG8 s7 s8 s9 s79
    -- the first test
    refine ⟨fun σ H' => σ = s16 a (some (.int n)) (some (.ref oa)) (some (.ref x)) (some (.ref R)) (some (.ref p)) (some (.ref F)) (some (.ref B)) (some (.ref A)) (some (.ref G)) (some (.ref Z)) v11 v12 v13 v14 v15 ∧ H' = H9, ?_, ?_⟩
    · refine ⟨_, rfl, .ref G, _, rfl, texts_dp hG9, okr.s, okr.n, okr.dp, okr.l, _, rfl, .ref Z, _, rfl, texts_dp hZ9, okr.s, okr.n, okr.dp, okr.l, rfl, _, rfl, iteNS rfl ?_⟩
      refine ⟨_, rfl, .ref A, .ty "list", .type "list", .type "list", true, rfl, .ty "list", .base (.lst hA9.1), kit_ty (by decide +kernel), true, rfl, iteF ?_⟩
      refine ⟨_, rfl, A, _, rfl, .inl (SqL.of hA9.1), _, rfl, R, _, rfl, .inl (SqL.of hR9), rfl, _, rfl, iteNS ?_ ⟨rfl, rfl⟩⟩
      rw [List.length_map, hA9.2.1, fe, ← el]
    rintro σ H10 ⟨rfl, rfl⟩
    refine ⟨fun σ H' => σ = s16 a (some (.int n)) (some (.ref oa)) (some (.ref x)) (some (.ref R)) (some (.ref p)) (some (.ref F)) (some (.ref B)) (some (.ref A)) (some (.ref G)) (some (.ref Z)) (some (.int 0)) v12 v13 v14 v15 ∧ H' = H10, ⟨rfl, rfl⟩, ?_⟩
    rintro σ H11 ⟨rfl, rfl⟩
    -- span by span
    refine ⟨fun σ H' => ∃ v12 v13, σ = s16 a (some (.int n)) (some (.ref oa)) (some (.ref x)) (some (.ref R)) (some (.ref p)) (some (.ref F)) (some (.ref B)) (some (.ref A)) (some (.ref G)) (some (.ref Z)) (some (.int (w0.length : Nat))) v12 v13 v14 v15 ∧ Same H11 H', ?_, ?_⟩
    · refine ⟨_, rfl, A, _, rfl, .inl (SqL.of hA9.1), _, rfl, by omega, ?_, for_range (lo := 0) (n := (us.map V.ref).length) (fun k σ H' => ∃ v12 v13, σ = s16 a (some (.int n)) (some (.ref oa)) (some (.ref x)) (some (.ref R)) (some (.ref p)) (some (.ref F)) (some (.ref B)) (some (.ref A)) (some (.ref G)) (some (.ref Z)) (some (.int (cN w0 k : Nat))) v12 v13 v14 v15 ∧ Same H11 H') ⟨v12, v13, by rw [cN_zero hw]; rfl, Same.refl H11⟩ ?_ ?_⟩
      · rw [List.length_map, hA9.2.1, fe]
        omega
      · rintro k σ H12 hk ⟨v12, v13, rfl, s12⟩
        have hk' : k < (firstsL w0).length := by rw [← hA9.2.1]; rw [List.length_map] at hk; exact hk
        obtain ⟨m, hm⟩ : ∃ m : Int, m = 0 + (k : Nat) := ⟨_, rfl⟩
        rw [← hm]
        have hx := cN_first hk'
        have hy := cN_behind hk'
        obtain ⟨nx, lt, le⟩ := span_ok hx hy
        obtain ⟨u, hus⟩ : ∃ u, us[k]? = some u := ⟨_, List.getElem?_eq_getElem (by rw [hA9.2.1]; exact hk')⟩
        obtain ⟨e, hes⟩ : ∃ e, es[k]? = some e := ⟨_, List.getElem?_eq_getElem (by rw [← fe]; exact hk')⟩
        obtain ⟨t, hts⟩ : ∃ t, ts[k]? = some t := ⟨_, List.getElem?_eq_getElem (by rw [el, ← fe]; exact hk')⟩
        obtain ⟨ua, v, rfl, hua, hz, va, am⟩ := he9 k t e hts hes
        have tk : (us.map V.ref)[k]? = some (.ref u) := by rw [List.getElem?_map, hus]; rfl
        have ee := entries_at (os := ws.map Option.some) hx hy
        rw [ew, hes] at ee
        have pe := part_entries (os := ws.map Option.some) hx hy (by rw [ew]; exact hes)
        have pr := part_run hw hx hy
        have po := part_roles hw hx hy
        generalize cN w0 k = c0 at *
        generalize cN w0 (k + 1) = c1 at *
        have uu : ∀ {H' : Hp}, Same H11 H' → H' u = some (.tup [.int (c0 : Nat), .int (c1 : Nat)]) := fun s => s _ _ (hA9.2.2 k u c0 c1 hus hx hy)
        have AA : ∀ {H' : Hp}, Same H11 H' → SqL K H' A (us.map V.ref) := fun s => SqL.of (s _ _ hA9.1)
        have at0 : atI (us.map V.ref) m = some (.ref u) := at_of (j := k) (by omega) tk
        have cw : (cutL ws c0 c1).length = c1 - c0 := cut_len (by omega) (by omega)
        have cz : cutV (ws.map V.str) (some (c0 : Nat)) (some (c1 : Nat)) = (cutL ws c0 c1).map V.str := by
          rw [cutV_both (by omega) (by rw [List.length_map]; omega), cutL_map]
        have cr : cutV ((rolesL (ws.map Option.some) w0).map V.str) (some (c0 : Nat)) (some (c1 : Nat)) = (cutL (rolesL (ws.map Option.some) w0) c0 c1).map V.str := by
          rw [cutV_both (by omega) (by rw [List.length_map, roles_len (by rw [List.length_map]; exact wl0), List.length_map]; omega), cutL_map]
        refine ⟨fun σ H' => σ = s16 a (some (.int n)) (some (.ref oa)) (some (.ref x)) (some (.ref R)) (some (.ref p)) (some (.ref F)) (some (.ref B)) (some (.ref A)) (some (.ref G)) (some (.ref Z)) (some (.int (c0 : Nat))) (some (.int m)) v13 v14 v15 ∧ H' = H12, ?_, ?_⟩
        · refine ⟨_, rfl, _, rfl, A, _, _, .ref u, rfl, rfl, AA s12, at0, .ref u, .ty "tuple", .type "tuple", .type "tuple", true, rfl, .ty "tuple", .base (.tup (uu s12)), kit_ty (by decide +kernel), true, rfl, iteF ?_⟩
          refine ⟨_, rfl, _, rfl, A, _, _, .ref u, rfl, rfl, AA s12, at0, u, _, rfl, .inr (SqT.of (uu s12)), rfl, _, rfl, iteNS rfl ?_⟩
          refine ⟨_, rfl, _, rfl, A, _, _, .ref u, rfl, rfl, AA s12, at0, u, _, 0, _, rfl, rfl, SqT.of (uu s12), at_of (j := 0) rfl rfl, _, rfl, rfl, _, rfl, iteNS rfl ?_⟩
          refine ⟨_, rfl, _, rfl, A, _, _, .ref u, rfl, rfl, AA s12, at0, u, _, 1, _, rfl, rfl, SqT.of (uu s12), at_of (j := 1) rfl rfl, _, rfl, _, _, rfl, rfl, _, rfl, ite2 (fun h => ?_) (fun _ => ⟨rfl, rfl⟩)⟩
          exact absurd (of_decide_eq_true h) (by omega)
        rintro σ H13 ⟨rfl, rfl⟩
        refine ⟨fun σ H' => σ = s16 a (some (.int n)) (some (.ref oa)) (some (.ref x)) (some (.ref R)) (some (.ref p)) (some (.ref F)) (some (.ref B)) (some (.ref A)) (some (.ref G)) (some (.ref Z)) (some (.int (c1 : Nat))) (some (.int m)) v13 v14 v15 ∧ H' = H13, ?_, ?_⟩
        · exact ⟨_, rfl, _, rfl, A, _, _, .ref u, rfl, rfl, AA s12, at0, u, _, 1, _, rfl, rfl, SqT.of (uu s12), at_of (j := 1) rfl rfl, rfl, rfl⟩
        rintro σ H14 ⟨rfl, rfl⟩
        refine ⟨fun σ H' => ∃ D : Addr, σ = s16 a (some (.int n)) (some (.ref oa)) (some (.ref x)) (some (.ref R)) (some (.ref p)) (some (.ref F)) (some (.ref B)) (some (.ref A)) (some (.ref G)) (some (.ref Z)) (some (.int (c1 : Nat))) (some (.int m)) (some (.ref D)) v14 v15 ∧ H' D = some (.lst ((cutL ws c0 c1).map V.str)) ∧ Same H14 H', ?_, ?_⟩
        · exact ⟨_, rfl, _, rfl, _, rfl, A, _, _, .ref u, rfl, rfl, AA s12, at0, u, _, 0, _, rfl, rfl, SqT.of (uu s12), at_of (j := 0) rfl rfl, (c0 : Nat), rfl, _, rfl, _, rfl, A, _, _, .ref u, rfl, rfl, AA s12, at0, u, _, 1, _, rfl, rfl, SqT.of (uu s12), at_of (j := 1) rfl rfl, (c1 : Nat), rfl, F, _, rfl, SqL.of (s12 _ _ hF9), fun D hD => ⟨D, rfl, by rw [upd_same, cz], Same.new (Same.refl H14) hD⟩⟩
        rintro σ H15 ⟨D, rfl, hD15, s15⟩
        have s9 := s12.trans s15
        have row : ∀ {H' : Hp}, Same H11 H' → RowE o 5 H' (.ref ua) e := fun s => (he9 k _ e hts hes).same s
        have rz : ∀ {H' : Hp}, Same H11 H' → H' ua = some (.tup [.str e.1, v]) := fun s => s _ _ hua
        have RR : ∀ {H' : Hp}, Same H11 H' → SqL K H' R ts := fun s => SqL.of (s _ _ hR9)
        have atR : atI ts m = some (.ref ua) := at_of (j := k) (by omega) hts
        obtain ⟨z0, hz0⟩ : ∃ z0, (cutL ws c0 c1)[0]? = some z0 := ⟨_, List.getElem?_eq_getElem (by omega)⟩
        have ez : z0 = e.1 := by
          rw [cut_at (by omega), Nat.add_zero] at hz0
          have e1 : e.1 = tokA (ws.map Option.some) c0 := congrArg Prod.fst (Option.some.inj ee)
          rw [e1]
          unfold tokA
          rw [List.getElem?_map, hz0]
          rfl
        have cm : (cutL ws c0 c1).map Option.some = cutL (ws.map Option.some) c0 c1 := (cutL_map _ _ _ _).symm
        have ct : ∀ z ∈ cutL ws c0 c1, tiny z = true := fun z hz => wt z (List.mem_of_mem_drop (List.mem_of_mem_take hz))
        have oe := one_ok hz am
        refine ⟨fun σ H' => σ = s16 a (some (.int n)) (some (.ref oa)) (some (.ref x)) (some (.ref R)) (some (.ref p)) (some (.ref F)) (some (.ref B)) (some (.ref A)) (some (.ref G)) (some (.ref Z)) (some (.int (c1 : Nat))) (some (.int m)) (some (.ref D)) v14 v15 ∧ Same H11 H', ?_, ?_⟩
        · refine ⟨_, rfl, D, _, 0, .str z0, rfl, rfl, SqL.of hD15, at_of (j := 0) rfl (by rw [List.getElem?_map, hz0]; rfl), _, rfl, _, rfl, R, _, _, .ref ua, rfl, rfl, RR s9, atR, ua, _, 0, _, rfl, rfl, SqT.of (rz s9), at_of (j := 0) rfl rfl, rfl, _, rfl, iteNS (congrArg V.str ez) ?_⟩
          refine ⟨_, rfl, _, rfl, x, D, o.lang, _, (cutL ws c0 c1).map Option.some, rfl, hL9.same s9, SqL.of hD15, (txt_things ct).1, by rw [List.length_map]; omega, fun w' hw' P' H16 hP s16' en => ?_, fun k' z hk => by rw [cm, pr] at hk; cases hk⟩
          rw [cm, pr] at hw'
          cases hw'
          rw [cm, pe] at en
          have sq := s9.trans s16'
          refine ⟨.ref P', _, rfl, entries_dp en, oe.s, oe.n, oe.dp, oe.l, _, rfl, _, rfl, R, _, _, .ref ua, rfl, rfl, RR sq, atR, by show 1 ≤ sizeLine; decide, fun l hl => ?_⟩
          have sl := Same.new (o := .lst [.ref ua]) sq hl
          exact ⟨.ref l, _, rfl, .lst (SqL.of upd_same) (.cons (.tup (SqT.of (rz sl)) (.cons (.str _) (.cons ((va.same sl).dp) .nil))) .nil), oe.s, oe.n, oe.dp, oe.l, rfl, _, rfl, iteNS rfl ⟨rfl, sl⟩⟩
        rintro σ H16 ⟨rfl, s16'⟩
        refine ⟨_, rfl, _, rfl, _, rfl, A, _, _, .ref u, rfl, rfl, AA s16', at0, u, _, 0, _, rfl, rfl, SqT.of (uu s16'), at_of (j := 0) rfl rfl, (c0 : Nat), rfl, _, rfl, _, rfl, A, _, _, .ref u, rfl, rfl, AA s16', at0, u, _, 1, _, rfl, rfl, SqT.of (uu s16'), at_of (j := 1) rfl rfl, (c1 : Nat), rfl, Z, _, rfl, SqL.of (s16' _ _ hZ9), fun L hL => ⟨L, rfl, ⟨_, SqL.of upd_same⟩, fun D2 hD2 => ?_⟩⟩
        rw [cr] at hD2 ⊢
        have cl : (cutL (rolesL (ws.map Option.some) w0) c0 c1).length ≤ 900 := by
          rw [cut_len (by omega) (by rw [roles_len (by rw [List.length_map]; exact wl0), List.length_map]; omega)]
          omega
        have sL := Same.new (o := .lst ((cutL (rolesL (ws.map Option.some) w0) c0 c1).map V.str)) s16' hL
        generalize hcs : cutL (rolesL (ws.map Option.some) w0) c0 c1 = cs at *
        have hLL : upd H16 L (.lst (cs.map V.str)) L = some (.lst (cs.map V.str)) := upd_same
        generalize upd H16 L (.lst (cs.map V.str)) = H17 at *
        refine lc_list (K := K) (a := L) (xs := cs.map V.str) (fun i H' => Same H17 H' ∧ H' D2 = some (.lst (((cs.take i).filter fun z => decide (z = ("name" : Str))).map V.str))) ⟨Same.new (Same.refl _) hD2, upd_same⟩ (fun i H' _ ⟨s', _⟩ => SqL.of (s' _ _ hLL)) ?_ ?_
        · rintro i' y H18 hi' ⟨s18, h18⟩
          rw [List.getElem?_map] at hi'
          obtain ⟨z, hz', rfl⟩ := Option.map_eq_some_iff.mp hi'
          have more : ((cs.take (i' + 1)).filter fun z => decide (z = ("name" : Str))) = ((cs.take i').filter fun z => decide (z = ("name" : Str))) ++ (if decide (z = ("name" : Str)) = true then [z] else []) := by
            rw [List.take_add_one, hz', List.filter_append]
            congr 1
            exact filt_one _ z
          refine ⟨rfl, _, rfl, rfl, _, rfl, ?_⟩
          show if decide (V.str z = V.str "name") = true then _ else _
          rw [eq_strB]
          by_cases c : z = "name"
          · rw [decide_eq_true c]
            refine iteT ⟨_, rfl, _, h18, ?_, Same.put s18 hD2, ?_⟩
            · rw [List.length_map]
              exact Nat.lt_of_le_of_lt (Nat.le_trans (List.length_filter_le _ _) (by rw [List.length_take]; omega : (cs.take i').length ≤ 900)) (by decide)
            · rw [upd_same, more, if_pos (decide_eq_true c), List.map_append]
              rfl
          · rw [decide_eq_false c]
            refine iteF ⟨s18, ?_⟩
            rw [more, if_neg (by rw [decide_eq_false c]; decide), List.append_nil]
            exact h18
        · rintro H18 ⟨s18, h18⟩
          rw [List.length_map, List.take_length, po] at h18
          refine ⟨by show 1 ≤ sizeLine; decide, fun l hl => ?_⟩
          have sl := Same.new (o := .lst [.str "name"]) (Same.refl H18) hl
          refine ⟨textsP [("name" : Str)], textsP [("name" : Str)], texts_dp (sl _ _ h18), texts_dp upd_same, name_ok, name_ok, _, rfl, ?_⟩
          rw [eqv_self name_ok]
          exact iteF ⟨_, _, rfl, sL.trans (s18.trans sl)⟩
      · rintro σ H12 ⟨v12, v13, rfl, s12⟩
        refine ⟨v12, v13, ?_, s12⟩
        rw [List.length_map, hA9.2.1, cN_end]
    rintro σ H12 ⟨v12, v13, rfl, s12⟩
    refine ⟨fun σ H' => σ = s16 a (some (.int n)) (some (.ref oa)) (some (.ref x)) (some (.ref R)) (some (.ref p)) (some (.ref F)) (some (.ref B)) (some (.ref A)) (some (.ref G)) (some (.ref Z)) (some (.int (w0.length : Nat))) v12 v13 v14 v15 ∧ H' = H12, ?_, ?_⟩
    · refine ⟨_, rfl, _, rfl, F, _, rfl, .inl (SqL.of (s12 _ _ hF9)), rfl, _, rfl, iteNS ?_ ⟨_, rfl, _, rfl, textsP ws, textsP ws, texts_dp (s12 _ _ hF9), texts_dp (s12 _ _ hB9), shw, shw, _, rfl, ?_⟩⟩
      · rw [List.length_map, wl0]
      · rw [eqv_self shw]
        exact iteF ⟨rfl, rfl⟩
    rintro σ H13 ⟨rfl, rfl⟩
    refine ⟨fun σ H' => σ = s16 a (some (.int n)) (some (.ref oa)) (some (.ref x)) (some (.ref R)) (some (.ref p)) (some (.ref F)) (some (.ref B)) (some (.ref A)) (some (.ref G)) (some (.ref Z)) (some (.int (w0.length : Nat))) v12 v13 (some (.str (spansP w0).shown)) v15 ∧ H' = H13, ⟨_, rfl, .ref A, _, rfl, spans_dp (hA9.same s12), oks.s, oks.n, oks.dp, oks.l, rfl, rfl⟩, ?_⟩
    rintro σ H14 ⟨rfl, rfl⟩
    have sA := s69.trans s12
    refine ⟨fun σ H' => σ = s16 a (some (.int n)) (some (.ref oa)) (some (.ref x)) (some (.ref R)) (some (.ref p)) (some (.ref F)) (some (.ref B)) (some (.ref A)) (some (.ref G)) (some (.ref Z)) (some (.int (w0.length : Nat))) v12 v13 (some (.str (spansP w0).shown)) v15 ∧ Same H6 H' ∧ H' G = some (.lst ((rolesL (ws.map Option.some) w0).map V.str)) ∧ H' Z = some (.lst ((rolesL (ws.map Option.some) w0).map V.str)), ?_, ?_⟩
    · have hA14 := s12 _ _ hA9.1
      refine ⟨_, rfl, .inl ⟨rfl, _, SqL.of hA14⟩, by show 2 ≤ sizeLine; decide, fun u hu => ?_⟩
      have su := Same.new (o := .tup [.int 0, .int 0]) (Same.refl H14) hu
      refine ⟨A, _, _, rfl, rfl, su _ _ hA14, ?_, rfl, Same.put (sA.trans su) nA9, ?_, ?_⟩
      · rw [List.length_map, hA9.2.1]
        exact Nat.lt_of_le_of_lt (show _ ≤ 10 by omega) (by decide)
      · rw [upd_ne (Ne.symm AG)]; exact su _ _ (s12 _ _ hG9)
      · rw [upd_ne (Ne.symm AZ)]; exact su _ _ (s12 _ _ hZ9)
    rintro σ H15 ⟨rfl, s15, hG15, hZ15⟩
    refine ⟨fun σ H' => σ = s16 a (some (.int n)) (some (.ref oa)) (some (.ref x)) (some (.ref R)) (some (.ref p)) (some (.ref F)) (some (.ref B)) (some (.ref A)) (some (.ref G)) (some (.ref Z)) (some (.int (w0.length : Nat))) v12 v13 (some (.str (spansP w0).shown)) v15 ∧ Same H6 H' ∧ H' Z = some (.lst ((rolesL (ws.map Option.some) w0).map V.str)), ?_, ?_⟩
    · refine ⟨_, rfl, .inl ⟨rfl, _, SqL.of hG15⟩, G, _, _, rfl, rfl, hG15, ?_, rfl, Same.put s15 nG9, ?_⟩
      · rw [List.length_map, roles_len (by rw [List.length_map]; exact wl0), List.length_map]
        exact Nat.lt_of_le_of_lt wl (by decide)
      · rw [upd_ne (Ne.symm GZ)]; exact hZ15
    rintro σ H16 ⟨rfl, s16', hZ16⟩
    refine ⟨_, rfl, _, rfl, F, _, rfl, .inl ⟨SqL.of (s16' _ _ hF6), fun t ht => ?_⟩⟩
    have st := Same.new (o := .tup (ws.map V.str)) (Same.refl H16) ht
    refine ⟨x, t, o.lang, _, ws.map Option.some, rfl, hL6.same (s16'.trans st), SqT.of upd_same, thg, lw, fun w' hw' P' us' H17 hP s17 sp => ?_, fun k z hk => by rw [hw] at hk; cases hk⟩
    rw [hw] at hw'
    cases hw'
    have s17' := st.trans s17
    refine ⟨.ref P', _, rfl, spans_dp sp, oks.s, oks.n, oks.dp, oks.l, _, rfl, rfl, _, rfl, iteNS rfl ?_⟩
    refine ⟨_, rfl, _, rfl, F, _, rfl, .inl ⟨SqL.of (s17' _ _ (s16' _ _ hF6)), fun t' ht' => ?_⟩⟩
    have st' := Same.new (o := .tup (ws.map V.str)) (Same.refl H17) ht'
    refine ⟨x, t', o.lang, _, ws.map Option.some, rfl, hL6.same (s16'.trans (s17'.trans st')), SqT.of upd_same, thg, lw, fun w' hw' P2 H18 hP2 s18 rg => ?_, fun k z hk => by rw [hw] at hk; cases hk⟩
    rw [hw] at hw'
    cases hw'
    have s18' := s17'.trans (st'.trans s18)
    refine ⟨.ref P2, _, rfl, texts_dp rg, okr.s, okr.n, okr.dp, okr.l, _, rfl, .ref Z, _, rfl, texts_dp (s18' _ _ hZ16), okr.s, okr.n, okr.dp, okr.l, rfl, _, rfl, iteNS rfl ?_⟩
    exact ⟨⟨_, _, _, _, _, _, _, _, _, _, _, _, _, _, _, rfl⟩, sH.trans (s16'.trans s18')⟩
end
end K5

namespace K5
open PySem L2
/-- a def of the written part, under its own name -/
def Held (K : PySem.W.Frag) (mg : Str → Option Value) (x : Str) (st : Stmt) (f : Addr) (fd : FuncData) : Prop := Fun K x x st f fd ∧ mg x = some (.ref f)
/-- the keyword defaults of a language -/
abbrev kws7 (aT : Addr) : List (Str × V) := [(("equals" : Str), .str "must"), (("end" : Str), .str "must"), (("comma" : Str), .str "must"), (("last" : Str), .str "never"), (("doubled" : Str), .ref aT), (("bare" : Str), .bl false), (("nothing" : Str), .bl false)]
/-- what the written part says of classes and constants -/
structure Rest (P : Program) (w : World) (K : PySem.W.Frag) (mg : Str → Option Value) (C CB CU fE fU aD aO aC aS aK aR fInit fMStep fMClo fMNext : Addr) : Prop where
  T : ModC K w mg aD aO aC
  Z : K5S.Mod K mg aS
  S : LangC K mg C
  TE : K5E.ErrTxt P K mg CB fE
  TU : K5U.ErrTxt P K mg CU fU
  RO : RolesC K w mg aR
  gK : mg "SORTS" = some (.ref aK)
  hK : TupW K aK sorts7
  M : Mk K C fInit
  mS : Meth K C "step" fMStep
  mC : Meth K C "closes" fMClo
  mN : Meth K C "next_sorts" fMNext
  enum : mg "enumerate" = none
  zip : mg "zip" = none
theorem all_of {P : Program} {w : World} {K : PySem.W.Frag} {mg : Str → Option Value} {base : Heap} {C CB CU fE fU aD aO aC aS aK aR aT : Addr} {fOneOf fCons fIsW fIsN fIsS fSort fStates fSpOf fValue fSingle fRole fEntr fRead fSpans fRoles fDoub fAllow fDbl fWName fWEqu fWBeh fWItem fWCom fWDone fWEnd fAllW fPool fPick fOf fWord fWords fOpts fLang fLNext fLClo fWrit fWList fItems fAmt fRows fTag fOnw fPath fDue fMStep fMClo fMNext fInit fLaw : Addr} {dOneOf dCons dIsW dIsN dIsS dSort dStates dSpOf dValue dSingle dRole dEntr dRead dSpans dRoles dDoub dAllow dDbl dWName dWEqu dWBeh dWItem dWCom dWDone dWEnd dAllW dPool dPick dOf dWord dWords dOpts dLang dLNext dLClo dWrit dWList dItems dAmt dRows dTag dOnw dPath dDue dMStep dMClo dMNext dInit dLaw : FuncData} (R : Rest P w K mg C CB CU fE fU aD aO aC aS aK aR fInit fMStep fMClo fMNext)
    (hOneOf : Held K mg "is_one_of" sOneOf fOneOf dOneOf) (hCons : Held K mg "consists_of" K5S.sConsists fCons dCons) (hIsW : Held K mg "is_word" K5S.sIsWord fIsW dIsW) (hIsN : Held K mg "is_numeral" K5S.sIsNumeral fIsN dIsN) (hIsS : Held K mg "is_sign" K5S.sIsSign fIsS dIsS) (hSort : Held K mg "sort_of" K5S.sSortOf fSort dSort) (hStates : Held K mg "states" sStates fStates dStates) (hSpOf : Held K mg "spans_of" sSpans fSpOf dSpOf) (hValue : Held K mg "value_of" sValue fValue dValue) (hSingle : Held K mg "single_value" sSingle fSingle dSingle) (hRole : Held K mg "role_of" sRole fRole dRole) (hEntr : Held K mg "entries_by" sEntries fEntr dEntr) (hRead : Held K mg "read" sRead fRead dRead) (hSpans : Held K mg "spans" sSpansF fSpans dSpans) (hRoles : Held K mg "roles" sRoles fRoles dRoles) (hDoub : Held K mg "is_doubled_option" sDoub fDoub dDoub) (hAllow : Held K mg "is_allowed" sAllowed fAllow dAllow) (hDbl : Held K mg "doubling" sDbl fDbl dDbl) (hWName : Held K mg "ways_from_name" sName fWName dWName) (hWEqu : Held K mg "ways_from_equals" sEquals fWEqu dWEqu) (hWBeh : Held K mg "ways_behind_item" sBehind fWBeh dWBeh) (hWItem : Held K mg "ways_from_item" sItem fWItem dWItem) (hWCom : Held K mg "ways_from_comma" sComma fWCom dWCom) (hWDone : Held K mg "ways_from_done" sDone fWDone dWDone) (hWEnd : Held K mg "ways_from_ended" sEnded fWEnd dWEnd) (hAllW : Held K mg "all_ways" sAllWays fAllW dAllW) (hPool : Held K mg "_law_pool" sPool fPool dPool) (hPick : Held K mg "_law_pick" sPick fPick dPick) (hOf : Held K mg "_law_of" K5S.sOf fOf dOf) (hWord : Held K mg "_law_word" K5S.sLawWord fWord dWord) (hWords : Held K mg "_law_words" sWords fWords dWords) (hOpts : Held K mg "_law_options" sOptions fOpts dOpts) (hLang : Held K mg "_law_language" sLanguage fLang dLang) (hLNext : Held K mg "_law_next" sLNext fLNext dLNext) (hLClo : Held K mg "_law_closes" sLClo fLClo dLClo) (hWrit : Held K mg "_law_written" sWritten fWrit dWrit) (hWList : Held K mg "_law_written_list" sWList fWList dWList) (hItems : Held K mg "_law_items" sItems fItems dItems) (hAmt : Held K mg "_law_amount" sAmount fAmt dAmt) (hRows : Held K mg "_law_rows" sRows fRows dRows) (hTag : Held K mg "_law_tag" sTag fTag dTag) (hOnw : Held K mg "_law_onward" sOnw fOnw dOnw) (hPath : Held K mg "_law_path" sPath fPath dPath) (hDue : Held K mg "_law_due_roles" sDue fDue dDue)
    (hMStep : Fun K "step" "Language.step" sStep fMStep dMStep) (hMClo : Fun K "closes" "Language.closes" sCloses fMClo dMClo) (hMNext : Fun K "next_sorts" "Language.next_sorts" sNext fMNext dMNext) (hInit : FunD K "__init__" "Language.__init__" (defArgs sInit) (defBody sInit) (defScope sInit) [] (kws7 aT) fInit dInit) (hLaw : Fun K "law" "law" sLaw fLaw dLaw)
    (kb : KBn K dInit pInit 1 names7 (fun us ws => us ++ ws) (fun vs zs => vs ++ zs))
    (bOneOf : Binds K dOneOf ["thing", "words"] []) (bCons : Binds K dCons ["thing", "characters"] []) (bIsW : Binds K dIsW ["thing"] []) (bIsN : Binds K dIsN ["thing"] []) (bIsS : Binds K dIsS ["thing"] []) (bSort : Binds K dSort ["thing"] []) (bStates : Binds K dStates ["language", "file"] []) (bSpOf : Binds K dSpOf ["way"] []) (bValue : Binds K dValue ["file", "way", "first", "behind"] []) (bSingle : Binds K dSingle ["token", "members"] []) (bRole : Binds K dRole ["sort", "after"] []) (bEntr : Binds K dEntr ["file", "way"] []) (bRead : Binds K dRead ["language", "file"] []) (bSpans : Binds K dSpans ["language", "file"] []) (bRoles : Binds K dRoles ["language", "file"] []) (bDoub : Binds K dDoub ["thing"] []) (bAllow : Binds K dAllow ["option", "thing"] []) (bDbl : Binds K dDbl ["language", "sign", "state"] []) (bWName : Binds K dWName ["language"] []) (bWEqu : Binds K dWEqu ["language"] []) (bWBeh : Binds K dWBeh ["language"] []) (bWItem : Binds K dWItem ["language"] []) (bWCom : Binds K dWCom ["language"] []) (bWDone : Binds K dWDone ["language"] []) (bWEnd : Binds K dWEnd ["language"] []) (bAllW : Binds K dAllW ["language"] []) (bPool : Binds K dPool ["_law_script", "_law_place"] []) (bPick : Binds K dPick ["_law_pool_here", "_law_many"] []) (bOf : Binds K dOf ["_law_pool_here", "_law_some"] []) (bWord : Binds K dWord ["_law_pool_here", "_law_taken"] []) (bWords : Binds K dWords ["_law_pool_here", "_law_many", "_law_taken"] []) (bOpts : Binds K dOpts ["_law_pool_here"] []) (bLang : Binds K dLang ["_law_options_here"] []) (bLNext : Binds K dLNext ["_law_options_here", "_law_state", "_law_sort"] []) (bLClo : Binds K dLClo ["_law_options_here", "_law_state"] []) (bWrit : Binds K dWrit ["_law_pool_here", "_law_options_here", "_law_entries"] []) (bWList : Binds K dWList ["_law_pool_here", "_law_options_here", "_law_items_here"] []) (bItems : Binds K dItems ["_law_pool_here", "_law_menu", "_law_most", "_law_may_pair"] []) (bAmt : Binds K dAmt ["_law_pool_here", "_law_options_here", "_law_menu", "_law_most"] []) (bRows : Binds K dRows ["_law_pool_here", "_law_options_here", "_law_many", "_law_most"] []) (bTag : Binds K dTag ["_law_one"] []) (bOnw : Binds K dOnw ["_law_options_here", "_law_state"] []) (bPath : Binds K dPath ["_law_options_here", "_law_file"] []) (bDue : Binds K dDue ["_law_options_here", "_law_file"] []) (bMStep : Binds K dMStep ["self", "state", "sort"] []) (bMClo : Binds K dMClo ["self", "state"] []) (bMNext : Binds K dMNext ["self", "state"] []) : FnG P w K mg base 8 fLaw dLaw ["_law_script"] (spLaw K) := by
  have T := R.T
  have T0 : Bare mg := R.T.toBare
  have Z := R.Z
  have S := R.S
  have GOneOf : FnOk P w K mg base CX0 1 fOneOf dOneOf ["thing", "words"] (spOneOf K) := ok_oneOf hOneOf.1 T0
  have GIsW : FnOk P w K mg base CX0 2 fIsW dIsW ["thing"] (K5S.spWord K) := K5S.ok_word hIsW.1 Z hCons.1 bCons hCons.2
  have GIsN : FnOk P w K mg base CX0 2 fIsN dIsN ["thing"] (K5S.spNum K) := K5S.ok_num hIsN.1 Z hCons.1 bCons hCons.2
  have GIsS : FnOk P w K mg base CX0 2 fIsS dIsS ["thing"] (K5S.spSign K) := K5S.ok_sign hIsS.1 Z hOneOf.1 bOneOf hOneOf.2
  have GSort : FnOk P w K mg base CX0 3 fSort dSort ["thing"] (K5S.spSort K) := K5S.ok_sort hSort.1 hIsS.1.kp GIsS bIsS hIsS.2 hIsW.1.kp GIsW bIsW hIsW.2 hIsN.1.kp GIsN bIsN hIsN.2
  have GMStep : FnOk P w K mg base CX0 1 fMStep dMStep ["self", "state", "sort"] (spStep C) := ok_step hMStep S
  have GMClo : FnOk P w K mg base CX0 1 fMClo dMClo ["self", "state"] (spCloses C) := ok_closes hMClo S
  have GMNext : FnOk P w K mg base CX0 2 fMNext dMNext ["self", "state"] (spNext C) := ok_next hMNext T0 S R.gK R.hK R.mS GMStep bMStep R.mC GMClo bMClo
  have GStates : FnOk P w K mg base (L2.CX P w) 4 fStates dStates ["language", "file"] (spStates K C CU) := ok_states hStates.1 T0 R.enum S R.TU ⟨fSort, dSort, hSort.1.kp, GSort, bSort, hSort.2⟩ R.mS GMStep bMStep R.mC GMClo bMClo R.mN GMNext bMNext
  have GSpOf : FnOk P w K mg base CX0 1 fSpOf dSpOf ["way"] (spSpansOf K) := ok_spansOf hSpOf.1 T0 R.enum R.zip
  have GSingle : FnOk P w K mg base CX0 4 fSingle dSingle ["token", "members"] (spSingle K) := ok_single hSingle.1 T0 ⟨fSort, dSort, hSort.1.kp, GSort, bSort, hSort.2⟩
  have GValue : FnOk P w K mg base CX0 5 fValue dValue ["file", "way", "first", "behind"] (spValue K) := ok_value hValue.1 T0 ⟨fSingle, dSingle, hSingle.1.kp, GSingle, bSingle, hSingle.2⟩
  have GEntr : FnOk P w K mg base CX0 6 fEntr dEntr ["file", "way"] (spEntries K) := ok_entries hEntr.1 ⟨fValue, dValue, hValue.1.kp, GValue, bValue, hValue.2⟩ ⟨fSpOf, dSpOf, hSpOf.1.kp, GSpOf, bSpOf, hSpOf.2⟩
  have GRead : FnOk P w K mg base (L2.CX P w) 7 fRead dRead ["language", "file"] (spRead K C CU) := ok_read hRead.1 ⟨fEntr, dEntr, hEntr.1.kp, GEntr, bEntr, hEntr.2⟩ ⟨fStates, dStates, hStates.1.kp, GStates, bStates, hStates.2⟩
  have GSpans : FnOk P w K mg base (L2.CX P w) 5 fSpans dSpans ["language", "file"] (spSpansF K C CU) := ok_spansF hSpans.1 ⟨fSpOf, dSpOf, hSpOf.1.kp, GSpOf, bSpOf, hSpOf.2⟩ ⟨fStates, dStates, hStates.1.kp, GStates, bStates, hStates.2⟩
  have GRole : FnOk P w K mg base CX0 1 fRole dRole ["sort", "after"] spRole := ok_role hRole.1 R.RO
  have GRoles : FnOk P w K mg base (L2.CX P w) 5 fRoles dRoles ["language", "file"] (spRoles K C CU) := ok_roles hRoles.1 R.enum ⟨fStates, dStates, hStates.1.kp, GStates, bStates, hStates.2⟩ ⟨fRole, dRole, hRole.1.kp, GRole, bRole, hRole.2⟩ ⟨fSort, dSort, hSort.1.kp, GSort, bSort, hSort.2⟩
  have GDoub : FnOk P w K mg base CX0 2 fDoub dDoub ["thing"] (spDoub K) := ok_doub hDoub.1 T ⟨fOneOf, dOneOf, hOneOf.1.kp, GOneOf, bOneOf, hOneOf.2⟩
  have GAllow : FnOk P w K mg base CX0 3 fAllow dAllow ["option", "thing"] (spAllowed K) := ok_allowed hAllow.1 T ⟨fOneOf, dOneOf, hOneOf.1.kp, GOneOf, bOneOf, hOneOf.2⟩ ⟨fDoub, dDoub, hDoub.1.kp, GDoub, bDoub, hDoub.2⟩
  have GDbl : FnOk P w K mg base CX0 1 fDbl dDbl ["language", "sign", "state"] (spDbl C) := ok_dbl hDbl.1 S
  have GWName : FnOk P w K mg base CX0 1 fWName dWName ["language"] (spWays C wName) := ok_name hWName.1 S
  have GWEqu : FnOk P w K mg base CX0 2 fWEqu dWEqu ["language"] (spWays C wEqu) := ok_equals hWEqu.1 S ⟨fDbl, dDbl, hDbl.1.kp, GDbl, bDbl, hDbl.2⟩
  have GWBeh : FnOk P w K mg base CX0 1 fWBeh dWBeh ["language"] (spWays C wBeh) := ok_behind hWBeh.1 S
  have GWItem : FnOk P w K mg base CX0 2 fWItem dWItem ["language"] (spWays C wItem) := ok_item hWItem.1 S ⟨fWBeh, dWBeh, hWBeh.1.kp, GWBeh, bWBeh, hWBeh.2⟩
  have GWCom : FnOk P w K mg base CX0 2 fWCom dWCom ["language"] (spWays C wCom) := ok_comma hWCom.1 S ⟨fDbl, dDbl, hDbl.1.kp, GDbl, bDbl, hDbl.2⟩
  have GWDone : FnOk P w K mg base CX0 1 fWDone dWDone ["language"] (spWays C wDone) := ok_done hWDone.1 S
  have GWEnd : FnOk P w K mg base CX0 2 fWEnd dWEnd ["language"] (spWays C wEnd) := ok_ended hWEnd.1 ⟨fDbl, dDbl, hDbl.1.kp, GDbl, bDbl, hDbl.2⟩
  have GAllW : FnOk P w K mg base CX0 3 fAllW dAllW ["language"] (spAll C) := ok_allWays hAllW.1 ⟨fWName, dWName, hWName.1.kp, GWName, bWName, hWName.2⟩ ⟨fWEqu, dWEqu, hWEqu.1.kp, GWEqu, bWEqu, hWEqu.2⟩ ⟨fWItem, dWItem, hWItem.1.kp, GWItem, bWItem, hWItem.2⟩ ⟨fWBeh, dWBeh, hWBeh.1.kp, GWBeh, bWBeh, hWBeh.2⟩ ⟨fWCom, dWCom, hWCom.1.kp, GWCom, bWCom, hWCom.2⟩ ⟨fWDone, dWDone, hWDone.1.kp, GWDone, bWDone, hWDone.2⟩ ⟨fWEnd, dWEnd, hWEnd.1.kp, GWEnd, bWEnd, hWEnd.2⟩
  have GInit : FnOk P w K mg base (L2.CX P w) 4 fInit dInit pInit (spInit K C CB) := ok_init hInit T S R.TE ⟨fAllow, dAllow, hAllow.1.kp, GAllow, bAllow, hAllow.2⟩ ⟨fAllW, dAllW, hAllW.1.kp, GAllW, bAllW, hAllW.2⟩
  have GPool : FnOk P w K mg base CX0 1 fPool dPool ["_law_script", "_law_place"] (spPool K) := ok_pool hPool.1 T0
  have GPick : FnOk P w K mg base CX0 1 fPick dPick ["_law_pool_here", "_law_many"] spPick := ok_pick hPick.1 T0
  have GOf : FnOk P w K mg base CX0 2 fOf dOf ["_law_pool_here", "_law_some"] K5S.spOf := K5S.ok_of hOf.1 Z hPick.1.kp GPick bPick hPick.2
  have GWord : FnOk P w K mg base CX0 2 fWord dWord ["_law_pool_here", "_law_taken"] K5S.spLawWord := K5S.ok_lawWord hWord.1 Z hPick.1.kp GPick bPick hPick.2
  have GWords : FnOk P w K mg base CX0 3 fWords dWords ["_law_pool_here", "_law_many", "_law_taken"] spWords3 := ok_words hWords.1 T0 ⟨fWord, dWord, hWord.1.kp, GWord, bWord, hWord.2⟩
  have GOpts : FnOk P w K mg base CX0 3 fOpts dOpts ["_law_pool_here"] spOptions := ok_options hOpts.1 ⟨fPick, dPick, hPick.1.kp, GPick, bPick, hPick.2⟩ ⟨fOf, dOf, hOf.1.kp, GOf, bOf, hOf.2⟩
  have GLang : FnOk P w K mg base CX0 6 fLang dLang ["_law_options_here"] (spLanguage C) := ok_language hLang.1 S.gC R.M GInit kb
  have GLNext : FnOk P w K mg base CX0 1 fLNext dLNext ["_law_options_here", "_law_state", "_law_sort"] spLNext := ok_lnext hLNext.1
  have GLClo : FnOk P w K mg base CX0 1 fLClo dLClo ["_law_options_here", "_law_state"] spLClo := ok_lclo hLClo.1
  have GWList : FnOk P w K mg base CX0 2 fWList dWList ["_law_pool_here", "_law_options_here", "_law_items_here"] spWList := ok_wlist hWList.1 T0 R.enum ⟨fPick, dPick, hPick.1.kp, GPick, bPick, hPick.2⟩
  have GWrit : FnOk P w K mg base CX0 3 fWrit dWrit ["_law_pool_here", "_law_options_here", "_law_entries"] spWritten := ok_written hWrit.1 T0 R.enum ⟨fPick, dPick, hPick.1.kp, GPick, bPick, hPick.2⟩ ⟨fWList, dWList, hWList.1.kp, GWList, bWList, hWList.2⟩
  have GItems : FnOk P w K mg base CX0 3 fItems dItems ["_law_pool_here", "_law_menu", "_law_most", "_law_may_pair"] spItems := ok_items hItems.1 T0 ⟨fPick, dPick, hPick.1.kp, GPick, bPick, hPick.2⟩ ⟨fOf, dOf, hOf.1.kp, GOf, bOf, hOf.2⟩
  have GAmt : FnOk P w K mg base CX0 4 fAmt dAmt ["_law_pool_here", "_law_options_here", "_law_menu", "_law_most"] spAmount := ok_amount hAmt.1 ⟨fPick, dPick, hPick.1.kp, GPick, bPick, hPick.2⟩ ⟨fOf, dOf, hOf.1.kp, GOf, bOf, hOf.2⟩ ⟨fItems, dItems, hItems.1.kp, GItems, bItems, hItems.2⟩
  have GRows : FnOk P w K mg base CX0 5 fRows dRows ["_law_pool_here", "_law_options_here", "_law_many", "_law_most"] spRows := ok_rows hRows.1 T0 ⟨fPick, dPick, hPick.1.kp, GPick, bPick, hPick.2⟩ ⟨fOf, dOf, hOf.1.kp, GOf, bOf, hOf.2⟩ ⟨fWords, dWords, hWords.1.kp, GWords, bWords, hWords.2⟩ ⟨fAmt, dAmt, hAmt.1.kp, GAmt, bAmt, hAmt.2⟩
  have GTag : FnOk P w K mg base CX0 1 fTag dTag ["_law_one"] (spTag K) := ok_tag hTag.1 T0
  have GOnw : FnOk P w K mg base CX0 2 fOnw dOnw ["_law_options_here", "_law_state"] spOnw := ok_onw hOnw.1 T0 ⟨fLNext, dLNext, hLNext.1.kp, GLNext, bLNext, hLNext.2⟩ ⟨fLClo, dLClo, hLClo.1.kp, GLClo, bLClo, hLClo.2⟩
  have GPath : FnOk P w K mg base CX0 3 fPath dPath ["_law_options_here", "_law_file"] (spPath K) := ok_path hPath.1 T0 R.enum ⟨fLNext, dLNext, hLNext.1.kp, GLNext, bLNext, hLNext.2⟩ ⟨fLClo, dLClo, hLClo.1.kp, GLClo, bLClo, hLClo.2⟩ ⟨fTag, dTag, hTag.1.kp, GTag, bTag, hTag.2⟩ ⟨fOnw, dOnw, hOnw.1.kp, GOnw, bOnw, hOnw.2⟩
  have GStatesT : FnOk P w K mg base (L2.CX P w) 4 fStates dStates ["language", "file"] (spStatesT K C CU) := ok_statesT hStates.1 T0 R.enum S R.TU ⟨fSort, dSort, hSort.1.kp, GSort, bSort, hSort.2⟩ R.mS GMStep bMStep R.mC GMClo bMClo R.mN GMNext bMNext
  have GSpansT : FnOk P w K mg base (L2.CX P w) 5 fSpans dSpans ["language", "file"] (spSpansFT K C CU) := ok_spansFT hSpans.1 ⟨fSpOf, dSpOf, hSpOf.1.kp, GSpOf, bSpOf, hSpOf.2⟩ ⟨fStates, dStates, hStates.1.kp, GStatesT, bStates, hStates.2⟩
  have GRolesT : FnOk P w K mg base (L2.CX P w) 5 fRoles dRoles ["language", "file"] (spRolesT K C CU) := ok_rolesT hRoles.1 R.enum ⟨fStates, dStates, hStates.1.kp, GStatesT, bStates, hStates.2⟩ ⟨fRole, dRole, hRole.1.kp, GRole, bRole, hRole.2⟩ ⟨fSort, dSort, hSort.1.kp, GSort, bSort, hSort.2⟩
  have GDue : FnOk P w K mg base CX0 4 fDue dDue ["_law_options_here", "_law_file"] (spDue K) := ok_due hDue.1 R.enum ⟨fPath, dPath, hPath.1.kp, GPath, bPath, hPath.2⟩ ⟨fTag, dTag, hTag.1.kp, GTag, bTag, hTag.2⟩
  exact ok_law hLaw T0 ⟨⟨fPool, dPool, hPool.1.kp, GPool, bPool, hPool.2⟩, ⟨fOpts, dOpts, hOpts.1.kp, GOpts, bOpts, hOpts.2⟩, ⟨fLang, dLang, hLang.1.kp, GLang, bLang, hLang.2⟩, ⟨fRows, dRows, hRows.1.kp, GRows, bRows, hRows.2⟩, ⟨fWrit, dWrit, hWrit.1.kp, GWrit, bWrit, hWrit.2⟩, ⟨fDue, dDue, hDue.1.kp, GDue, bDue, hDue.2⟩, ⟨fRead, dRead, hRead.1.kp, GRead, bRead, hRead.2⟩, ⟨fSpans, dSpans, hSpans.1.kp, GSpans, bSpans, hSpans.2⟩, ⟨fSpans, dSpans, hSpans.1.kp, GSpansT, bSpans, hSpans.2⟩, ⟨fRoles, dRoles, hRoles.1.kp, GRoles, bRoles, hRoles.2⟩, ⟨fRoles, dRoles, hRoles.1.kp, GRolesT, bRoles, hRoles.2⟩⟩
end K5

/-! the end of a law row for a promise that asks that no repr is under way -/
namespace L2
open PySem PySem.Spec PyProof.Rows
section
variable {P : Program} {w : World} {K : PySem.W.Frag} {mg mb : Str → Option Value} {k : Nat} {fa a : Addr} {fd : FuncData} {x : Str} {sp : Sp} {s : Shared} {vs : List Value} {ns : List Int}
/-- what the caller asks of the end -/
abbrev AskedK (s : Shared) : Result → Shared → Prop := fun r s' => r = .ok (.ret (.bool true)) ∧ OldK s.heap s'.heap ∧ s'.os = s.os ∧ AllBare s'.gens
theorem endG_of {H : Hp} (KX : K.In s.heap) (hns : s.heap.Ns mainGlobals mg) (hb : s.heap.Ns builtinsNs mb) (hbb : ∀ x : Str, x ≠ "__name__" → mb x = bootBuiltins x) (hlim : s.heap.NoLimit) (hg : s.gens = #[])
    (hobj : s.heap.get? a = some { cls := .type "list", data := .seq vs.toArray }) (hroom : Room k callerA)
    (F : ∀ base : Heap, K.In base → base.Ns mainGlobals mg → FnG P w K mg base k fa fd [x] sp) (hbind : ∀ (s : Shared) (u : Value), BindsTo s fd ⟨[u], []⟩ [(x, u)])
    (hO : Only H) (hok : HOk P w H s.heap) (one : ∀ b, H b ≠ none → b = a) (free : H a ≠ none → K.lookup a = none)
    (hsp : sp [.ref a] H (fun v _ => v = .bl true) E0) : codeAny (model P w) callerA (.call (.ref fa) ⟨[.ref a], []⟩) (AskedK s) s := by
  have base_of : ∀ {b : Addr} {o : Obj}, s.heap.get? b = some o → H b = none → (hidT s.heap H).get? b = some o := fun e n => hidT_get e n
  have apart : ∀ {b : Addr}, b ≠ a → H b = none := fun {b} hba => Classical.byContradiction fun z => hba (one b z)
  have notDict : ∀ {b : Addr} {o : Obj} {es : Array DictEntry} {ep : Nat}, s.heap.get? b = some o → o.data = .dict es ep → H b = none := by
    intro b o es ep e d
    refine apart fun z => ?_
    rw [z, hobj] at e
    cases e
    cases d
  have keepNs : ∀ {b : Addr} {m : Str → Option Value}, s.heap.Ns b m → (hidT s.heap H).Ns b m := by
    rintro b m ⟨o, es, ep, e, d, r⟩
    exact ⟨o, es, ep, base_of e (notDict e d), d, r⟩
  have inBase : K.In (hidT s.heap H) := by
    intro b o e
    refine base_of (KX b o e) (Classical.byContradiction fun z => ?_)
    have hba := one b z
    subst hba
    rw [free z] at e
    cases e
  have md : Mod K mg (hidT s.heap H) := by
    refine ⟨inBase, keepNs hns, ⟨mb, keepNs hb, hbb⟩, ?_⟩
    obtain ⟨mc, h1, h2⟩ := hlim
    exact ⟨mc, keepNs h1, h2⟩
  have env0 : Env0 P w K mg (hidT s.heap H) callerA [] s H := by
    refine ⟨rfl, md, fun b o e => of_hidT e, Nat.le_of_eq (hidT_size _ _), trivial, ?_, hok, .of_eq hg⟩
    intro b hb
    exact absurd (show b ∈ ([] : List Addr) from hb) (by simp)
  refine codeAny_mono ((F _ inBase (keepNs hns)).go callerA [] s H ⟨[.ref a], []⟩ [.ref a] [.ref a] _ rfl hroom env0 (hbind s (.ref a)) (.cons rfl .nil) hsp) ?_
  rintro (er | (_ | _ | _ | u)) s' h
  · exact h.elim
  · exact h.elim
  · exact h.elim
  · exact h.elim
  · obtain ⟨v, H', os, bare, un, hok', rv, q⟩ := h
    have q' : v = .bl true := q
    subst q'
    obtain rfl : u = Value.bool true := rv
    refine ⟨rfl, OldK.of_keep ?_, os, bare⟩
    intro b o e
    rcases hO b with z | ⟨ob, xs, z⟩
    · exact un.keep b o e z (by intro y; exact absurd (show b ∈ ([] : List Addr) from y) (by simp)) (by simp)
    · obtain ⟨e1, _⟩ := hok b _ z
      obtain ⟨e2, _⟩ := hok' b _ (un.frzs b ob _ z)
      rw [e] at e1
      cases e1
      exact e2
theorem law_callG (KX : K.In s.heap) (hns : s.heap.Ns mainGlobals mg) (hb : s.heap.Ns builtinsNs mb) (hbb : ∀ x : Str, x ≠ "__name__" → mb x = bootBuiltins x) (hlim : s.heap.NoLimit) (hg : s.gens = #[])
    (hobj : s.heap.get? a = some { cls := .type "list", data := .seq vs.toArray }) (hi : IntsAre vs ns) (hl : ns.length ≤ sizeLine) (hroom : Room k callerA)
    (F : ∀ base : Heap, K.In base → base.Ns mainGlobals mg → FnG P w K mg base k fa fd [x] sp) (hbind : ∀ (s : Shared) (u : Value), BindsTo s fd ⟨[u], []⟩ [(x, u)])
    (hsp : ∀ H : Hp, Only H → SqL K H a (ns.map V.int) → sp [.ref a] H (fun v _ => v = .bl true) E0) : codeAny (model P w) callerA (.call (.ref fa) ⟨[.ref a], []⟩) (AskedK s) s := by
  have rv := vals_ints hi
  have lenV := hi.length
  cases hk : K.lookup a with
  | some o =>
    have e := KX a o hk
    rw [hobj] at e
    cases e
    have sq : SqL K (fun _ => none) a (ns.map V.int) := .inr ⟨_, vs.toArray, _, hk, rfl, rfl, rfl, by rw [List.size_toArray, lenV]; exact hl, by simpa using rv⟩
    have only : Only (fun _ => none) := fun _ => .inl rfl
    have hok : HOk P w (fun _ => none) s.heap := by
      intro b u z
      have z' : (none : Option HO) = some u := z
      cases z'
    exact endG_of KX hns hb hbb hlim hg hobj hroom F hbind only hok (fun b z => absurd rfl z) (fun z => absurd rfl z) (hsp _ only sq)
  | none =>
    let O : Obj := { cls := .type "list", data := .seq vs.toArray }
    let H : Hp := fun b => if b = a then some (.frz O (.lst (ns.map V.int))) else none
    have atA : H a = some (.frz O (.lst (ns.map V.int))) := if_pos rfl
    have off : ∀ b, b ≠ a → H b = none := fun b n => if_neg n
    have only : Only H := by
      intro b
      by_cases n : b = a
      · exact .inr ⟨O, ns.map V.int, by rw [n]; exact atA⟩
      · exact .inl (off b n)
    have hok : HOk P w H s.heap := by
      intro b u z
      by_cases n : b = a
      · subst n
        rw [atA] at z
        cases z
        exact ⟨hobj, by rw [List.length_map]; exact hl, vs, _, rv, hobj⟩
      · rw [off b n] at z
        cases z
    have one : ∀ b, H b ≠ none → b = a := fun b z => Classical.byContradiction fun n => z (off b n)
    exact endG_of KX hns hb hbb hlim hg hobj hroom F hbind only hok one (fun _ => hk) (hsp _ only (.inl (.inr ⟨O, atA⟩)))
end
/-- the goal that k_head leaves, from the law's promise -/
theorem walk_ofG {l : PySem.W.OpenLaw} {n k : Nat} {q : Program} {loose : List Str} {XP : (Str → Option Value) → Heap → Prop} {YP : World → Heap → Prop} {d : DefRec} {K : Params → PySem.W.Frag} {sp : World → Sp} {x : Str}
    (hn : l.most = some n) (hn2 : n ≤ sizeLine) (hdf : d.params.defaults = []) (hr : Room k callerA) (hY : ∀ (w : World) (h : Heap), YP w h → (K w.params).In h)
    (F : ∀ (w : World) (mg : Str → Option Value) (fa : Addr) (h : Heap), (K w.params).In h → h.Ns mainGlobals mg → mg d.name = some (.ref fa) →
      ∃ fd : FuncData, (∀ (s : Shared) (u : Value), BindsTo s fd ⟨[u], []⟩ [(x, u)]) ∧ ∀ base : Heap, (K w.params).In base → base.Ns mainGlobals mg → FnG l.prog w (K w.params) mg base k fa fd [x] (sp w))
    (hsp : ∀ (w : World) (H : Hp) (a : Addr) (ns : List Int), ns.length ≤ n → Only H → SqL (K w.params) H a (ns.map V.int) → sp w [.ref a] H (fun v _ => v = .bl true) E0) :
    PySem.W.WalkO q loose XP YP l.row.toRowW d [] (fun f vs => PySem.call f vs) := by
  refine Att.attach_call hn hdf ?_
  intro w s₀ s₁ mg mb fa o pm cd doc a vs ns G Y ho hd hcd hmg hobj hints hlen hg
  have KX := hY w _ Y
  obtain ⟨fd, hb, hF⟩ := F w mg fa _ KX G.T.g hmg
  exact law_callG KX G.T.g G.T.b G.T.builtins G.T.nolimit hg hobj hints (Nat.le_trans hlen hn2) hr hF hb (fun H hO hS => hsp w H a ns hlen hO hS)
end L2

namespace K5
open PySem L2
section
variable {K : PySem.W.Frag} {h : Heap} {mg : Str → Option Value}
/-- a def that stands at the top, as the written part shows it -/
theorem held {x : Str} {st : Stmt} {f : Addr} {oc : Value} {od an : Option Addr} {osl : Array (Option Value)} {kV doc pm cdv ct : Value} (X : K.In h) (G : h.Ns mainGlobals mg) (a : PySem.W.nsIn K mainGlobals x = some (some (.ref f)))
    (l : K.lookup f = some ⟨oc, od, .func (PySem.W.fnOf x x (defArgs st) (defBody st) (defScope st) .none kV doc pm an cdv ct), osl⟩) (c : PySem.W.codeIn K cdv x = true) (k : PySem.W.keepIn K (.ref f) = true) : Held K mg x st f (PySem.W.fnOf x x (defArgs st) (defBody st) (defScope st) .none kV doc pm an cdv ct) :=
  ⟨fun_mk l c k, PySem.W.mg_of X G a⟩

theorem tup2 {a : Addr} {dd : Option Addr} {its : Array Value} {n : Nat} {sl : Array (Option Value)} {z1 z2 : Str} {t1 t2 : Tok} (l : K.lookup a = some ⟨.type "tuple", dd, .seq its n, sl⟩) (e : its = #[.str z1 t1, .str z2 t2]) : TupW K a [z1, z2] := by
  subst e
  exact ⟨_, _, n, l, rfl, rfl, by show 2 ≤ sizeLine; decide, .cons ⟨_, rfl⟩ (.cons ⟨_, rfl⟩ .nil)⟩
theorem tup3 {a : Addr} {dd : Option Addr} {its : Array Value} {n : Nat} {sl : Array (Option Value)} {z1 z2 z3 : Str} {t1 t2 t3 : Tok} (l : K.lookup a = some ⟨.type "tuple", dd, .seq its n, sl⟩) (e : its = #[.str z1 t1, .str z2 t2, .str z3 t3]) : TupW K a [z1, z2, z3] := by
  subst e
  exact ⟨_, _, n, l, rfl, rfl, by show 3 ≤ sizeLine; decide, .cons ⟨_, rfl⟩ (.cons ⟨_, rfl⟩ (.cons ⟨_, rfl⟩ .nil))⟩

theorem tup7 {a : Addr} {dd : Option Addr} {its : Array Value} {n : Nat} {sl : Array (Option Value)} {z1 z2 z3 z4 z5 z6 z7 : Str} {t1 t2 t3 t4 t5 t6 t7 : Tok} (l : K.lookup a = some ⟨.type "tuple", dd, .seq its n, sl⟩) (e : its = #[.str z1 t1, .str z2 t2, .str z3 t3, .str z4 t4, .str z5 t5, .str z6 t6, .str z7 t7]) : TupW K a [z1, z2, z3, z4, z5, z6, z7] := by
  subst e
  exact ⟨_, _, n, l, rfl, rfl, by show 7 ≤ sizeLine; decide, .cons ⟨_, rfl⟩ (.cons ⟨_, rfl⟩ (.cons ⟨_, rfl⟩ (.cons ⟨_, rfl⟩ (.cons ⟨_, rfl⟩ (.cons ⟨_, rfl⟩ (.cons ⟨_, rfl⟩ .nil))))))⟩

theorem ch_of {w : World} {aC a1 a2 a3 a4 : Addr} (n1 : PySem.W.nsIn K aC "equals" = some (some (.ref a1))) (n2 : PySem.W.nsIn K aC "end" = some (some (.ref a2))) (n3 : PySem.W.nsIn K aC "comma" = some (some (.ref a3))) (n4 : PySem.W.nsIn K aC "last" = some (some (.ref a4)))
    (n5 : PySem.W.nsIn K aC "doubled" = some none) (n6 : PySem.W.nsIn K aC "bare" = some none) (n7 : PySem.W.nsIn K aC "nothing" = some none)
    (t1 : TupW K a1 ["must", "may"]) (t2 : TupW K a2 ["must", "between", "may"]) (t3 : TupW K a3 ["must", "may", "joins"]) (t4 : TupW K a4 ["never", "may", "must"]) :
    ∀ o ∈ names7, (chOf o = none → PySem.W.nsIn K aC o = some none) ∧ ∀ ws, chOf o = some ws → ∃ a, PySem.W.nsIn K aC o = some (some (.ref a)) ∧ TupW K a ws := by
  intro o ho
  simp only [names7, List.mem_cons, List.not_mem_nil, or_false] at ho
  rcases ho with rfl | rfl | rfl | rfl | rfl | rfl | rfl
  · rw [show chOf "equals" = some (["must", "may"] : List Str) by decide +kernel]
    exact ⟨fun e => (nomatch e), fun ws e => Option.some.inj e ▸ ⟨a1, n1, t1⟩⟩
  · rw [show chOf "end" = some (["must", "between", "may"] : List Str) by decide +kernel]
    exact ⟨fun e => (nomatch e), fun ws e => Option.some.inj e ▸ ⟨a2, n2, t2⟩⟩
  · rw [show chOf "comma" = some (["must", "may", "joins"] : List Str) by decide +kernel]
    exact ⟨fun e => (nomatch e), fun ws e => Option.some.inj e ▸ ⟨a3, n3, t3⟩⟩
  · rw [show chOf "last" = some (["never", "may", "must"] : List Str) by decide +kernel]
    exact ⟨fun e => (nomatch e), fun ws e => Option.some.inj e ▸ ⟨a4, n4, t4⟩⟩
  · rw [show chOf "doubled" = none by decide +kernel]
    exact ⟨fun _ => n5, fun ws e => (nomatch e)⟩
  · rw [show chOf "bare" = none by decide +kernel]
    exact ⟨fun _ => n6, fun ws e => (nomatch e)⟩
  · rw [show chOf "nothing" = none by decide +kernel]
    exact ⟨fun _ => n7, fun ws e => (nomatch e)⟩

/-- what __init__ binds: all keywords, or none -/
theorem kb_all {f aT : Addr} {fd : FuncData} (F : FunD K "__init__" "Language.__init__" (defArgs sInit) (defBody sInit) (defScope sInit) [] (kws7 aT) f fd) : KBn K fd pInit 1 names7 (fun us ws => us ++ ws) (fun vs zs => vs ++ zs) := by
  obtain ⟨mv, kb⟩ := F.kbinds0 (ps := pInit) 1 names7 [] (fun us _ ws => us ++ ws) (by simp) (fun _ hq => (nomatch hq)) (fun r1 _ r3 => r1.append r3)
    (fun D doc pm an cdv ct us mv ws l1 l2 l3 => match us, mv, ws, l1, l2, l3 with | [_], [], [_, _, _, _, _, _, _], _, _, _ => rfl)
  exact kb

theorem signs_vals {its : Array Value} {t1 t2 t3 t4 t5 : Tok} (e : its = #[.str "=" t1, .str ";" t2, .str "," t3, .str "[" t4, .str "]" t5]) : its.size ≤ sizeLine ∧ Vals (K5S.signs.map V.str) its.toList := by
  subst e
  exact ⟨by show 5 ≤ sizeLine; decide, .cons ⟨_, rfl⟩ (.cons ⟨_, rfl⟩ (.cons ⟨_, rfl⟩ (.cons ⟨_, rfl⟩ (.cons ⟨_, rfl⟩ .nil))))⟩
theorem ro_of {aR : Addr} {x1 x2 x3 x4 x5 : Tok} (n1 : PySem.W.nsIn K aR "=" = some (some (.str "equals" x1))) (n2 : PySem.W.nsIn K aR "," = some (some (.str "comma" x2))) (n3 : PySem.W.nsIn K aR "[" = some (some (.str "open" x3))) (n4 : PySem.W.nsIn K aR "]" = some (some (.str "close" x4))) (n5 : PySem.W.nsIn K aR ";" = some (some (.str "end" x5)))
    (n6 : PySem.W.nsIn K aR "word" = some none) (n7 : PySem.W.nsIn K aR "number" = some none) :
    ∀ z ∈ sorts7, (roleS z = none → PySem.W.nsIn K aR z = some none) ∧ ∀ r, roleS z = some r → ∃ t, PySem.W.nsIn K aR z = some (some (.str r t)) := by
  intro o ho
  simp only [sorts7, List.mem_cons, List.not_mem_nil, or_false] at ho
  rcases ho with rfl | rfl | rfl | rfl | rfl | rfl | rfl
  · rw [show roleS "word" = none by decide +kernel]
    exact ⟨fun _ => n6, fun ws e => (nomatch e)⟩
  · rw [show roleS "number" = none by decide +kernel]
    exact ⟨fun _ => n7, fun ws e => (nomatch e)⟩
  · rw [show roleS "=" = some ("equals" : Str) by decide +kernel]
    exact ⟨fun e => (nomatch e), fun ws e => Option.some.inj e ▸ ⟨_, n1⟩⟩
  · rw [show roleS ";" = some ("end" : Str) by decide +kernel]
    exact ⟨fun e => (nomatch e), fun ws e => Option.some.inj e ▸ ⟨_, n5⟩⟩
  · rw [show roleS "," = some ("comma" : Str) by decide +kernel]
    exact ⟨fun e => (nomatch e), fun ws e => Option.some.inj e ▸ ⟨_, n2⟩⟩
  · rw [show roleS "[" = some ("open" : Str) by decide +kernel]
    exact ⟨fun e => (nomatch e), fun ws e => Option.some.inj e ▸ ⟨_, n3⟩⟩
  · rw [show roleS "]" = some ("close" : Str) by decide +kernel]
    exact ⟨fun e => (nomatch e), fun ws e => Option.some.inj e ▸ ⟨_, n4⟩⟩
end
theorem all_mk {P : Program} {w : World} {K : PySem.W.Frag} {h : Heap} {mg : Str → Option Value} {fa C CB CU CS fE fU aD aO aC aS aK aR aT a1 a2 a3 a4 aKW : Addr} (X : K.In h) (G : h.Ns mainGlobals mg) (hfa : mg "law" = some (.ref fa))
    {nm q : Str} {N : Addr} {bs : List Value} {sn : List Str} {sub : List Value} {ab : Bool} {col : Option Bool} {dd : Option Addr} {m0 m1 m2 m3 m5 : Option Value} {oI pmI ctI : Value} {odI anI : Option Addr} {slI : Array (Option Value)} {docI : Value} {cda cc : Addr} {ccl : Value} {cdd : Option Addr} {vs : Array Value} {ccs : Array (Option Value)} {file : Str} {tf : Tok} {cl : Value} {cld : Option Addr} {csl : Array (Option Value)}
    {nmU qU : Str} {NU : Addr} {bsU : List Value} {snU : List Str} {subU : List Value} {abU : Bool} {colU : Option Bool} {ddU : Option Addr} {m0U m1U m2U m3U m5U : Option Value} {oIU pmIU ctIU : Value} {odIU anIU : Option Addr} {slIU : Array (Option Value)} {docIU : Value} {cdaU ccU : Addr} {cclU : Value} {cddU : Option Addr} {vsU : Array Value} {ccsU : Array (Option Value)} {fileU : Str} {tfU : Tok} {clU : Value} {cldU : Option Addr} {cslU : Array (Option Value)}
    {t1 t2 t3 t4 t5 t6 t7 u1 u2 u3 p1 p2 q1 q2 q3 r1 r2 r3 s1 s2 s3 k1 k2 k3 k4 tL tD tM g1 g2 g3 g4 g5 h1 h2 h3 h4 h5 h6 h7 x1 x2 x3 x4 x5 : Tok} {dD dO d1 d2 d3 d4 dS dK : Option Addr} {iD iO i1 i2 i3 i4 iS iK : Array Value} {nD nO n1 n2 n3 n4 nS nK : Nat} {slD slO sl1 sl2 sl3 sl4 slS slK : Array (Option Value)} {esC esR : Array DictEntry} {nC nR : Nat}
    {fOneOf fCons fIsW fIsN fIsS fSort fStates fSpOf fValue fSingle fRole fEntr fRead fSpans fRoles fDoub fAllow fDbl fWName fWEqu fWBeh fWItem fWCom fWDone fWEnd fAllW fPool fPick fOf fWord fWords fOpts fLang fLNext fLClo fWrit fWList fItems fAmt fRows fTag fOnw fPath fDue fMStep fMClo fMNext fInit fLaw : Addr} {odOneOf anOneOf odCons anCons odIsW anIsW odIsN anIsN odIsS anIsS odSort anSort odStates anStates odSpOf anSpOf odValue anValue odSingle anSingle odRole anRole odEntr anEntr odRead anRead odSpans anSpans odRoles anRoles odDoub anDoub odAllow anAllow odDbl anDbl odWName anWName odWEqu anWEqu odWBeh anWBeh odWItem anWItem odWCom anWCom odWDone anWDone odWEnd anWEnd odAllW anAllW odPool anPool odPick anPick odOf anOf odWord anWord odWords anWords odOpts anOpts odLang anLang odLNext anLNext odLClo anLClo odWrit anWrit odWList anWList odItems anItems odAmt anAmt odRows anRows odTag anTag odOnw anOnw odPath anPath odDue anDue odMStep anMStep odMClo anMClo odMNext anMNext odInit anInit odLaw anLaw : Option Addr} {slOneOf slCons slIsW slIsN slIsS slSort slStates slSpOf slValue slSingle slRole slEntr slRead slSpans slRoles slDoub slAllow slDbl slWName slWEqu slWBeh slWItem slWCom slWDone slWEnd slAllW slPool slPick slOf slWord slWords slOpts slLang slLNext slLClo slWrit slWList slItems slAmt slRows slTag slOnw slPath slDue slMStep slMClo slMNext slInit slLaw : Array (Option Value)}
    {ocOneOf kVOneOf dcOneOf pmOneOf cdOneOf ctOneOf ocCons kVCons dcCons pmCons cdCons ctCons ocIsW kVIsW dcIsW pmIsW cdIsW ctIsW ocIsN kVIsN dcIsN pmIsN cdIsN ctIsN ocIsS kVIsS dcIsS pmIsS cdIsS ctIsS ocSort kVSort dcSort pmSort cdSort ctSort ocStates kVStates dcStates pmStates cdStates ctStates ocSpOf kVSpOf dcSpOf pmSpOf cdSpOf ctSpOf ocValue kVValue dcValue pmValue cdValue ctValue ocSingle kVSingle dcSingle pmSingle cdSingle ctSingle ocRole kVRole dcRole pmRole cdRole ctRole ocEntr kVEntr dcEntr pmEntr cdEntr ctEntr ocRead kVRead dcRead pmRead cdRead ctRead ocSpans kVSpans dcSpans pmSpans cdSpans ctSpans ocRoles kVRoles dcRoles pmRoles cdRoles ctRoles ocDoub kVDoub dcDoub pmDoub cdDoub ctDoub ocAllow kVAllow dcAllow pmAllow cdAllow ctAllow ocDbl kVDbl dcDbl pmDbl cdDbl ctDbl ocWName kVWName dcWName pmWName cdWName ctWName ocWEqu kVWEqu dcWEqu pmWEqu cdWEqu ctWEqu ocWBeh kVWBeh dcWBeh pmWBeh cdWBeh ctWBeh ocWItem kVWItem dcWItem pmWItem cdWItem ctWItem ocWCom kVWCom dcWCom pmWCom cdWCom ctWCom ocWDone kVWDone dcWDone pmWDone cdWDone ctWDone ocWEnd kVWEnd dcWEnd pmWEnd cdWEnd ctWEnd ocAllW kVAllW dcAllW pmAllW cdAllW ctAllW ocPool kVPool dcPool pmPool cdPool ctPool ocPick kVPick dcPick pmPick cdPick ctPick ocOf kVOf dcOf pmOf cdOf ctOf ocWord kVWord dcWord pmWord cdWord ctWord ocWords kVWords dcWords pmWords cdWords ctWords ocOpts kVOpts dcOpts pmOpts cdOpts ctOpts ocLang kVLang dcLang pmLang cdLang ctLang ocLNext kVLNext dcLNext pmLNext cdLNext ctLNext ocLClo kVLClo dcLClo pmLClo cdLClo ctLClo ocWrit kVWrit dcWrit pmWrit cdWrit ctWrit ocWList kVWList dcWList pmWList cdWList ctWList ocItems kVItems dcItems pmItems cdItems ctItems ocAmt kVAmt dcAmt pmAmt cdAmt ctAmt ocRows kVRows dcRows pmRows cdRows ctRows ocTag kVTag dcTag pmTag cdTag ctTag ocOnw kVOnw dcOnw pmOnw cdOnw ctOnw ocPath kVPath dcPath pmPath cdPath ctPath ocDue kVDue dcDue pmDue cdDue ctDue ocMStep kVMStep dcMStep pmMStep cdMStep ctMStep ocMClo kVMClo dcMClo pmMClo cdMClo ctMClo ocMNext kVMNext dcMNext pmMNext cdMNext ctMNext ocInit dcInit pmInit cdInit ctInit ocLaw kVLaw dcLaw pmLaw cdLaw ctLaw : Value}
    (aSE : PySem.W.nsIn K mainGlobals "SettingsError" = some (some (.ref CS)))
    (aB : PySem.W.nsIn K mainGlobals "BadLanguage" = some (some (.ref CB)))
    (xL : K.lookup CB = some (excClassObj nm q CB N bs [.ref CS, .type "ValueError", .type "Exception", .type "BaseException", .type "object"] true sn sub ab col dd m0 m1 m2 m3 m5 "ValueError.__new__"))
    (bsa : PySem.W.findIn K (.ref CB) "__setattr__" = some (some (.builtin "object.__setattr__")))
    (bnb0 : PySem.W.findIn K (.ref CB) "option" = some none)
    (biC : PySem.W.findIn K (.ref CB) "__init__" = some (some (.ref fE)))
    (btI : PySem.W.typeIn K (.ref fE) = some (.type "function"))
    (bkC : PySem.W.keepIn K (.ref CB) = true)
    (beC : PySem.W.subIn K (.ref CB) (.type "BaseException") = some true)
    (bvC : PySem.W.subIn K (.ref CB) (.type "ValueError") = some true)
    (btC : PySem.W.typeIn K (.ref CB) = some (.type "type"))
    (bhC : PySem.W.hasDictIn K CB = true)
    (bsC : PySem.W.subIn K (.ref CB) (.ref CB) = some true)
    (bmC : PySem.W.mroIn K CB (.ref CB) = some true)
    (sup : PySem.W.ks_superIn K CB CB "__init__" = some (some (.builtin "ValueError.__init__")))
    (lI : K.lookup fE = some ⟨oI, odI, .func (PySem.W.ksFn "__init__" "BadLanguage.__init__" (K5E.eA ⟨9, 17, 9, 21⟩ ⟨9, 23, 9, 29⟩) (K5E.eB "an option of a language that is not allowed" 0 ⟨10, 8, 10, 13⟩ ⟨10, 8, 10, 15⟩ ⟨10, 8, 10, 24⟩ ⟨10, 25, 10, 70⟩ ⟨10, 8, 10, 71⟩ ⟨10, 8, 10, 71⟩ ⟨11, 8, 11, 12⟩ ⟨11, 8, 11, 19⟩ ⟨11, 22, 11, 28⟩ ⟨11, 8, 11, 28⟩) K5E.eS .none .none docI pmI anI (.ref cda) ctI cc), slI⟩)
    (cI : PySem.W.codeIn K (.ref cda) "BadLanguage.__init__" = true)
    (lD : K.lookup cda = some ⟨ccl, cdd, .fields vs, ccs⟩)
    (vf : vs[2]? = some (.str file tf))
    (pf : ((P.main.file : Str) == file) = true)
    (lc : K.lookup cc = some ⟨cl, cld, .cell (some (.ref CB)), csl⟩)
    (aBU : PySem.W.nsIn K mainGlobals "Unreadable" = some (some (.ref CU)))
    (xLU : K.lookup CU = some (excClassObj nmU qU CU NU bsU [.ref CS, .type "ValueError", .type "Exception", .type "BaseException", .type "object"] true snU subU abU colU ddU m0U m1U m2U m3U m5U "ValueError.__new__"))
    (bsaU : PySem.W.findIn K (.ref CU) "__setattr__" = some (some (.builtin "object.__setattr__")))
    (bnb0U : PySem.W.findIn K (.ref CU) "at" = some none)
    (bnb1U : PySem.W.findIn K (.ref CU) "awaited" = some none)
    (biCU : PySem.W.findIn K (.ref CU) "__init__" = some (some (.ref fU)))
    (btIU : PySem.W.typeIn K (.ref fU) = some (.type "function"))
    (bkCU : PySem.W.keepIn K (.ref CU) = true)
    (beCU : PySem.W.subIn K (.ref CU) (.type "BaseException") = some true)
    (bvCU : PySem.W.subIn K (.ref CU) (.type "ValueError") = some true)
    (btCU : PySem.W.typeIn K (.ref CU) = some (.type "type"))
    (bhCU : PySem.W.hasDictIn K CU = true)
    (bsCU : PySem.W.subIn K (.ref CU) (.ref CU) = some true)
    (bmCU : PySem.W.mroIn K CU (.ref CU) = some true)
    (supU : PySem.W.ks_superIn K CU CU "__init__" = some (some (.builtin "ValueError.__init__")))
    (lIU : K.lookup fU = some ⟨oIU, odIU, .func (PySem.W.ksFn "__init__" "Unreadable.__init__" (K5U.eA ⟨14, 17, 14, 21⟩ ⟨14, 23, 14, 25⟩ ⟨14, 27, 14, 34⟩) (K5U.eB "a file that the language does not read" 0 ⟨15, 8, 15, 13⟩ ⟨15, 8, 15, 15⟩ ⟨15, 8, 15, 24⟩ ⟨15, 25, 15, 65⟩ ⟨15, 8, 15, 66⟩ ⟨15, 8, 15, 66⟩ ⟨16, 8, 16, 12⟩ ⟨16, 8, 16, 15⟩ ⟨16, 18, 16, 20⟩ ⟨16, 8, 16, 20⟩ ⟨17, 8, 17, 12⟩ ⟨17, 8, 17, 20⟩ ⟨17, 23, 17, 30⟩ ⟨17, 8, 17, 30⟩) K5U.eS .none .none docIU pmIU anIU (.ref cdaU) ctIU ccU), slIU⟩)
    (cIU : PySem.W.codeIn K (.ref cdaU) "Unreadable.__init__" = true)
    (lDU : K.lookup cdaU = some ⟨cclU, cddU, .fields vsU, ccsU⟩)
    (vfU : vsU[2]? = some (.str fileU tfU))
    (pfU : ((P.main.file : Str) == fileU) = true)
    (lcU : K.lookup ccU = some ⟨clU, cldU, .cell (some (.ref CU)), cslU⟩)
    (tp : PySem.W.nsIn K PySem.cStatics "thirdparty.any" = some none)
    (su : PySem.W.nsIn K mainGlobals "super" = some none)
    (topp : (P.main.scope.names.lookup ("super" : Str)).isSome = false)
    (aCl : PySem.W.nsIn K mainGlobals "Language" = some (some (.ref C)))
    (pg : PySem.W.plainGet K C Str.empty = true)
    (hdC : PySem.W.hasDictIn K C = true)
    (po : PySem.W.plainOver K C = true)
    (saC : PySem.W.findIn K (.ref C) "__setattr__" = some (some (.builtin "object.__setattr__")))
    (mkC : PySem.W.makesIn K C = true)
    (kpC : PySem.W.keepIn K (.ref C) = true)
    (nf0 : PySem.W.findIn K (.ref C) "equals" = some none)
    (nf1 : PySem.W.findIn K (.ref C) "end" = some none)
    (nf2 : PySem.W.findIn K (.ref C) "comma" = some none)
    (nf3 : PySem.W.findIn K (.ref C) "last" = some none)
    (nf4 : PySem.W.findIn K (.ref C) "doubled" = some none)
    (nf5 : PySem.W.findIn K (.ref C) "bare" = some none)
    (nf6 : PySem.W.findIn K (.ref C) "nothing" = some none)
    (nf7 : PySem.W.findIn K (.ref C) "ways" = some none)
    (haC : PySem.W.findIn K (.ref C) "__class__" = some (some (.builtin "object.__class__")))
    (hnC : PySem.W.specialIn K (.builtin "object.__class__") "__get__" = some (some (.builtin "getset_descriptor.__get__")))
    (htkC : PySem.W.takesIn K (.builtin "object.__class__") = some true)
    (hmC : PySem.W.mroIn K C (.type "object") = some true)
    (iInit : PySem.W.findIn K (.ref C) "__init__" = some (some (.ref fInit)))
    (jInit : PySem.W.isFn K (.ref fInit) = true)
    (lInit : K.lookup fInit = some ⟨ocInit, odInit, .func (PySem.W.fnOf "__init__" "Language.__init__" (defArgs sInit) (defBody sInit) (defScope sInit) .none (.ref aKW) dcInit pmInit anInit cdInit ctInit), slInit⟩)
    (cInit : PySem.W.codeIn K cdInit "Language.__init__" = true)
    (kInit : PySem.W.keepIn K (.ref fInit) = true)
    (w1 : PySem.W.nsIn K aKW "equals" = some (some (.str "must" k1)))
    (w2 : PySem.W.nsIn K aKW "end" = some (some (.str "must" k2)))
    (w3 : PySem.W.nsIn K aKW "comma" = some (some (.str "must" k3)))
    (w4 : PySem.W.nsIn K aKW "last" = some (some (.str "never" k4)))
    (w5 : PySem.W.nsIn K aKW "doubled" = some (some (.ref aT)))
    (w6 : PySem.W.nsIn K aKW "bare" = some (some (.bool false)))
    (w7 : PySem.W.nsIn K aKW "nothing" = some (some (.bool false)))
    (iMStep : PySem.W.findIn K (.ref C) "step" = some (some (.ref fMStep)))
    (jMStep : PySem.W.isFn K (.ref fMStep) = true)
    (lMStep : K.lookup fMStep = some ⟨ocMStep, odMStep, .func (PySem.W.fnOf "step" "Language.step" (defArgs sStep) (defBody sStep) (defScope sStep) .none kVMStep dcMStep pmMStep anMStep cdMStep ctMStep), slMStep⟩)
    (cMStep : PySem.W.codeIn K cdMStep "Language.step" = true)
    (kMStep : PySem.W.keepIn K (.ref fMStep) = true)
    (iMClo : PySem.W.findIn K (.ref C) "closes" = some (some (.ref fMClo)))
    (jMClo : PySem.W.isFn K (.ref fMClo) = true)
    (lMClo : K.lookup fMClo = some ⟨ocMClo, odMClo, .func (PySem.W.fnOf "closes" "Language.closes" (defArgs sCloses) (defBody sCloses) (defScope sCloses) .none kVMClo dcMClo pmMClo anMClo cdMClo ctMClo), slMClo⟩)
    (cMClo : PySem.W.codeIn K cdMClo "Language.closes" = true)
    (kMClo : PySem.W.keepIn K (.ref fMClo) = true)
    (iMNext : PySem.W.findIn K (.ref C) "next_sorts" = some (some (.ref fMNext)))
    (jMNext : PySem.W.isFn K (.ref fMNext) = true)
    (lMNext : K.lookup fMNext = some ⟨ocMNext, odMNext, .func (PySem.W.fnOf "next_sorts" "Language.next_sorts" (defArgs sNext) (defBody sNext) (defScope sNext) .none kVMNext dcMNext pmMNext anMNext cdMNext ctMNext), slMNext⟩)
    (cMNext : PySem.W.codeIn K cdMNext "Language.next_sorts" = true)
    (kMNext : PySem.W.keepIn K (.ref fMNext) = true)
    (gD : PySem.W.nsIn K mainGlobals "DOUBLED" = some (some (.ref aD)))
    (lDb : K.lookup aD = some ⟨.type "tuple", dD, .seq iD nD, slD⟩)
    (vDb : iD = #[.str "=" u1, .str ";" u2, .str "," u3])
    (gO : PySem.W.nsIn K mainGlobals "OPTIONS" = some (some (.ref aO)))
    (lO : K.lookup aO = some ⟨.type "tuple", dO, .seq iO nO, slO⟩)
    (vO : iO = #[.str "equals" t1, .str "end" t2, .str "comma" t3, .str "last" t4, .str "doubled" t5, .str "bare" t6, .str "nothing" t7])
    (gC : PySem.W.nsIn K mainGlobals "CHOICES" = some (some (.ref aC)))
    (lC : K.lookup aC = some ⟨.type "dict", none, .dict esC nC, #[]⟩)
    (litC : PySem.W.KeysLit w.params esC.toList)
    (lowC : (aC == sysModules) = false)
    (nequals : PySem.W.nsIn K aC "equals" = some (some (.ref a1)))
    (l1 : K.lookup a1 = some ⟨.type "tuple", d1, .seq i1 n1, sl1⟩)
    (v1 : i1 = #[.str "must" p1, .str "may" p2])
    (nend : PySem.W.nsIn K aC "end" = some (some (.ref a2)))
    (l2 : K.lookup a2 = some ⟨.type "tuple", d2, .seq i2 n2, sl2⟩)
    (v2 : i2 = #[.str "must" q1, .str "between" q2, .str "may" q3])
    (ncomma : PySem.W.nsIn K aC "comma" = some (some (.ref a3)))
    (l3 : K.lookup a3 = some ⟨.type "tuple", d3, .seq i3 n3, sl3⟩)
    (v3 : i3 = #[.str "must" r1, .str "may" r2, .str "joins" r3])
    (nlast : PySem.W.nsIn K aC "last" = some (some (.ref a4)))
    (l4 : K.lookup a4 = some ⟨.type "tuple", d4, .seq i4 n4, sl4⟩)
    (v4 : i4 = #[.str "never" s1, .str "may" s2, .str "must" s3])
    (odoubled : PySem.W.nsIn K aC "doubled" = some none)
    (obare : PySem.W.nsIn K aC "bare" = some none)
    (onothing : PySem.W.nsIn K aC "nothing" = some none)
    (gL : PySem.W.nsIn K mainGlobals "LETTERS" = some (some (.str K5S.cLetters tL)))
    (gDi : PySem.W.nsIn K mainGlobals "DIGITS" = some (some (.str K5S.cDigits tD)))
    (gM : PySem.W.nsIn K mainGlobals "LONGEST" = some (some (.int 12 tM)))
    (gG : PySem.W.nsIn K mainGlobals "SIGNS" = some (some (.ref aS)))
    (lS : K.lookup aS = some ⟨.type "tuple", dS, .seq iS nS, slS⟩)
    (vS : iS = #[.str "=" g1, .str ";" g2, .str "," g3, .str "[" g4, .str "]" g5])
    (gKs : PySem.W.nsIn K mainGlobals "SORTS" = some (some (.ref aK)))
    (lK : K.lookup aK = some ⟨.type "tuple", dK, .seq iK nK, slK⟩)
    (vK : iK = #[.str "word" h1, .str "number" h2, .str "=" h3, .str ";" h4, .str "," h5, .str "[" h6, .str "]" h7])
    (gR : PySem.W.nsIn K mainGlobals "ROLES" = some (some (.ref aR)))
    (lR : K.lookup aR = some ⟨.type "dict", none, .dict esR nR, #[]⟩)
    (litR : PySem.W.KeysLit w.params esR.toList)
    (lowR : (aR == sysModules) = false)
    (rr1 : PySem.W.nsIn K aR "=" = some (some (.str "equals" x1)))
    (rr2 : PySem.W.nsIn K aR "," = some (some (.str "comma" x2)))
    (rr3 : PySem.W.nsIn K aR "[" = some (some (.str "open" x3)))
    (rr4 : PySem.W.nsIn K aR "]" = some (some (.str "close" x4)))
    (rr5 : PySem.W.nsIn K aR ";" = some (some (.str "end" x5)))
    (rr6 : PySem.W.nsIn K aR "word" = some none)
    (rr7 : PySem.W.nsIn K aR "number" = some none)
    (zint : PySem.W.nsIn K mainGlobals "int" = some none)
    (zlen : PySem.W.nsIn K mainGlobals "len" = some none)
    (zsum : PySem.W.nsIn K mainGlobals "sum" = some none)
    (zabs : PySem.W.nsIn K mainGlobals "abs" = some none)
    (zrange : PySem.W.nsIn K mainGlobals "range" = some none)
    (zstr : PySem.W.nsIn K mainGlobals "str" = some none)
    (zall : PySem.W.nsIn K mainGlobals "all" = some none)
    (zisi : PySem.W.nsIn K mainGlobals "isinstance" = some none)
    (zrepr : PySem.W.nsIn K mainGlobals "repr" = some none)
    (zlist : PySem.W.nsIn K mainGlobals "list" = some none)
    (ztuple : PySem.W.nsIn K mainGlobals "tuple" = some none)
    (zset : PySem.W.nsIn K mainGlobals "set" = some none)
    (zdict : PySem.W.nsIn K mainGlobals "dict" = some none)
    (zbool : PySem.W.nsIn K mainGlobals "bool" = some none)
    (zenum : PySem.W.nsIn K mainGlobals "enumerate" = some none)
    (zzip : PySem.W.nsIn K mainGlobals "zip" = some none)
    (aOneOf : PySem.W.nsIn K mainGlobals "is_one_of" = some (some (.ref fOneOf)))
    (lOneOf : K.lookup fOneOf = some ⟨ocOneOf, odOneOf, .func (PySem.W.fnOf "is_one_of" "is_one_of" (defArgs sOneOf) (defBody sOneOf) (defScope sOneOf) .none kVOneOf dcOneOf pmOneOf anOneOf cdOneOf ctOneOf), slOneOf⟩)
    (cOneOf : PySem.W.codeIn K cdOneOf "is_one_of" = true)
    (kOneOf : PySem.W.keepIn K (.ref fOneOf) = true)
    (aCons : PySem.W.nsIn K mainGlobals "consists_of" = some (some (.ref fCons)))
    (lCons : K.lookup fCons = some ⟨ocCons, odCons, .func (PySem.W.fnOf "consists_of" "consists_of" (defArgs K5S.sConsists) (defBody K5S.sConsists) (defScope K5S.sConsists) .none kVCons dcCons pmCons anCons cdCons ctCons), slCons⟩)
    (cCons : PySem.W.codeIn K cdCons "consists_of" = true)
    (kCons : PySem.W.keepIn K (.ref fCons) = true)
    (aIsW : PySem.W.nsIn K mainGlobals "is_word" = some (some (.ref fIsW)))
    (lIsW : K.lookup fIsW = some ⟨ocIsW, odIsW, .func (PySem.W.fnOf "is_word" "is_word" (defArgs K5S.sIsWord) (defBody K5S.sIsWord) (defScope K5S.sIsWord) .none kVIsW dcIsW pmIsW anIsW cdIsW ctIsW), slIsW⟩)
    (cIsW : PySem.W.codeIn K cdIsW "is_word" = true)
    (kIsW : PySem.W.keepIn K (.ref fIsW) = true)
    (aIsN : PySem.W.nsIn K mainGlobals "is_numeral" = some (some (.ref fIsN)))
    (lIsN : K.lookup fIsN = some ⟨ocIsN, odIsN, .func (PySem.W.fnOf "is_numeral" "is_numeral" (defArgs K5S.sIsNumeral) (defBody K5S.sIsNumeral) (defScope K5S.sIsNumeral) .none kVIsN dcIsN pmIsN anIsN cdIsN ctIsN), slIsN⟩)
    (cIsN : PySem.W.codeIn K cdIsN "is_numeral" = true)
    (kIsN : PySem.W.keepIn K (.ref fIsN) = true)
    (aIsS : PySem.W.nsIn K mainGlobals "is_sign" = some (some (.ref fIsS)))
    (lIsS : K.lookup fIsS = some ⟨ocIsS, odIsS, .func (PySem.W.fnOf "is_sign" "is_sign" (defArgs K5S.sIsSign) (defBody K5S.sIsSign) (defScope K5S.sIsSign) .none kVIsS dcIsS pmIsS anIsS cdIsS ctIsS), slIsS⟩)
    (cIsS : PySem.W.codeIn K cdIsS "is_sign" = true)
    (kIsS : PySem.W.keepIn K (.ref fIsS) = true)
    (aSort : PySem.W.nsIn K mainGlobals "sort_of" = some (some (.ref fSort)))
    (lSort : K.lookup fSort = some ⟨ocSort, odSort, .func (PySem.W.fnOf "sort_of" "sort_of" (defArgs K5S.sSortOf) (defBody K5S.sSortOf) (defScope K5S.sSortOf) .none kVSort dcSort pmSort anSort cdSort ctSort), slSort⟩)
    (cSort : PySem.W.codeIn K cdSort "sort_of" = true)
    (kSort : PySem.W.keepIn K (.ref fSort) = true)
    (aStates : PySem.W.nsIn K mainGlobals "states" = some (some (.ref fStates)))
    (lStates : K.lookup fStates = some ⟨ocStates, odStates, .func (PySem.W.fnOf "states" "states" (defArgs sStates) (defBody sStates) (defScope sStates) .none kVStates dcStates pmStates anStates cdStates ctStates), slStates⟩)
    (cStates : PySem.W.codeIn K cdStates "states" = true)
    (kStates : PySem.W.keepIn K (.ref fStates) = true)
    (aSpOf : PySem.W.nsIn K mainGlobals "spans_of" = some (some (.ref fSpOf)))
    (lSpOf : K.lookup fSpOf = some ⟨ocSpOf, odSpOf, .func (PySem.W.fnOf "spans_of" "spans_of" (defArgs sSpans) (defBody sSpans) (defScope sSpans) .none kVSpOf dcSpOf pmSpOf anSpOf cdSpOf ctSpOf), slSpOf⟩)
    (cSpOf : PySem.W.codeIn K cdSpOf "spans_of" = true)
    (kSpOf : PySem.W.keepIn K (.ref fSpOf) = true)
    (aValue : PySem.W.nsIn K mainGlobals "value_of" = some (some (.ref fValue)))
    (lValue : K.lookup fValue = some ⟨ocValue, odValue, .func (PySem.W.fnOf "value_of" "value_of" (defArgs sValue) (defBody sValue) (defScope sValue) .none kVValue dcValue pmValue anValue cdValue ctValue), slValue⟩)
    (cValue : PySem.W.codeIn K cdValue "value_of" = true)
    (kValue : PySem.W.keepIn K (.ref fValue) = true)
    (aSingle : PySem.W.nsIn K mainGlobals "single_value" = some (some (.ref fSingle)))
    (lSingle : K.lookup fSingle = some ⟨ocSingle, odSingle, .func (PySem.W.fnOf "single_value" "single_value" (defArgs sSingle) (defBody sSingle) (defScope sSingle) .none kVSingle dcSingle pmSingle anSingle cdSingle ctSingle), slSingle⟩)
    (cSingle : PySem.W.codeIn K cdSingle "single_value" = true)
    (kSingle : PySem.W.keepIn K (.ref fSingle) = true)
    (aRole : PySem.W.nsIn K mainGlobals "role_of" = some (some (.ref fRole)))
    (lRole : K.lookup fRole = some ⟨ocRole, odRole, .func (PySem.W.fnOf "role_of" "role_of" (defArgs sRole) (defBody sRole) (defScope sRole) .none kVRole dcRole pmRole anRole cdRole ctRole), slRole⟩)
    (cRole : PySem.W.codeIn K cdRole "role_of" = true)
    (kRole : PySem.W.keepIn K (.ref fRole) = true)
    (aEntr : PySem.W.nsIn K mainGlobals "entries_by" = some (some (.ref fEntr)))
    (lEntr : K.lookup fEntr = some ⟨ocEntr, odEntr, .func (PySem.W.fnOf "entries_by" "entries_by" (defArgs sEntries) (defBody sEntries) (defScope sEntries) .none kVEntr dcEntr pmEntr anEntr cdEntr ctEntr), slEntr⟩)
    (cEntr : PySem.W.codeIn K cdEntr "entries_by" = true)
    (kEntr : PySem.W.keepIn K (.ref fEntr) = true)
    (aRead : PySem.W.nsIn K mainGlobals "read" = some (some (.ref fRead)))
    (lRead : K.lookup fRead = some ⟨ocRead, odRead, .func (PySem.W.fnOf "read" "read" (defArgs sRead) (defBody sRead) (defScope sRead) .none kVRead dcRead pmRead anRead cdRead ctRead), slRead⟩)
    (cRead : PySem.W.codeIn K cdRead "read" = true)
    (kRead : PySem.W.keepIn K (.ref fRead) = true)
    (aSpans : PySem.W.nsIn K mainGlobals "spans" = some (some (.ref fSpans)))
    (lSpans : K.lookup fSpans = some ⟨ocSpans, odSpans, .func (PySem.W.fnOf "spans" "spans" (defArgs sSpansF) (defBody sSpansF) (defScope sSpansF) .none kVSpans dcSpans pmSpans anSpans cdSpans ctSpans), slSpans⟩)
    (cSpans : PySem.W.codeIn K cdSpans "spans" = true)
    (kSpans : PySem.W.keepIn K (.ref fSpans) = true)
    (aRoles : PySem.W.nsIn K mainGlobals "roles" = some (some (.ref fRoles)))
    (lRoles : K.lookup fRoles = some ⟨ocRoles, odRoles, .func (PySem.W.fnOf "roles" "roles" (defArgs sRoles) (defBody sRoles) (defScope sRoles) .none kVRoles dcRoles pmRoles anRoles cdRoles ctRoles), slRoles⟩)
    (cRoles : PySem.W.codeIn K cdRoles "roles" = true)
    (kRoles : PySem.W.keepIn K (.ref fRoles) = true)
    (aDoub : PySem.W.nsIn K mainGlobals "is_doubled_option" = some (some (.ref fDoub)))
    (lDoub : K.lookup fDoub = some ⟨ocDoub, odDoub, .func (PySem.W.fnOf "is_doubled_option" "is_doubled_option" (defArgs sDoub) (defBody sDoub) (defScope sDoub) .none kVDoub dcDoub pmDoub anDoub cdDoub ctDoub), slDoub⟩)
    (cDoub : PySem.W.codeIn K cdDoub "is_doubled_option" = true)
    (kDoub : PySem.W.keepIn K (.ref fDoub) = true)
    (aAllow : PySem.W.nsIn K mainGlobals "is_allowed" = some (some (.ref fAllow)))
    (lAllow : K.lookup fAllow = some ⟨ocAllow, odAllow, .func (PySem.W.fnOf "is_allowed" "is_allowed" (defArgs sAllowed) (defBody sAllowed) (defScope sAllowed) .none kVAllow dcAllow pmAllow anAllow cdAllow ctAllow), slAllow⟩)
    (cAllow : PySem.W.codeIn K cdAllow "is_allowed" = true)
    (kAllow : PySem.W.keepIn K (.ref fAllow) = true)
    (aDbl : PySem.W.nsIn K mainGlobals "doubling" = some (some (.ref fDbl)))
    (lDbl : K.lookup fDbl = some ⟨ocDbl, odDbl, .func (PySem.W.fnOf "doubling" "doubling" (defArgs sDbl) (defBody sDbl) (defScope sDbl) .none kVDbl dcDbl pmDbl anDbl cdDbl ctDbl), slDbl⟩)
    (cDbl : PySem.W.codeIn K cdDbl "doubling" = true)
    (kDbl : PySem.W.keepIn K (.ref fDbl) = true)
    (aWName : PySem.W.nsIn K mainGlobals "ways_from_name" = some (some (.ref fWName)))
    (lWName : K.lookup fWName = some ⟨ocWName, odWName, .func (PySem.W.fnOf "ways_from_name" "ways_from_name" (defArgs sName) (defBody sName) (defScope sName) .none kVWName dcWName pmWName anWName cdWName ctWName), slWName⟩)
    (cWName : PySem.W.codeIn K cdWName "ways_from_name" = true)
    (kWName : PySem.W.keepIn K (.ref fWName) = true)
    (aWEqu : PySem.W.nsIn K mainGlobals "ways_from_equals" = some (some (.ref fWEqu)))
    (lWEqu : K.lookup fWEqu = some ⟨ocWEqu, odWEqu, .func (PySem.W.fnOf "ways_from_equals" "ways_from_equals" (defArgs sEquals) (defBody sEquals) (defScope sEquals) .none kVWEqu dcWEqu pmWEqu anWEqu cdWEqu ctWEqu), slWEqu⟩)
    (cWEqu : PySem.W.codeIn K cdWEqu "ways_from_equals" = true)
    (kWEqu : PySem.W.keepIn K (.ref fWEqu) = true)
    (aWBeh : PySem.W.nsIn K mainGlobals "ways_behind_item" = some (some (.ref fWBeh)))
    (lWBeh : K.lookup fWBeh = some ⟨ocWBeh, odWBeh, .func (PySem.W.fnOf "ways_behind_item" "ways_behind_item" (defArgs sBehind) (defBody sBehind) (defScope sBehind) .none kVWBeh dcWBeh pmWBeh anWBeh cdWBeh ctWBeh), slWBeh⟩)
    (cWBeh : PySem.W.codeIn K cdWBeh "ways_behind_item" = true)
    (kWBeh : PySem.W.keepIn K (.ref fWBeh) = true)
    (aWItem : PySem.W.nsIn K mainGlobals "ways_from_item" = some (some (.ref fWItem)))
    (lWItem : K.lookup fWItem = some ⟨ocWItem, odWItem, .func (PySem.W.fnOf "ways_from_item" "ways_from_item" (defArgs sItem) (defBody sItem) (defScope sItem) .none kVWItem dcWItem pmWItem anWItem cdWItem ctWItem), slWItem⟩)
    (cWItem : PySem.W.codeIn K cdWItem "ways_from_item" = true)
    (kWItem : PySem.W.keepIn K (.ref fWItem) = true)
    (aWCom : PySem.W.nsIn K mainGlobals "ways_from_comma" = some (some (.ref fWCom)))
    (lWCom : K.lookup fWCom = some ⟨ocWCom, odWCom, .func (PySem.W.fnOf "ways_from_comma" "ways_from_comma" (defArgs sComma) (defBody sComma) (defScope sComma) .none kVWCom dcWCom pmWCom anWCom cdWCom ctWCom), slWCom⟩)
    (cWCom : PySem.W.codeIn K cdWCom "ways_from_comma" = true)
    (kWCom : PySem.W.keepIn K (.ref fWCom) = true)
    (aWDone : PySem.W.nsIn K mainGlobals "ways_from_done" = some (some (.ref fWDone)))
    (lWDone : K.lookup fWDone = some ⟨ocWDone, odWDone, .func (PySem.W.fnOf "ways_from_done" "ways_from_done" (defArgs sDone) (defBody sDone) (defScope sDone) .none kVWDone dcWDone pmWDone anWDone cdWDone ctWDone), slWDone⟩)
    (cWDone : PySem.W.codeIn K cdWDone "ways_from_done" = true)
    (kWDone : PySem.W.keepIn K (.ref fWDone) = true)
    (aWEnd : PySem.W.nsIn K mainGlobals "ways_from_ended" = some (some (.ref fWEnd)))
    (lWEnd : K.lookup fWEnd = some ⟨ocWEnd, odWEnd, .func (PySem.W.fnOf "ways_from_ended" "ways_from_ended" (defArgs sEnded) (defBody sEnded) (defScope sEnded) .none kVWEnd dcWEnd pmWEnd anWEnd cdWEnd ctWEnd), slWEnd⟩)
    (cWEnd : PySem.W.codeIn K cdWEnd "ways_from_ended" = true)
    (kWEnd : PySem.W.keepIn K (.ref fWEnd) = true)
    (aAllW : PySem.W.nsIn K mainGlobals "all_ways" = some (some (.ref fAllW)))
    (lAllW : K.lookup fAllW = some ⟨ocAllW, odAllW, .func (PySem.W.fnOf "all_ways" "all_ways" (defArgs sAllWays) (defBody sAllWays) (defScope sAllWays) .none kVAllW dcAllW pmAllW anAllW cdAllW ctAllW), slAllW⟩)
    (cAllW : PySem.W.codeIn K cdAllW "all_ways" = true)
    (kAllW : PySem.W.keepIn K (.ref fAllW) = true)
    (aPool : PySem.W.nsIn K mainGlobals "_law_pool" = some (some (.ref fPool)))
    (lPool : K.lookup fPool = some ⟨ocPool, odPool, .func (PySem.W.fnOf "_law_pool" "_law_pool" (defArgs sPool) (defBody sPool) (defScope sPool) .none kVPool dcPool pmPool anPool cdPool ctPool), slPool⟩)
    (cPool : PySem.W.codeIn K cdPool "_law_pool" = true)
    (kPool : PySem.W.keepIn K (.ref fPool) = true)
    (aPick : PySem.W.nsIn K mainGlobals "_law_pick" = some (some (.ref fPick)))
    (lPick : K.lookup fPick = some ⟨ocPick, odPick, .func (PySem.W.fnOf "_law_pick" "_law_pick" (defArgs sPick) (defBody sPick) (defScope sPick) .none kVPick dcPick pmPick anPick cdPick ctPick), slPick⟩)
    (cPick : PySem.W.codeIn K cdPick "_law_pick" = true)
    (kPick : PySem.W.keepIn K (.ref fPick) = true)
    (aOf : PySem.W.nsIn K mainGlobals "_law_of" = some (some (.ref fOf)))
    (lOf : K.lookup fOf = some ⟨ocOf, odOf, .func (PySem.W.fnOf "_law_of" "_law_of" (defArgs K5S.sOf) (defBody K5S.sOf) (defScope K5S.sOf) .none kVOf dcOf pmOf anOf cdOf ctOf), slOf⟩)
    (cOf : PySem.W.codeIn K cdOf "_law_of" = true)
    (kOf : PySem.W.keepIn K (.ref fOf) = true)
    (aWord : PySem.W.nsIn K mainGlobals "_law_word" = some (some (.ref fWord)))
    (lWord : K.lookup fWord = some ⟨ocWord, odWord, .func (PySem.W.fnOf "_law_word" "_law_word" (defArgs K5S.sLawWord) (defBody K5S.sLawWord) (defScope K5S.sLawWord) .none kVWord dcWord pmWord anWord cdWord ctWord), slWord⟩)
    (cWord : PySem.W.codeIn K cdWord "_law_word" = true)
    (kWord : PySem.W.keepIn K (.ref fWord) = true)
    (aWords : PySem.W.nsIn K mainGlobals "_law_words" = some (some (.ref fWords)))
    (lWords : K.lookup fWords = some ⟨ocWords, odWords, .func (PySem.W.fnOf "_law_words" "_law_words" (defArgs sWords) (defBody sWords) (defScope sWords) .none kVWords dcWords pmWords anWords cdWords ctWords), slWords⟩)
    (cWords : PySem.W.codeIn K cdWords "_law_words" = true)
    (kWords : PySem.W.keepIn K (.ref fWords) = true)
    (aOpts : PySem.W.nsIn K mainGlobals "_law_options" = some (some (.ref fOpts)))
    (lOpts : K.lookup fOpts = some ⟨ocOpts, odOpts, .func (PySem.W.fnOf "_law_options" "_law_options" (defArgs sOptions) (defBody sOptions) (defScope sOptions) .none kVOpts dcOpts pmOpts anOpts cdOpts ctOpts), slOpts⟩)
    (cOpts : PySem.W.codeIn K cdOpts "_law_options" = true)
    (kOpts : PySem.W.keepIn K (.ref fOpts) = true)
    (aLang : PySem.W.nsIn K mainGlobals "_law_language" = some (some (.ref fLang)))
    (lLang : K.lookup fLang = some ⟨ocLang, odLang, .func (PySem.W.fnOf "_law_language" "_law_language" (defArgs sLanguage) (defBody sLanguage) (defScope sLanguage) .none kVLang dcLang pmLang anLang cdLang ctLang), slLang⟩)
    (cLang : PySem.W.codeIn K cdLang "_law_language" = true)
    (kLang : PySem.W.keepIn K (.ref fLang) = true)
    (aLNext : PySem.W.nsIn K mainGlobals "_law_next" = some (some (.ref fLNext)))
    (lLNext : K.lookup fLNext = some ⟨ocLNext, odLNext, .func (PySem.W.fnOf "_law_next" "_law_next" (defArgs sLNext) (defBody sLNext) (defScope sLNext) .none kVLNext dcLNext pmLNext anLNext cdLNext ctLNext), slLNext⟩)
    (cLNext : PySem.W.codeIn K cdLNext "_law_next" = true)
    (kLNext : PySem.W.keepIn K (.ref fLNext) = true)
    (aLClo : PySem.W.nsIn K mainGlobals "_law_closes" = some (some (.ref fLClo)))
    (lLClo : K.lookup fLClo = some ⟨ocLClo, odLClo, .func (PySem.W.fnOf "_law_closes" "_law_closes" (defArgs sLClo) (defBody sLClo) (defScope sLClo) .none kVLClo dcLClo pmLClo anLClo cdLClo ctLClo), slLClo⟩)
    (cLClo : PySem.W.codeIn K cdLClo "_law_closes" = true)
    (kLClo : PySem.W.keepIn K (.ref fLClo) = true)
    (aWrit : PySem.W.nsIn K mainGlobals "_law_written" = some (some (.ref fWrit)))
    (lWrit : K.lookup fWrit = some ⟨ocWrit, odWrit, .func (PySem.W.fnOf "_law_written" "_law_written" (defArgs sWritten) (defBody sWritten) (defScope sWritten) .none kVWrit dcWrit pmWrit anWrit cdWrit ctWrit), slWrit⟩)
    (cWrit : PySem.W.codeIn K cdWrit "_law_written" = true)
    (kWrit : PySem.W.keepIn K (.ref fWrit) = true)
    (aWList : PySem.W.nsIn K mainGlobals "_law_written_list" = some (some (.ref fWList)))
    (lWList : K.lookup fWList = some ⟨ocWList, odWList, .func (PySem.W.fnOf "_law_written_list" "_law_written_list" (defArgs sWList) (defBody sWList) (defScope sWList) .none kVWList dcWList pmWList anWList cdWList ctWList), slWList⟩)
    (cWList : PySem.W.codeIn K cdWList "_law_written_list" = true)
    (kWList : PySem.W.keepIn K (.ref fWList) = true)
    (aItems : PySem.W.nsIn K mainGlobals "_law_items" = some (some (.ref fItems)))
    (lItems : K.lookup fItems = some ⟨ocItems, odItems, .func (PySem.W.fnOf "_law_items" "_law_items" (defArgs sItems) (defBody sItems) (defScope sItems) .none kVItems dcItems pmItems anItems cdItems ctItems), slItems⟩)
    (cItems : PySem.W.codeIn K cdItems "_law_items" = true)
    (kItems : PySem.W.keepIn K (.ref fItems) = true)
    (aAmt : PySem.W.nsIn K mainGlobals "_law_amount" = some (some (.ref fAmt)))
    (lAmt : K.lookup fAmt = some ⟨ocAmt, odAmt, .func (PySem.W.fnOf "_law_amount" "_law_amount" (defArgs sAmount) (defBody sAmount) (defScope sAmount) .none kVAmt dcAmt pmAmt anAmt cdAmt ctAmt), slAmt⟩)
    (cAmt : PySem.W.codeIn K cdAmt "_law_amount" = true)
    (kAmt : PySem.W.keepIn K (.ref fAmt) = true)
    (aRows : PySem.W.nsIn K mainGlobals "_law_rows" = some (some (.ref fRows)))
    (lRows : K.lookup fRows = some ⟨ocRows, odRows, .func (PySem.W.fnOf "_law_rows" "_law_rows" (defArgs sRows) (defBody sRows) (defScope sRows) .none kVRows dcRows pmRows anRows cdRows ctRows), slRows⟩)
    (cRows : PySem.W.codeIn K cdRows "_law_rows" = true)
    (kRows : PySem.W.keepIn K (.ref fRows) = true)
    (aTag : PySem.W.nsIn K mainGlobals "_law_tag" = some (some (.ref fTag)))
    (lTag : K.lookup fTag = some ⟨ocTag, odTag, .func (PySem.W.fnOf "_law_tag" "_law_tag" (defArgs sTag) (defBody sTag) (defScope sTag) .none kVTag dcTag pmTag anTag cdTag ctTag), slTag⟩)
    (cTag : PySem.W.codeIn K cdTag "_law_tag" = true)
    (kTag : PySem.W.keepIn K (.ref fTag) = true)
    (aOnw : PySem.W.nsIn K mainGlobals "_law_onward" = some (some (.ref fOnw)))
    (lOnw : K.lookup fOnw = some ⟨ocOnw, odOnw, .func (PySem.W.fnOf "_law_onward" "_law_onward" (defArgs sOnw) (defBody sOnw) (defScope sOnw) .none kVOnw dcOnw pmOnw anOnw cdOnw ctOnw), slOnw⟩)
    (cOnw : PySem.W.codeIn K cdOnw "_law_onward" = true)
    (kOnw : PySem.W.keepIn K (.ref fOnw) = true)
    (aPath : PySem.W.nsIn K mainGlobals "_law_path" = some (some (.ref fPath)))
    (lPath : K.lookup fPath = some ⟨ocPath, odPath, .func (PySem.W.fnOf "_law_path" "_law_path" (defArgs sPath) (defBody sPath) (defScope sPath) .none kVPath dcPath pmPath anPath cdPath ctPath), slPath⟩)
    (cPath : PySem.W.codeIn K cdPath "_law_path" = true)
    (kPath : PySem.W.keepIn K (.ref fPath) = true)
    (aDue : PySem.W.nsIn K mainGlobals "_law_due_roles" = some (some (.ref fDue)))
    (lDue : K.lookup fDue = some ⟨ocDue, odDue, .func (PySem.W.fnOf "_law_due_roles" "_law_due_roles" (defArgs sDue) (defBody sDue) (defScope sDue) .none kVDue dcDue pmDue anDue cdDue ctDue), slDue⟩)
    (cDue : PySem.W.codeIn K cdDue "_law_due_roles" = true)
    (kDue : PySem.W.keepIn K (.ref fDue) = true)
    (aLaw : PySem.W.nsIn K mainGlobals "law" = some (some (.ref fLaw)))
    (lLaw : K.lookup fLaw = some ⟨ocLaw, odLaw, .func (PySem.W.fnOf "law" "law" (defArgs sLaw) (defBody sLaw) (defScope sLaw) .none kVLaw dcLaw pmLaw anLaw cdLaw ctLaw), slLaw⟩)
    (cLaw : PySem.W.codeIn K cdLaw "law" = true)
    (kLaw : PySem.W.keepIn K (.ref fLaw) = true) :
    ∃ fd : FuncData, (∀ (s : Shared) (v : Value), BindsTo s fd ⟨[v], []⟩ [("_law_script", v)]) ∧ ∀ base : Heap, K.In base → base.Ns mainGlobals mg → FnG P w K mg base 8 fa fd ["_law_script"] (spLaw K) := by
  have e := hfa.symm.trans (PySem.W.mg_of X G aLaw)
  cases e
  have M0 : Bare mg := { int := PySem.W.mg_none_of X G zint, len := PySem.W.mg_none_of X G zlen, sum := PySem.W.mg_none_of X G zsum, abs := PySem.W.mg_none_of X G zabs, range := PySem.W.mg_none_of X G zrange, str := PySem.W.mg_none_of X G zstr, all := PySem.W.mg_none_of X G zall, isi := PySem.W.mg_none_of X G zisi, repr := PySem.W.mg_none_of X G zrepr, list := PySem.W.mg_none_of X G zlist, tuple := PySem.W.mg_none_of X G ztuple, set := PySem.W.mg_none_of X G zset, dict := PySem.W.mg_none_of X G zdict, bool := PySem.W.mg_none_of X G zbool }
  have T : ModC K w mg aD aO aC := { M0 with dbl := PySem.W.mg_of X G gD, dtup := tup3 lDb vDb, opt := PySem.W.mg_of X G gO, otup := tup7 lO vO, cho := PySem.W.mg_of X G gC, kd := ⟨esC, nC, lC, litC, lowC⟩, ch := ch_of (w := w) nequals nend ncomma nlast odoubled obare onothing (tup2 l1 v1) (tup3 l2 v2) (tup3 l3 v3) (tup3 l4 v4) }
  have Z : K5S.Mod K mg aS := { M0 with letters := ⟨_, PySem.W.mg_of X G gL⟩, digits := ⟨_, PySem.W.mg_of X G gDi⟩, longest := ⟨_, PySem.W.mg_of X G gM⟩, sgn := PySem.W.mg_of X G gG, tup := ⟨_, iS, nS, lS, rfl, rfl, (signs_vals vS).1, (signs_vals vS).2⟩ }
  have TE : K5E.ErrTxt P K mg CB fE :=
    { gC := PySem.W.mg_of X G aB, cls := ⟨nm, q, N, bs, _, sn, sub, ab, col, dd, m0, m1, m2, m3, m5, xL, by rfl⟩, sa := bsa, noN := bnb0, iC := biC, tC := btI, kC := bkC, exC := beC, vaC := bvC, tyC := btC, te := PySem.W.exm_ref beC bhC btC bsC, sub := bmC, sup := sup, tp := tp, su := PySem.W.mg_none_of X G su, top := topp,
      fn := ⟨_, _, _, _, _, cda, cc, _, _, _, _, _, _, _, _, _, _, _, _, _, _, _, _, lI, cI, ⟨_, _, vs, _, file, tf, lD, vf, pf⟩, fun env => ⟨_, rfl⟩, _, _, _, lc⟩ }
  have TU : K5U.ErrTxt P K mg CU fU :=
    { gC := PySem.W.mg_of X G aBU, cls := ⟨nmU, qU, NU, bsU, _, snU, subU, abU, colU, ddU, m0U, m1U, m2U, m3U, m5U, xLU, by rfl⟩, sa := bsaU, noN := bnb0U, noN2 := bnb1U, iC := biCU, tC := btIU, kC := bkCU, exC := beCU, vaC := bvCU, tyC := btCU, te := PySem.W.exm_ref beCU bhCU btCU bsCU, sub := bmCU, sup := supU, tp := tp, su := PySem.W.mg_none_of X G su, top := topp,
      fn := ⟨_, _, _, _, _, cdaU, ccU, _, _, _, _, _, _, _, _, _, _, _, _, _, _, _, _, _, _, _, _, _, lIU, cIU, ⟨_, _, vsU, _, fileU, tfU, lDU, vfU, pfU⟩, fun env => ⟨_, rfl⟩, _, _, _, lcU⟩ }
  have S : LangC K mg C := ⟨⟨pg, hdC, po, saC⟩, nf0, nf1, nf2, nf3, nf4, nf5, nf6, nf7, PySem.W.mg_of X G aCl, haC, hnC, htkC, hmC⟩
  have RO : RolesC K w mg aR := ⟨PySem.W.mg_of X G gR, ⟨esR, nR, lR, litR, lowR⟩, ro_of rr1 rr2 rr3 rr4 rr5 rr6 rr7⟩
  have R : Rest P w K mg C CB CU fE fU aD aO aC aS aK aR fInit fMStep fMClo fMNext := ⟨T, Z, S, TE, TU, RO, PySem.W.mg_of X G gKs, tup7 lK vK, ⟨mkC, iInit, jInit, kpC⟩, ⟨iMStep, jMStep, kMStep⟩, ⟨iMClo, jMClo, kMClo⟩, ⟨iMNext, jMNext, kMNext⟩, PySem.W.mg_none_of X G zenum, PySem.W.mg_none_of X G zzip⟩
  have hInit : FunD K "__init__" "Language.__init__" (defArgs sInit) (defBody sInit) (defScope sInit) [] (kws7 aT) fInit (PySem.W.fnOf "__init__" "Language.__init__" (defArgs sInit) (defBody sInit) (defScope sInit) .none (.ref aKW) dcInit pmInit anInit cdInit ctInit) :=
    ⟨⟨_, _, _, _, _, _, _, _, _, _, rfl, lInit, cInit, .inl ⟨rfl, rfl⟩, .inr ⟨aKW, rfl, fun x hx => by
      simp only [List.mem_cons, List.not_mem_nil, or_false] at hx
      rcases hx with rfl | rfl | rfl | rfl | rfl | rfl | rfl
      · exact ⟨_, w1, _, rfl⟩
      · exact ⟨_, w2, _, rfl⟩
      · exact ⟨_, w3, _, rfl⟩
      · exact ⟨_, w4, _, rfl⟩
      · exact ⟨_, w5, rfl⟩
      · exact ⟨_, w6, rfl⟩
      · exact ⟨_, w7, rfl⟩⟩⟩, kInit⟩
  have kb := kb_all hInit
  have hOneOf := held (st := sOneOf) X G aOneOf lOneOf cOneOf kOneOf
  have bOneOf := hOneOf.1.binds (ps := ["thing", "words"]) fun _ _ _ _ _ _ us hl => match us, hl with | [_, _], _ => rfl
  have hCons := held (st := K5S.sConsists) X G aCons lCons cCons kCons
  have bCons := hCons.1.binds (ps := ["thing", "characters"]) fun _ _ _ _ _ _ us hl => match us, hl with | [_, _], _ => rfl
  have hIsW := held (st := K5S.sIsWord) X G aIsW lIsW cIsW kIsW
  have bIsW := hIsW.1.binds (ps := ["thing"]) fun _ _ _ _ _ _ us hl => match us, hl with | [_], _ => rfl
  have hIsN := held (st := K5S.sIsNumeral) X G aIsN lIsN cIsN kIsN
  have bIsN := hIsN.1.binds (ps := ["thing"]) fun _ _ _ _ _ _ us hl => match us, hl with | [_], _ => rfl
  have hIsS := held (st := K5S.sIsSign) X G aIsS lIsS cIsS kIsS
  have bIsS := hIsS.1.binds (ps := ["thing"]) fun _ _ _ _ _ _ us hl => match us, hl with | [_], _ => rfl
  have hSort := held (st := K5S.sSortOf) X G aSort lSort cSort kSort
  have bSort := hSort.1.binds (ps := ["thing"]) fun _ _ _ _ _ _ us hl => match us, hl with | [_], _ => rfl
  have hStates := held (st := sStates) X G aStates lStates cStates kStates
  have bStates := hStates.1.binds (ps := ["language", "file"]) fun _ _ _ _ _ _ us hl => match us, hl with | [_, _], _ => rfl
  have hSpOf := held (st := sSpans) X G aSpOf lSpOf cSpOf kSpOf
  have bSpOf := hSpOf.1.binds (ps := ["way"]) fun _ _ _ _ _ _ us hl => match us, hl with | [_], _ => rfl
  have hValue := held (st := sValue) X G aValue lValue cValue kValue
  have bValue := hValue.1.binds (ps := ["file", "way", "first", "behind"]) fun _ _ _ _ _ _ us hl => match us, hl with | [_, _, _, _], _ => rfl
  have hSingle := held (st := sSingle) X G aSingle lSingle cSingle kSingle
  have bSingle := hSingle.1.binds (ps := ["token", "members"]) fun _ _ _ _ _ _ us hl => match us, hl with | [_, _], _ => rfl
  have hRole := held (st := sRole) X G aRole lRole cRole kRole
  have bRole := hRole.1.binds (ps := ["sort", "after"]) fun _ _ _ _ _ _ us hl => match us, hl with | [_, _], _ => rfl
  have hEntr := held (st := sEntries) X G aEntr lEntr cEntr kEntr
  have bEntr := hEntr.1.binds (ps := ["file", "way"]) fun _ _ _ _ _ _ us hl => match us, hl with | [_, _], _ => rfl
  have hRead := held (st := sRead) X G aRead lRead cRead kRead
  have bRead := hRead.1.binds (ps := ["language", "file"]) fun _ _ _ _ _ _ us hl => match us, hl with | [_, _], _ => rfl
  have hSpans := held (st := sSpansF) X G aSpans lSpans cSpans kSpans
  have bSpans := hSpans.1.binds (ps := ["language", "file"]) fun _ _ _ _ _ _ us hl => match us, hl with | [_, _], _ => rfl
  have hRoles := held (st := sRoles) X G aRoles lRoles cRoles kRoles
  have bRoles := hRoles.1.binds (ps := ["language", "file"]) fun _ _ _ _ _ _ us hl => match us, hl with | [_, _], _ => rfl
  have hDoub := held (st := sDoub) X G aDoub lDoub cDoub kDoub
  have bDoub := hDoub.1.binds (ps := ["thing"]) fun _ _ _ _ _ _ us hl => match us, hl with | [_], _ => rfl
  have hAllow := held (st := sAllowed) X G aAllow lAllow cAllow kAllow
  have bAllow := hAllow.1.binds (ps := ["option", "thing"]) fun _ _ _ _ _ _ us hl => match us, hl with | [_, _], _ => rfl
  have hDbl := held (st := sDbl) X G aDbl lDbl cDbl kDbl
  have bDbl := hDbl.1.binds (ps := ["language", "sign", "state"]) fun _ _ _ _ _ _ us hl => match us, hl with | [_, _, _], _ => rfl
  have hWName := held (st := sName) X G aWName lWName cWName kWName
  have bWName := hWName.1.binds (ps := ["language"]) fun _ _ _ _ _ _ us hl => match us, hl with | [_], _ => rfl
  have hWEqu := held (st := sEquals) X G aWEqu lWEqu cWEqu kWEqu
  have bWEqu := hWEqu.1.binds (ps := ["language"]) fun _ _ _ _ _ _ us hl => match us, hl with | [_], _ => rfl
  have hWBeh := held (st := sBehind) X G aWBeh lWBeh cWBeh kWBeh
  have bWBeh := hWBeh.1.binds (ps := ["language"]) fun _ _ _ _ _ _ us hl => match us, hl with | [_], _ => rfl
  have hWItem := held (st := sItem) X G aWItem lWItem cWItem kWItem
  have bWItem := hWItem.1.binds (ps := ["language"]) fun _ _ _ _ _ _ us hl => match us, hl with | [_], _ => rfl
  have hWCom := held (st := sComma) X G aWCom lWCom cWCom kWCom
  have bWCom := hWCom.1.binds (ps := ["language"]) fun _ _ _ _ _ _ us hl => match us, hl with | [_], _ => rfl
  have hWDone := held (st := sDone) X G aWDone lWDone cWDone kWDone
  have bWDone := hWDone.1.binds (ps := ["language"]) fun _ _ _ _ _ _ us hl => match us, hl with | [_], _ => rfl
  have hWEnd := held (st := sEnded) X G aWEnd lWEnd cWEnd kWEnd
  have bWEnd := hWEnd.1.binds (ps := ["language"]) fun _ _ _ _ _ _ us hl => match us, hl with | [_], _ => rfl
  have hAllW := held (st := sAllWays) X G aAllW lAllW cAllW kAllW
  have bAllW := hAllW.1.binds (ps := ["language"]) fun _ _ _ _ _ _ us hl => match us, hl with | [_], _ => rfl
  have hPool := held (st := sPool) X G aPool lPool cPool kPool
  have bPool := hPool.1.binds (ps := ["_law_script", "_law_place"]) fun _ _ _ _ _ _ us hl => match us, hl with | [_, _], _ => rfl
  have hPick := held (st := sPick) X G aPick lPick cPick kPick
  have bPick := hPick.1.binds (ps := ["_law_pool_here", "_law_many"]) fun _ _ _ _ _ _ us hl => match us, hl with | [_, _], _ => rfl
  have hOf := held (st := K5S.sOf) X G aOf lOf cOf kOf
  have bOf := hOf.1.binds (ps := ["_law_pool_here", "_law_some"]) fun _ _ _ _ _ _ us hl => match us, hl with | [_, _], _ => rfl
  have hWord := held (st := K5S.sLawWord) X G aWord lWord cWord kWord
  have bWord := hWord.1.binds (ps := ["_law_pool_here", "_law_taken"]) fun _ _ _ _ _ _ us hl => match us, hl with | [_, _], _ => rfl
  have hWords := held (st := sWords) X G aWords lWords cWords kWords
  have bWords := hWords.1.binds (ps := ["_law_pool_here", "_law_many", "_law_taken"]) fun _ _ _ _ _ _ us hl => match us, hl with | [_, _, _], _ => rfl
  have hOpts := held (st := sOptions) X G aOpts lOpts cOpts kOpts
  have bOpts := hOpts.1.binds (ps := ["_law_pool_here"]) fun _ _ _ _ _ _ us hl => match us, hl with | [_], _ => rfl
  have hLang := held (st := sLanguage) X G aLang lLang cLang kLang
  have bLang := hLang.1.binds (ps := ["_law_options_here"]) fun _ _ _ _ _ _ us hl => match us, hl with | [_], _ => rfl
  have hLNext := held (st := sLNext) X G aLNext lLNext cLNext kLNext
  have bLNext := hLNext.1.binds (ps := ["_law_options_here", "_law_state", "_law_sort"]) fun _ _ _ _ _ _ us hl => match us, hl with | [_, _, _], _ => rfl
  have hLClo := held (st := sLClo) X G aLClo lLClo cLClo kLClo
  have bLClo := hLClo.1.binds (ps := ["_law_options_here", "_law_state"]) fun _ _ _ _ _ _ us hl => match us, hl with | [_, _], _ => rfl
  have hWrit := held (st := sWritten) X G aWrit lWrit cWrit kWrit
  have bWrit := hWrit.1.binds (ps := ["_law_pool_here", "_law_options_here", "_law_entries"]) fun _ _ _ _ _ _ us hl => match us, hl with | [_, _, _], _ => rfl
  have hWList := held (st := sWList) X G aWList lWList cWList kWList
  have bWList := hWList.1.binds (ps := ["_law_pool_here", "_law_options_here", "_law_items_here"]) fun _ _ _ _ _ _ us hl => match us, hl with | [_, _, _], _ => rfl
  have hItems := held (st := sItems) X G aItems lItems cItems kItems
  have bItems := hItems.1.binds (ps := ["_law_pool_here", "_law_menu", "_law_most", "_law_may_pair"]) fun _ _ _ _ _ _ us hl => match us, hl with | [_, _, _, _], _ => rfl
  have hAmt := held (st := sAmount) X G aAmt lAmt cAmt kAmt
  have bAmt := hAmt.1.binds (ps := ["_law_pool_here", "_law_options_here", "_law_menu", "_law_most"]) fun _ _ _ _ _ _ us hl => match us, hl with | [_, _, _, _], _ => rfl
  have hRows := held (st := sRows) X G aRows lRows cRows kRows
  have bRows := hRows.1.binds (ps := ["_law_pool_here", "_law_options_here", "_law_many", "_law_most"]) fun _ _ _ _ _ _ us hl => match us, hl with | [_, _, _, _], _ => rfl
  have hTag := held (st := sTag) X G aTag lTag cTag kTag
  have bTag := hTag.1.binds (ps := ["_law_one"]) fun _ _ _ _ _ _ us hl => match us, hl with | [_], _ => rfl
  have hOnw := held (st := sOnw) X G aOnw lOnw cOnw kOnw
  have bOnw := hOnw.1.binds (ps := ["_law_options_here", "_law_state"]) fun _ _ _ _ _ _ us hl => match us, hl with | [_, _], _ => rfl
  have hPath := held (st := sPath) X G aPath lPath cPath kPath
  have bPath := hPath.1.binds (ps := ["_law_options_here", "_law_file"]) fun _ _ _ _ _ _ us hl => match us, hl with | [_, _], _ => rfl
  have hDue := held (st := sDue) X G aDue lDue cDue kDue
  have bDue := hDue.1.binds (ps := ["_law_options_here", "_law_file"]) fun _ _ _ _ _ _ us hl => match us, hl with | [_, _], _ => rfl
  have hMStep := fun_mk (st := sStep) lMStep cMStep kMStep
  have bMStep := hMStep.binds (ps := ["self", "state", "sort"]) fun _ _ _ _ _ _ us hl => match us, hl with | [_, _, _], _ => rfl
  have hMClo := fun_mk (st := sCloses) lMClo cMClo kMClo
  have bMClo := hMClo.binds (ps := ["self", "state"]) fun _ _ _ _ _ _ us hl => match us, hl with | [_, _], _ => rfl
  have hMNext := fun_mk (st := sNext) lMNext cMNext kMNext
  have bMNext := hMNext.binds (ps := ["self", "state"]) fun _ _ _ _ _ _ us hl => match us, hl with | [_, _], _ => rfl
  exact ⟨PySem.W.fnOf "law" "law" (defArgs sLaw) (defBody sLaw) (defScope sLaw) .none kVLaw dcLaw pmLaw anLaw cdLaw ctLaw, fun s v => .of_eq rfl, fun base _ _ => all_of R hOneOf hCons hIsW hIsN hIsS hSort hStates hSpOf hValue hSingle hRole hEntr hRead hSpans hRoles hDoub hAllow hDbl hWName hWEqu hWBeh hWItem hWCom hWDone hWEnd hAllW hPool hPick hOf hWord hWords hOpts hLang hLNext hLClo hWrit hWList hItems hAmt hRows hTag hOnw hPath hDue hMStep hMClo hMNext hInit (fun_mk (st := sLaw) lLaw cLaw kLaw) kb bOneOf bCons bIsW bIsN bIsS bSort bStates bSpOf bValue bSingle bRole bEntr bRead bSpans bRoles bDoub bAllow bDbl bWName bWEqu bWBeh bWItem bWCom bWDone bWEnd bAllW bPool bPick bOf bWord bWords bOpts bLang bLNext bLClo bWrit bWList bItems bAmt bRows bTag bOnw bPath bDue bMStep bMClo bMNext⟩
theorem walk {l : PySem.W.OpenLaw} {q : Program} {loose : List Str} {XP : (Str → Option Value) → Heap → Prop} {YP : World → Heap → Prop} {d : DefRec} {K : Params → PySem.W.Frag} (hn : l.most = some 63) (hdf : d.params.defaults = [])
    (hY : ∀ (w : World) (h : Heap), YP w h → (K w.params).In h)
    (F : ∀ (w : World) (mg : Str → Option Value) (fa : Addr) (h : Heap), (K w.params).In h → h.Ns mainGlobals mg → mg d.name = some (.ref fa) →
      ∃ fd : FuncData, (∀ (s : Shared) (u : Value), BindsTo s fd ⟨[u], []⟩ [("_law_script", u)]) ∧ ∀ base : Heap, (K w.params).In base → base.Ns mainGlobals mg → FnG l.prog w (K w.params) mg base 8 fa fd ["_law_script"] (spLaw (K w.params))) :
    PySem.W.WalkO q loose XP YP l.row.toRowW d [] (fun f vs => PySem.call f vs) :=
  L2.walk_ofG (n := 63) (k := 8) (x := "_law_script") (sp := fun w => spLaw (K w.params)) hn (by decide) hdf ⟨rfl, by decide, by decide⟩ hY F fun _ _ a ns hl _ hS => ⟨a, ns, rfl, hS, hl, fun _ => rfl⟩
end K5

open PySem PySem.W PyProof.Rows in
set_option maxRecDepth 100000 in
set_option maxHeartbeats 0 in
theorem PySem.Challenge.cw_slipreach_k06_spans_and_roles_holds : PySem.Challenge.rw_slipreach_k06_spans_and_roles.Holds := by
  w_on
  o_law
  k_head
  (case hw => w_witness2)
  k_fill
  refine K5.walk (l := PySem.Challenge.rw_slipreach_k06_spans_and_roles) rfl rfl (fun w h Y => kIn_of Y) ?F
  case F =>
    intro w mg fa h KX G hmg
    refine' K5.all_mk KX G hmg ?aSE ?aB ?xL ?bsa ?bnb0 ?biC ?btI ?bkC ?beC ?bvC ?btC ?bhC ?bsC ?bmC ?sup ?lI ?cI ?lD ?vf ?pf ?lc ?aBU ?xLU ?bsaU ?bnb0U ?bnb1U ?biCU ?btIU ?bkCU ?beCU ?bvCU ?btCU ?bhCU ?bsCU ?bmCU ?supU ?lIU ?cIU ?lDU ?vfU ?pfU ?lcU ?tp ?su ?topp ?aCl ?pg ?hdC ?po ?saC ?mkC ?kpC ?nf0 ?nf1 ?nf2 ?nf3 ?nf4 ?nf5 ?nf6 ?nf7 ?haC ?hnC ?htkC ?hmC ?iInit ?jInit ?lInit ?cInit ?kInit ?w1 ?w2 ?w3 ?w4 ?w5 ?w6 ?w7 ?iMStep ?jMStep ?lMStep ?cMStep ?kMStep ?iMClo ?jMClo ?lMClo ?cMClo ?kMClo ?iMNext ?jMNext ?lMNext ?cMNext ?kMNext ?gD ?lDb ?vDb ?gO ?lO ?vO ?gC ?lC ?litC ?lowC ?nequals ?l1 ?v1 ?nend ?l2 ?v2 ?ncomma ?l3 ?v3 ?nlast ?l4 ?v4 ?odoubled ?obare ?onothing ?gL ?gDi ?gM ?gG ?lS ?vS ?gKs ?lK ?vK ?gR ?lR ?litR ?lowR ?rr1 ?rr2 ?rr3 ?rr4 ?rr5 ?rr6 ?rr7 ?zint ?zlen ?zsum ?zabs ?zrange ?zstr ?zall ?zisi ?zrepr ?zlist ?ztuple ?zset ?zdict ?zbool ?zenum ?zzip ?aOneOf ?lOneOf ?cOneOf ?kOneOf ?aCons ?lCons ?cCons ?kCons ?aIsW ?lIsW ?cIsW ?kIsW ?aIsN ?lIsN ?cIsN ?kIsN ?aIsS ?lIsS ?cIsS ?kIsS ?aSort ?lSort ?cSort ?kSort ?aStates ?lStates ?cStates ?kStates ?aSpOf ?lSpOf ?cSpOf ?kSpOf ?aValue ?lValue ?cValue ?kValue ?aSingle ?lSingle ?cSingle ?kSingle ?aRole ?lRole ?cRole ?kRole ?aEntr ?lEntr ?cEntr ?kEntr ?aRead ?lRead ?cRead ?kRead ?aSpans ?lSpans ?cSpans ?kSpans ?aRoles ?lRoles ?cRoles ?kRoles ?aDoub ?lDoub ?cDoub ?kDoub ?aAllow ?lAllow ?cAllow ?kAllow ?aDbl ?lDbl ?cDbl ?kDbl ?aWName ?lWName ?cWName ?kWName ?aWEqu ?lWEqu ?cWEqu ?kWEqu ?aWBeh ?lWBeh ?cWBeh ?kWBeh ?aWItem ?lWItem ?cWItem ?kWItem ?aWCom ?lWCom ?cWCom ?kWCom ?aWDone ?lWDone ?cWDone ?kWDone ?aWEnd ?lWEnd ?cWEnd ?kWEnd ?aAllW ?lAllW ?cAllW ?kAllW ?aPool ?lPool ?cPool ?kPool ?aPick ?lPick ?cPick ?kPick ?aOf ?lOf ?cOf ?kOf ?aWord ?lWord ?cWord ?kWord ?aWords ?lWords ?cWords ?kWords ?aOpts ?lOpts ?cOpts ?kOpts ?aLang ?lLang ?cLang ?kLang ?aLNext ?lLNext ?cLNext ?kLNext ?aLClo ?lLClo ?cLClo ?kLClo ?aWrit ?lWrit ?cWrit ?kWrit ?aWList ?lWList ?cWList ?kWList ?aItems ?lItems ?cItems ?kItems ?aAmt ?lAmt ?cAmt ?kAmt ?aRows ?lRows ?cRows ?kRows ?aTag ?lTag ?cTag ?kTag ?aOnw ?lOnw ?cOnw ?kOnw ?aPath ?lPath ?cPath ?kPath ?aDue ?lDue ?cDue ?kDue ?aLaw ?lLaw ?cLaw ?kLaw
    (case aSE => k_is)
    (case aB => k_is)
    (case xL => k_is)
    (case bsa => k_is)
    (case bnb0 => k_is)
    (case biC => k_is)
    (case btI => k_is)
    (case bkC => k_is)
    (case beC => k_is)
    (case bvC => k_is)
    (case btC => k_is)
    (case bhC => k_is)
    (case bsC => first | rfl | k_is)
    (case bmC => k_is)
    (case sup => ks_is)
    (case lI => k_is)
    (case cI => k_is)
    (case lD => k_is)
    (case vf => first | rfl | decide +kernel)
    (case pf => first | rfl | decide +kernel)
    (case lc => k_is)
    (case aBU => k_is)
    (case xLU => k_is)
    (case bsaU => k_is)
    (case bnb0U => k_is)
    (case bnb1U => k_is)
    (case biCU => k_is)
    (case btIU => k_is)
    (case bkCU => k_is)
    (case beCU => k_is)
    (case bvCU => k_is)
    (case btCU => k_is)
    (case bhCU => k_is)
    (case bsCU => first | rfl | k_is)
    (case bmCU => k_is)
    (case supU => ks_is)
    (case lIU => k_is)
    (case cIU => k_is)
    (case lDU => k_is)
    (case vfU => first | rfl | decide +kernel)
    (case pfU => first | rfl | decide +kernel)
    (case lcU => k_is)
    (case tp => k_is)
    (case su => k_is)
    (case topp => first | rfl | decide +kernel)
    (case aCl => k_is)
    (case pg => k_is)
    (case hdC => k_is)
    (case po => k_is)
    (case saC => k_is)
    (case mkC => k_is)
    (case kpC => k_is)
    (case nf0 => k_is)
    (case nf1 => k_is)
    (case nf2 => k_is)
    (case nf3 => k_is)
    (case nf4 => k_is)
    (case nf5 => k_is)
    (case nf6 => k_is)
    (case nf7 => k_is)
    (case haC => k_is)
    (case hnC => k_is)
    (case htkC => k_is)
    (case hmC => k_is)
    (case iInit => k_is)
    (case jInit => k_is)
    (case lInit => k_is)
    (case cInit => k_is)
    (case kInit => k_is)
    (case w1 => k_is)
    (case w2 => k_is)
    (case w3 => k_is)
    (case w4 => k_is)
    (case w5 => k_is)
    (case w6 => k_is)
    (case w7 => k_is)
    (case iMStep => k_is)
    (case jMStep => k_is)
    (case lMStep => k_is)
    (case cMStep => k_is)
    (case kMStep => k_is)
    (case iMClo => k_is)
    (case jMClo => k_is)
    (case lMClo => k_is)
    (case cMClo => k_is)
    (case kMClo => k_is)
    (case iMNext => k_is)
    (case jMNext => k_is)
    (case lMNext => k_is)
    (case cMNext => k_is)
    (case kMNext => k_is)
    (case gD => k_is)
    (case lDb => k_is)
    (case vDb => rfl)
    (case gO => k_is)
    (case lO => k_is)
    (case vO => rfl)
    (case gC => k_is)
    (case lC => k_is)
    (case litC => exact ⟨⟨_, _, rfl, rfl⟩, ⟨_, _, rfl, rfl⟩, ⟨_, _, rfl, rfl⟩, ⟨_, _, rfl, rfl⟩, trivial⟩)
    (case lowC => first | rfl | decide +kernel)
    (case nequals => k_is)
    (case l1 => k_is)
    (case v1 => rfl)
    (case nend => k_is)
    (case l2 => k_is)
    (case v2 => rfl)
    (case ncomma => k_is)
    (case l3 => k_is)
    (case v3 => rfl)
    (case nlast => k_is)
    (case l4 => k_is)
    (case v4 => rfl)
    (case odoubled => k_is)
    (case obare => k_is)
    (case onothing => k_is)
    (case gL => k_is)
    (case gDi => k_is)
    (case gM => k_is)
    (case gG => k_is)
    (case lS => k_is)
    (case vS => rfl)
    (case gKs => k_is)
    (case lK => k_is)
    (case vK => rfl)
    (case gR => k_is)
    (case lR => k_is)
    (case litR => exact ⟨⟨_, _, rfl, rfl⟩, ⟨_, _, rfl, rfl⟩, ⟨_, _, rfl, rfl⟩, ⟨_, _, rfl, rfl⟩, ⟨_, _, rfl, rfl⟩, trivial⟩)
    (case lowR => first | rfl | decide +kernel)
    (case rr1 => k_is)
    (case rr2 => k_is)
    (case rr3 => k_is)
    (case rr4 => k_is)
    (case rr5 => k_is)
    (case rr6 => k_is)
    (case rr7 => k_is)
    (case zint => k_is)
    (case zlen => k_is)
    (case zsum => k_is)
    (case zabs => k_is)
    (case zrange => k_is)
    (case zstr => k_is)
    (case zall => k_is)
    (case zisi => k_is)
    (case zrepr => k_is)
    (case zlist => k_is)
    (case ztuple => k_is)
    (case zset => k_is)
    (case zdict => k_is)
    (case zbool => k_is)
    (case zenum => k_is)
    (case zzip => k_is)
    (case aOneOf => k_is)
    (case lOneOf => k_is)
    (case cOneOf => k_is)
    (case kOneOf => k_is)
    (case aCons => k_is)
    (case lCons => k_is)
    (case cCons => k_is)
    (case kCons => k_is)
    (case aIsW => k_is)
    (case lIsW => k_is)
    (case cIsW => k_is)
    (case kIsW => k_is)
    (case aIsN => k_is)
    (case lIsN => k_is)
    (case cIsN => k_is)
    (case kIsN => k_is)
    (case aIsS => k_is)
    (case lIsS => k_is)
    (case cIsS => k_is)
    (case kIsS => k_is)
    (case aSort => k_is)
    (case lSort => k_is)
    (case cSort => k_is)
    (case kSort => k_is)
    (case aStates => k_is)
    (case lStates => k_is)
    (case cStates => k_is)
    (case kStates => k_is)
    (case aSpOf => k_is)
    (case lSpOf => k_is)
    (case cSpOf => k_is)
    (case kSpOf => k_is)
    (case aValue => k_is)
    (case lValue => k_is)
    (case cValue => k_is)
    (case kValue => k_is)
    (case aSingle => k_is)
    (case lSingle => k_is)
    (case cSingle => k_is)
    (case kSingle => k_is)
    (case aRole => k_is)
    (case lRole => k_is)
    (case cRole => k_is)
    (case kRole => k_is)
    (case aEntr => k_is)
    (case lEntr => k_is)
    (case cEntr => k_is)
    (case kEntr => k_is)
    (case aRead => k_is)
    (case lRead => k_is)
    (case cRead => k_is)
    (case kRead => k_is)
    (case aSpans => k_is)
    (case lSpans => k_is)
    (case cSpans => k_is)
    (case kSpans => k_is)
    (case aRoles => k_is)
    (case lRoles => k_is)
    (case cRoles => k_is)
    (case kRoles => k_is)
    (case aDoub => k_is)
    (case lDoub => k_is)
    (case cDoub => k_is)
    (case kDoub => k_is)
    (case aAllow => k_is)
    (case lAllow => k_is)
    (case cAllow => k_is)
    (case kAllow => k_is)
    (case aDbl => k_is)
    (case lDbl => k_is)
    (case cDbl => k_is)
    (case kDbl => k_is)
    (case aWName => k_is)
    (case lWName => k_is)
    (case cWName => k_is)
    (case kWName => k_is)
    (case aWEqu => k_is)
    (case lWEqu => k_is)
    (case cWEqu => k_is)
    (case kWEqu => k_is)
    (case aWBeh => k_is)
    (case lWBeh => k_is)
    (case cWBeh => k_is)
    (case kWBeh => k_is)
    (case aWItem => k_is)
    (case lWItem => k_is)
    (case cWItem => k_is)
    (case kWItem => k_is)
    (case aWCom => k_is)
    (case lWCom => k_is)
    (case cWCom => k_is)
    (case kWCom => k_is)
    (case aWDone => k_is)
    (case lWDone => k_is)
    (case cWDone => k_is)
    (case kWDone => k_is)
    (case aWEnd => k_is)
    (case lWEnd => k_is)
    (case cWEnd => k_is)
    (case kWEnd => k_is)
    (case aAllW => k_is)
    (case lAllW => k_is)
    (case cAllW => k_is)
    (case kAllW => k_is)
    (case aPool => k_is)
    (case lPool => k_is)
    (case cPool => k_is)
    (case kPool => k_is)
    (case aPick => k_is)
    (case lPick => k_is)
    (case cPick => k_is)
    (case kPick => k_is)
    (case aOf => k_is)
    (case lOf => k_is)
    (case cOf => k_is)
    (case kOf => k_is)
    (case aWord => k_is)
    (case lWord => k_is)
    (case cWord => k_is)
    (case kWord => k_is)
    (case aWords => k_is)
    (case lWords => k_is)
    (case cWords => k_is)
    (case kWords => k_is)
    (case aOpts => k_is)
    (case lOpts => k_is)
    (case cOpts => k_is)
    (case kOpts => k_is)
    (case aLang => k_is)
    (case lLang => k_is)
    (case cLang => k_is)
    (case kLang => k_is)
    (case aLNext => k_is)
    (case lLNext => k_is)
    (case cLNext => k_is)
    (case kLNext => k_is)
    (case aLClo => k_is)
    (case lLClo => k_is)
    (case cLClo => k_is)
    (case kLClo => k_is)
    (case aWrit => k_is)
    (case lWrit => k_is)
    (case cWrit => k_is)
    (case kWrit => k_is)
    (case aWList => k_is)
    (case lWList => k_is)
    (case cWList => k_is)
    (case kWList => k_is)
    (case aItems => k_is)
    (case lItems => k_is)
    (case cItems => k_is)
    (case kItems => k_is)
    (case aAmt => k_is)
    (case lAmt => k_is)
    (case cAmt => k_is)
    (case kAmt => k_is)
    (case aRows => k_is)
    (case lRows => k_is)
    (case cRows => k_is)
    (case kRows => k_is)
    (case aTag => k_is)
    (case lTag => k_is)
    (case cTag => k_is)
    (case kTag => k_is)
    (case aOnw => k_is)
    (case lOnw => k_is)
    (case cOnw => k_is)
    (case kOnw => k_is)
    (case aPath => k_is)
    (case lPath => k_is)
    (case cPath => k_is)
    (case kPath => k_is)
    (case aDue => k_is)
    (case lDue => k_is)
    (case cDue => k_is)
    (case kDue => k_is)
    (case aLaw => k_is)
    (case lLaw => k_is)
    (case cLaw => k_is)
    (case kLaw => k_is)

