import PyProof.Rows.All
import Wide.All
import OpenK.AllK
import Wide.FinOn
import HandS.ForMost
import HandS.IsInst
import PySem.Challenge.RW_slipreach_k08_slips_done_and_lists_trimm
import HandS.Codes
import HandS.Walk
import PyProof.EqAt
import PyProof.EqKinds
import PyProof.TupleCall
import KE.KExcSuper
import HandS.ForExc
import HandS.ExcField
import HandS.ExcIs
import HandS.Star
import HandS.OwnEq
import HandS.StrMore
import PyProof.ReprText
import PyProof.ReprLen
import HandS.Defaults
import HandS.List
import HandS.Style
import PyProof.StrOps2
import PyProof.ReprRoads
set_option Elab.async false
set_option linter.all false
set_option maxRecDepth 110000
set_option maxHeartbeats 4100000
namespace K8
open PySem L2
def top (i : Nat) : Stmt := PySem.Challenge.pw_slipreach_k08_slips_done_and_lists_trimm.main.body.getD i (.Pass ⟨0, 0, 0, 0⟩)
abbrev sPool : Stmt := top 22
abbrev sPick : Stmt := top 23
/-- built-in names that the top has left alone -/
structure Bare (mg : Str → Option Value) : Prop where
  int : mg "int" = none
  len : mg "len" = none
  sum : mg "sum" = none
  abs : mg "abs" = none
  range : mg "range" = none
  str : mg "str" = none
  all : mg "all" = none
  max : mg "max" = none
  isi : mg "isinstance" = none
  enum : mg "enumerate" = none
  repr : mg "repr" = none
  list : mg "list" = none
/-- all but the object at p is as it was -/
def Keep (p : Addr) (H H' : Hp) : Prop := ∀ b o, b ≠ p → H b = some o → H' b = some o
theorem Keep.refl (p : Addr) (H : Hp) : Keep p H H := fun _ _ _ h => h
theorem Keep.trans {p : Addr} {H H1 H2 : Hp} (a : Keep p H H1) (b : Keep p H1 H2) : Keep p H H2 := fun c o n h => b c o n (a c o n h)
theorem Keep.new {p l : Addr} {H H1 : Hp} {o : HO} (a : Keep p H H1) (hl : H1 l = none) : Keep p H (upd H1 l o) := fun b u n h => by
  rw [upd_ne (ne_of_none (a b u n h) hl)]
  exact a b u n h
theorem Keep.own {p : Addr} {H H1 : Hp} {o : HO} (a : Keep p H H1) : Keep p H (upd H1 p o) := fun b u n h => by
  rw [upd_ne n]
  exact a b u n h
/-- at p a pool: what is left of a great cell, a start, how many were drawn (at most c) -/
def Pool (H : Hp) (p : Addr) (c : Nat) : Prop := ∃ g m k : Int, H p = some (.lst [.int g, .int m, .int k]) ∧ 0 ≤ g ∧ 0 ≤ m ∧ m ≤ 16140901064500000000 ∧ 0 ≤ k ∧ k ≤ (c : Int)
theorem Pool.new {H : Hp} {p l : Addr} {c : Nat} {o : HO} (a : Pool H p c) (hl : H l = none) : Pool (upd H l o) p c := by
  obtain ⟨g, m, k, h, r⟩ := a
  exact ⟨g, m, k, by rw [upd_ne (ne_of_none h hl)]; exact h, r⟩
theorem Pool.mono {H : Hp} {p : Addr} {c d : Nat} (a : Pool H p c) (h : c ≤ d) : Pool H p d := by
  obtain ⟨g, m, k, h1, h2, h3, h4, h5, h6⟩ := a
  exact ⟨g, m, k, h1, h2, h3, h4, h5, by omega⟩
theorem Pool.other {H : Hp} {p l : Addr} {c : Nat} {o : HO} (a : Pool H p c) (hl : p ≠ l) : Pool (upd H l o) p c := by
  obtain ⟨g, m, k, h, r⟩ := a
  exact ⟨g, m, k, by rw [upd_ne hl]; exact h, r⟩
/-- a number below many is drawn -/
def spPick : Sp := fun vs H Q _ => ∃ (p : Addr) (c : Nat) (n : Int), vs = [.ref p, .int n] ∧ Pool H p c ∧ c ≤ 1000000 ∧ 0 < n ∧ n < 1073741824 ∧
  ∀ (r : Int) (H' : Hp), 0 ≤ r → r < n → Keep p H H' → Pool H' p (c + 1) → Q (.int r) H'
section
variable {P : Program} {w : World} {K : PySem.W.Frag} {mg : Str → Option Value} {base : Heap}
theorem scPick : FnScope ["_law_pool_here", "_law_many", "_law_found", "_law_mixed"] ["_law_pool_here", "_law_many"] (defScope sPick) := ⟨rfl, rfl, rfl, by decide +kernel, rfl, by decide +kernel, by decide +kernel⟩
theorem pow_bound {m k : Int} (h0 : 0 ≤ m) (h1 : m ≤ 16140901064500000000) (h2 : 0 ≤ k) (h3 : k ≤ 1000001) : (m + 1500450271 * k).natAbs < 2 ^ 64 := by omega
theorem pow_bound2 {a k : Int} (h0 : 0 ≤ a) (h1 : a < 2305843009213693921) (h2 : 0 ≤ k) (h3 : k ≤ 1000001) : (a + 28657 * k).natAbs < 2 ^ 64 := by omega
theorem ok_pick {f : Addr} {fd : FuncData} (F : Fun K "_law_pick" "_law_pick" sPick f fd) (T : Bare mg) : FnOk P w K mg base CX0 1 f fd ["_law_pool_here", "_law_many"] spPick := by
  refine F.ok scPick (fun vs H Q E h => ?_) (fun cdv A outer s H vs Q E hr h => ?_)
  · obtain ⟨p, c, n, rfl, _⟩ := h
    rfl
  · obtain ⟨p, c, n, rfl, ⟨g, m, k, hp, hg, hm, hm', hk, hk'⟩, hc, hn, hn', q⟩ := h
    refine ⟨_, pss_cons (ps_if (pt_cmpR op_gt (pe_ix ix_list (pv 0) pe_int (fun _ _ => rfl)) pe_int (nomark _))
        (pss_cons (ps_set (i := 2) scPick.nd rfl (.inl rfl) (pe_op op_mod (pe_callTy call_int1 (by rfl) T.int (by decide +kernel) (pa_cons (pe_ix ix_list (pv 0) pe_int (fun _ _ => rfl)) pa_nil)) (pv 1)))
          (pss_cons (ps_asg (pe_op op_fdiv (pe_ix ix_list (pv 0) pe_int (fun _ _ => rfl)) (pv 1)) (pg_sub (pv 0) pe_int set_list))
            (pss_one (ps_ret (pv 2))))) pss_nil)
      (pss_cons (ps_asg (pe_op op_add (pe_ix ix_list (pv 0) pe_int (fun _ _ => rfl)) pe_int) (pg_sub (pv 0) pe_int set_list))
      (pss_cons (ps_set (i := 3) scPick.nd rfl (.inl rfl) (pe_op op_mod (pe_callTy call_int1 (by rfl) T.int (by decide +kernel) (pa_cons
          (pe_op op_pow (pe_op op_add (pe_ix ix_list (pv 0) pe_int (fun _ _ => rfl)) (pe_op op_mul pe_int (pe_ix ix_list (pv 0) pe_int (fun _ _ => rfl)))) pe_int) pa_nil)) pe_int))
      (pss_cons (ps_set (i := 3) scPick.nd rfl (.inl rfl) (pe_op op_mod (pe_callTy call_int1 (by rfl) T.int (by decide +kernel) (pa_cons
          (pe_op op_pow (pe_op op_add (pv 3) (pe_op op_mul pe_int (pe_ix ix_list (pv 0) pe_int (fun _ _ => rfl)))) pe_int) pa_nil)) pe_int))
      (pss_one (ps_ret (pe_op op_mod (pe_callTy call_int1 (by rfl) T.int (by decide +kernel) (pa_cons (pe_op op_fdiv (pv 3) pe_int) pa_nil)) (pv 1))))))), ?_⟩
    refine ⟨_, rfl, p, _, _, _, rfl, rfl, SqL.of hp, atI_nat rfl, _, _, rfl, rfl, _, rfl, ?_⟩
    refine ite2 (fun h0 => ?_) (fun h0 => ?_)
    · refine ⟨_, rfl, p, _, _, _, rfl, rfl, SqL.of hp, atI_nat rfl, .inl ⟨_, rfl, _, rfl, _, _, rfl, rfl, hn, ?_⟩⟩
      refine ⟨_, rfl, p, _, _, _, rfl, rfl, SqL.of hp, atI_nat rfl, _, rfl, _, _, rfl, rfl, ⟨hn, hn'⟩, _, rfl, p, _, _, _, rfl, rfl, hp, rfl, ?_⟩
      refine ⟨_, rfl, ?_⟩
      refine q _ _ (Int.emod_nonneg _ (by omega)) (Int.emod_lt_of_pos _ hn) (Keep.refl p H).own ⟨g / n, m, k, upd_same, Int.ediv_nonneg hg (by omega), hm, hm', hk, by omega⟩
    · have e1 : ∀ H' : Hp, H' p = some (.lst [.int g, .int m, .int (k + 1)]) → SqL K H' p [.int g, .int m, .int (k + 1)] := fun _ e => SqL.of e
      refine ⟨_, rfl, p, _, _, _, rfl, rfl, SqL.of hp, atI_nat rfl, _, _, rfl, rfl, _, rfl, p, _, _, _, rfl, rfl, hp, rfl, ?_⟩
      refine ⟨_, rfl, p, [.int g, .int m, .int (k + 1)], _, _, rfl, rfl, e1 _ upd_same, atI_nat rfl, _, rfl, p, [.int g, .int m, .int (k + 1)], _, _, rfl, rfl, e1 _ upd_same, atI_nat rfl, _, _, rfl, rfl, .inl (by decide), _, _, rfl, rfl, _, _, rfl, rfl, ⟨by decide, by decide, pow_bound hm hm' (by omega) (by omega)⟩, .inl ⟨_, rfl, _, _, rfl, rfl, (by show (0 : Int) < 2305843009213693921; decide), ?_⟩⟩
      refine ⟨_, rfl, _, rfl, p, [.int g, .int m, .int (k + 1)], _, _, rfl, rfl, e1 _ upd_same, atI_nat rfl, _, _, rfl, rfl, .inl (by decide), _, _, rfl, rfl, _, _, rfl, rfl, ⟨by decide, by decide, pow_bound2 (Int.emod_nonneg _ (by decide)) (Int.emod_lt_of_pos _ (by decide)) (by omega) (by omega)⟩, .inl ⟨_, rfl, _, _, rfl, rfl, (by show (0 : Int) < 2305843009213693951; decide), ?_⟩⟩
      refine ⟨_, rfl, _, _, rfl, rfl, ⟨by decide, by decide⟩, .inl ⟨_, rfl, _, rfl, _, _, rfl, rfl, hn, ?_⟩⟩
      exact q _ _ (Int.emod_nonneg _ (by omega)) (Int.emod_lt_of_pos _ hn) (Keep.refl p H).own ⟨g, m, k + 1, upd_same, hg, hm, hm', by omega, by omega⟩
end
end K8

namespace K8
open PySem L2
/-- a new pool for one place of the script -/
def spPool (K : PySem.W.Frag) : Sp := fun vs H Q _ => ∃ (a : Addr) (ns : List Int) (k : Int), vs = [.ref a, .int k] ∧ SqL K H a (ns.map V.int) ∧ ns.length ≤ 63 ∧ 0 ≤ k ∧ k ≤ 63 ∧
  ∀ (p : Addr) (H' : Hp), H p = none → Same H H' → Pool H' p 0 → Q (.ref p) H'
section
variable {P : Program} {w : World} {K : PySem.W.Frag} {mg : Str → Option Value} {base : Heap}
theorem Same.new {H H1 : Hp} {l : Addr} {o : HO} (a : Same H H1) (hl : H1 l = none) : Same H (upd H1 l o) := fun b u h => by
  rw [upd_ne (ne_of_none (a b u h) hl)]
  exact a b u h
theorem at_int {ns : List Int} {k : Int} (h0 : 0 ≤ k) (h1 : k < (ns.length : Int)) : ∃ z, atI (ns.map V.int) k = some (V.int z) := by
  have hk : k.toNat < ns.length := by omega
  refine ⟨ns[k.toNat], at_of (j := k.toNat) (by omega) ?_⟩
  rw [List.getElem?_map, List.getElem?_eq_getElem hk]
  rfl
theorem scPool : FnScope ["_law_script", "_law_place", "_law_cell", "_law_great"] ["_law_script", "_law_place"] (defScope sPool) := ⟨rfl, rfl, rfl, by decide +kernel, rfl, by decide +kernel, by decide +kernel⟩
theorem ok_pool {f : Addr} {fd : FuncData} (F : Fun K "_law_pool" "_law_pool" sPool f fd) (T : Bare mg) : FnOk P w K mg base CX0 1 f fd ["_law_script", "_law_place"] (spPool K) := by
  refine F.ok scPool (fun vs H Q E h => ?_) (fun cdv A outer s H vs Q E hr h => ?_)
  · obtain ⟨p, c, n, rfl, _⟩ := h
    rfl
  · obtain ⟨a, ns, k, rfl, hS, hl, hk, hk', q⟩ := h
    refine ⟨_, C8.pss_cut (ps_set (i := 2) scPool.nd rfl (.inl rfl) (pe_ifExp (pt_cmpR op_lt (pv 1) (pe_callB call_len_seq (by rfl) T.len PySem.boot_len (pa_cons (pv 0) pa_nil)) (nomark _))
          (pe_ix ix_list (pv 0) (pv 1) (fun _ _ => rfl))
          (pe_op op_mod (pe_callTy call_int1 (by rfl) T.int (by decide +kernel) (pa_cons (pe_callB (cr_sum rfl) (by rfl) T.sum (by decide +kernel) (pa_cons (pe_slice sl_list (pv 0) po_none (po_some pe_int)) pa_nil)) pa_nil)) pe_int)))
      (C8.pss_cut (ps_set (i := 3) scPool.nd rfl (.inl rfl) (pe_ifExp (pt_cmpR op_ge (pe_callB call_abs (by rfl) T.abs (by decide +kernel) (pa_cons (pv 2) pa_nil)) (pe_op op_pow pe_int pe_int) (nomark _))
          (pe_callB call_abs (by rfl) T.abs (by decide +kernel) (pa_cons (pv 2) pa_nil)) pe_int))
      (pss_one (ps_ret (pe_lst (pa_cons (pv 3) (pa_cons
          (pe_op op_add (pe_op op_add (pe_op op_add (pe_op op_mul (pe_op op_mod (pe_callTy call_int1 (by rfl) T.int (by decide +kernel) (pa_cons (pv 2) pa_nil)) pe_int) pe_int) (pe_op op_mul pe_int (pv 1))) (pe_op op_mul pe_int pe_int)) pe_int)
          (pa_cons pe_int pa_nil))))))), ?_⟩
    refine ⟨fun σ H' => ∃ z : Int, σ = [some (.ref a), some (.int k), some (.int z), none] ∧ Same H H', ?_, ?_⟩
    · refine ⟨_, rfl, _, rfl, a, _, rfl, .inl hS, _, _, rfl, rfl, _, rfl, ?_⟩
      refine ite2 (fun h0 => ?_) (fun h0 => ?_)
      · have h0 : k < ((ns.map V.int).length : Int) := of_decide_eq_true h0
        rw [List.length_map] at h0
        obtain ⟨z, hz⟩ := at_int hk h0
        exact ⟨_, rfl, _, rfl, a, _, _, _, rfl, rfl, hS, hz, z, rfl, Same.refl H⟩
      · refine ⟨_, rfl, _, rfl, a, _, rfl, hS, fun l hl => ?_⟩
        refine ⟨l, ns.take 1, rfl, SqL.of ?_, .inl ⟨_, rfl, _, _, rfl, rfl, (by show (0 : Int) < 1000003; decide), _, rfl, Same.new (Same.refl H) hl⟩⟩
        rw [upd_same]
        congr 2
        unfold cutV
        cases ns with
        | nil => rfl
        | cons z ns => simp [HT.sIx]
    · rintro σ H1 ⟨z, rfl, s1⟩
      refine ⟨fun σ H' => ∃ g : Int, 0 ≤ g ∧ σ = [some (.ref a), some (.int k), some (.int z), some (.int g)] ∧ H' = H1, ?_, ?_⟩
      · refine ⟨_, rfl, _, rfl, _, _, rfl, rfl, ⟨by decide, by decide, by decide⟩, _, _, rfl, rfl, _, rfl, ?_⟩
        refine ite2 (fun _ => ?_) (fun _ => ?_)
        · refine ⟨_, rfl, _, rfl, _, ?_, rfl, rfl⟩
          by_cases hz : z < 0
          · rw [if_pos hz]; omega
          · rw [if_neg hz]; omega
        · exact ⟨0, Int.le_refl 0, rfl, rfl⟩
      · rintro σ H2 ⟨g, hg, rfl, rfl⟩
        refine ⟨_, rfl, _, rfl, .inl ⟨_, rfl, _, _, rfl, rfl, (by show (0 : Int) < 2305843009213693951; decide), _, _, rfl, rfl, .inr (by decide), _, rfl, _, _, rfl, rfl, .inl (by decide), _, _, rfl, rfl, _, _, rfl, rfl, .inl (by decide), _, _, rfl, rfl, _, _, rfl, rfl, by show 3 ≤ sizeLine; decide, fun p hp => ?_⟩⟩
        refine q p _ (s1.free hp) (Same.new s1 hp) ⟨g, _, 0, upd_same, hg, ?_, ?_, by decide, by decide⟩
        · have h1 := Int.emod_nonneg z (show (2305843009213693951 : Int) ≠ 0 by decide)
          omega
        · have h1 := Int.emod_lt_of_pos z (show (0 : Int) < 2305843009213693951 by decide)
          omega
end
end K8

namespace K8
open PySem L2
abbrev sOneOf : Stmt := top 8
abbrev sConsists : Stmt := top 9
abbrev sIsWord : Stmt := top 10
abbrev sIsNumeral : Stmt := top 11
abbrev sIsSign : Stmt := top 13
abbrev sIsInteger : Stmt := top 12
abbrev sSortOf : Stmt := top 14
def cLetters : Str := "abcdefghijklmnopqrstuvwxyz"
def cDigits : Str := "0123456789"
def signs : List Str := ["=", ";", ",", "[", "]"]
/-- the constants of the module -/
structure Mod (K : PySem.W.Frag) (mg : Str → Option Value) (aS : Addr) : Prop extends Bare mg where
  letters : ∃ t, mg "LETTERS" = some (.str cLetters t)
  digits : ∃ t, mg "DIGITS" = some (.str cDigits t)
  longest : ∃ t, mg "LONGEST" = some (.int 12 t)
  sgn : mg "SIGNS" = some (.ref aS)
  tup : ∃ (o : Obj) (its : Array Value) (n : Nat), K.lookup aS = some o ∧ o.cls = .type "tuple" ∧ o.data = .seq its n ∧ its.size ≤ sizeLine ∧ Vals (K8.signs.map V.str) its.toList
theorem Mod.sq {K : PySem.W.Frag} {mg : Str → Option Value} {aS : Addr} (T : Mod K mg aS) (H : Hp) : SqT K H aS (K8.signs.map V.str) := .inr T.tup
theorem inV_strs (z : Str) (ws : List Str) : inV (.str z) (ws.map V.str) = decide (z ∈ ws) := by
  unfold inV
  induction ws with
  | nil => rfl
  | cons y ws ih =>
    rw [List.map_cons, List.any_cons, ih]
    show (y == z || _) = _
    by_cases h : y = z
    · subst h; simp
    · have h' : ¬ z = y := fun e => h e.symm
      have e : (y == z) = false := by simpa using h
      rw [e, Bool.false_or]
      simp [h']
theorem flat_strs (ws : List Str) : (ws.map V.str).all flatV = true := by
  rw [List.all_map]
  exact List.all_eq_true.mpr fun _ _ => rfl
theorem all_id_map {α : Type} (p : α → Bool) (l : List α) : (l.map p).all id = l.all p := by
  induction l with
  | nil => rfl
  | cons a l ih => rw [List.map_cons, List.all_cons, List.all_cons, ih]; rfl
theorem take_more {α β : Type} (f : α → β) {l : List α} {i : Nat} {c : α} (h : l[i]? = some c) : (l.take i).map f ++ [f c] = (l.take (i + 1)).map f := by
  rw [List.take_add_one, h, List.map_append]
  rfl
theorem cps_at {z : Str} {i : Nat} {c : Nat} (h : z.cps[i]? = some c) : z.cps.toList[i]? = some c := by simpa using h
theorem str_len (z : Str) : z.cps.toList.length = z.length := by simp [Str.length]
/-- 1 to 12 of these signs -/
def inAll (z cs : Str) : Bool := decide (1 ≤ z.length) && decide (z.length ≤ 12) && z.cps.toList.all fun c => decide (c ∈ cs.cps.toList)
/-- a thing that may be a text -/
def Thing (K : PySem.W.Frag) (H : Hp) (v : V) (o : Option Str) : Prop := (∃ z, v = .str z ∧ o = some z ∧ z.length ≤ sizeLine) ∨ (o = none ∧ ∃ t, TyOf K H v t ∧ PySem.W.kitOne K t (.type "str") = some false)
theorem tyOf_same {K : PySem.W.Frag} {H H' : Hp} {v : V} {t : Value} (h : TyOf K H v t) (s : Same H H') : TyOf K H' v t := by
  cases h with
  | non => exact .non
  | bl b => exact .bl b
  | int i => exact .int i
  | str x => exact .str x
  | flt x => exact .flt x
  | lst e => exact .lst (s _ _ e)
  | frz e => exact .frz (s _ _ e)
  | tup e => exact .tup (s _ _ e)
  | dK e => exact .dK (s _ _ e)
  | dT e => exact .dT (s _ _ e)
  | ins e a b c d m => exact .ins (s _ _ e) a b c d m
theorem Thing.same {K : PySem.W.Frag} {H H' : Hp} {v : V} {o : Option Str} (h : Thing K H v o) (s : Same H H') : Thing K H' v o := by
  rcases h with h | ⟨e, t, h, k⟩
  · exact .inl h
  · exact .inr ⟨e, t, tyOf_same h s, k⟩
def spOneOf (K : PySem.W.Frag) : Sp := fun vs H Q _ => ∃ (v : V) (o : Option Str) (a : Addr) (ws : List Str), vs = [v, .ref a] ∧ Thing K H v o ∧ SqT K H a (ws.map V.str) ∧ Q (.bl (o.elim false fun z => decide (z ∈ ws))) H
def spConsists (K : PySem.W.Frag) : Sp := fun vs H Q _ => ∃ (v : V) (o : Option Str) (cs : Str), vs = [v, .str cs] ∧ Thing K H v o ∧ ∀ H', Same H H' → Q (.bl (o.elim false fun z => inAll z cs)) H'
def spWord (K : PySem.W.Frag) : Sp := fun vs H Q _ => ∃ (v : V) (o : Option Str), vs = [v] ∧ Thing K H v o ∧ ∀ H', Same H H' → Q (.bl (o.elim false fun z => inAll z cLetters)) H'
/-- a numeral -/
def numOk (z : Str) : Bool := inAll z cDigits && (decide (z = "0") || !decide ((⟨#[z.cps.toList.headD 0]⟩ : Str) = "0"))
def spNum (K : PySem.W.Frag) : Sp := fun vs H Q _ => ∃ (v : V) (o : Option Str), vs = [v] ∧ Thing K H v o ∧ ∀ H', Same H H' → Q (.bl (o.elim false numOk)) H'
def spSign (K : PySem.W.Frag) : Sp := fun vs H Q _ => ∃ (v : V) (o : Option Str), vs = [v] ∧ Thing K H v o ∧ Q (.bl (o.elim false fun z => decide (z ∈ signs))) H
def sortV (z : Str) : V := if z ∈ signs then .str z else if inAll z cLetters = true then .str "word" else if numOk z = true then .str "number" else .non
def spSort (K : PySem.W.Frag) : Sp := fun vs H Q _ => ∃ (v : V) (o : Option Str), vs = [v] ∧ Thing K H v o ∧ ∀ H', Same H H' → Q (o.elim .non sortV) H'
def intB : V → Bool
  | .int _ => true
  | _ => false
/-- whether a thing is a whole number -/
def spInteger (K : PySem.W.Frag) : Sp := fun vs H Q _ => ∃ (v : V) (t : Value), vs = [v] ∧ TyOf K H v t ∧ ((t = .type "int" ∧ Q (.bl true) H) ∨ (t = .type "bool" ∧ Q (.bl false) H) ∨ (PySem.W.kitOne K t (.type "int") = some false ∧ Q (.bl false) H))
section
variable {P : Program} {w : World} {K : PySem.W.Frag} {mg : Str → Option Value} {base : Heap} {aS : Addr}
theorem scOneOf : FnScope ["thing", "words"] ["thing", "words"] (defScope sOneOf) := ⟨rfl, rfl, rfl, by decide +kernel, rfl, by decide +kernel, by decide +kernel⟩
theorem ok_oneOf {f : Addr} {fd : FuncData} (F : Fun K "is_one_of" "is_one_of" sOneOf f fd) (T : Mod K mg aS) : FnOk P w K mg base CX0 1 f fd ["thing", "words"] (spOneOf K) := by
  refine F.ok scOneOf (fun vs H Q E h => ?_) (fun cdv A outer s H vs Q E hr h => ?_)
  · obtain ⟨v, o, a, ws, rfl, _⟩ := h
    rfl
  · obtain ⟨v, o, a, ws, rfl, hv, ht, q⟩ := h
    refine ⟨_, pss_one (ps_ret (pe_and (pe_callB call_isi (by rfl) T.isi (by decide +kernel) (pa_cons (pv 0) (pa_cons (pe_bltn (v := .ty "str") (by rfl) T.str (by decide +kernel) rfl) pa_nil)))
      (pe_one (pe_cmpR op_in_seq (pv 0) (pv 1) (by rfl))))), ?_⟩
    rcases hv with ⟨z, rfl, rfl, _⟩ | ⟨rfl, t, ty, kt⟩
    · refine ⟨_, rfl, .str z, .ty "str", .type "str", .type "str", true, rfl, .ty "str", .base (.str z), kit_ty (by decide +kernel), true, rfl, iteT ⟨_, rfl, _, rfl, a, _, rfl, .inr ht, rfl, flat_strs ws, ?_⟩⟩
      show Q (.bl (inV (.str z) (ws.map V.str))) H
      rw [inV_strs]
      exact q
    · exact ⟨_, rfl, v, .ty "str", t, .type "str", false, rfl, .ty "str", .base ty, kt, false, rfl, iteF q⟩
theorem scConsists : FnScope ["thing", "characters", "character"] ["thing", "characters"] (defScope sConsists) := ⟨rfl, rfl, rfl, by decide +kernel, rfl, by decide +kernel, by decide +kernel⟩
theorem ok_consists {f : Addr} {fd : FuncData} (F : Fun K "consists_of" "consists_of" sConsists f fd) (T : Mod K mg aS) : FnOk P w K mg base CX0 1 f fd ["thing", "characters"] (spConsists K) := by
  obtain ⟨t, hL⟩ := T.longest
  refine F.ok scConsists (fun vs H Q E h => ?_) (fun cdv A outer s H vs Q E hr h => ?_)
  · obtain ⟨v, o, cs, rfl, _⟩ := h
    rfl
  · obtain ⟨v, o, cs, rfl, hv, q⟩ := h
    refine ⟨_, C8.pss_cut (ps_if (PW.pt (pw_or (pt_not (pt_val (pe_callB call_isi (by rfl) T.isi (by decide +kernel) (pa_cons (pv 0) (pa_cons (pe_bltn (v := .ty "str") (by rfl) T.str (by decide +kernel) rfl) pa_nil)))))
        (pw_or1 (pt_not (pt_chain op_le op_le pe_int (pe_callB call_len_str (by rfl) T.len PySem.boot_len (pa_cons (pv 0) pa_nil)) (pe_glob (v := .int 12) rfl hL ⟨_, rfl⟩))))))
        (pss_one (ps_ret pe_bl)) pss_nil)
      (pss_one (ps_ret (pe_callB (cr_all rfl) (by rfl) T.all (by decide +kernel) (pa_cons (pe_lc (own := [("character", 2)]) (g := gName 2) (tt := tYes) (by rfl) scConsists.nd (pi_str (pv 0))
        (blkOk_by (own := [("character", 2)]) (N := ["thing", "characters", "character"]) (sc := defScope sConsists) (by decide +kernel)) (fun _ _ _ _ _ => pg_name (i := 2) scConsists.nd rfl (Or.inl rfl))
        (fun _ _ _ _ _ => pts_nil) (fun _ _ _ _ _ => pe_cmpR op_in_sign (pv 2) (pv 1) rfl)) pa_nil)))), ?_⟩
    rcases hv with ⟨z, rfl, rfl, hz⟩ | ⟨rfl, t', ty, kt⟩
    case inr => exact ⟨fun _ _ => False, ⟨_, rfl, v, .ty "str", t', .type "str", false, rfl, .ty "str", .base ty, kt, false, rfl, iteT (iteT (q H (Same.refl H)))⟩, fun _ _ z => z.elim⟩
    replace q : ∀ H', Same H H' → Q (.bl (inAll z cs)) H' := q
    have hi : inAll z cs = (decide (1 ≤ z.length) && (decide (z.length ≤ 12) && z.cps.toList.all fun c => decide (c ∈ cs.cps.toList))) := Bool.and_assoc ..
    refine ⟨fun σ H' => σ = [some (.str z), some (.str cs), none] ∧ H' = H ∧ inAll z cs = z.cps.toList.all fun c => decide (c ∈ cs.cps.toList), ?_, ?_⟩
    · refine ⟨_, rfl, .str z, .ty "str", .type "str", .type "str", true, rfl, .ty "str", .base (.str z), kit_ty (by decide +kernel), true, rfl, ?_⟩
      refine iteF ?_
      refine ⟨_, rfl, z, rfl, hz, _, _, rfl, rfl, _, rfl, ?_⟩
      refine ite2 (fun h1 => ?_) (fun h1 => ?_)
      · have h1' : 1 ≤ z.length := by have := of_decide_eq_true h1; omega
        refine ⟨_, _, rfl, rfl, _, rfl, ?_⟩
        by_cases h2 : (z.length : Int) ≤ 12
        · show if (!decide ((z.length : Int) ≤ 12)) = true then _ else _
          refine iteNS h2 ?_
          have h2' : z.length ≤ 12 := by omega
          exact ⟨rfl, rfl, by rw [hi, decide_eq_true h1', decide_eq_true h2', Bool.true_and, Bool.true_and]⟩
        · show if (!decide ((z.length : Int) ≤ 12)) = true then _ else _
          rw [decide_eq_false h2]
          refine iteT ?_
          have h2' : ¬ z.length ≤ 12 := by omega
          have e := q H (Same.refl H)
          rw [hi, decide_eq_false h2', Bool.false_and, Bool.and_false] at e
          exact e
      · refine ⟨_, rfl, iteT ?_⟩
        have h1' : ¬ 1 ≤ z.length := fun h => h1 (decide_eq_true (by omega))
        have e := q H (Same.refl H)
        rw [hi, decide_eq_false h1', Bool.false_and] at e
        exact e
    · rintro σ H1 ⟨rfl, rfl, e⟩
      refine ⟨_, rfl, z, rfl, fun D hD => ?_⟩
      refine lc_it walk_str (fun i H' => Same H1 H' ∧ H' D = some (.lst ((z.cps.toList.take i).map fun c => V.bl (decide (c ∈ cs.cps.toList))))) ⟨Same.new (Same.refl H1) hD, upd_same⟩ (fun _ _ _ _ => trivial) ?_ ?_
      · rintro i x H2 H3 hi2 ⟨s2, h2⟩ ⟨rfl, c, hc, rfl⟩
        refine ⟨rfl, ?_⟩
        refine ⟨_, rfl, _, rfl, c, cs, rfl, rfl, _, h2, ?_, fun b o hb => ?_, ?_⟩
        · rw [List.length_map, List.length_take, str_len]
          have : i < z.length := hi2
          omega
        · rw [upd_ne (ne_of_none hb hD)]
          exact s2 b o hb
        · rw [upd_same, take_more _ (cps_at hc)]
      · rintro H2 ⟨s2, h2⟩
        refine ⟨D, z.cps.toList.map fun c => decide (c ∈ cs.cps.toList), rfl, SqL.of ?_, ?_⟩
        · rw [h2, List.map_map, List.take_of_length_le (by simp)]
          rfl
        · rw [all_id_map, ← e]
          exact q H2 s2
theorem scWord : FnScope ["thing"] ["thing"] (defScope sIsWord) := ⟨rfl, rfl, rfl, by decide +kernel, rfl, by decide +kernel, by decide +kernel⟩
theorem ok_word {f fC : Addr} {fd fdC : FuncData} (F : Fun K "is_word" "is_word" sIsWord f fd) (T : Mod K mg aS) (FC : Fun K "consists_of" "consists_of" sConsists fC fdC) (bC : Binds K fdC ["thing", "characters"] []) (mC : mg "consists_of" = some (.ref fC)) : FnOk P w K mg base CX0 2 f fd ["thing"] (spWord K) := by
  have GC : FnOk P w K mg base CX0 1 fC fdC ["thing", "characters"] (spConsists K) := ok_consists FC T
  obtain ⟨t, hL⟩ := T.letters
  refine F.ok scWord (fun vs H Q E h => ?_) (fun cdv A outer s H vs Q E hr h => ?_)
  · obtain ⟨v, o, rfl, _⟩ := h
    rfl
  · obtain ⟨v, o, rfl, hv, q⟩ := h
    refine ⟨_, pss_one (ps_ret (pe_call GC hr rfl mC FC.kp bC .nil pass0 (pa_cons (pv 0) (pa_cons (pe_glob (v := .str cLetters) rfl hL ⟨_, rfl⟩) pa_nil)))), ?_⟩
    exact ⟨_, rfl, v, o, cLetters, rfl, hv, q⟩
theorem scNum : FnScope ["thing"] ["thing"] (defScope sIsNumeral) := ⟨rfl, rfl, rfl, by decide +kernel, rfl, by decide +kernel, by decide +kernel⟩
theorem at_zero {z : Str} (h : 1 ≤ z.length) : atI z.cps.toList 0 = some (z.cps.toList.headD 0) := by
  refine atI_nat (j := 0) ?_
  rw [← str_len] at h
  cases e : z.cps.toList with
  | nil => rw [e] at h; exact absurd h (by decide)
  | cons c l => rfl
theorem ok_num {f fC : Addr} {fd fdC : FuncData} (F : Fun K "is_numeral" "is_numeral" sIsNumeral f fd) (T : Mod K mg aS) (FC : Fun K "consists_of" "consists_of" sConsists fC fdC) (bC : Binds K fdC ["thing", "characters"] []) (mC : mg "consists_of" = some (.ref fC)) : FnOk P w K mg base CX0 2 f fd ["thing"] (spNum K) := by
  have GC : FnOk P w K mg base CX0 1 fC fdC ["thing", "characters"] (spConsists K) := ok_consists FC T
  obtain ⟨t, hL⟩ := T.digits
  refine F.ok scNum (fun vs H Q E h => ?_) (fun cdv A outer s H vs Q E hr h => ?_)
  · obtain ⟨v, o, rfl, _⟩ := h
    rfl
  · obtain ⟨v, o, rfl, hv, q⟩ := h
    refine ⟨_, pss_one (ps_ret (pe_and (pe_call GC hr rfl mC FC.kp bC .nil pass0 (pa_cons (pv 0) (pa_cons (pe_glob (v := .str cDigits) rfl hL ⟨_, rfl⟩) pa_nil)))
      (pe_one (pe_or (pe_cmpR op_eq (pv 0) pe_str (nomark _)) (pe_one (pe_cmpR op_ne (pe_ix ix_str (pv 0) pe_int (fun _ _ => rfl)) pe_str (nomark _))))))), ?_⟩
    refine ⟨_, rfl, v, o, cDigits, rfl, hv, fun H1 s1 => ⟨_, rfl, ?_⟩⟩
    rcases hv with ⟨z, rfl, rfl, hz⟩ | ⟨rfl, t', ty, kt⟩
    case inr => exact iteF (q H1 s1)
    have e := q H1 s1
    show if inAll z cDigits = true then _ else _
    replace e : Q (.bl (numOk z)) H1 := e
    unfold numOk at e
    cases ha : inAll z cDigits with
    | false =>
      rw [ha, Bool.false_and] at e
      exact iteF e
    | true =>
      rw [ha, Bool.true_and] at e
      have h1 : 1 ≤ z.length := by
        unfold inAll at ha
        rw [Bool.and_eq_true, Bool.and_eq_true] at ha
        exact of_decide_eq_true ha.1.1
      refine iteT ⟨_, rfl, rfl, _, rfl, ?_⟩
      have ez : decide (V.str z = V.str (("0" : Str))) = decide (z = "0") := by
        by_cases h : z = "0"
        · rw [h]; simp
        · have h' : ¬ V.str z = V.str (("0" : Str)) := fun x => h (V.str.inj x)
          rw [decide_eq_false h, decide_eq_false h']
      show if decide (V.str z = V.str (("0" : Str))) = true then _ else _
      rw [ez]
      cases hz0 : decide (z = "0") with
      | true =>
        rw [hz0, Bool.true_or] at e
        exact iteT e
      | false =>
        rw [hz0, Bool.false_or] at e
        refine iteF ⟨_, rfl, z, _, _, rfl, rfl, hz, at_zero h1, rfl, ?_⟩
        have ey : decide (V.str ⟨#[z.cps.toList.headD 0]⟩ = V.str (("0" : Str))) = decide ((⟨#[z.cps.toList.headD 0]⟩ : Str) = "0") := by
          by_cases h : (⟨#[z.cps.toList.headD 0]⟩ : Str) = "0"
          · rw [h]; simp
          · have h' : ¬ V.str ⟨#[z.cps.toList.headD 0]⟩ = V.str (("0" : Str)) := fun x => h (V.str.inj x)
            rw [decide_eq_false h, decide_eq_false h']
        show Q (V.bl (!decide (V.str ⟨#[z.cps.toList.headD 0]⟩ = V.str (("0" : Str))))) H1
        rw [ey]
        exact e
theorem scSign : FnScope ["thing"] ["thing"] (defScope sIsSign) := ⟨rfl, rfl, rfl, by decide +kernel, rfl, by decide +kernel, by decide +kernel⟩
theorem ok_sign {f fC : Addr} {fd fdC : FuncData} (F : Fun K "is_sign" "is_sign" sIsSign f fd) (T : Mod K mg aS) (FC : Fun K "is_one_of" "is_one_of" sOneOf fC fdC) (bC : Binds K fdC ["thing", "words"] []) (mC : mg "is_one_of" = some (.ref fC)) : FnOk P w K mg base CX0 2 f fd ["thing"] (spSign K) := by
  have GC : FnOk P w K mg base CX0 1 fC fdC ["thing", "words"] (spOneOf K) := ok_oneOf FC T
  refine F.ok scSign (fun vs H Q E h => ?_) (fun cdv A outer s H vs Q E hr h => ?_)
  · obtain ⟨v, o, rfl, _⟩ := h
    rfl
  · obtain ⟨v, o, rfl, hv, q⟩ := h
    refine ⟨_, pss_one (ps_ret (pe_call GC hr rfl mC FC.kp bC .nil pass0 (pa_cons (pv 0) (pa_cons (pe_glob (v := .ref aS) rfl T.sgn rfl) pa_nil)))), ?_⟩
    exact ⟨_, rfl, v, o, aS, signs, rfl, hv, T.sq H, q⟩
theorem scSort : FnScope ["thing"] ["thing"] (defScope sSortOf) := ⟨rfl, rfl, rfl, by decide +kernel, rfl, by decide +kernel, by decide +kernel⟩
theorem ok_sort {f fS fW fN : Addr} {fd fdS fdW fdN : FuncData} (F : Fun K "sort_of" "sort_of" sSortOf f fd)
    (kS : PySem.W.keepIn K (.ref fS) = true) (GS : FnOk P w K mg base CX0 2 fS fdS ["thing"] (spSign K)) (bS : Binds K fdS ["thing"] []) (mS : mg "is_sign" = some (.ref fS))
    (kW : PySem.W.keepIn K (.ref fW) = true) (GW : FnOk P w K mg base CX0 2 fW fdW ["thing"] (spWord K)) (bW : Binds K fdW ["thing"] []) (mW : mg "is_word" = some (.ref fW))
    (kN : PySem.W.keepIn K (.ref fN) = true) (GN : FnOk P w K mg base CX0 2 fN fdN ["thing"] (spNum K)) (bN : Binds K fdN ["thing"] []) (mN : mg "is_numeral" = some (.ref fN)) : FnOk P w K mg base CX0 3 f fd ["thing"] (spSort K) := by
  refine F.ok scSort (fun vs H Q E h => ?_) (fun cdv A outer s H vs Q E hr h => ?_)
  · obtain ⟨v, o, rfl, _⟩ := h
    rfl
  · obtain ⟨v, o, rfl, hv, q⟩ := h
    refine ⟨_, pss_cons (ps_if (pt_val (pe_call GS hr rfl mS kS bS .nil pass0 (pa_cons (pv 0) pa_nil))) (pss_one (ps_ret (pv 0))) pss_nil)
      (pss_cons (ps_if (pt_val (pe_call GW hr rfl mW kW bW .nil pass0 (pa_cons (pv 0) pa_nil))) (pss_one (ps_ret pe_str)) pss_nil)
      (pss_cons (ps_if (pt_val (pe_call GN hr rfl mN kN bN .nil pass0 (pa_cons (pv 0) pa_nil))) (pss_one (ps_ret pe_str)) pss_nil)
      (pss_one (ps_ret pe_non)))), ?_⟩
    rcases id hv with ⟨z, rfl, rfl, hz⟩ | ⟨rfl, t', ty, kt⟩
    case inr => exact ⟨_, rfl, v, none, rfl, hv, _, rfl, iteF ⟨_, rfl, v, none, rfl, hv, fun H1 s1 => ⟨_, rfl, iteF ⟨_, rfl, v, none, rfl, hv.same s1, fun H2 s2 => ⟨_, rfl, iteF (q H2 (s1.trans s2))⟩⟩⟩⟩⟩
    replace q : ∀ H', Same H H' → Q (sortV z) H' := q
    refine ⟨_, rfl, .str z, some z, rfl, hv, _, rfl, ite2 (fun h1 => ⟨_, rfl, ?_⟩) (fun h1 => ?_)⟩
    · have e := q H (Same.refl H)
      unfold sortV at e
      rw [if_pos (of_decide_eq_true h1)] at e
      exact e
    · have h1 : ¬ z ∈ signs := fun x => h1 (decide_eq_true x)
      refine ⟨_, rfl, .str z, some z, rfl, hv, fun H1 s1 => ⟨_, rfl, ite2 (fun h2 => ?_) (fun h2 => ?_)⟩⟩
      · have e := q H1 s1
        unfold sortV at e
        rw [if_neg h1, if_pos (show inAll z cLetters = true from h2)] at e
        exact e
      · refine ⟨_, rfl, .str z, some z, rfl, hv.same s1, fun H2 s2 => ⟨_, rfl, ite2 (fun h3 => ?_) (fun h3 => ?_)⟩⟩
        all_goals
          have e := q H2 (s1.trans s2)
          unfold sortV at e
          rw [if_neg h1, if_neg (show ¬ inAll z cLetters = true from h2)] at e
        · rw [if_pos (show numOk z = true from h3)] at e
          exact e
        · rw [if_neg (show ¬ numOk z = true from h3)] at e
          exact e
theorem scInteger : FnScope ["thing"] ["thing"] (defScope sIsInteger) := ⟨rfl, rfl, rfl, by decide +kernel, rfl, by decide +kernel, by decide +kernel⟩
theorem ok_integer {f : Addr} {fd : FuncData} (F : Fun K "is_integer" "is_integer" sIsInteger f fd) (T : Mod K mg aS) (hb : mg "bool" = none) : FnOk P w K mg base CX0 1 f fd ["thing"] (spInteger K) := by
  refine F.ok scInteger (fun vs H Q E h => ?_) (fun cdv A outer s H vs Q E hr h => ?_)
  · obtain ⟨v, t, rfl, _⟩ := h
    rfl
  · obtain ⟨v, t, rfl, ty, q⟩ := h
    refine ⟨_, pss_one (ps_ret (pe_and (pe_callB call_isi (by rfl) T.isi (by decide +kernel) (pa_cons (pv 0) (pa_cons (pe_bltn (v := .ty "int") (by rfl) T.int (by decide +kernel) rfl) pa_nil)))
      (pe_one (pe_not (pe_callB call_isi (by rfl) T.isi (by decide +kernel) (pa_cons (pv 0) (pa_cons (pe_bltn (v := .ty "bool") (by rfl) hb (by decide +kernel) rfl) pa_nil))))))), ?_⟩
    rcases q with ⟨rfl, q⟩ | ⟨rfl, q⟩ | ⟨kt, q⟩
    · exact ⟨_, rfl, v, .ty "int", .type "int", .type "int", true, rfl, .ty "int", .base ty, kit_ty (by decide +kernel), true, rfl, iteT ⟨_, rfl, v, .ty "bool", .type "int", .type "bool", false, rfl, .ty "bool", .base ty, kit_ty (by decide +kernel), false, rfl, q⟩⟩
    · exact ⟨_, rfl, v, .ty "int", .type "bool", .type "int", true, rfl, .ty "int", .base ty, kit_ty (by decide +kernel), true, rfl, iteT ⟨_, rfl, v, .ty "bool", .type "bool", .type "bool", true, rfl, .ty "bool", .base ty, kit_ty (by decide +kernel), true, rfl, q⟩⟩
    · exact ⟨_, rfl, v, .ty "int", t, .type "int", false, rfl, .ty "int", .base ty, kt, false, rfl, iteF q⟩
end
end K8

namespace K8E
open PySem PySem.W PySem.Calls PyProof.Rows PySem.HandSPX
/-! ### BadSlip and its __init__, which says super().__init__(..) and stores one field -/
def eA (p1 p2 : Pos) : Arguments := { posonlyargs := [], args := [{ arg := "self", annotation := none, pos := p1 }, { arg := "at", annotation := none, pos := p2 }], vararg := none, kwonlyargs := [], kw_defaults := [], kwarg := none, defaults := [] }
def eB (m : Str) (j : Nat) (o1 o2 o3 o4 o5 o6 q1 q2 q3 q4 : Pos) : List Stmt := [.Expr (.Call (.Attribute (.Call (.Name "super" o1) [] [] o2) "__init__" o3) [.Constant (.str m) j o4] [] o5) o6, .Assign [.Attribute (.Name "self" q1) "at" q2] (.Name "at" q3) q4]
def eS : Scope := { kind := .function, names := [(PySem.Str.ofString "self", .local), (PySem.Str.ofString "at", .local), (PySem.Str.ofString "__class__", .free), (PySem.Str.ofString "super", .globalImplicit)], isGenerator := false, isCoroutine := false, more := [] }
/-- what the written part says of BadSlip, at C, of its __init__, at fI, and of that one's cell and code -/
structure ErrTxt (prog : Program) (K : Frag) (mg : Str → Option Value) (C fI : Addr) : Prop where
  gC : mg "BadSlip" = some (.ref C)
  cls : ∃ nm q N bs bm sn sub ab col dd k0 k1 k2 k3 k5, K.lookup C = some (excClassObj nm q C N bs bm true sn sub ab col dd k0 k1 k2 k3 k5 "ValueError.__new__") ∧ refsVE bm = true
  sa : findIn K (.ref C) "__setattr__" = some (some (.builtin "object.__setattr__"))
  noN : findIn K (.ref C) "at" = some none
  iC : findIn K (.ref C) "__init__" = some (some (.ref fI))
  tC : typeIn K (.ref fI) = some (.type "function")
  kC : keepIn K (.ref C) = true
  exC : subIn K (.ref C) (.type "BaseException") = some true
  vaC : subIn K (.ref C) (.type "ValueError") = some true
  tyC : typeIn K (.ref C) = some (.type "type")
  te : exmOne K (.ref C) (.ref C) = some true
  sub : mroIn K C (.ref C) = some true
  sup : ks_superIn K C C "__init__" = some (some (.builtin "ValueError.__init__"))
  tp : nsIn K cStatics "thirdparty.any" = some none
  su : mg "super" = none
  top : (prog.main.scope.names.lookup ("super" : Str)).isSome = false
  fn : ∃ (oc : Value) (od : Option Addr) (doc pm : Value) (an : Option Addr) (cda cc : Addr) (ct : Value) (osl : Array (Option Value)) (m : Str) (j : Nat) (p1 p2 o1 o2 o3 o4 o5 o6 q1 q2 q3 q4 : Pos),
    K.lookup fI = some ⟨oc, od, .func (ksFn "__init__" "BadSlip.__init__" (eA p1 p2) (eB m j o1 o2 o3 o4 o5 o6 q1 q2 q3 q4) eS .none .none doc pm an (.ref cda) ct cc), osl⟩ ∧ codeIn K (.ref cda) "BadSlip.__init__" = true ∧
    (∃ (ccl : Value) (cdd : Option Addr) (vs : Array Value) (ccs : Array (Option Value)) (file : Str) (tf : Tok), K.lookup cda = some ⟨ccl, cdd, .fields vs, ccs⟩ ∧ vs[2]? = some (.str file tf) ∧ ((prog.main.file : Str) == file) = true) ∧
    (∀ env : Env, ∃ pl : Sem Bool, eval (.Call (.Attribute (.Call (.Name "super" o1) [] [] o2) "__init__" o3) [.Constant (.str m) j o4] [] o5) env = (do
      let ov ← attributeBase (.Call (.Name "super" o1) [] [] o2) "__init__" env (eval (.Call (.Name "super" o1) [] [] o2) env)
      standAt o3.atName
      let (f, first) ← holding [ov] (getMethod ov "__init__" pl)
      callWith o5 f first (backTo o5 (starEach [.Constant (.str m) j o4] env)) [])) ∧
    ∃ (cl : Value) (cld : Option Addr) (csl : Array (Option Value)), K.lookup cc = some ⟨cl, cld, .cell (some (.ref C)), csl⟩
theorem one_len (v : Value) : [v].length ≤ sizeLine := by
  show 1 ≤ sizeLine
  rw [sizeLine_eq]
  decide
/-- what __init__ leaves of a fresh exception at x -/
structure Left (h h' : Heap) (x C dx t1 : Addr) (v : Value) : Prop where
  keep : ∀ b o, b ≠ x → h.get? b = some o → h'.get? b = some o
  obj : h'.get? x = some { cls := .ref C, dict := some dx, data := .fields #[.ref t1, .none, .none, .none, .bool false, .none] }
  dbig : h.objs.size ≤ dx
  dne : dx ≠ x
  ns : h'.Ns1 dx (fun y => if y = "at" then some v else none)
section
variable {prog : Program} {w : World} {A : Around} {E : Value → Shared → Prop} {R : Result → Shared → Prop} {K : Frag} {mg : Str → Option Value} {C fI : Addr}
/-- the wrapper of ValueError.__init__, bound to a fresh exception, called -/
theorem wrapped {h : Heap} {g : Array GenState} {d : Drawn} {t : Nat} {os : OsState} {nm q : Str} {N : Addr} {bs bm : List Value} {hdct : Bool} {sn : List Str} {sub : List Value} {ab : Bool} {col : Option Bool} {dd : Option Addr} {k0 k1 k2 k3 k5 : Option Value}
    {u e t0 : Addr} {rest : List Value} {Q : Value → Shared → Prop} (hC : h.get? C = some (excClassObj nm q C N bs bm hdct sn sub ab col dd k0 k1 k2 k3 k5 "ValueError.__new__")) (he : h.get? e = some (excO C t0)) (hu : h.get? u = some (kxs_mw "ValueError.__init__" e)) (hz : rest.length ≤ sizeLine)
    (hq : ∀ h' t1, (∀ b o, b ≠ e → h.get? b = some o → h'.get? b = some o) → h'.get? e = some (excO C t1) → Q .none ⟨h', g, d, t, os⟩) :
    wpAny (model prog w) A (PySem.call (.ref u) rest) Q E ⟨h, g, d, t, os⟩ := by
  refine wpAny_call (codeAny_of_tree ?_)
  show wpAny _ A.in1 (callAny (.ref u) ⟨rest, []⟩) _ _ _
  unfold callAny
  refine wpAny_bind (wpAny_load hu ?_)
  have y1 : (Value.type "method-wrapper" == Value.type "method" || Value.type "method-wrapper" == Value.type "builtin_function_or_method" || Value.type "method-wrapper" == Value.type "method-wrapper") = true := by decide
  simp only [kxs_mw, y1, if_true]
  refine KFB.if_so (by decide) ?_
  refine wpAny_bind (check_bound_init F.excBase_ValueError.toExcCallFacts hC he rfl ?_)
  refine wpAny_bind (wpAny_pure (wpAny_pure ?_))
  refine ⟨plainId_quiet F.excBase_ValueError.init.plain _, codeAny_builtin F.excBase_ValueError.initEntry ?_⟩
  exact exc_init_tree (cls := .ref C) (t0 := t0) (dv := none) (c2 := .none) (c3 := .none) (b4 := .bool false) he hz fun h' k e' _ => hq h' _ k e'
theorem bound_name {env : Env} {s : Shared} {m : Str → Option Value} {y : Str} {pos : Pos} {u : Value} {Q : Value → Shared → Prop} {M : Model} (hn : s.heap.Ns env.locals m) (hv : m y = some u) (h : Q u s)
    (hk : env.scope.kind = .function := by rfl) (hl : env.kindOf y = some .local := by rfl) (hd : (y == ("__debug__" : Str)) = false := by decide) : wpAny M A (eval (.Name y pos) env) Q E s := wpAny_Name (wpAny_loadName_local hk hl hn hv h) hd
theorem err_init (T : ErrTxt prog K mg C fI) {s : Shared} {x t0 : Addr} {v : Value} (X : K.In s.heap) (G : s.heap.Ns mainGlobals mg) (B : ∃ mb, s.heap.Ns builtinsNs mb ∧ mb "super" = bootBuiltins "super") (hlim : s.heap.NoLimit) (hx : s.heap.get? x = some (excO C t0)) (hnx : K.lookup x = none) (hroom : A.depth < recursionLimit)
    (hq : ∀ h' tk dx t1, Left s.heap h' x C dx t1 v → R (.ok (.ret .none)) { s with heap := h', toks := tk }) :
    codeAny (model prog w) A (.call (.ref fI) ⟨[.ref x, v], []⟩) R s := by
  obtain ⟨oc, od, doc, pm, an, cda, cc, ct, osl, msg, j, p1, p2, o1, o2, o3, o4, o5, o6, q1, q2, q3, q4, ho, hcd, ⟨ccl, cdd, vs, ccs, file, tf, hcode, hvs, hfile⟩, hev, cl, cld, csl, hcell⟩ := T.fn
  obtain ⟨nm, q, N, bs, bm, sn, sub, ab, col, dd, k0, k1, k2, k3, k5, hC, hbm⟩ := T.cls
  obtain ⟨mb, hB, hmb⟩ := B
  have hcl : clsIn K C = some { name := nm, bases := bs, mro := .ref C :: bm, ns := N, qualname := q, hasDict := true, slotNames := sn, subclasses := sub, abstract := ab, collection := col, hasDel := false } := by unfold clsIn; rw [hC] <;> rfl
  obtain ⟨hp, g, d, t, os⟩ := s
  refine ks_codeAny_call_defAt (binds := [((PySem.Str.ofString "self"), Value.ref x), ((PySem.Str.ofString "at"), v)]) hroom (X _ _ ho) rfl hlim (codeRec_of X hcd) rfl (BindsTo.of_eq (by first | rfl | with_unfolding_all rfl)) (show ∀ y ∈ eS.names, y.2 ≠ .cell by decide +kernel) (fun y hy => ?_) (fun h₁ hns k₁ => ?_) rfl rfl rfl
  · have hy' : y = ((PySem.Str.ofString "self"), Value.ref x) ∨ y = ((PySem.Str.ofString "at"), v) := by simpa using hy
    rcases hy' with e | e <;> rw [e] <;> rfl
  · have X₁ : K.In h₁ := X.keeps k₁
    have hx₁ : h₁.get? x = some (excO C t0) := k₁ _ _ hx
    obtain ⟨pl, hev⟩ := hev (ksEnv "BadSlip.__init__" eS hp.objs.size fI (.ref cda) cc)
    refine ks_wpAt_execs_cons (ks_wpAt_Expr_any (ks_wpAt_MethodCall ?_ hev))
    refine ks_wpAt_super_base rfl rfl (by decide +kernel) rfl (X₁ _ _ ho) rfl rfl rfl (X₁ _ _ hcode) rfl hvs hfile T.top ?_
    refine ks_loadName_global rfl rfl (loadGlobal_builtin (G.keeps k₁) T.su (hB.keeps k₁) (hmb.trans PyProof.Rows.Boot.«super») ⟨rfl, ?_⟩)
    refine wpAny_loadName_free rfl rfl rfl ⟨_, X₁ _ _ hcell, rfl⟩ ?_
    refine wpAny_loadName_local (v := .ref x) rfl rfl hns rfl ?_
    have hC₁ := X₁ _ _ hC
    refine ks_wpAny_isType_cls hC₁ rfl ⟨rfl, ?_⟩
    refine ks_wpAny_call_super hC₁ rfl hx₁ rfl (fun c e => by cases e) (looks_mroIn X₁ T.sub) (fun h₂ e₂ k₂ => ?_)
    have X₂ : K.In h₂ := X₁.keeps k₂
    have hx₂ := k₂ _ _ hx₁
    have I₂ : InstAt h₂ x (excO C t0) C none := ⟨hx₂, rfl, rfl, trivial⟩
    have hxC : x ≠ C := fun z => by rw [z, hC] at hnx; cases hnx
    have hsup : alongIn K "__init__" (((Value.ref C :: bm).dropWhile (· != .ref C)).drop 1) = some (some (.builtin "ValueError.__init__")) := by
      have z := T.sup
      unfold ks_superIn at z
      rw [hcl] at z
      exact z
    refine kxs_getMethod kxs_ValueError e₂ (looks_opaque X₂ T.tp) (l₀ := Value.ref C :: bm) ((looks_clsIn X₂ hcl).andThen .now) rfl X₂ hsup (I₂.type.andThen (looks_subIn X₂ T.vaC)) hxC (by decide +kernel) ?_
    have k₃ : ∀ b o, h₂.get? b = some o → (h₂.push (kxs_mw "ValueError.__init__" x)).get? b = some o := fun b o e => Heap.get?_push_of_some _ e
    have hu₃ : (h₂.push (kxs_mw "ValueError.__init__" x)).get? h₂.objs.size = some (kxs_mw "ValueError.__init__" x) := Heap.get?_push_at rfl rfl
    refine kxs_callWith (i := "ValueError.__init__") (x := x) rfl (evalArgs_plain (spliced_cons (Constant_str (k := j) (pos := o4) (spliced_nil ⟨hu₃, ?_⟩))))
    refine wrapped (k₃ _ _ (X₂ _ _ hC)) (k₃ _ _ hx₂) hu₃ (one_len _) fun h₄ t1 k₄ hx₄ => ?_
    have k14 : ∀ b o, b ≠ x → h₁.get? b = some o → h₄.get? b = some o := fun b o n e => k₄ b o n (k₃ _ _ (k₂ _ _ e))
    have hL : hp.objs.size ≠ x := Nat.ne_of_gt (Heap.lt_size hx)
    have hns₄ : h₄.Ns hp.objs.size (fun y => List.lookup y [((PySem.Str.ofString "self"), Value.ref x), ((PySem.Str.ofString "at"), v)].reverse) := hns.at fun o e => k14 _ _ hL e
    have X₄ : K.In h₄ := fun b o e => k14 b o (fun z => by rw [z, hnx] at e; cases e) (X₁ b o e)
    refine wpAt_of_wpAny (wpAny_execs_cons (plainObj_wpAny_Assign_Attribute ?_))
    refine bound_name (env := ksEnv "BadSlip.__init__" eS hp.objs.size fI (.ref cda) cc) hns₄ (u := v) rfl (bound_name (env := ksEnv "BadSlip.__init__" eS hp.objs.size fI (.ref cda) cc) hns₄ (u := .ref x) rfl ?_)
    refine set_plain X₄ (ox := excO C t1) (od := none) ⟨hx₄, rfl, rfl, trivial⟩ T.sa ?_
    refine exc_osa X₄ hx₄ hcl (show refsVE (.ref C :: bm) = true from hbm) rfl T.noN (fun h₅ tk₅ dx k₅ dn dne hx₅ hn₅ => ?_)
    show wpAny _ _ (execs _ _) _ _ _
    have hz : hp.objs.size ≤ h₄.objs.size := Nat.le_of_lt hns₄.lt
    exact wpAny_execs_nil (hq h₅ tk₅ dx t1 ⟨fun b o hb e => k₅ b o hb (k14 b o hb (k₁ b o e)), hx₅, Nat.le_trans hz dn, dne, hn₅⟩)
/-- a made BadSlip -/
structure Made (h h' : Heap) (e C d : Addr) (v : Value) : Prop where
  keep : ∀ b o, h.get? b = some o → h'.get? b = some o
  new : h.objs.size ≤ e
  obj : ∃ oe vs, h'.get? e = some oe ∧ oe.cls = .ref C ∧ oe.dict = some d ∧ oe.data = .fields vs ∧ vs[1]? = some .none
  dbig : h.objs.size ≤ d
  dne : d ≠ e
  ns : h'.Ns1 d (fun y => if y = "at" then some v else none)
theorem err_made (T : ErrTxt prog K mg C fI) {s : Shared} {v : Value} (X : K.In s.heap) (G : s.heap.Ns mainGlobals mg) (B : ∃ mb, s.heap.Ns builtinsNs mb ∧ mb "super" = bootBuiltins "super") (hlim : s.heap.NoLimit) (hroom : A.depth + 1 < recursionLimit)
    (hq : ∀ h' tk e d, Made s.heap h' e C d v → R (.ok (.ret (.ref e))) { s with heap := h', toks := tk }) : codeAny (model prog w) A (.call (.ref C) ⟨[v], []⟩) R s := by
  obtain ⟨nm, q, N, bs, bm, sn, sub, ab, col, dd, k0, k1, k2, k3, k5, hC, hbm⟩ := T.cls
  obtain ⟨mb, hB, hmb⟩ := B
  obtain ⟨hp, g, dr, tk, os⟩ := s
  have k : ∀ b o, hp.get? b = some o → ((hp.push (kdv_tup [v])).push (excO C hp.objs.size)).get? b = some o := fun b o e => Heap.get?_push_of_some _ (Heap.get?_push_of_some _ e)
  have hget : ((hp.push (kdv_tup [v])).push (excO C hp.objs.size)).get? (hp.objs.size + 1) = some (excO C hp.objs.size) := by heap_get
  have hnx : K.lookup (hp.objs.size + 1) = none := by
    cases e : K.lookup (hp.objs.size + 1) with
    | none => rfl
    | some o => exact absurd (Nat.lt_of_succ_lt (Heap.lt_size (X _ _ e))) (Nat.lt_irrefl _)
  refine call_own F.excBase_ValueError (fun X => refsVE_contains X bm hbm) (X _ _ hC) (looks_findIn X T.iC) (fun self => bind_fn X self T.tC) (one_len v) ?_
  refine err_init (s := ⟨(hp.push (kdv_tup [v])).push (excO C hp.objs.size), g, dr, tk, os⟩) T (X.keeps k) (G.keeps k) ⟨mb, hB.keeps k, hmb⟩ (hlim.keeps k) hget hnx (show A.depth + 1 < recursionLimit from hroom) fun h' tk' dx t1 L => ?_
  have old : ∀ b o, hp.get? b = some o → h'.get? b = some o := fun b o e => L.keep b o (Nat.ne_of_lt (Nat.lt_succ_of_lt (Heap.lt_size e))) (k b o e)
  have big : hp.objs.size ≤ dx := by
    have z := L.dbig
    rw [Heap.size_push, Heap.size_push] at z
    omega
  exact ⟨rfl, hq h' tk' (hp.objs.size + 1) dx ⟨old, Nat.le_succ _, ⟨_, _, L.obj, rfl, rfl, rfl, rfl⟩, big, L.dne, L.ns⟩⟩
end
end K8E
namespace L2
open PySem PySem.Spec PyProof.Rows K8E
theorem relO_at {v : V} {v' : Value} (r : RelV v v') (f : Str) : RelO (List.lookup f [(("at" : Str), v)]) (if f = "at" then some v' else none) := by
  by_cases hw : f = "at"
  · rw [if_pos hw, hw]
    have q : List.lookup ("at" : Str) [(("at" : Str), v)] = some v := by simp [List.lookup]
    rw [q]
    exact r
  · rw [if_neg hw]
    have qw : (f == ("at" : Str)) = false := by simpa using hw
    have q2 : List.lookup f [(("at" : Str), v)] = none := by simp [List.lookup, qw]
    rw [q2]
    trivial
section
variable {X : Cx} {C fI : Addr}
/-- BadSlip(e) -/
def tErr (C : Addr) (ta : TA) : St → Hp → XK → Prop := fun σ H Q => ta σ H fun vs H1 => ∃ v, vs = [v] ∧ ∀ d, H1 d = none → Q (.ref C) (some d) (upd H1 d (.xd [(("at" : Str), v)]))
theorem pmk_err {a : Expr} {ta : TA} {p pos : Pos} {k : Nat} (T : ErrTxt X.prog X.K X.mg C fI) (hr : Room k X.A) (ha : PA X [a] ta) (hg : Gl X "BadSlip" := by rfl)
    (he : starEach (a :: []) X.env = (false, eval a X.env) :: starEach [] X.env := by rfl) (hpl : (backTo pos (starEach [] X.env)).any (·.1) = false := by rfl) :
    PMk X (.Call (.Name "BadSlip" p) [a] [] pos) (tErr C ta) := by
  intro pins s σ H Q I h
  refine wpAny_Call_Name_kw (ld_glob I hg T.gC ?_)
  refine PySem.W.callWith_K (h₀ := X.base) I.ok.mod.kin T.kC (thn (ha.run pos pins s σ H _ I h) fun us s1 hh => ?_) he hpl
  obtain ⟨vs, H1, I1, r1, v, ev, q1⟩ := hh
  subst ev
  refine ⟨I1.kIn, ?_⟩
  cases r1 with
  | cons rv rn =>
    rename_i v' us'
    cases rn
    show wpAny _ _ (PySem.call (.ref C) [v']) _ _ _
    have hlim := I1.nolimit
    obtain ⟨mb, hb1, hb2⟩ := I1.mod.blt
    have G1 : s1.heap.Ns mainGlobals X.mg := I1.mod.glob.keeps I1.bk
    have B1 : ∃ mb, s1.heap.Ns builtinsNs mb ∧ mb "super" = bootBuiltins "super" := ⟨mb, hb1.keeps I1.bk, hb2 _ (by decide +kernel)⟩
    obtain ⟨hp, g, dr, tk, os⟩ := s1
    refine wpAny_call (err_made T I1.kIn G1 B1 hlim (by have := hr.dp; omega) fun h' tk' e d M => ?_)
    show MkP X pins σ Q (.ref e) ⟨h', g, dr, tk', os⟩
    obtain ⟨oe, fv, hoe, hc, hd, hdat, h1⟩ := M.obj
    have hns := M.ns
    obtain ⟨G', g1, g2⟩ := restrict h' fun b => decide (b ≠ e)
    have gk : ∀ b, b ≠ e → G'.get? b = h'.get? b := fun b hb => g1 b (decide_eq_true hb)
    have ge : G'.get? e = none := g2 e (by simp)
    have old : ∀ b o, hp.get? b = some o → G'.get? b = some o := fun b o q => (gk b (Nat.ne_of_lt (Nat.lt_of_lt_of_le (Heap.lt_size q) M.new))).trans (M.keep b o q)
    have ob : ObjOk X.prog X.w (upd H1 d (.xd [(("at" : Str), v)])) G' d (.xd [(("at" : Str), v)]) :=
      ⟨_, hns.at (fun o q => (gk d M.dne).trans q), fun f => relO_at rv f⟩
    have J : Inv X pins σ (upd H1 d (.xd [(("at" : Str), v)])) ⟨G', g, dr, tk', os⟩ := I1.laid (t' := tk') old M.dbig ob
    refine ⟨e, oe, fv, ⟨G', g, dr, tk', os⟩, _, .ref C, some d, rfl, J, fun b o q => ?_, ge, hoe, ⟨hc, hd⟩, hdat, h1, ?_, rfl, I1.bare, raises_own T.exC T.tyC, q1 d (I1.hok.fresh M.dbig)⟩
    · by_cases hb : b = e
      · have q' : G'.get? b = some o := q
        rw [hb, ge] at q'
        cases q'
      · exact (gk b hb).symm.trans q
    · rw [upd_ne (Ne.symm M.dne)]
      exact I1.hok.fresh M.new
/-- raise BadSlip(e) -/
theorem ps_raiseErr {a : Expr} {ta : TA} {W : WX} {p pos pos2 : Pos} {k : Nat} (hc : X.calm = true) (T : ErrTxt X.prog X.K X.mg C fI) (hr : Room k X.A) (tk : Takes X W) (ha : PA X [a] ta) (hg : Gl X "BadSlip" := by rfl)
    (he : starEach (a :: []) X.env = (false, eval a X.env) :: starEach [] X.env := by rfl) (hpl : (backTo pos (starEach [] X.env)).any (·.1) = false := by rfl) :
    PS X (.Raise (some (.Call (.Name "BadSlip" p) [a] [] pos)) none pos2) (fun _ σ H => tErr C ta σ H fun cls d H' => W cls d σ H') := ps_raise hc tk (pmk_err T hr ha hg he hpl)
end
end L2

/-! rules that hold for every program: an own == with any answer; making and calling of instances in a try -/
namespace L2
open PySem PySem.Spec PyProof.Rows
/-- a def that may let errors out, called where none leaves -/
theorem passNo {X : Cx} {P : Program} {w : World} : Passes (L2.CX P w) X (fun _ _ _ => False) := fun _ _ _ _ _ _ _ h => by
  obtain ⟨a, B, H', cls, d, ea, fl, hok, ub, na, os, ag, he⟩ := h
  exact he.elim
section
variable {X : Cx} {CX : CXT} {k : Nat} {f C : Addr} {fd : FuncData} {ps : List Str} {sp : Sp} {x : Str} {p pos : Pos} {e : Expr} {es : List Expr} {t : TA}
theorem run_makeS {pins : List (Addr × Obj)} {σ : St} {H : Hp} {s : Shared} {Q : VK} {us : List Value} {vs : List V} {E : XK} (M : Mk X.K C f) (F : FnOk X.prog X.w X.K X.mg X.base CX k f fd ps sp) (hr : Room (k + 1) X.A) (hb : Binds X.K fd ps [])
    (hx : PassesAt CX X σ E) (I : Inv X pins σ H s) (r : Vals vs us)
    (h : ∀ x dx, H x = none → H dx = none → dx ≠ x → sp (.ref x :: vs) (upd (upd H dx (.own x)) x (.ins C dx [])) (fun v H2 => v = .non ∧ Q (.ref x) H2) E) :
    wpAny (model X.prog X.w) X.A (call (.ref C) us) (EP X pins σ Q) X.xe s := by
  have hq := h (s.heap.objs.size + 1) s.heap.objs.size (I.hok.fresh (Nat.le_succ _)) (I.hok.fresh (Nat.le_refl _)) (Nat.ne_of_lt (Nat.lt_succ_self _))
  have I2 := Inv.made (C := C) I
  have r2 : Vals (V.ref (s.heap.objs.size + 1) :: vs) (Value.ref (s.heap.objs.size + 1) :: us) := .cons rfl r
  have hl : (Value.ref (s.heap.objs.size + 1) :: us).length = ps.length := by
    have e := r2.length
    rw [F.len _ _ _ _ hq] at e
    exact e.symm
  have b := hb _ (Value.ref (s.heap.objs.size + 1) :: us) I2.kIn (by rw [List.append_nil]; exact hl)
  rw [List.append_nil] at b
  refine wpAny_call (make_map (f := f) I.kIn M.makes M.init (beq_iff_eq.mp M.fn) (codeAny_mono (F.run _ X.stack _ _ ⟨Value.ref (s.heap.objs.size + 1) :: us, []⟩ (Value.ref (s.heap.objs.size + 1) :: us) _ _ E (hr.make C us [])
    (I2.env0.make C us []) b r2 hq) fun r s' hq' => ?_))
  cases r with
  | error e => exact hx pins _ _ e s' I2 hq'
  | ok fl =>
    cases fl with
    | ret u =>
      obtain ⟨v, H', I3, rv, ev, q3⟩ := I2.after hq'
      subst ev
      exact ⟨rv, ⟨V.ref (s.heap.objs.size + 1), H', I3, rfl, q3⟩⟩
    | next => exact False.elim hq'
    | brk => exact False.elim hq'
    | cont => exact False.elim hq'
def tMakeS (C : Addr) (sp : Sp) (E : St → XK) (t : TA) : TE := fun σ H Q => t σ H fun vs H1 => ∀ x dx, H1 x = none → H1 dx = none → dx ≠ x →
  sp (.ref x :: vs) (upd (upd H1 dx (.own x)) x (.ins C dx [])) (fun v H2 => v = .non ∧ Q (.ref x) H2) (E σ)
/-- C(e, ..), made in a try; every parameter is given -/
theorem pe_makeS {E : St → XK} (M : Mk X.K C f) (F : FnOk X.prog X.w X.K X.mg X.base CX k f fd ps sp) (hr : Room (k + 1) X.A) (hg : Gl X x) (hm : X.mg x = some (.ref C)) (hb : Binds X.K fd ps []) (hx : ∀ σ, PassesAt CX X σ (E σ))
    (ha : PA X (e :: es) t) (hdb : (x == ("__debug__" : Str)) = false := by decide) (he : starEach (e :: es) X.env = (false, eval e X.env) :: starEach es X.env := by rfl) (hpl : (backTo pos (starEach es X.env)).any (·.1) = false := by rfl) :
    PE X (.Call (.Name x p) (e :: es) [] pos) (tMakeS C sp E t) := by
  refine ⟨fun pins s σ H Q I h => ?_⟩
  refine wpAny_Call_Name_kw (ld_glob I hg hm ?_ hdb)
  refine PySem.W.callWith_K (h₀ := X.base) I.ok.mod.kin M.kp (thn (ha.run pos pins s σ H _ I h) fun us s1 ⟨vs, H1, I1, r, q⟩ => ⟨I1.kIn, ?_⟩) he hpl
  exact run_makeS M F hr hb (hx σ) I1 r q
/-- o(e, ..), o an instance, called in a try -/
def tCallOS (C : Addr) (sp : Sp) (E : St → XK) (tf : TE) (t : TA) : TE := fun σ H Q => tf σ H fun y H1 => ∃ a, y = V.ref a ∧ t σ H1 fun vs H2 => (∃ dx fs, H2 a = some (.ins C dx fs)) ∧ sp (V.ref a :: vs) H2 Q (E σ)
theorem pe_callOS {E : St → XK} {fe : Expr} {tf : TE} {g : Addr} (hf : PE X fe tf) (c : StX.CallO X.K C g) (F : FnOk X.prog X.w X.K X.mg X.base CX k g fd ps sp) (hr : Room k X.A) (hb : Binds X.K fd ps []) (hx : ∀ σ, PassesAt CX X σ (E σ)) (ha : PA X (e :: es) t)
    (ht : eval (.Call fe (e :: es) [] pos) X.env = (do callWith pos (← eval fe X.env) [] (backTo pos (starEach (e :: es) X.env)) (backToKw pos (keywordEach [] X.env))) := by rfl)
    (he : starEach (e :: es) X.env = (false, eval e X.env) :: starEach es X.env := by rfl) (hpl : (backTo pos (starEach es X.env)).any (·.1) = false := by rfl) : PE X (.Call fe (e :: es) [] pos) (tCallOS C sp E tf t) := by
  refine ⟨fun pins s σ H Q I h => ?_⟩
  refine Call_ (thn (hf.run pins s σ H _ I h) fun u s1 ⟨y, H1, I1, ry, a, ey, q⟩ => ?_) ht
  subst ey
  obtain rfl : u = Value.ref a := ry
  refine StX.callO_with (thn (ha.run pos pins s1 σ H1 _ I1 q) fun us s2 ⟨vs, H2, I2, r, hi, q2⟩ => ?_) he hpl
  obtain ⟨ox, od, J, hd⟩ := StX.insC_at I2 (.inr hi)
  refine ⟨⟨C, ox, od, J, hd⟩, wpAny_call (PySem.W.kco_code I2.kIn J hd c.at_ c.fn c.fi ?_)⟩
  have r2 : Vals (V.ref a :: vs) (Value.ref a :: us) := .cons rfl r
  have hl : (Value.ref a :: us).length = ps.length := by rw [← r2.length]; exact F.len _ _ _ _ q2
  have b := hb s2 (Value.ref a :: us) I2.kIn (by rw [List.append_nil]; exact hl)
  rw [List.append_nil] at b
  refine codeAny_mono (F.run X.A X.stack s2 H2 ⟨Value.ref a :: us, []⟩ (Value.ref a :: us) (V.ref a :: vs) Q (E σ) hr I2.env0 b r2 q2) fun r s' hq => ?_
  cases r with
  | error e => exact hx σ pins H2 s2 e s' I2 hq
  | ok fl =>
    cases fl with
    | ret u => exact I2.after hq
    | next => exact False.elim hq
    | brk => exact False.elim hq
    | cont => exact False.elim hq
/-- x == y, x an instance with an own __eq__ that answers True or False -/
def rEqOwn (K : PySem.W.Frag) (C : Addr) (sp : Sp) (E : XK) : R2 := fun x y H Q => ∃ (a dx : Addr) (fs : List (Str × V)) (t : Value), x = .ref a ∧ H a = some (.ins C dx fs) ∧ TyX K H y t ∧ PySem.W.notFirst K C t = true ∧ sp [.ref a, y] H (fun v H' => ∃ b, v = .bl b ∧ Q (.bl b) H') E
theorem op_eqOwn {E : XK} (F : FnOk X.prog X.w X.K X.mg X.base CX k f fd ps sp) (hr : Room k X.A) (hs : PySem.W.findIn X.K (.ref C) "__eq__" = some (some (.ref f))) (hf : PySem.W.isFn X.K (.ref f) = true) (hb : Binds X.K fd ps []) (hx : Passes CX X E) : OpR X (compareOp .Eq) (rEqOwn X.K C sp E) := by
  intro pins s σ H x y v u Q I rx ry hq
  obtain ⟨a, dx, fs, t, rfl, ha, ty, hn, q⟩ := hq
  cases rx
  obtain ⟨mA, J, _⟩ := ins_get I.hok ha
  obtain ⟨od, J, _⟩ := J.look
  obtain ⟨P, Z, pz, _⟩ := kit_of I ry ty
  obtain ⟨m, hF⟩ := I.fr
  show wpAny (model X.prog X.w) X.A (richCompare .Eq (.ref a) u) (EP X pins σ Q) X.xe s
  refine PySem.W.cmp_K (op := .Eq) (tb := t) hr.units0 hF I.ok.mod.kin J (Z.ty _ _ I.kIn pz) hn hs hf ?_
  have r2 : Vals [V.ref a, y] [Value.ref a, u] := .cons rfl (.cons ry .nil)
  have hl : [Value.ref a, u].length = ps.length := by rw [← r2.length]; exact F.len _ _ _ _ q
  have b := hb s [Value.ref a, u] I.kIn (by rw [List.append_nil]; exact hl)
  rw [List.append_nil] at b
  refine wpAny_call (codeAny_mono (F.run X.A X.stack s H ⟨[.ref a, u], []⟩ [.ref a, u] [.ref a, y] _ E hr I.env0 b r2 q) fun r s' hq => ?_)
  cases r with
  | error e => exact hx pins σ H s e s' I hq
  | ok fl =>
    cases fl with
    | ret w =>
      obtain ⟨z, H', I', rz, c, ez, q'⟩ := I.after hq
      subst ez
      cases rz
      exact ⟨.bl c, H', I', rfl, q'⟩
    | next => exact False.elim hq
    | brk => exact False.elim hq
    | cont => exact False.elim hq
end
end L2

namespace K8
open PySem L2
theorem line_ge {n : Nat} (h : n ≤ 1000000) : n ≤ sizeLine := Nat.le_trans h (by decide)
def lt (c : Nat) : Bool := decide (97 ≤ c) && decide (c ≤ 122)
def dg (c : Nat) : Bool := decide (48 ≤ c) && decide (c ≤ 57)
def an (c : Nat) : Bool := lt c || dg c
def sg (c : Nat) : Bool := c == 61 || (c == 59 || (c == 44 || (c == 91 || c == 93)))
def bk (c : Nat) : Bool := c == 32 || c == 10
def S (r : List Nat) : Str := ⟨r.toArray⟩
theorem S_cps (r : List Nat) : (S r).cps.toList = r := by simp [S]
theorem S_len (r : List Nat) : (S r).length = r.length := by simp [S, Str.length]
theorem S_of (z : Str) : S z.cps.toList = z := by simp [S]
theorem S_inj {r t : List Nat} (h : S r = S t) : r = t := by rw [← S_cps r, h, S_cps]
theorem str_zero : ("0" : Str) = S [48] := by decide +kernel
theorem str_blank : (" " : Str) = S [32] := by decide +kernel
def lstS (ts : List (List Nat)) : List V := ts.map fun r => V.str (S r)
theorem lstS_add (ts : List (List Nat)) (r : List Nat) : lstS ts ++ [V.str (S r)] = lstS (ts ++ [r]) := by unfold lstS; rw [List.map_append]; rfl
theorem Same.put {H H1 : Hp} {l : Addr} {o : HO} (a : Same H H1) (hl : H l = none) : Same H (upd H1 l o) := fun b u h => by
  rw [upd_ne (ne_of_none h hl)]
  exact a b u h
theorem eq_strB (x y : Str) : decide (V.str x = V.str y) = decide (x = y) := by
  by_cases h : x = y
  · rw [h]; simp
  · have : ¬ V.str x = V.str y := fun z => h (V.str.inj z)
    rw [decide_eq_false h, decide_eq_false this]
theorem join_none : ∀ ys : List (List Nat), TL.joinL [] ys = ys.flatten
  | [] => rfl
  | [y] => by simp [TL.joinL]
  | y :: z :: r => by
    show y ++ ([] ++ TL.joinL [] (z :: r)) = _
    rw [join_none (z :: r)]
    simp
theorem glue (ys : List (List Nat)) : Txt.join (S []) (ys.map S) = S ys.flatten := by
  rw [← join_none]
  exact SX.join_S [] ys
theorem flat_ones (rs : List Nat) : (rs.map fun c => [c]).flatten = rs := by
  induction rs with
  | nil => rfl
  | cons c rs ih => simp [ih]
def onesV (rs : List Nat) : List V := rs.map fun c => V.str (S [c])
theorem onesV_add (rs : List Nat) (c : Nat) : onesV rs ++ [V.str (S [c])] = onesV (rs ++ [c]) := by unfold onesV; rw [List.map_append]; rfl
theorem onesV_eq (rs : List Nat) : onesV rs = ((rs.map fun c => [c]).map S).map V.str := by unfold onesV; rw [List.map_map, List.map_map]; rfl
theorem ones_sum (rs : List Nat) : (((rs.map fun c => [c]).map S).map (·.length)).sum = rs.length := by
  induction rs with
  | nil => rfl
  | cons c rs ih =>
    rw [List.map_cons, List.map_cons, List.map_cons, List.sum_cons, ih, S_len, List.length_cons]
    simp; omega
theorem at_sign {z : Str} {l : List Nat} (hz : z.cps.toList = l) {p : Nat → Bool} (hp : l.all p = true) {r : Int} (h0 : 0 ≤ r) (h1 : r < (l.length : Int)) : ∃ c, atI z.cps.toList r = some c ∧ p c = true := by
  have hr : r.toNat < l.length := by omega
  refine ⟨l[r.toNat], ?_, List.all_eq_true.mp hp _ (List.getElem_mem hr)⟩
  have e : atI l ((r.toNat : Nat) : Int) = some l[r.toNat] := atI_nat (List.getElem?_eq_getElem hr)
  rw [show ((r.toNat : Nat) : Int) = r by omega] at e
  rw [hz]
  exact e
theorem S_app (a b : List Nat) : S a ++ S b = S (a ++ b) := TL.ext_tl (by rw [TL.tl_append]; simp [S, TL.tl])
theorem str_none : ("" : Str) = S [] := by decide +kernel
theorem all_lt : ([97, 98, 99, 100, 101, 102, 103, 104, 105, 106, 107, 108, 109, 110, 111, 112, 113, 114, 115, 116, 117, 118, 119, 120, 121, 122] : List Nat).all lt = true := by decide
theorem all_dg : ([48, 49, 50, 51, 52, 53, 54, 55, 56, 57] : List Nat).all dg = true := by decide
def Ones (p D : Addr) (H2 : Hp) (c : Nat) (t : Nat → Bool) (i : Nat) (H' : Hp) : Prop := ∃ rs : List Nat, rs.length = i ∧ rs.all t = true ∧ H' D = some (.lst (onesV rs)) ∧ Keep p H2 H' ∧ Pool H' p (c + i)
theorem Ones.next {p D : Addr} {H2 H' H'' : Hp} {c i n : Nat} {t : Nat → Bool} (O : Ones p D H2 c t i H') (hD : H2 D = none) (hDp : D ≠ p) (hk : Keep p H' H'') (hp : Pool H'' p (c + i + 1)) {d : Nat} (hd : t d = true) (hi : i < n) (hn : n ≤ 1000) :
    ∃ acc, H'' D = some (.lst acc) ∧ acc.length < sizeLine ∧ Ones p D H2 c t (i + 1) (upd H'' D (.lst (acc ++ [V.str ⟨#[d]⟩]))) := by
  obtain ⟨rs, h1, h2, h3, h4, h5⟩ := O
  refine ⟨onesV rs, hk _ _ hDp h3, ?_, rs ++ [d], by simp [h1], by simp [h2, hd], ?_, ?_, ?_⟩
  · unfold onesV
    rw [List.length_map, h1]
    exact Nat.lt_of_lt_of_le hi (Nat.le_trans hn (by decide))
  · rw [upd_same]
    exact congrArg (fun x => some (HO.lst x)) (onesV_add rs d)
  · intro b o n e
    rw [upd_ne (ne_of_none e hD)]
    exact hk b o n (h4 b o n e)
  · exact hp.other (Ne.symm hDp)
theorem cps_lits : ("abcdefghijklmnopqrstuvwxyz" : Str).cps.toList = [97, 98, 99, 100, 101, 102, 103, 104, 105, 106, 107, 108, 109, 110, 111, 112, 113, 114, 115, 116, 117, 118, 119, 120, 121, 122] := by decide +kernel
theorem eq_noneB (r : List Nat) : decide (V.str (S r) = V.str ("" : Str)) = decide (r = []) := by
  rw [eq_strB, str_none]
  by_cases h : r = []
  · rw [h]; simp
  · rw [decide_eq_false h]
    exact decide_eq_false fun z => h (S_inj z)
theorem lst_short {ts : List (List Nat)} {n : Nat} (h : ts.length ≤ n) (hn : n ≤ 1000000) : (lstS ts).length < sizeLine := by
  unfold lstS
  rw [List.length_map]
  exact Nat.lt_of_le_of_lt (Nat.le_trans h hn) (by decide)
theorem pool_ne {H' : Hp} {p D : Addr} {n : Nat} (a : Pool H' p n) (h : H' D = none) : D ≠ p := by
  obtain ⟨_, _, _, e, _⟩ := a
  exact Ne.symm (ne_of_none e h)
theorem Keep.free {p D : Addr} {H H1 : Hp} (k : Keep p H H1) (n : D ≠ p) (h : H1 D = none) : H D = none := by
  cases e : H D with
  | none => rfl
  | some o =>
    rw [k D o n e] at h
    cases h
theorem Same.keep {p : Addr} {H H1 : Hp} (s : Same H H1) : Keep p H H1 := fun b o _ e => s b o e
theorem Pool.same {H H1 : Hp} {p : Addr} {c : Nat} (a : Pool H p c) (s : Same H H1) : Pool H1 p c := by
  obtain ⟨g, m, k, h, r⟩ := a
  exact ⟨g, m, k, s _ _ h, r⟩
theorem lst_at {rs : List (List Nat)} {i : Nat} {y : V} (h : (lstS rs)[i]? = some y) : ∃ r, rs[i]? = some r ∧ y = V.str (S r) := by
  unfold lstS at h
  rw [List.getElem?_map] at h
  cases e : rs[i]? with
  | none => rw [e] at h; cases h
  | some r => rw [e] at h; exact ⟨r, rfl, (Option.some.inj h).symm⟩
theorem Same.free {H H1 : Hp} {T' : Addr} (s : Same H H1) (h : H1 T' = none) : H T' = none := by
  cases e : H T' with
  | none => rfl
  | some o =>
    rw [s _ _ e] at h
    cases h
theorem Keep.same {p : Addr} {H H1 H2 : Hp} (k : Keep p H1 H2) (s : Same H H1) (hp : H p = none) : Same H H2 := fun b o e => k b o (ne_of_none e hp) (s b o e)
end K8

namespace K8
open PySem L2
abbrev sIsSlip : Stmt := top 17
abbrev sInit : Stmt := inClass (top 18) 0
abbrev sEq : Stmt := inClass (top 18) 1
abbrev sCall : Stmt := inClass (top 18) 2
abbrev sFits : Stmt := inClass (top 18) 3
def kinds : List Str := ["left", "doubled", "swapped", "written"]
/-- the constants of both modules -/
structure Mod2 (K : PySem.W.Frag) (mg : Str → Option Value) (aS aK : Addr) : Prop extends Mod K mg aS where
  kin : mg "KINDS" = some (.ref aK)
  ktup : ∃ (o : Obj) (its : Array Value) (n : Nat), K.lookup aK = some o ∧ o.cls = .type "tuple" ∧ o.data = .seq its n ∧ its.size ≤ sizeLine ∧ Vals (K8.kinds.map V.str) its.toList
  bool : mg "bool" = none
  min : mg "min" = none
  tuple : mg "tuple" = none
/-- an index, or what is none -/
def AtOk (K : PySem.W.Frag) (H : Hp) (v : V) (n : Option Int) : Prop := (∃ i, v = .int i ∧ n = some i) ∨ (n = none ∧ ∃ t, TyOf K H v t ∧ (t = .type "bool" ∨ PySem.W.kitOne K t (.type "int") = some false))
theorem AtOk.same {K : PySem.W.Frag} {H H' : Hp} {v : V} {n : Option Int} (h : AtOk K H v n) (s : Same H H') : AtOk K H' v n := by
  rcases h with h | ⟨e, t, h, k⟩
  · exact .inl h
  · exact .inr ⟨e, t, tyOf_same h s, k⟩
/-- whether there is such a slip -/
def goodSlip (ok : Option Str) (n : Option Int) (ot : Option Str) (t : V) : Bool :=
  ok.elim false fun z => decide (z ∈ kinds) && n.elim false fun i => !decide (i < 0) && (if z = "written" then !decide (ot.elim V.non sortV = V.non) else decide (t = .non))
def spIsSlip (K : PySem.W.Frag) : Sp := fun vs H Q _ => ∃ (k a t : V) (ok : Option Str) (n : Option Int) (ot : Option Str), vs = [k, a, t] ∧ Thing K H k ok ∧ AtOk K H a n ∧ Thing K H t ot ∧ ∀ H', Same H H' → Q (.bl (goodSlip ok n ot t)) H'
section
variable {P : Program} {w : World} {K : PySem.W.Frag} {mg : Str → Option Value} {base : Heap} {aS aK : Addr}
theorem scIsSlip : FnScope ["kind", "at", "token"] ["kind", "at", "token"] (defScope sIsSlip) := ⟨rfl, rfl, rfl, by decide +kernel, rfl, by decide +kernel, by decide +kernel⟩
theorem ok_isSlip {f fO fI fS : Addr} {fd fdO fdI fdS : FuncData} (F : Fun K "is_slip" "is_slip" sIsSlip f fd) (T : Mod2 K mg aS aK)
    (kO : PySem.W.keepIn K (.ref fO) = true) (GO : FnOk P w K mg base CX0 1 fO fdO ["thing", "words"] (spOneOf K)) (bO : Binds K fdO ["thing", "words"] []) (mO : mg "is_one_of" = some (.ref fO))
    (kI : PySem.W.keepIn K (.ref fI) = true) (GI : FnOk P w K mg base CX0 1 fI fdI ["thing"] (spInteger K)) (bI : Binds K fdI ["thing"] []) (mI : mg "is_integer" = some (.ref fI))
    (kS : PySem.W.keepIn K (.ref fS) = true) (GS : FnOk P w K mg base CX0 3 fS fdS ["thing"] (spSort K)) (bS : Binds K fdS ["thing"] []) (mS : mg "sort_of" = some (.ref fS)) :
    FnOk P w K mg base CX0 4 f fd ["kind", "at", "token"] (spIsSlip K) := by
  refine F.ok scIsSlip (fun vs H Q E h => ?_) (fun cdv A outer s H vs Q E hr h => ?_)
  · obtain ⟨k, a, t, ok, n, ot, rfl, _⟩ := h
    rfl
  · obtain ⟨k, a, t, ok, n, ot, rfl, hk, ha, ht, q⟩ := h
    have hr1 : Room 1 _ := hr.mono (by decide)
    refine ⟨_, pss_cons (ps_if (pt_not (pt_val (pe_call GO hr1 rfl mO kO bO .nil pass0 (pa_cons (pv 0) (pa_cons (pe_glob (v := .ref aK) (by rfl) T.kin rfl) pa_nil))))) (pss_one (ps_ret pe_bl)) pss_nil)
      (pss_cons (ps_if (PW.pt (pw_or (pt_not (pt_val (pe_call GI hr1 rfl mI kI bI .nil pass0 (pa_cons (pv 1) pa_nil)))) (pw_or1 (pt_cmpR op_lt (pv 1) pe_int (nomark _))))) (pss_one (ps_ret pe_bl)) pss_nil)
      (pss_cons (ps_if (pt_cmpR op_eq (pv 0) pe_str (nomark _)) (pss_one (ps_ret (pe_cmpR op_notN (pe_call GS hr rfl mS kS bS .nil pass0 (pa_cons (pv 2) pa_nil)) pe_non (nomark _)))) pss_nil)
      (pss_one (ps_ret (pe_cmpR op_isN (pv 2) pe_non (nomark _)))))), ?_⟩
    refine ⟨_, rfl, k, ok, aK, kinds, rfl, hk, .inr T.ktup, _, rfl, ?_⟩
    cases ok with
    | none => exact iteT (q H (Same.refl H))
    | some z =>
      have ek : k = .str z := by
        rcases hk with ⟨y, rfl, e, _⟩ | ⟨e, _⟩
        · rw [Option.some.inj e]
        · cases e
      subst ek
      show if (!decide (z ∈ kinds)) = true then _ else _
      cases hz : decide (z ∈ kinds) with
      | false =>
        refine iteT ?_
        have e := q H (Same.refl H)
        unfold goodSlip at e
        simp only [Option.elim, hz, Bool.false_and] at e
        exact e
      | true =>
        refine iteF ?_
        rcases id ha with ⟨i, rfl, rfl⟩ | ⟨rfl, ta, ty, hta⟩
        · refine ⟨_, rfl, .int i, .type "int", rfl, .int i, .inl ⟨rfl, _, rfl, iteF ⟨_, rfl, _, _, rfl, rfl, _, rfl, ?_⟩⟩⟩
          show if decide (i < 0) = true then _ else _
          cases hi : decide (i < 0) with
          | true =>
            refine iteT ?_
            have e := q H (Same.refl H)
            unfold goodSlip at e
            simp only [Option.elim, hz, hi, Bool.true_and, Bool.not_true, Bool.false_and] at e
            exact e
          | false =>
            refine iteF ⟨_, rfl, rfl, _, rfl, ?_⟩
            show if decide (V.str z = V.str ("written" : Str)) = true then _ else _
            rw [eq_strB]
            refine ite2 (fun h => ?_) (fun h => ?_)
            · have h : z = "written" := of_decide_eq_true h
              refine ⟨_, rfl, t, ot, rfl, ht, fun H' s' => ⟨rfl, ?_⟩⟩
              have e := q H' s'
              unfold goodSlip at e
              simp only [Option.elim, hz, hi, Bool.true_and, Bool.not_false, if_pos h] at e
              exact e
            · have h : ¬ z = "written" := fun x => h (decide_eq_true x)
              refine ⟨_, rfl, rfl, ?_⟩
              have e := q H (Same.refl H)
              unfold goodSlip at e
              simp only [Option.elim, hz, hi, Bool.true_and, Bool.not_false, if_neg h] at e
              exact e
        · have e := q H (Same.refl H)
          unfold goodSlip at e
          simp only [Option.elim, hz, Bool.true_and] at e
          rcases hta with rfl | hta
          · exact ⟨_, rfl, a, .type "bool", rfl, ty, .inr (.inl ⟨rfl, _, rfl, iteT (iteT e)⟩)⟩
          · exact ⟨_, rfl, a, ta, rfl, ty, .inr (.inr ⟨hta, _, rfl, iteT (iteT e)⟩)⟩
end
end K8

/-! a slice of a tuple that is all of it: the tuple itself; slices of a list or a tuple -/
namespace L2
open PySem PySem.Spec PyProof.Rows HT
section
variable {prog : Program} {w : World} {A : Around} {E : Value → Shared → Prop} {s : Shared}
theorem getItem_tuple_all {t sl : Addr} {items : Array Value} {vl vu : Value} {lo hi : Option Int} {Q : Value → Shared → Prop} (ht : IsTup s.heap t items) (hs : s.heap.IsSliceOf sl vl vu .none) (pl : IsPart vl lo) (pu : IsPart vu hi)
    (hw : sIx items.size 0 lo = 0 ∧ sIx items.size items.size hi = items.size) (h : Q (.ref t) s) : wpAny (model prog w) A (getItem (.ref t) (.ref sl)) Q E s := by
  obtain ⟨os, hos, hcs, hds⟩ := id hs
  have hTs : s.TypeIs (.ref sl) "slice" := ⟨os, hos, hcs⟩
  unfold getItem
  try with_reducible refine wpAny_holding ?_
  first | refine wpAny_bind (wpAny_pure ?_) | skip
  refine wpAny_bind (wpAny_sequenceKey ht.typeIs (by decide) ?_)
  refine wpAny_bind (wpAny_callSpecial?_slot (name := Str.ofString "__getitem__") ht.typeIs PyProof.Rows.slot_tuple_getitem
    (wpAny_call_entry PyProof.Rows.slot_tuple_getitem ht.typeIs entry_tuple_getitem ?_ (args_tuple_getitem _ _)))
  show wpAny _ _ (Builtin.Tuple.tupleItemsOf (.ref t) >>= _) _ _ s
  refine wpAny_bind (tupleItemsOf_ ht ?_)
  refine wpAny_bind (wpAny_typeOf hTs ?_)
  rw [if_pos (by decide)]
  refine wpAny_bind (sliceApplied_gen hs pl pu ?_)
  have hyes : ((((sIx items.size 0 lo : Nat) : Int) == 0 && (1 : Int) == 1 && (sIx items.size items.size hi - sIx items.size 0 lo) == items.size) = true) := by
    rw [hw.1, hw.2]
    simp
  show wpAny _ _ (if (((sIx items.size 0 lo : Nat) : Int) == 0 && (1 : Int) == 1 && (sIx items.size items.size hi - sIx items.size 0 lo) == items.size) = true then _ else _) _ _ s
  rw [if_pos hyes]
  repeat (first | refine wpAny_pure ?_ | refine wpAny_rule ?_ | refine wpAny_bind ?_)
  obtain ⟨o, ho, hc⟩ := ht.typeIs
  refine wpAny_loadPart ho ?_
  refine wpAny_pure (wpAny_pure ?_)
  rw [hc]
  rw [if_pos (by decide)]
  repeat (first | exact ⟨_, rfl, wpAny_pure h⟩ | refine wpAny_pure ?_ | refine wpAny_rule ?_ | refine wpAny_bind ?_)
end
section
variable {X : Cx}
/-- t[lo:hi], all of it: t itself -/
def rSlA (K : PySem.W.Frag) : V → Option Int → Option Int → Hp → VK → Prop := fun x lo hi H Q => ∃ a xs, x = .ref a ∧ SqT K H a xs ∧ (HT.sIx xs.length 0 lo = 0 ∧ HT.sIx xs.length xs.length hi = xs.length) ∧ Q (.ref a) H
theorem sl_all : SlR X (rSlA X.K) := by
  intro pins s σ H x v vl vu lo hi sl Q I rx hs pl pu h
  obtain ⟨a, xs, rfl, hx, hw, q⟩ := h
  cases rx
  obtain ⟨its, r, ht, hz⟩ := I.tuple hx
  have hlen : its.toArray.size = xs.length := by rw [List.size_toArray]; exact r.length.symm
  refine ⟨"tuple", _, PyProof.Rows.slot_tuple_getitem.lookup, ht.typeIs, ?_⟩
  refine getItem_tuple_all ht hs pl pu (by rw [hlen]; exact hw) ?_
  exact ⟨.ref a, H, I, rfl, q⟩
/-- a slice of a list or a tuple -/
def rSlQ (K : PySem.W.Frag) : V → Option Int → Option Int → Hp → VK → Prop := fun x lo hi H Q => rSlL K x lo hi H Q ∨ rSlT K x lo hi H Q ∨ rSlA K x lo hi H Q
theorem sl_seq : SlR X (rSlQ X.K) := sl_list.or (sl_tup.or sl_all)
/-- what a slice gives: the items at some address, and nothing is changed -/
theorem slice_any {K : PySem.W.Frag} {H : Hp} {a : Addr} {xs : List V} {lo hi : Option Int} {Q : VK} (h : SqL K H a xs ∨ SqT K H a xs)
    (q : ∀ p H', (∀ b o, H b = some o → H' b = some o) → (SqL K H' p (cutV xs lo hi) ∨ SqT K H' p (cutV xs lo hi)) → Q (.ref p) H') : rSlQ K (.ref a) lo hi H Q := by
  rcases h with h | h
  · refine .inl ⟨a, xs, rfl, h, fun p hp => q p _ (fun b o e => ?_) (.inl (SqL.of upd_same))⟩
    rw [upd_ne (ne_of_none e hp)]; exact e
  · by_cases hw : HT.sIx xs.length 0 lo = 0 ∧ HT.sIx xs.length xs.length hi = xs.length
    · refine .inr (.inr ⟨a, xs, rfl, h, hw, q a H (fun _ _ e => e) (.inr ?_)⟩)
      have : cutV xs lo hi = xs := by
        unfold cutV
        rw [hw.1, hw.2]
        simp
      rw [this]
      exact h
    · refine .inr (.inl ⟨a, xs, rfl, h, hw, fun p hp => q p _ (fun b o e => ?_) (.inr (SqT.of upd_same))⟩)
      rw [upd_ne (ne_of_none e hp)]; exact e
end
end L2

namespace K8
open PySem L2
/-- the class of slips -/
structure SlipC (K : PySem.W.Frag) (mg : Str → Option Value) (C : Addr) : Prop where
  cl : Cls K C
  nk : PySem.W.findIn K (.ref C) "kind" = some none
  na : PySem.W.findIn K (.ref C) "at" = some none
  nt : PySem.W.findIn K (.ref C) "token" = some none
  gC : mg "Slip" = some (.ref C)
  ha : PySem.W.findIn K (.ref C) "__class__" = some (some (.builtin "object.__class__"))
  hn : PySem.W.specialIn K (.builtin "object.__class__") "__get__" = some (some (.builtin "getset_descriptor.__get__"))
  htk : PySem.W.takesIn K (.builtin "object.__class__") = some true
  hm : PySem.W.mroIn K C (.type "object") = some true
/-- a slip's own three -/
def flds (k a t : V) : List (Str × V) := [(("kind" : Str), k), (("at" : Str), a), (("token" : Str), t)]
theorem n1 : ¬ (("kind" : Str) = "at") := by decide +kernel
theorem n2 : ¬ (("kind" : Str) = "token") := by decide +kernel
theorem n3 : ¬ (("at" : Str) = "token") := by decide +kernel
theorem put2 (k a : V) : putF "at" a [(("kind" : Str), k)] = [(("kind" : Str), k), (("at" : Str), a)] := by
  show (if ("kind" : Str) = "at" then _ else _) = _
  rw [if_neg n1]
  rfl
theorem put3 (k a t : V) : putF "token" t [(("kind" : Str), k), (("at" : Str), a)] = flds k a t := by
  show (if ("kind" : Str) = "token" then _ else (("kind" : Str), k) :: (if ("at" : Str) = "token" then _ else _)) = _
  rw [if_neg n2, if_neg n3]
  rfl
theorem look1 (k a t : V) : (flds k a t).lookup ("kind" : Str) = some k := rfl
theorem look2 (k a t : V) : (flds k a t).lookup ("at" : Str) = some a := by
  unfold flds
  rw [List.lookup_cons, show (("at" : Str) == "kind") = false by decide +kernel, List.lookup_cons, show (("at" : Str) == "at") = true by decide +kernel]
theorem look3 (k a t : V) : (flds k a t).lookup ("token" : Str) = some t := by
  unfold flds
  rw [List.lookup_cons, show (("token" : Str) == "kind") = false by decide +kernel, List.lookup_cons, show (("token" : Str) == "at") = false by decide +kernel, List.lookup_cons, show (("token" : Str) == "token") = true by decide +kernel]
/-- the making of a slip, or BadSlip with its index -/
def spInit (K : PySem.W.Frag) (C CB : Addr) : Sp := fun vs H Q E => ∃ (x dx : Addr) (k a t : V) (ok : Option Str) (n : Option Int) (ot : Option Str), vs = [.ref x, k, a, t] ∧ H x = some (.ins C dx []) ∧ Thing K H k ok ∧ AtOk K H a n ∧ Thing K H t ot ∧
  (goodSlip ok n ot t = true → ∀ H', (∀ b o, b ≠ x → H b = some o → H' b = some o) → H' x = some (.ins C dx (flds k a t)) → Q .non H') ∧
  (goodSlip ok n ot t = false → ∀ d H', H d = none → Same H H' → H' d = some (.xd [(("at" : Str), a)]) → E (.ref CB) (some d) H')
section
variable {P : Program} {w : World} {K : PySem.W.Frag} {mg : Str → Option Value} {base : Heap} {aS aK : Addr}
theorem scInit : FnScope ["self", "kind", "at", "token"] ["self", "kind", "at", "token"] (defScope sInit) := ⟨rfl, rfl, rfl, by decide +kernel, rfl, by decide +kernel, by decide +kernel⟩
theorem ok_init {f fL C CB fE : Addr} {fd fdL : FuncData} (F : FunD K "__init__" "Slip.__init__" (defArgs sInit) (defBody sInit) (defScope sInit) [.non] [] f fd) (T : SlipC K mg C) (TE : K8E.ErrTxt P K mg CB fE)
    (kL : PySem.W.keepIn K (.ref fL) = true) (GL : FnOk P w K mg base CX0 4 fL fdL ["kind", "at", "token"] (spIsSlip K)) (bL : Binds K fdL ["kind", "at", "token"] []) (mL : mg "is_slip" = some (.ref fL)) :
    FnOk P w K mg base (L2.CX P w) 5 f fd ["self", "kind", "at", "token"] (spInit K C CB) := by
  refine F.ok scInit (fun vs H Q E h => ?_) (fun cdv A outer s H vs Q E hr h => ?_)
  · obtain ⟨x, dx, k, a, t, ok, n, ot, rfl, _⟩ := h
    rfl
  · obtain ⟨x, dx, k, a, t, ok, n, ot, rfl, hx, hk, ha, ht, q, e⟩ := h
    refine ⟨_, pss_cons (ps_if (pt_not (pt_val (pe_call GL hr rfl mL kL bL .nil pass0 (pa_cons (pv 1) (pa_cons (pv 2) (pa_cons (pv 3) pa_nil)))))) (pss_one (ps_raiseErr rfl TE hr (takes_of rfl rfl rfl rfl) (pa_cons (pv 2) pa_nil))) pss_nil)
      (pss_cons (ps_fld (pv 0) (pv 1) rfl) (pss_cons (ps_fld (pv 0) (pv 2) rfl) (pss_one (ps_fld (pv 0) (pv 3) rfl)))), ?_⟩
    refine ⟨_, rfl, _, rfl, _, rfl, k, a, t, ok, n, ot, rfl, hk, ha, ht, fun H1 s1 => ⟨_, rfl, ?_⟩⟩
    cases hg : goodSlip ok n ot t with
    | false =>
      refine iteT ⟨_, rfl, a, rfl, fun d hd => ?_⟩
      exact e hg d _ (s1.free hd) (Same.new s1 hd) upd_same
    | true =>
      have h1 := s1 _ _ hx
      refine iteF ⟨_, rfl, _, rfl, x, C, dx, _, rfl, h1, T.cl, T.nk, (by show 0 < 1000; decide), ?_⟩
      refine ⟨_, rfl, _, rfl, x, C, dx, _, rfl, upd_same, T.cl, T.na, (by show 1 < 1000; decide), ?_⟩
      refine ⟨_, rfl, _, rfl, x, C, dx, _, rfl, upd_same, T.cl, T.nt, ?_, ?_⟩
      · show (putF "at" a [(("kind" : Str), k)]).length < 1000
        rw [put2]; show 2 < 1000; decide
      · refine q hg _ (fun b o n h => ?_) ?_
        · rw [upd_ne n, upd_ne n, upd_ne n]; exact s1 _ _ h
        · rw [upd_same]
          show some (HO.ins C dx (putF "token" t (putF "at" a [(("kind" : Str), k)]))) = _
          rw [put2, put3]
end
end K8

namespace K8
open PySem L2
/-- the token of a slip -/
def tokV : Option Str → V
  | none => .non
  | some y => .str y
theorem tokV_str (o : Option Str) (y : Str) : decide (V.str y = tokV o) = decide (some y = o) := by
  cases o with
  | none => rfl
  | some x =>
    by_cases h : y = x
    · rw [h]; simp [tokV]
    · have h' : ¬ V.str y = tokV (some x) := fun e => h (V.str.inj e)
      have h2 : ¬ some y = some x := fun e => h (Option.some.inj e)
      rw [decide_eq_false h', decide_eq_false h2]
theorem tokV_eq (o o' : Option Str) : decide (tokV o = tokV o') = decide (o = o') := by
  cases o with
  | none => cases o' with
    | none => rfl
    | some x => rfl
  | some y => exact tokV_str o' y
theorem scal_tok (o o' : Option Str) : scal (tokV o) (tokV o') = true := by
  cases o <;> cases o' <;> rfl
/-- at x stands a slip -/
def SlipAt (C : Addr) (H : Hp) (x : Addr) (z : Str) (i : Nat) (t : Option Str) : Prop := ∃ dx, H x = some (.ins C dx (flds (.str z) (.int i) (tokV t)))
theorem SlipAt.same {C : Addr} {H H' : Hp} {x : Addr} {z : Str} {i : Nat} {t : Option Str} (h : SlipAt C H x z i t) (s : Same H H') : SlipAt C H' x z i t := by
  obtain ⟨dx, h⟩ := h
  exact ⟨dx, s _ _ h⟩
/-- a row of tokens, a list or a tuple -/
def Row (K : PySem.W.Frag) (H : Hp) (a : Addr) (ws : List Str) : Prop := SqL K H a (ws.map V.str) ∨ SqT K H a (ws.map V.str)
/-- whether the slip can be done -/
def fitsB (z : Str) (i : Nat) (t : Option Str) (ws : List Str) : Bool :=
  if ws.length ≤ i then false
  else if z = "swapped" then decide (i + 1 < ws.length) && !decide (ws[i + 1]? = ws[i]?)
  else !decide (z = "written") || !decide (ws[i]? = t)
theorem at_row {ws : List Str} {i : Nat} (h : i < ws.length) : atI (ws.map V.str) (i : Int) = some (V.str ws[i]) := by
  refine atI_nat (j := i) ?_
  rw [List.getElem?_map, List.getElem?_eq_getElem h]
  rfl
theorem str_dec (x y : Str) : decide (V.str x = V.str y) = decide (some x = some y) := by
  by_cases h : x = y
  · rw [h]; simp
  · have h' : ¬ V.str x = V.str y := fun e => h (V.str.inj e)
    have h2 : ¬ some x = some y := fun e => h (Option.some.inj e)
    rw [decide_eq_false h', decide_eq_false h2]
def spFits (K : PySem.W.Frag) (C : Addr) : Sp := fun vs H Q _ => ∃ (x a : Addr) (z : Str) (i : Nat) (t : Option Str) (ws : List Str), vs = [.ref x, .ref a] ∧ SlipAt C H x z i t ∧ Row K H a ws ∧ Q (.bl (fitsB z i t ws)) H
section
variable {P : Program} {w : World} {K : PySem.W.Frag} {mg : Str → Option Value} {base : Heap} {aS aK : Addr}
theorem Row.ix {H : Hp} {a : Addr} {ws : List Str} (h : Row K H a ws) {i : Nat} {j : Int} (hi : i < ws.length) (e : j = (i : Int)) {Q : VK} (q : Q (.str ws[i]) H) : rIx K (.ref a) (.int j) H Q := by
  subst e
  rcases h with h | h
  · exact .inl ⟨a, _, _, _, rfl, rfl, h, at_row hi, q⟩
  · exact .inr (.inl ⟨a, _, _, _, rfl, rfl, h, at_row hi, q⟩)
theorem Row.len {H : Hp} {a : Addr} {ws : List Str} (h : Row K H a ws) : LenV K (.ref a) H ws.length := by
  rcases h with h | h
  · exact .inl ⟨_, h, by rw [List.length_map]⟩
  · exact .inr ⟨_, h, by rw [List.length_map]⟩
theorem scFits : FnScope ["self", "file"] ["self", "file"] (defScope sFits) := ⟨rfl, rfl, rfl, by decide +kernel, rfl, by decide +kernel, by decide +kernel⟩
theorem ok_fits {f C : Addr} {fd : FuncData} (F : Fun K "fits" "Slip.fits" sFits f fd) (T : Mod2 K mg aS aK) (S : SlipC K mg C) : FnOk P w K mg base CX0 1 f fd ["self", "file"] (spFits K C) := by
  refine F.ok scFits (fun vs H Q E h => ?_) (fun cdv A outer s H vs Q E hr h => ?_)
  · obtain ⟨x, a, z, i, t, ws, rfl, _⟩ := h
    rfl
  · obtain ⟨x, a, z, i, t, ws, rfl, ⟨dx, hx⟩, hw, q⟩ := h
    have hu := hu_of hr
    refine ⟨_, pss_cons (ps_if (pt_cmpR op_ge (pe_fld (pv 0) rfl) (pe_callB call_len (by rfl) T.len PySem.boot_len (pa_cons (pv 1) pa_nil)) (nomark _)) (pss_one (ps_ret pe_bl)) pss_nil)
      (pss_cons (ps_if (pt_cmpR op_eq (pe_fld (pv 0) rfl) pe_str (nomark _))
        (pss_one (ps_ret (pe_and (pe_cmpR op_lt (pe_op op_add (pe_fld (pv 0) rfl) pe_int) (pe_callB call_len (by rfl) T.len PySem.boot_len (pa_cons (pv 1) pa_nil)) (nomark _))
          (pe_one (pe_cmpR op_ne (pe_ix ix_seq (pv 1) (pe_op op_add (pe_fld (pv 0) rfl) pe_int) (fun _ _ => rfl)) (pe_ix ix_seq (pv 1) (pe_fld (pv 0) rfl) (fun _ _ => rfl)) (nomark _)))))) pss_nil)
      (pss_one (ps_ret (pe_or (pe_cmpR op_ne (pe_fld (pv 0) rfl) pe_str (nomark _)) (pe_one (pe_cmpR op_ne (pe_ix ix_seq (pv 1) (pe_fld (pv 0) rfl) (fun _ _ => rfl)) (pe_fld (pv 0) rfl) (nomark _))))))), ?_⟩
    refine ⟨_, rfl, x, C, dx, _, _, rfl, hx, S.cl, S.na, look2 _ _ _, _, rfl, _, _, rfl, hw.len, _, _, rfl, rfl, _, rfl, ?_⟩
    show if decide ((ws.length : Int) ≤ (i : Int)) = true then _ else _
    unfold fitsB at q
    by_cases h1 : ws.length ≤ i
    · rw [decide_eq_true (show (ws.length : Int) ≤ (i : Int) by omega)]
      rw [if_pos h1] at q
      exact iteT q
    · rw [decide_eq_false (show ¬ (ws.length : Int) ≤ (i : Int) by omega)]
      rw [if_neg h1] at q
      have hi : i < ws.length := by omega
      refine iteF ⟨_, rfl, x, C, dx, _, _, rfl, hx, S.cl, S.nk, look1 _ _ _, rfl, _, rfl, ?_⟩
      show if decide (V.str z = V.str ("swapped" : Str)) = true then _ else _
      rw [eq_strB]
      refine ite2 (fun h2 => ?_) (fun h2 => ?_)
      · rw [if_pos (of_decide_eq_true h2)] at q
        refine ⟨_, rfl, x, C, dx, _, _, rfl, hx, S.cl, S.na, look2 _ _ _, _, _, rfl, rfl, _, rfl, _, _, rfl, hw.len, _, _, rfl, rfl, _, rfl, ?_⟩
        show if decide ((i : Int) + 1 < (ws.length : Int)) = true then _ else _
        by_cases h3 : i + 1 < ws.length
        · rw [decide_eq_true (show (i : Int) + 1 < (ws.length : Int) by omega)]
          rw [decide_eq_true h3, Bool.true_and, List.getElem?_eq_getElem hi, List.getElem?_eq_getElem h3] at q
          refine iteT ⟨_, rfl, _, rfl, x, C, dx, _, _, rfl, hx, S.cl, S.na, look2 _ _ _, _, _, rfl, rfl, hw.ix h3 rfl ⟨_, rfl, _, rfl, x, C, dx, _, _, rfl, hx, S.cl, S.na, look2 _ _ _, hw.ix hi rfl ⟨rfl, ?_⟩⟩⟩
          show Q (V.bl (!decide (V.str ws[i + 1] = V.str ws[i]))) H
          rw [str_dec]
          exact q
        · rw [decide_eq_false (show ¬ (i : Int) + 1 < (ws.length : Int) by omega)]
          rw [decide_eq_false h3, Bool.false_and] at q
          exact iteF q
      · rw [if_neg (fun e => h2 (decide_eq_true e))] at q
        refine ⟨_, rfl, x, C, dx, _, _, rfl, hx, S.cl, S.nk, look1 _ _ _, rfl, _, rfl, ?_⟩
        show if (!decide (V.str z = V.str ("written" : Str))) = true then _ else _
        rw [eq_strB]
        cases hz : decide (z = "written") with
        | false =>
          rw [hz, Bool.not_false, Bool.true_or] at q
          exact iteT q
        | true =>
          rw [hz, Bool.not_true, Bool.false_or, List.getElem?_eq_getElem hi] at q
          refine iteF ⟨_, rfl, _, rfl, x, C, dx, _, _, rfl, hx, S.cl, S.na, look2 _ _ _, hw.ix hi rfl ⟨_, rfl, x, C, dx, _, _, rfl, hx, S.cl, S.nt, look3 _ _ _, ?_, ?_⟩⟩
          · exact scal_tok (some _) t
          · show Q (V.bl (!decide (V.str ws[i] = tokV t))) H
            rw [tokV_str]
            exact q
end
end K8

namespace K8
open PySem L2
theorem cut_hi (ws : List Str) (i : Nat) : cutV (ws.map V.str) none (some (i : Int)) = (ws.take i).map V.str := by
  unfold cutV
  rw [HT.sIx_none, HT.sIx_nat, List.drop_zero, Nat.sub_zero, List.map_take]
  by_cases h : i ≤ (ws.map V.str).length
  · rw [Nat.min_eq_left h]
  · rw [Nat.min_eq_right (by omega), List.take_of_length_le (Nat.le_refl _), List.take_of_length_le (by omega)]
theorem cut_lo (ws : List Str) (i : Nat) : cutV (ws.map V.str) (some (i : Int)) none = (ws.drop i).map V.str := by
  unfold cutV
  rw [HT.sIx_none, HT.sIx_nat, List.map_drop]
  by_cases h : i ≤ (ws.map V.str).length
  · rw [Nat.min_eq_left h, List.take_of_length_le (by rw [List.length_drop]; omega)]
  · rw [Nat.min_eq_right (by omega), List.drop_of_length_le (Nat.le_refl _), List.drop_of_length_le (by omega), List.take_nil]
/-- the file behind the slip -/
def dueS (z : Str) (i : Nat) (t : Option Str) (ws : List Str) : List Str :=
  if z = "left" then ws.take i ++ ws.drop (i + 1)
  else if z = "doubled" then ws.take i ++ (ws.getD i "" :: ws.drop i)
  else if z = "swapped" then ws.take i ++ (ws.getD (i + 1) "" :: ws.getD i "" :: ws.drop (i + 2))
  else ws.take i ++ (t.getD "" :: ws.drop (i + 1))
/-- a kind, and a token just where one is written -/
def Sound (z : Str) (t : Option Str) : Prop := z ∈ kinds ∧ (z = "written" → ∃ y, t = some y)
def spEqS (K : PySem.W.Frag) (C : Addr) : Sp := fun vs H Q _ => ∃ (x : Addr) (y : V) (z : Str) (i : Nat) (t : Option Str), vs = [.ref x, y] ∧ SlipAt C H x z i t ∧
  ((∃ (x' : Addr) (z' : Str) (i' : Nat) (t' : Option Str), y = .ref x' ∧ SlipAt C H x' z' i' t' ∧ Q (.bl (decide (z = z') && (decide (i = i') && decide (t = t')))) H) ∨ (∃ ty, TyOf K H y ty ∧ PySem.W.kitOne K ty (.ref C) = some false ∧ Q (.bl false) H))
def spCallS (K : PySem.W.Frag) (C CB : Addr) : Sp := fun vs H Q E => ∃ (x a : Addr) (z : Str) (i : Nat) (t : Option Str) (ws : List Str), vs = [.ref x, .ref a] ∧ SlipAt C H x z i t ∧ Sound z t ∧ Row K H a ws ∧ ws.length ≤ 1000 ∧
  (fitsB z i t ws = true → ∀ p H', H p = none → Same H H' → H' p = some (.lst ((dueS z i t ws).map V.str)) → Q (.ref p) H') ∧
  (fitsB z i t ws = false → ∀ d H', H d = none → Same H H' → H' d = some (.xd [(("at" : Str), V.int i)]) → E (.ref CB) (some d) H')
theorem no_fits (k a t : V) : (flds k a t).lookup ("fits" : Str) = none := by
  unfold flds
  rw [List.lookup_cons, show (("fits" : Str) == "kind") = false by decide +kernel, List.lookup_cons, show (("fits" : Str) == "at") = false by decide +kernel, List.lookup_cons, show (("fits" : Str) == "token") = false by decide +kernel]
  rfl
theorem Row.same {K : PySem.W.Frag} {H H' : Hp} {a : Addr} {ws : List Str} (h : Row K H a ws) (s : Same H H') : Row K H' a ws := h.imp s.seq (fun h => by
  exact L2.SqT.ext h s)
theorem fits_lt {z : Str} {i : Nat} {t : Option Str} {ws : List Str} (h : fitsB z i t ws = true) : i < ws.length := by
  unfold fitsB at h
  by_cases h1 : ws.length ≤ i
  · rw [if_pos h1] at h; cases h
  · omega
theorem fits_swap {i : Nat} {t : Option Str} {ws : List Str} {z : Str} (hz : z = "swapped") (h : fitsB z i t ws = true) : i + 1 < ws.length := by
  have h0 := fits_lt h
  unfold fitsB at h
  rw [if_neg (by omega), if_pos hz, Bool.and_eq_true] at h
  exact of_decide_eq_true h.1
section
variable {P : Program} {w : World} {K : PySem.W.Frag} {mg : Str → Option Value} {base : Heap} {aS aK : Addr}
theorem scEq : FnScope ["self", "other"] ["self", "other"] (defScope sEq) := ⟨rfl, rfl, rfl, by decide +kernel, rfl, by decide +kernel, by decide +kernel⟩
theorem slip_ty {C : Addr} (S : SlipC K mg C) {H : Hp} {x : Addr} {z : Str} {i : Nat} {t : Option Str} (h : SlipAt C H x z i t) : TyOf K H (.ref x) (.ref C) := by
  obtain ⟨dx, h⟩ := h
  exact .ins h S.cl S.ha S.hn S.htk S.hm
theorem kit_self (K : PySem.W.Frag) (C : Addr) : PySem.W.kitOne K (.ref C) (.ref C) = some true := by
  unfold PySem.W.kitOne
  rw [if_pos (beq_iff_eq.mpr rfl)]
theorem ok_eq {f C : Addr} {fd : FuncData} (F : Fun K "__eq__" "Slip.__eq__" sEq f fd) (T : Mod2 K mg aS aK) (S : SlipC K mg C) : FnOk P w K mg base CX0 1 f fd ["self", "other"] (spEqS K C) := by
  refine F.ok scEq (fun vs H Q E h => ?_) (fun cdv A outer s H vs Q E hr h => ?_)
  · obtain ⟨x, y, z, i, t, rfl, _⟩ := h
    rfl
  · obtain ⟨x, y, z, i, t, rfl, hx, q⟩ := h
    refine ⟨_, pss_one (ps_ret (pe_and (pe_callB call_isi (by rfl) T.isi (by decide +kernel) (pa_cons (pv 1) (pa_cons (pe_glob (v := .ref C) (by rfl) S.gC rfl) pa_nil)))
      (pe_and (pe_cmpR op_eq (pe_fld (pv 0) rfl) (pe_fld (pv 1) rfl) (nomark _)) (pe_and (pe_cmpR op_eq (pe_fld (pv 0) rfl) (pe_fld (pv 1) rfl) (nomark _)) (pe_one (pe_cmpR op_eq (pe_fld (pv 0) rfl) (pe_fld (pv 1) rfl) (nomark _))))))), ?_⟩
    rcases q with ⟨x', z', i', t', rfl, hy, q⟩ | ⟨ty, hty, kt, q⟩
    · have ty := slip_ty S hy
      obtain ⟨dx, hx⟩ := hx
      obtain ⟨dy, hy⟩ := hy
      refine ⟨_, rfl, .ref x', .ref C, .ref C, .ref C, true, rfl, .own C, .base ty, kit_self K C, true, rfl, iteT ?_⟩
      refine ⟨_, rfl, x, C, dx, _, _, rfl, hx, S.cl, S.nk, look1 _ _ _, _, rfl, x', C, dy, _, _, rfl, hy, S.cl, S.nk, look1 _ _ _, rfl, _, rfl, ?_⟩
      show if decide (V.str z = V.str z') = true then _ else _
      rw [eq_strB]
      cases h1 : decide (z = z') with
      | false =>
        rw [h1, Bool.false_and] at q
        exact iteF q
      | true =>
        rw [h1, Bool.true_and] at q
        refine iteT ⟨_, rfl, x, C, dx, _, _, rfl, hx, S.cl, S.na, look2 _ _ _, _, rfl, x', C, dy, _, _, rfl, hy, S.cl, S.na, look2 _ _ _, rfl, _, rfl, ?_⟩
        show if decide (V.int (i : Int) = V.int (i' : Int)) = true then _ else _
        have ei : decide (V.int (i : Int) = V.int (i' : Int)) = decide (i = i') := by
          by_cases h : i = i'
          · rw [h]; simp
          · have h' : ¬ V.int (i : Int) = V.int (i' : Int) := fun e => h (by injection e; omega)
            rw [decide_eq_false h', decide_eq_false h]
        rw [ei]
        cases h2 : decide (i = i') with
        | false =>
          rw [h2, Bool.false_and] at q
          exact iteF q
        | true =>
          rw [h2, Bool.true_and] at q
          refine iteT ⟨_, rfl, x, C, dx, _, _, rfl, hx, S.cl, S.nt, look3 _ _ _, _, rfl, x', C, dy, _, _, rfl, hy, S.cl, S.nt, look3 _ _ _, scal_tok t t', ?_⟩
          show Q (V.bl (decide (tokV t = tokV t'))) H
          rw [tokV_eq]
          exact q
    · exact ⟨_, rfl, y, .ref C, ty, .ref C, false, rfl, .own C, .base hty, kt, false, rfl, iteF q⟩
theorem scCall : FnScope ["self", "file", "ahead", "token"] ["self", "file"] (defScope sCall) := ⟨rfl, rfl, rfl, by decide +kernel, rfl, by decide +kernel, by decide +kernel⟩
theorem ok_call {f fF C CB fE : Addr} {fd fdF : FuncData} (F : Fun K "__call__" "Slip.__call__" sCall f fd) (T : Mod2 K mg aS aK) (S : SlipC K mg C) (TE : K8E.ErrTxt P K mg CB fE)
    (GF : FnOk P w K mg base CX0 1 fF fdF ["self", "file"] (spFits K C)) (bF : Binds K fdF ["self", "file"] []) (mF : Meth K C "fits" fF) :
    FnOk P w K mg base (L2.CX P w) 2 f fd ["self", "file"] (spCallS K C CB) := by
  refine F.okX scCall (fun vs H Q E h => ?_) (fun cdv A outer s H vs Q E hr h => ?_)
  · obtain ⟨x, a, z, i, t, ws, rfl, _⟩ := h
    rfl
  · obtain ⟨x, a, z, i, t, ws, rfl, hs, ⟨hk, hwr⟩, hw, hl, q, e⟩ := h
    obtain ⟨dx, hx⟩ := id hs
    refine ⟨_, C8.pss_cut (ps_if (pt_not (pt_val (pe_meth (pv 0) S.cl mF GF hr bF .nil pass0 (pa_cons (pv 1) pa_nil)))) (pss_one (ps_raiseErr rfl TE hr (takes_of rfl rfl rfl rfl) (pa_cons (pe_fld (pv 0) rfl) pa_nil))) pss_nil)
      (C8.pss_cut (ps_set (i := 2) scCall.nd rfl (.inl rfl) (pe_callTy call_list_of (by rfl) T.list (by decide +kernel) (pa_cons (pe_slice sl_seq (pv 1) po_none (po_some (pe_fld (pv 0) rfl))) pa_nil)))
      (pss_cons (ps_set (i := 3) scCall.nd rfl (.inl rfl) (pe_ix ix_seq (pv 1) (pe_fld (pv 0) rfl) (fun _ _ => rfl)))
      (pss_cons (ps_if (pt_cmpR op_eq (pe_fld (pv 0) rfl) pe_str (nomark _)) (pss_one (ps_ret (pe_lst (StX.pa_star (pv 2) (StX.pa_star (pe_slice sl_seq (pv 1) (po_some (pe_op op_add (pe_fld (pv 0) rfl) pe_int)) po_none) pa_nil))))) pss_nil)
      (pss_cons (ps_if (pt_cmpR op_eq (pe_fld (pv 0) rfl) pe_str (nomark _)) (pss_one (ps_ret (pe_lst (StX.pa_star (pv 2) (pa_cons (pv 3) (StX.pa_star (pe_slice sl_seq (pv 1) (po_some (pe_fld (pv 0) rfl)) po_none) pa_nil)))))) pss_nil)
      (pss_cons (ps_if (pt_cmpR op_eq (pe_fld (pv 0) rfl) pe_str (nomark _)) (pss_one (ps_ret (pe_lst (StX.pa_star (pv 2) (pa_cons (pe_ix ix_seq (pv 1) (pe_op op_add (pe_fld (pv 0) rfl) pe_int) (fun _ _ => rfl)) (pa_cons (pv 3) (StX.pa_star (pe_slice sl_seq (pv 1) (po_some (pe_op op_add (pe_fld (pv 0) rfl) pe_int)) po_none) pa_nil))))))) pss_nil)
      (pss_one (ps_ret (pe_lst (StX.pa_star (pv 2) (pa_cons (pe_fld (pv 0) rfl) (StX.pa_star (pe_slice sl_seq (pv 1) (po_some (pe_op op_add (pe_fld (pv 0) rfl) pe_int)) po_none) pa_nil))))))))))), ?_⟩
    have sz : ∀ n : Nat, n ≤ 5000 → n ≤ sizeLine := fun n h => Nat.le_trans h (by decide)
    refine ⟨fun σ H' => σ = [some (.ref x), some (.ref a), none, none] ∧ H' = H ∧ fitsB z i t ws = true, ?_, ?_⟩
    · refine ⟨_, rfl, x, dx, _, rfl, hx, no_fits _ _ _, _, rfl, x, a, z, i, t, ws, rfl, hs, hw, _, rfl, ?_⟩
      cases hf : fitsB z i t ws with
      | true => exact iteF ⟨rfl, rfl, rfl⟩
      | false => exact iteT ⟨_, rfl, x, C, dx, _, _, rfl, hx, S.cl, S.na, look2 _ _ _, _, rfl, fun d hd => e hf d _ hd (Same.new (Same.refl H) hd) upd_same⟩
    rintro σ H0 ⟨rfl, rfl, hf⟩
    have hi := fits_lt hf
    refine ⟨fun σ H' => ∃ m, σ = [some (.ref x), some (.ref a), some (.ref m), none] ∧ H' m = some (.lst ((ws.take i).map V.str)) ∧ Same H0 H', ?_, ?_⟩
    · refine ⟨_, rfl, _, rfl, x, C, dx, _, _, rfl, hx, S.cl, S.na, look2 _ _ _, (i : Int), rfl, slice_any hw fun p H1 s1 hp => ?_⟩
      rw [cut_hi] at hp
      exact ⟨p, _, rfl, hp, fun m hm => ⟨m, rfl, upd_same, Same.new s1 hm⟩⟩
    rintro σ H1 ⟨m, rfl, hm, s1⟩
    have hx1 := s1 _ _ hx
    have hw1 := hw.same s1
    have hg : ws.getD i "" = ws[i] := by rw [List.getD_eq_getElem?_getD, List.getElem?_eq_getElem hi]; rfl
    refine ⟨_, rfl, _, rfl, x, C, dx, _, _, rfl, hx1, S.cl, S.na, look2 _ _ _, hw1.ix hi rfl ?_⟩
    refine ⟨_, rfl, x, C, dx, _, _, rfl, hx1, S.cl, S.nk, look1 _ _ _, rfl, _, rfl, ?_⟩
    have q2 := q hf
    unfold dueS at q2
    show if decide (V.str z = V.str ("left" : Str)) = true then _ else _
    rw [eq_strB]
    refine ite2 (fun h1 => ?_) (fun h1 => ?_)
    · rw [if_pos (of_decide_eq_true h1)] at q2
      refine ⟨_, rfl, m, _, rfl, .inr (SqL.of hm), _, rfl, _, rfl, x, C, dx, _, _, rfl, hx1, S.cl, S.na, look2 _ _ _, _, _, rfl, rfl, ((i : Int) + 1), rfl, slice_any hw1 fun p H2 s2 hp => ?_⟩
      rw [show ((i : Int) + 1) = ((i + 1 : Nat) : Int) by omega, cut_lo] at hp
      refine ⟨p, _, rfl, hp.symm, ?_, fun r hr => q2 r _ ((s1.trans s2).free hr) (Same.new (s1.trans s2) hr) ?_⟩
      · exact sz _ (by simp; omega)
      · rw [upd_same, List.map_append, List.append_nil]
    rw [if_neg (fun h => h1 (decide_eq_true h))] at q2
    refine ⟨_, rfl, x, C, dx, _, _, rfl, hx1, S.cl, S.nk, look1 _ _ _, rfl, _, rfl, ?_⟩
    show if decide (V.str z = V.str ("doubled" : Str)) = true then _ else _
    rw [eq_strB]
    refine ite2 (fun h2 => ?_) (fun h2 => ?_)
    · rw [if_pos (of_decide_eq_true h2)] at q2
      refine ⟨_, rfl, m, _, rfl, .inr (SqL.of hm), _, rfl, _, rfl, _, rfl, x, C, dx, _, _, rfl, hx1, S.cl, S.na, look2 _ _ _, (i : Int), rfl, slice_any hw1 fun p H2 s2 hp => ?_⟩
      rw [cut_lo] at hp
      refine ⟨p, _, rfl, hp.symm, ?_, fun r hr => q2 r _ ((s1.trans s2).free hr) (Same.new (s1.trans s2) hr) ?_⟩
      · exact sz _ (by simp; omega)
      · rw [upd_same, hg, List.map_append, List.append_nil]
        rfl
    rw [if_neg (fun h => h2 (decide_eq_true h))] at q2
    refine ⟨_, rfl, x, C, dx, _, _, rfl, hx1, S.cl, S.nk, look1 _ _ _, rfl, _, rfl, ?_⟩
    show if decide (V.str z = V.str ("swapped" : Str)) = true then _ else _
    rw [eq_strB]
    refine ite2 (fun h3 => ?_) (fun h3 => ?_)
    · rw [if_pos (of_decide_eq_true h3)] at q2
      have hi1 := fits_swap (of_decide_eq_true h3) hf
      have hg1 : ws.getD (i + 1) "" = ws[i + 1] := by rw [List.getD_eq_getElem?_getD, List.getElem?_eq_getElem hi1]; rfl
      refine ⟨_, rfl, m, _, rfl, .inr (SqL.of hm), _, rfl, _, rfl, x, C, dx, _, _, rfl, hx1, S.cl, S.na, look2 _ _ _, _, _, rfl, rfl, hw1.ix hi1 rfl ?_⟩
      refine ⟨_, rfl, _, rfl, _, rfl, x, C, dx, _, _, rfl, hx1, S.cl, S.na, look2 _ _ _, _, _, rfl, rfl, ((i : Int) + 2), rfl, slice_any hw1 fun p H2 s2 hp => ?_⟩
      rw [show ((i : Int) + 2) = ((i + 2 : Nat) : Int) by omega, cut_lo] at hp
      refine ⟨p, _, rfl, hp.symm, ?_, fun r hr => q2 r _ ((s1.trans s2).free hr) (Same.new (s1.trans s2) hr) ?_⟩
      · exact sz _ (by simp; omega)
      · rw [upd_same, hg, hg1, List.map_append, List.append_nil]
        rfl
    · rw [if_neg (fun h => h3 (decide_eq_true h))] at q2
      have hz : z = "written" := by
        have h1 : z ≠ "left" := fun h => h1 (decide_eq_true h)
        have h2 : z ≠ "doubled" := fun h => h2 (decide_eq_true h)
        have h3 : z ≠ "swapped" := fun h => h3 (decide_eq_true h)
        simp only [kinds, List.mem_cons, List.not_mem_nil, or_false] at hk
        rcases hk with h | h | h | h
        · exact absurd h h1
        · exact absurd h h2
        · exact absurd h h3
        · exact h
      obtain ⟨y, rfl⟩ := hwr hz
      refine ⟨_, rfl, m, _, rfl, .inr (SqL.of hm), _, rfl, x, C, dx, _, _, rfl, hx1, S.cl, S.nt, look3 _ _ _, _, rfl, _, rfl, x, C, dx, _, _, rfl, hx1, S.cl, S.na, look2 _ _ _, _, _, rfl, rfl, ((i : Int) + 1), rfl, slice_any hw1 fun p H2 s2 hp => ?_⟩
      rw [show ((i : Int) + 1) = ((i + 1 : Nat) : Int) by omega, cut_lo] at hp
      refine ⟨p, _, rfl, hp.symm, ?_, fun r hr => q2 r _ ((s1.trans s2).free hr) (Same.new (s1.trans s2) hr) ?_⟩
      · exact sz _ (by simp; omega)
      · rw [upd_same, List.map_append, List.append_nil]
        rfl
end
end K8

namespace K8
open PySem L2
abbrev sBegin : Stmt := top 19
abbrev sTrimmed : Stmt := top 20
mutual
theorem dp_same {K : PySem.W.Frag} {H H' : Hp} (s : Same H H') : ∀ (d : PyData) {v : V}, Dp K H v d → Dp K H' v d
  | .none, _, h => by cases h; exact .non
  | .bool _, _, h => by cases h; exact .bl _
  | .int _, _, h => by cases h; exact .int _
  | .str _, _, h => by cases h; exact .str _
  | .list ds, _, h => by
    cases h with
    | lst h1 h2 => exact .lst (s.seq h1) (dpAll_same s ds h2)
  | .tuple ds, _, h => by
    cases h with
    | tup h1 h2 => exact .tup (SqT.ext h1 s) (dpAll_same s ds h2)
  | .dict _, _, h => by cases h
theorem dpAll_same {K : PySem.W.Frag} {H H' : Hp} (s : Same H H') : ∀ (ds : List PyData) {vs : List V}, DpAll K H vs ds → DpAll K H' vs ds
  | [], _, h => by cases h; exact .nil
  | d :: ds, _, h => by
    cases h with
    | cons h1 h2 => exact .cons (dp_same s d h1) (dpAll_same s ds h2)
end
theorem DpAll.len {K : PySem.W.Frag} {H : Hp} : ∀ {ds : List PyData} {vs : List V}, DpAll K H vs ds → vs.length = ds.length
  | [], _, h => by cases h; rfl
  | d :: ds, _, h => by
    cases h with
    | cons h1 h2 => rw [List.length_cons, List.length_cons, DpAll.len h2]
theorem DpAll.drop {K : PySem.W.Frag} {H : Hp} : ∀ {ds : List PyData} {vs : List V} (k : Nat), DpAll K H vs ds → DpAll K H (vs.drop k) (ds.drop k)
  | _, _, 0, h => h
  | [], _, k + 1, h => by cases h; exact .nil
  | d :: ds, _, k + 1, h => by
    cases h with
    | cons h1 h2 => exact DpAll.drop k h2
theorem DpAll.take {K : PySem.W.Frag} {H : Hp} : ∀ {ds : List PyData} {vs : List V} (k : Nat), DpAll K H vs ds → DpAll K H (vs.take k) (ds.take k)
  | _, _, 0, _ => .nil
  | [], _, k + 1, h => by cases h; exact .nil
  | d :: ds, _, k + 1, h => by
    cases h with
    | cons h1 h2 => exact .cons h1 (DpAll.take k h2)
theorem DpAll.app {K : PySem.W.Frag} {H : Hp} : ∀ {ds es : List PyData} {vs us : List V}, DpAll K H vs ds → DpAll K H us es → DpAll K H (vs ++ us) (ds ++ es)
  | [], _, _, _, h, h' => by cases h; exact h'
  | d :: ds, _, _, _, h, h' => by
    cases h with
    | cons h1 h2 => exact .cons h1 (DpAll.app h2 h')
theorem DpAll.rev {K : PySem.W.Frag} {H : Hp} : ∀ {ds : List PyData} {vs : List V}, DpAll K H vs ds → DpAll K H vs.reverse ds.reverse
  | [], _, h => by cases h; exact .nil
  | d :: ds, _, h => by
    cases h with
    | cons h1 h2 =>
      rw [List.reverse_cons, List.reverse_cons]
      exact DpAll.app (DpAll.rev h2) (.cons h1 .nil)
theorem DpAll.at {K : PySem.W.Frag} {H : Hp} : ∀ {ds : List PyData} {vs : List V} {k : Nat} {d : PyData}, DpAll K H vs ds → ds[k]? = some d → ∃ v, vs[k]? = some v ∧ Dp K H v d
  | [], _, _, _, _, e => by cases e
  | d :: ds, _, 0, _, h, e => by
    cases h with
    | cons h1 h2 => exact ⟨_, rfl, (Option.some.inj e) ▸ h1⟩
  | d :: ds, _, k + 1, _, h, e => by
    cases h with
    | cons h1 h2 => exact DpAll.at (ds := ds) (k := k) h2 e
/-- how long two lists are alike from the front -/
def cb : List PyData → List PyData → Nat
  | d :: ds, e :: es => if PyData.eqv d e = true then cb ds es + 1 else 0
  | _, _ => 0
theorem cb_step {ds es : List PyData} {k : Nat} {d e : PyData} (h1 : ds[k]? = some d) (h2 : es[k]? = some e) : cb (ds.drop k) (es.drop k) = if PyData.eqv d e = true then cb (ds.drop (k + 1)) (es.drop (k + 1)) + 1 else 0 := by
  have a1 := (List.getElem?_eq_some_iff.mp h1).1
  have a2 := (List.getElem?_eq_some_iff.mp h2).1
  rw [List.getElem?_eq_getElem a1] at h1
  rw [List.getElem?_eq_getElem a2] at h2
  rw [List.drop_eq_getElem_cons a1, List.drop_eq_getElem_cons a2, Option.some.inj h1, Option.some.inj h2]
  rfl
theorem cb_end {ds es : List PyData} (h : ds = [] ∨ es = []) : cb ds es = 0 := by
  rcases h with rfl | rfl
  · rfl
  · cases ds <;> rfl
theorem cb_le : ∀ (ds es : List PyData), cb ds es ≤ ds.length ∧ cb ds es ≤ es.length
  | [], es => by rw [cb_end (.inl rfl)]; exact ⟨Nat.zero_le _, Nat.zero_le _⟩
  | d :: ds, [] => by rw [cb_end (.inr rfl)]; exact ⟨Nat.zero_le _, Nat.zero_le _⟩
  | d :: ds, e :: es => by
    have := cb_le ds es
    unfold cb
    split
    · simp; omega
    · simp
/-- data that == and repr can be asked of -/
structure Fair1 (d : PyData) : Prop where
  lay : d.canLay0 = true
  dep : d.depth ≤ 10
  show_ : d.showable = true
  dict : d.hasDict = false
  len : d.shown.length ≤ 400
def Fair (ds : List PyData) : Prop := ∀ d ∈ ds, Fair1 d
theorem Fair1.shaped {d : PyData} (f : Fair1 d) : SeqAt.shaped d = true := by
  unfold SeqAt.shaped
  rw [f.lay, Bool.true_and]
  exact decide_eq_true (Nat.le_trans f.dep (by decide))
/-- all of many -/
structure FairL (ds : List PyData) : Prop where
  lay : PyData.canLayAll0 ds = true
  dep : PyData.depthAll ds ≤ 10
  show_ : PyData.showableAll ds = true
  dict : PyData.hasDictAll ds = false
  len : ((PyData.shownAll ds).map (·.length)).sum ≤ 400 * ds.length
  num : (PyData.shownAll ds).length = ds.length
theorem Fair.all : ∀ {ds : List PyData}, Fair ds → FairL ds
  | [], _ => ⟨rfl, by decide, rfl, rfl, by decide, rfl⟩
  | d :: ds, f => by
    have h := f d (List.mem_cons_self ..)
    have r := Fair.all (ds := ds) fun x hx => f x (List.mem_cons_of_mem _ hx)
    refine ⟨?_, ?_, ?_, ?_, ?_, ?_⟩
    · rw [PyData.canLayAll0, h.lay, r.lay]; rfl
    · rw [PyData.depthAll]; exact Nat.max_le.mpr ⟨h.dep, r.dep⟩
    · rw [PyData.showableAll, h.show_, r.show_]; rfl
    · rw [PyData.hasDictAll, h.dict, r.dict]; rfl
    · have a := h.len
      have b := r.len
      rw [PyData.shownAll, List.map_cons, List.sum_cons, List.length_cons]
      omega
    · rw [PyData.shownAll, List.length_cons, List.length_cons, r.num]
theorem fair_shaped {ds : List PyData} (f : Fair ds) : SeqAt.shaped (.list ds) = true := by
  have r := f.all
  unfold SeqAt.shaped
  rw [PyData.canLay0, r.lay, Bool.true_and, PyData.depth]
  exact decide_eq_true (by have := r.dep; omega)
theorem fair_shaped_t {ds : List PyData} (f : Fair ds) : SeqAt.shaped (.tuple ds) = true := by
  have r := f.all
  unfold SeqAt.shaped
  rw [PyData.canLay0, r.lay, Bool.true_and, PyData.depth]
  exact decide_eq_true (by have := r.dep; omega)
theorem Fair.sub {ds es : List PyData} (f : Fair ds) (h : ∀ d ∈ es, d ∈ ds) : Fair es := fun d hd => f d (h d hd)
def spBegin (K : PySem.W.Frag) : Sp := fun vs H Q _ => ∃ (a b : Addr) (xs ys : List V) (ds es : List PyData), vs = [.ref a, .ref b] ∧ SqL K H a xs ∧ SqL K H b ys ∧ DpAll K H xs ds ∧ DpAll K H ys es ∧ Fair ds ∧ Fair es ∧ Q (.int (cb ds es)) H
section
variable {P : Program} {w : World} {K : PySem.W.Frag} {mg : Str → Option Value} {base : Heap} {aS : Addr}
theorem scBegin : FnScope ["first", "second", "count"] ["first", "second"] (defScope sBegin) := ⟨rfl, rfl, rfl, by decide +kernel, rfl, by decide +kernel, by decide +kernel⟩
theorem ok_begin {f : Addr} {fd : FuncData} (F : Fun K "common_beginning" "common_beginning" sBegin f fd) (T : Mod K mg aS) (zmin : mg "min" = none) : FnOk P w K mg base CX0 1 f fd ["first", "second"] (spBegin K) := by
  refine F.ok scBegin (fun vs H Q E h => ?_) (fun cdv A outer s H vs Q E hr h => ?_)
  · obtain ⟨a, b, xs, ys, ds, es, rfl, _⟩ := h
    rfl
  · obtain ⟨a, b, xs, ys, ds, es, rfl, hx, hy, dx, dy, fx, fy, q⟩ := h
    refine ⟨_, pss_cons (ps_set (i := 2) scBegin.nd rfl (.inl rfl) pe_int)
      (pss_cons (ps_while PassesOwn.never (PW.pt (pw_and (pt_cmpR op_lt (pv 2) (pe_callB (call_min2 rfl) (by rfl) zmin (by decide +kernel) (pa_cons (pe_callB call_len_seq (by rfl) T.len PySem.boot_len (pa_cons (pv 0) pa_nil)) (pa_cons (pe_callB call_len_seq (by rfl) T.len PySem.boot_len (pa_cons (pv 1) pa_nil)) pa_nil))) (nomark _))
          (pw_and1 (pt_cmpR (op_eqD hr.units) (pe_ix ix_list (pv 0) (pv 2) (fun _ _ => rfl)) (pe_ix ix_list (pv 1) (pv 2) (fun _ _ => rfl)) (nomark _)))))
        (pss_one (ps_aug (i := 2) scBegin.nd rfl (.inl rfl) pe_int ip_add)))
      (pss_one (ps_ret (pv 2)))), ?_⟩
    have lx := DpAll.len dx
    have ly := DpAll.len dy
    refine ⟨fun m σ H' => ∃ n : Nat, m = xs.length - n ∧ σ = [some (.ref a), some (.ref b), some (.int n)] ∧ H' = H ∧ n + cb (ds.drop n) (es.drop n) = cb ds es, ⟨_, 0, rfl, rfl, rfl, by simp⟩, ?_⟩
    rintro m σ H1 ⟨n, rfl, rfl, rfl, e⟩
    refine ⟨_, rfl, _, rfl, a, xs, rfl, .inl hx, _, rfl, b, ys, rfl, .inl hy, _, _, rfl, _, _, rfl, rfl, _, rfl, ?_⟩
    show if decide ((n : Int) < (if (ys.length : Int) < (xs.length : Int) then (ys.length : Int) else (xs.length : Int))) = true then _ else _
    by_cases h : n < xs.length ∧ n < ys.length
    · rw [decide_eq_true (show (n : Int) < (if (ys.length : Int) < (xs.length : Int) then (ys.length : Int) else (xs.length : Int)) by split <;> omega)]
      have k1 : ds[n]? = some ds[n] := List.getElem?_eq_getElem (by omega)
      have k2 : es[n]? = some es[n] := List.getElem?_eq_getElem (by omega)
      obtain ⟨v, ev, dv⟩ := DpAll.at dx k1
      obtain ⟨u, eu, du⟩ := DpAll.at dy k2
      have st := cb_step k1 k2
      refine iteT ⟨_, rfl, _, rfl, a, xs, _, v, rfl, rfl, hx, atI_nat ev, _, rfl, _, rfl, b, ys, _, u, rfl, rfl, hy, atI_nat eu, _, _, dv, du, (fx _ (List.getElem_mem _)).shaped, (fy _ (List.getElem_mem _)).shaped, _, rfl, ?_⟩
      cases he : PyData.eqv ds[n] es[n] with
      | true =>
        rw [he, if_pos rfl] at st
        refine iteT ⟨fun σ' H' => σ' = [some (.ref a), some (.ref b), some (.int ((n : Int) + 1))] ∧ H' = H1, ?_, _, rfl, _, _, rfl, rfl, rfl, rfl⟩
        rintro σ' H' ⟨rfl, rfl⟩
        exact ⟨xs.length - (n + 1), by omega, n + 1, rfl, rfl, rfl, by omega⟩
      | false =>
        rw [he, if_neg (by decide), ] at st
        refine iteF ⟨_, rfl, ?_⟩
        rw [st, Nat.add_zero] at e
        rw [← e] at q
        exact q
    · rw [decide_eq_false (show ¬ (n : Int) < (if (ys.length : Int) < (xs.length : Int) then (ys.length : Int) else (xs.length : Int)) by split <;> omega)]
      refine iteF ⟨_, rfl, ?_⟩
      rw [cb_end (by
        by_cases h1 : n < xs.length
        · exact .inr (List.drop_eq_nil_of_le (by omega))
        · exact .inl (List.drop_eq_nil_of_le (by omega))), Nat.add_zero] at e
      rw [← e] at q
      exact q
end
end K8

namespace K8
open PySem L2
abbrev sLawCut : Stmt := top 33
theorem cutV_lo (xs : List V) (i : Nat) : cutV xs (some (i : Int)) none = xs.drop i := by
  unfold cutV
  rw [HT.sIx_none, HT.sIx_nat]
  by_cases h : i ≤ xs.length
  · rw [Nat.min_eq_left h, List.take_of_length_le (by rw [List.length_drop]; omega)]
  · rw [Nat.min_eq_right (by omega), List.drop_of_length_le (Nat.le_refl _), List.drop_of_length_le (by omega), List.take_nil]
theorem cutV_hi (xs : List V) (i : Nat) : cutV xs none (some (i : Int)) = xs.take i := by
  unfold cutV
  rw [HT.sIx_none, HT.sIx_nat, List.drop_zero, Nat.sub_zero]
  by_cases h : i ≤ xs.length
  · rw [Nat.min_eq_left h]
  · rw [Nat.min_eq_right (by omega), List.take_of_length_le (Nat.le_refl _), List.take_of_length_le (by omega)]
theorem cutV_last (xs : List V) : cutV xs none (some (-1)) = xs.dropLast := by
  unfold cutV
  rw [HT.sIx_none, List.drop_zero, Nat.sub_zero, List.dropLast_eq_take]
  congr 1
  show (if (-1 : Int) < 0 then ((-1 : Int) + (xs.length : Int)).toNat else min (-1 : Int).toNat xs.length) = _
  rw [if_pos (by decide)]
  omega
/-- how much goes at the front, and at the end -/
def kN (ds es : List PyData) : Nat := cb ds es
def kM (ds es : List PyData) : Nat := cb (ds.drop (kN ds es)).reverse (es.drop (kN ds es)).reverse
def rest {α : Type} (n m : Nat) (l : List α) : List α := (l.drop n).take ((l.drop n).length - m)
theorem rest_rev {α : Type} (n m : Nat) (l : List α) : rest n m l = ((l.drop n).reverse.drop m).reverse := by
  unfold rest
  rw [List.drop_reverse, List.reverse_reverse]
def spTrim (K : PySem.W.Frag) : Sp := fun vs H Q _ => ∃ (a b : Addr) (xs ys : List V) (ds es : List PyData), vs = [.ref a, .ref b] ∧ SqL K H a xs ∧ SqL K H b ys ∧ DpAll K H xs ds ∧ DpAll K H ys es ∧ Fair ds ∧ Fair es ∧
  ∀ (p l r : Addr) (H' : Hp), Same H H' → H l = none → H r = none → l ≠ r → H' p = some (.tup [.ref l, .ref r]) → H' l = some (.lst (rest (kN ds es) (kM ds es) xs)) → H' r = some (.lst (rest (kN ds es) (kM ds es) ys)) → Q (.ref p) H'
def spLawCut (K : PySem.W.Frag) : Sp := fun vs H Q _ => ∃ (a b : Addr) (xs ys : List V) (ds es : List PyData), vs = [.ref a, .ref b] ∧ SqL K H a xs ∧ SqL K H b ys ∧ DpAll K H xs ds ∧ DpAll K H ys es ∧ Fair ds ∧ Fair es ∧
  ∀ (p l r : Addr) (H' : Hp), Same H H' → H' p = some (.tup [.ref l, .ref r]) → SqL K H' l (rest (kN ds es) (kM ds es) xs) → SqL K H' r (rest (kN ds es) (kM ds es) ys) → Q (.ref p) H'
section
variable {P : Program} {w : World} {K : PySem.W.Frag} {mg : Str → Option Value} {base : Heap} {aS : Addr}
theorem scTrimmed : FnScope ["first", "second", "ahead", "one", "other", "behind"] ["first", "second"] (defScope sTrimmed) := ⟨rfl, rfl, rfl, by decide +kernel, rfl, by decide +kernel, by decide +kernel⟩
theorem ok_trimmed {f fB : Addr} {fd fdB : FuncData} (F : Fun K "trimmed" "trimmed" sTrimmed f fd) (T : Mod K mg aS)
    (kB : PySem.W.keepIn K (.ref fB) = true) (GB : FnOk P w K mg base CX0 1 fB fdB ["first", "second"] (spBegin K)) (bB : Binds K fdB ["first", "second"] []) (mB : mg "common_beginning" = some (.ref fB)) :
    FnOk P w K mg base CX0 2 f fd ["first", "second"] (spTrim K) := by
  refine F.ok scTrimmed (fun vs H Q E h => ?_) (fun cdv A outer s H vs Q E hr h => ?_)
  · obtain ⟨a, b, xs, ys, ds, es, rfl, _⟩ := h
    rfl
  · obtain ⟨a, b, xs, ys, ds, es, rfl, hx, hy, dx, dy, fx, fy, q⟩ := h
    refine ⟨_, pss_cons (ps_set (i := 2) scTrimmed.nd rfl (.inl rfl) (pe_call GB hr rfl mB kB bB .nil pass0 (pa_cons (pv 0) (pa_cons (pv 1) pa_nil))))
      (C8.pss_cut (ps_set (i := 3) scTrimmed.nd rfl (.inl rfl) (pe_callTy call_list_of (by rfl) T.list (by decide +kernel) (pa_cons (pe_slice sl_list (pv 0) (po_some (pv 2)) po_none) pa_nil)))
      (C8.pss_cut (ps_set (i := 4) scTrimmed.nd rfl (.inl rfl) (pe_callTy call_list_of (by rfl) T.list (by decide +kernel) (pa_cons (pe_slice sl_list (pv 1) (po_some (pv 2)) po_none) pa_nil)))
      (C8.pss_cut (ps_set (i := 5) scTrimmed.nd rfl (.inl rfl) (pe_call GB hr rfl mB kB bB .nil pass0 (pa_cons (pe_revL (pv 3)) (pa_cons (pe_revL (pv 4)) pa_nil))))
      (pss_one (ps_ret (pe_tup (pa_cons (pe_slice sl_list (pv 3) po_none (po_some (pe_op op_sub (pe_callB call_len_seq (by rfl) T.len PySem.boot_len (pa_cons (pv 3) pa_nil)) (pv 5)))) (pa_cons (pe_slice sl_list (pv 4) po_none (po_some (pe_op op_sub (pe_callB call_len_seq (by rfl) T.len PySem.boot_len (pa_cons (pv 4) pa_nil)) (pv 5)))) pa_nil)))))))), ?_⟩
    refine ⟨_, rfl, _, rfl, a, b, xs, ys, ds, es, rfl, hx, hy, dx, dy, fx, fy, ?_⟩
    have nx := (cb_le ds es).1
    have ny := (cb_le ds es).2
    have lx := DpAll.len dx
    have ly := DpAll.len dy
    refine ⟨fun σ H' => ∃ m, σ = [some (.ref a), some (.ref b), some (.int (kN ds es)), some (.ref m), none, none] ∧ H' m = some (.lst (xs.drop (kN ds es))) ∧ Same H H' ∧ H m = none, ?_, ?_⟩
    · refine ⟨_, rfl, _, rfl, _, rfl, a, xs, rfl, hx, fun p hp => ⟨p, _, rfl, .inl (SqL.of upd_same), fun m hm => ⟨m, rfl, ?_, Same.new (Same.new (Same.refl H) hp) hm, (Same.new (Same.refl H) hp).free hm⟩⟩⟩
      rw [upd_same]
      exact congrArg (fun l => some (HO.lst l)) (cutV_lo xs (kN ds es))
    rintro σ H1 ⟨m, rfl, hm, s1, hmn⟩
    refine ⟨fun σ H' => ∃ o, σ = [some (.ref a), some (.ref b), some (.int (kN ds es)), some (.ref m), some (.ref o), none] ∧ H' m = some (.lst (xs.drop (kN ds es))) ∧ H' o = some (.lst (ys.drop (kN ds es))) ∧ Same H H', ?_, ?_⟩
    · refine ⟨_, rfl, _, rfl, _, rfl, b, ys, rfl, s1.seq hy, fun p hp => ⟨p, _, rfl, .inl (SqL.of upd_same), fun o ho => ⟨o, rfl, ?_, ?_, Same.new (Same.new s1 hp) ho⟩⟩⟩
      · exact (Same.new (Same.new (Same.refl H1) hp) ho) _ _ hm
      · rw [upd_same]
        exact congrArg (fun l => some (HO.lst l)) (cutV_lo ys (kN ds es))
    rintro σ H2 ⟨o, rfl, hm2, ho, s2⟩
    have dx2 := dpAll_same s2 ds dx
    have dy2 := dpAll_same s2 es dy
    refine ⟨fun σ H' => σ = [some (.ref a), some (.ref b), some (.int (kN ds es)), some (.ref m), some (.ref o), some (.int (kM ds es))] ∧ H' m = some (.lst (xs.drop (kN ds es))) ∧ H' o = some (.lst (ys.drop (kN ds es))) ∧ Same H H', ?_, ?_⟩
    · refine ⟨_, rfl, m, _, rfl, SqL.of hm2, fun p hp => ⟨_, rfl, o, _, rfl, SqL.of (by rw [upd_ne (ne_of_none ho hp)]; exact ho), fun r hr' => ?_⟩⟩
      have s3 := Same.new (o := .lst (ys.drop (kN ds es)).reverse) (Same.new (o := .lst (xs.drop (kN ds es)).reverse) (Same.refl H2) hp) hr'
      refine ⟨p, r, _, _, (ds.drop (kN ds es)).reverse, (es.drop (kN ds es)).reverse, rfl, SqL.of ?_, SqL.of upd_same, dpAll_same s3 _ (DpAll.rev (DpAll.drop _ dx2)), dpAll_same s3 _ (DpAll.rev (DpAll.drop _ dy2)), ?_, ?_, rfl, s3 _ _ hm2, s3 _ _ ho, s2.trans s3⟩
      · rw [upd_ne (ne_of_none upd_same hr'), upd_same]
      · exact fx.sub fun d hd => List.mem_of_mem_drop (List.mem_reverse.mp hd)
      · exact fy.sub fun d hd => List.mem_of_mem_drop (List.mem_reverse.mp hd)
    rintro σ H3 ⟨rfl, hm3, ho3, s3⟩
    have mx := (cb_le (ds.drop (kN ds es)).reverse (es.drop (kN ds es)).reverse).1
    have my := (cb_le (ds.drop (kN ds es)).reverse (es.drop (kN ds es)).reverse).2
    rw [List.length_reverse, List.length_drop] at mx my
    have e1 : ((xs.drop (kN ds es)).length : Int) - (kM ds es : Int) = (((xs.drop (kN ds es)).length - kM ds es : Nat) : Int) := by
      rw [List.length_drop]; unfold kM; omega
    have e2 : ((ys.drop (kN ds es)).length : Int) - (kM ds es : Int) = (((ys.drop (kN ds es)).length - kM ds es : Nat) : Int) := by
      rw [List.length_drop]; unfold kM; omega
    refine ⟨_, rfl, _, rfl, m, _, rfl, .inl (SqL.of hm3), _, rfl, _, _, rfl, rfl, _, rfl, m, _, rfl, SqL.of hm3, fun l hl => ?_⟩
    have ho4 : (upd H3 l (.lst (cutV (xs.drop (kN ds es)) none (some (((xs.drop (kN ds es)).length : Int) - (kM ds es : Int)))))) o = some (.lst (ys.drop (kN ds es))) := by rw [upd_ne (ne_of_none ho3 hl)]; exact ho3
    refine ⟨_, rfl, _, rfl, o, _, rfl, .inl (SqL.of ho4), _, rfl, _, _, rfl, rfl, _, rfl, o, _, rfl, SqL.of ho4, fun r hr' => ⟨by show 2 ≤ sizeLine; decide, fun p hp => ?_⟩⟩
    have s4 := Same.new (o := .lst (cutV (xs.drop (kN ds es)) none (some (((xs.drop (kN ds es)).length : Int) - (kM ds es : Int))))) s3 hl
    have s5 := Same.new (o := .lst (cutV (ys.drop (kN ds es)) none (some (((ys.drop (kN ds es)).length : Int) - (kM ds es : Int))))) s4 hr'
    have nlr : l ≠ r := ne_of_none upd_same hr'
    refine q p l r _ (Same.new s5 hp) (s3.free hl) (s4.free hr') nlr upd_same ?_ ?_
    · rw [upd_ne (ne_of_none (by rw [upd_ne nlr]; exact upd_same) hp), upd_ne nlr, upd_same, e1, cutV_hi]
      rfl
    · rw [upd_ne (ne_of_none upd_same hp), upd_same, e2, cutV_hi]
      rfl
theorem scLawCut : FnScope ["_law_first", "_law_second"] ["_law_first", "_law_second"] (defScope sLawCut) := ⟨rfl, rfl, rfl, by decide +kernel, rfl, by decide +kernel, by decide +kernel⟩
theorem eqv_none {ds : List PyData} : PyData.eqv (.list ds) (.list []) = decide (ds = []) := by
  cases ds with
  | nil => rfl
  | cons d ds =>
    rw [decide_eq_false (by simp)]
    rfl
theorem dpAll_none {K : PySem.W.Frag} {H : Hp} {vs : List V} {ds : List PyData} (h : DpAll K H vs ds) : ds = [] ↔ vs = [] := by
  cases h with
  | nil => simp
  | cons _ _ => simp
/-- in the first loop -/
def Front (K : PySem.W.Frag) (H : Hp) (xs ys : List V) (ds es : List PyData) (m : Nat) (σ : St) (H' : Hp) : Prop := ∃ (n : Nat) (a b : Addr), m = xs.length - n ∧ σ = [some (.ref a), some (.ref b)] ∧ SqL K H' a (xs.drop n) ∧ SqL K H' b (ys.drop n) ∧ Same H H' ∧ n + cb (ds.drop n) (es.drop n) = cb ds es
def Back (K : PySem.W.Frag) (H : Hp) (xs ys : List V) (ds es : List PyData) (m : Nat) (σ : St) (H' : Hp) : Prop := ∃ (j : Nat) (a b : Addr), m = xs.length - j ∧ σ = [some (.ref a), some (.ref b)] ∧ SqL K H' a (xs.drop j).reverse ∧ SqL K H' b (ys.drop j).reverse ∧ Same H H' ∧ j + cb (ds.drop j) (es.drop j) = cb ds es
theorem ok_lawCut {f : Addr} {fd : FuncData} (F : Fun K "_law_cut" "_law_cut" sLawCut f fd) : FnOk P w K mg base CX0 1 f fd ["_law_first", "_law_second"] (spLawCut K) := by
  refine F.ok scLawCut (fun vs H Q E h => ?_) (fun cdv A outer s H vs Q E hr h => ?_)
  · obtain ⟨a, b, xs, ys, ds, es, rfl, _⟩ := h
    rfl
  · obtain ⟨a, b, xs, ys, ds, es, rfl, hx, hy, dx, dy, fx, fy, q⟩ := h
    refine ⟨_, C8.pss_cut (ps_while PassesOwn.never (PW.pt (pw_and (pt_cmpR (op_neD hr.units) (pv 0) (pe_lst pa_nil) (nomark _)) (pw_and (pt_cmpR (op_neD hr.units) (pv 1) (pe_lst pa_nil) (nomark _)) (pw_and1 (pt_cmpR (op_eqD hr.units) (pe_ix ix_list (pv 0) pe_int (fun _ _ => rfl)) (pe_ix ix_list (pv 1) pe_int (fun _ _ => rfl)) (nomark _))))))
        (pss_one (ps_par (i := 0) (j := 1) (by rfl) scLawCut.nd rfl rfl (by decide) rfl rfl (pa_cons (pe_slice sl_list (pv 0) (po_some pe_int) po_none) (pa_cons (pe_slice sl_list (pv 1) (po_some pe_int) po_none) pa_nil)) (by rfl))))
      (C8.pss_cut (ps_while PassesOwn.never (PW.pt (pw_and (pt_cmpR (op_neD hr.units) (pv 0) (pe_lst pa_nil) (nomark _)) (pw_and (pt_cmpR (op_neD hr.units) (pv 1) (pe_lst pa_nil) (nomark _)) (pw_and1 (pt_cmpR (op_eqD hr.units) (pe_ix ix_list (pv 0) (pe_un un_neg pe_int) (fun _ _ => rfl)) (pe_ix ix_list (pv 1) (pe_un un_neg pe_int) (fun _ _ => rfl)) (nomark _))))))
        (pss_one (ps_par (i := 0) (j := 1) (by rfl) scLawCut.nd rfl rfl (by decide) rfl rfl (pa_cons (pe_slice sl_list (pv 0) po_none (po_some (pe_un un_neg pe_int))) (pa_cons (pe_slice sl_list (pv 1) po_none (po_some (pe_un un_neg pe_int))) pa_nil)) (by rfl))))
      (pss_one (ps_ret (pe_tup (pa_cons (pv 0) (pa_cons (pv 1) pa_nil)))))), ?_⟩
    have lx := DpAll.len dx
    have ly := DpAll.len dy
    refine ⟨fun σ H' => ∃ a b, σ = [some (.ref a), some (.ref b)] ∧ SqL K H' a (xs.drop (kN ds es)) ∧ SqL K H' b (ys.drop (kN ds es)) ∧ Same H H', ?_, ?_⟩
    · refine ⟨Front K H xs ys ds es, ⟨_, 0, a, b, rfl, rfl, hx, hy, Same.refl H, by simp⟩, ?_⟩
      rintro m σ H1 ⟨n, a, b, rfl, rfl, ha, hb, s1, e⟩
      have dx1 := DpAll.drop n (dpAll_same s1 ds dx)
      have dy1 := DpAll.drop n (dpAll_same s1 es dy)
      have done : (ds.drop n = [] ∨ es.drop n = []) → ∀ H', Same H H' → SqL K H' a (xs.drop n) → SqL K H' b (ys.drop n) → ∃ a' b', [some (V.ref a), some (V.ref b)] = [some (V.ref a'), some (V.ref b')] ∧ SqL K H' a' (xs.drop (kN ds es)) ∧ SqL K H' b' (ys.drop (kN ds es)) ∧ Same H H' := fun h H' s' h1 h2 => by
        rw [cb_end h, Nat.add_zero] at e
        unfold kN
        rw [← e]
        exact ⟨a, b, rfl, h1, h2, s'⟩
      refine ⟨_, rfl, Nat.zero_le _, fun l hl => ?_⟩
      have s2 := Same.new (o := .lst []) s1 hl
      have t2 := Same.new (o := .lst []) (Same.refl H1) hl
      have ha2 := t2.seq ha
      have hb2 := t2.seq hb
      refine ⟨.list (ds.drop n), .list [], .lst ha2 (dpAll_same t2 _ dx1), .lst (SqL.of upd_same) .nil, fair_shaped (fx.sub fun _ h => List.mem_of_mem_drop h), by decide, _, rfl, ?_⟩
      rw [eqv_none]
      by_cases h1 : ds.drop n = []
      · rw [decide_eq_true h1]
        exact iteF (done (.inl h1) _ s2 ha2 hb2)
      · rw [decide_eq_false h1]
        refine iteT ⟨_, rfl, Nat.zero_le _, fun l2 hl2 => ?_⟩
        have s3 := Same.new (o := .lst []) s2 hl2
        have t3 := t2.trans (Same.new (o := .lst []) (Same.refl _) hl2)
        have ha3 := t3.seq ha
        have hb3 := t3.seq hb
        refine ⟨.list (es.drop n), .list [], .lst hb3 (dpAll_same t3 _ dy1), .lst (SqL.of upd_same) .nil, fair_shaped (fy.sub fun _ h => List.mem_of_mem_drop h), by decide, _, rfl, ?_⟩
        rw [eqv_none]
        by_cases h2 : es.drop n = []
        · rw [decide_eq_true h2]
          exact iteF (done (.inr h2) _ s3 ha3 hb3)
        · rw [decide_eq_false h2]
          have n1 : n < ds.length := by
            have := List.length_pos_iff.mpr h1
            rw [List.length_drop] at this; omega
          have n2 : n < es.length := by
            have := List.length_pos_iff.mpr h2
            rw [List.length_drop] at this; omega
          have k1 : ds[n]? = some ds[n] := List.getElem?_eq_getElem n1
          have k2 : es[n]? = some es[n] := List.getElem?_eq_getElem n2
          have k1' : (ds.drop n)[0]? = some ds[n] := by rw [List.getElem?_drop, Nat.add_zero]; exact k1
          have k2' : (es.drop n)[0]? = some es[n] := by rw [List.getElem?_drop, Nat.add_zero]; exact k2
          obtain ⟨v, ev, dv⟩ := DpAll.at (dpAll_same t3 _ dx1) k1'
          obtain ⟨u, eu, du⟩ := DpAll.at (dpAll_same t3 _ dy1) k2'
          have st := cb_step k1 k2
          refine iteT ⟨_, rfl, a, _, 0, v, rfl, rfl, ha3, atI_nat (j := 0) ev, _, rfl, b, _, 0, u, rfl, rfl, hb3, atI_nat (j := 0) eu, _, _, dv, du, (fx _ (List.getElem_mem _)).shaped, (fy _ (List.getElem_mem _)).shaped, _, rfl, ?_⟩
          cases he : PyData.eqv ds[n] es[n] with
          | false =>
            rw [he, if_neg (by decide)] at st
            rw [st, Nat.add_zero] at e
            refine iteF ?_
            unfold kN
            rw [← e]
            exact ⟨a, b, rfl, ha3, hb3, s3⟩
          | true =>
            rw [he, if_pos rfl] at st
            refine iteT ⟨fun σ' H' => ∃ a' b', σ' = [some (.ref a'), some (.ref b')] ∧ SqL K H' a' (xs.drop (n + 1)) ∧ SqL K H' b' (ys.drop (n + 1)) ∧ Same H H', ?_, ?_⟩
            · rintro σ' H' ⟨a', b', rfl, h1, h2, s'⟩
              exact ⟨xs.length - (n + 1), by omega, n + 1, a', b', rfl, rfl, h1, h2, s', by omega⟩
            · refine ⟨_, rfl, 1, rfl, a, _, rfl, ha3, fun p hp => ⟨_, rfl, 1, rfl, b, _, rfl, (Same.new (Same.refl _) hp).seq hb3, fun r hr' => ⟨_, _, rfl, p, r, rfl, SqL.of ?_, SqL.of ?_, Same.new (Same.new s3 hp) hr'⟩⟩⟩
              · rw [upd_ne (ne_of_none upd_same hr'), upd_same, ← List.drop_drop]
                exact congrArg (fun l => some (HO.lst l)) (cutV_lo (xs.drop n) 1)
              · rw [upd_same, ← List.drop_drop]
                exact congrArg (fun l => some (HO.lst l)) (cutV_lo (ys.drop n) 1)
    rintro σ H1 ⟨a1, b1, rfl, ha, hb, s1⟩
    have dX := DpAll.rev (DpAll.drop (kN ds es) (dpAll_same s1 ds dx))
    have dY := DpAll.rev (DpAll.drop (kN ds es) (dpAll_same s1 es dy))
    have fX : Fair (ds.drop (kN ds es)).reverse := fx.sub fun d hd => List.mem_of_mem_drop (List.mem_reverse.mp hd)
    have fY : Fair (es.drop (kN ds es)).reverse := fy.sub fun d hd => List.mem_of_mem_drop (List.mem_reverse.mp hd)
    have ha : SqL K H1 a1 (((xs.drop (kN ds es)).reverse).drop 0).reverse := by rw [List.drop_zero, List.reverse_reverse]; exact ha
    have hb : SqL K H1 b1 (((ys.drop (kN ds es)).reverse).drop 0).reverse := by rw [List.drop_zero, List.reverse_reverse]; exact hb
    have kMe : kM ds es = cb (ds.drop (kN ds es)).reverse (es.drop (kN ds es)).reverse := rfl
    refine ⟨fun σ H' => ∃ a b, σ = [some (.ref a), some (.ref b)] ∧ SqL K H' a (rest (kN ds es) (kM ds es) xs) ∧ SqL K H' b (rest (kN ds es) (kM ds es) ys) ∧ Same H H', ?_, ?_⟩
    · rw [rest_rev, rest_rev, kMe]
      generalize (xs.drop (kN ds es)).reverse = X at *
      generalize (ys.drop (kN ds es)).reverse = Y at *
      generalize (ds.drop (kN ds es)).reverse = D at *
      generalize (es.drop (kN ds es)).reverse = G at *
      have lX := DpAll.len dX
      have lY := DpAll.len dY
      refine ⟨Back K H1 X Y D G, ⟨_, 0, a1, b1, rfl, rfl, ha, hb, Same.refl H1, by simp⟩, ?_⟩
      rintro m σ H2 ⟨n, a, b, rfl, rfl, ha, hb, s2, e⟩
      have tail : ∀ {α : Type} (L : List α) (h : n < L.length), (L.drop n).reverse = (L.drop (n + 1)).reverse ++ [L[n]] := fun L h => by
        rw [List.drop_eq_getElem_cons h, List.reverse_cons]
      have dx1 := DpAll.rev (DpAll.drop n (dpAll_same s2 D dX))
      have dy1 := DpAll.rev (DpAll.drop n (dpAll_same s2 G dY))
      have done : (D.drop n = [] ∨ G.drop n = []) → ∀ H', Same H1 H' → SqL K H' a (X.drop n).reverse → SqL K H' b (Y.drop n).reverse → ∃ a' b', [some (V.ref a), some (V.ref b)] = [some (V.ref a'), some (V.ref b')] ∧ SqL K H' a' (X.drop (cb D G)).reverse ∧ SqL K H' b' (Y.drop (cb D G)).reverse ∧ Same H H' := fun h H' s' h1 h2 => by
        rw [cb_end h, Nat.add_zero] at e
        rw [← e]
        exact ⟨a, b, rfl, h1, h2, s1.trans s'⟩
      have nil_rev : ∀ {α : Type} (L : List α), L.reverse = [] ↔ L = [] := fun L => List.reverse_eq_nil_iff
      refine ⟨_, rfl, Nat.zero_le _, fun l hl => ?_⟩
      have s3 := Same.new (o := .lst []) s2 hl
      have t3 := Same.new (o := .lst []) (Same.refl H2) hl
      have ha2 := t3.seq ha
      have hb2 := t3.seq hb
      refine ⟨.list (D.drop n).reverse, .list [], .lst ha2 (dpAll_same t3 _ dx1), .lst (SqL.of upd_same) .nil, fair_shaped (fX.sub fun _ h => List.mem_of_mem_drop (List.mem_reverse.mp h)), by decide, _, rfl, ?_⟩
      rw [eqv_none]
      by_cases h1 : D.drop n = []
      · rw [decide_eq_true ((nil_rev _).mpr h1)]
        exact iteF (done (.inl h1) _ s3 ha2 hb2)
      · rw [decide_eq_false (fun h => h1 ((nil_rev _).mp h))]
        refine iteT ⟨_, rfl, Nat.zero_le _, fun l2 hl2 => ?_⟩
        have s4 := Same.new (o := .lst []) s3 hl2
        have t4 := t3.trans (Same.new (o := .lst []) (Same.refl _) hl2)
        have ha3 := t4.seq ha
        have hb3 := t4.seq hb
        refine ⟨.list (G.drop n).reverse, .list [], .lst hb3 (dpAll_same t4 _ dy1), .lst (SqL.of upd_same) .nil, fair_shaped (fY.sub fun _ h => List.mem_of_mem_drop (List.mem_reverse.mp h)), by decide, _, rfl, ?_⟩
        rw [eqv_none]
        by_cases h2 : G.drop n = []
        · rw [decide_eq_true ((nil_rev _).mpr h2)]
          exact iteF (done (.inr h2) _ s4 ha3 hb3)
        · rw [decide_eq_false (fun h => h2 ((nil_rev _).mp h))]
          have n1 : n < D.length := by
            have := List.length_pos_iff.mpr h1
            rw [List.length_drop] at this; omega
          have n2 : n < G.length := by
            have := List.length_pos_iff.mpr h2
            rw [List.length_drop] at this; omega
          have k1 : D[n]? = some D[n] := List.getElem?_eq_getElem n1
          have k2 : G[n]? = some G[n] := List.getElem?_eq_getElem n2
          obtain ⟨v, ev, dv⟩ := DpAll.at (dpAll_same (s2.trans t4) _ dX) k1
          obtain ⟨u, eu, du⟩ := DpAll.at (dpAll_same (s2.trans t4) _ dY) k2
          have n3 : n < X.length := by omega
          have n4 : n < Y.length := by omega
          have av : atI (X.drop n).reverse (-1) = some v := by
            rw [tail X n3, atI_last]
            rw [List.getElem?_eq_getElem n3] at ev
            exact ev
          have au : atI (Y.drop n).reverse (-1) = some u := by
            rw [tail Y n4, atI_last]
            rw [List.getElem?_eq_getElem n4] at eu
            exact eu
          have st := cb_step k1 k2
          refine iteT ⟨_, rfl, 1, rfl, a, _, -1, v, rfl, rfl, ha3, av, _, rfl, 1, rfl, b, _, -1, u, rfl, rfl, hb3, au, _, _, dv, du, (fX _ (List.getElem_mem _)).shaped, (fY _ (List.getElem_mem _)).shaped, _, rfl, ?_⟩
          cases he : PyData.eqv D[n] G[n] with
          | false =>
            rw [he, if_neg (by decide)] at st
            rw [st, Nat.add_zero] at e
            refine iteF ?_
            rw [← e]
            exact ⟨a, b, rfl, ha3, hb3, s1.trans s4⟩
          | true =>
            rw [he, if_pos rfl] at st
            refine iteT ⟨fun σ' H' => ∃ a' b', σ' = [some (.ref a'), some (.ref b')] ∧ SqL K H' a' (X.drop (n + 1)).reverse ∧ SqL K H' b' (Y.drop (n + 1)).reverse ∧ Same H1 H', ?_, ?_⟩
            · rintro σ' H' ⟨a', b', rfl, h1, h2, s'⟩
              exact ⟨X.length - (n + 1), by omega, n + 1, a', b', rfl, rfl, h1, h2, s', by omega⟩
            · refine ⟨_, rfl, 1, rfl, -1, rfl, a, _, rfl, ha3, fun p hp => ⟨_, rfl, 1, rfl, -1, rfl, b, _, rfl, (Same.new (Same.refl _) hp).seq hb3, fun r hr' => ⟨_, _, rfl, p, r, rfl, SqL.of ?_, SqL.of ?_, Same.new (Same.new s4 hp) hr'⟩⟩⟩
              · rw [upd_ne (ne_of_none upd_same hr'), upd_same, cutV_last, tail X n3, List.dropLast_concat]
              · rw [upd_same, cutV_last, tail Y n4, List.dropLast_concat]
    rintro σ H2 ⟨a2, b2, rfl, ha, hb, s2⟩
    exact ⟨_, rfl, _, rfl, by show 2 ≤ sizeLine; decide, fun p hp => q p a2 b2 _ (Same.new s2 hp) upd_same ((Same.new (Same.refl H2) hp).seq ha) ((Same.new (Same.refl H2) hp).seq hb)⟩
end
end K8

namespace K8
open PySem L2
abbrev sOf : Stmt := top 24
abbrev sLawWord : Stmt := top 25
abbrev sLawWords : Stmt := top 26
def spOf : Sp := fun vs H Q _ => ∃ (p : Addr) (c : Nat) (a : Addr) (xs : List V), vs = [.ref p, .ref a] ∧ Pool H p c ∧ c ≤ 900000 ∧ H a = some (.lst xs) ∧ a ≠ p ∧ xs ≠ [] ∧ xs.length ≤ 1000 ∧
  ∀ (v : V) (H' : Hp), v ∈ xs → Keep p H H' → Pool H' p (c + 1) → Q v H'
theorem at_mem {xs : List V} {r : Int} (h0 : 0 ≤ r) (h1 : r < (xs.length : Int)) : ∃ v, atI xs r = some v ∧ v ∈ xs := by
  have hk : r.toNat < xs.length := by omega
  refine ⟨xs[r.toNat], at_of (j := r.toNat) (by omega) (List.getElem?_eq_getElem hk), List.getElem_mem hk⟩
theorem lstS_eq (ts : List (List Nat)) : lstS ts = (ts.map S).map V.str := by unfold lstS; rw [List.map_map]; rfl
theorem inS (y : List Nat) (ts : List (List Nat)) : inV (.str (S y)) (lstS ts) = decide (y ∈ ts) := by
  rw [lstS_eq, inV_strs]
  have : S y ∈ ts.map S ↔ y ∈ ts := by
    rw [List.mem_map]
    exact ⟨fun ⟨x, hx, e⟩ => S_inj e ▸ hx, fun h => ⟨y, h, rfl⟩⟩
  by_cases h : y ∈ ts
  · rw [decide_eq_true h, decide_eq_true (this.mpr h)]
  · rw [decide_eq_false h, decide_eq_false fun x => h (this.mp x)]
def abc : List Nat := [97, 98, 99, 100, 101, 102, 103, 104, 105, 106, 107, 108, 109, 110, 111, 112, 113, 114, 115, 116, 117, 118, 119, 120, 121, 122]
/-- what may be taken for a word m -/
def cands (m : List Nat) : List (List Nat) := m :: abc.map fun c => m ++ [c]
theorem cands_lt {m : List Nat} (h : m.all lt = true) : ∀ t ∈ cands m, t.all lt = true ∧ t.length ≤ m.length + 1 := by
  intro t ht
  rcases List.mem_cons.mp ht with rfl | ht
  · exact ⟨h, by omega⟩
  · obtain ⟨c, hc, rfl⟩ := List.mem_map.mp ht
    refine ⟨?_, by simp⟩
    rw [List.all_append, h, Bool.true_and]
    have : abc.all lt = true := all_lt
    simp [List.all_eq_true.mp this c hc]
theorem cands_free {m : List Nat} {tk : List (List Nat)} (h : tk.length ≤ 1) : ((cands m).filter fun t => !decide (t ∈ tk)) ≠ [] := by
  intro e
  have h1 : m ∈ tk := by
    apply Classical.byContradiction
    intro n
    have : m ∈ (cands m).filter fun t => !decide (t ∈ tk) := List.mem_filter.mpr ⟨List.mem_cons_self .., by rw [decide_eq_false n]; rfl⟩
    rw [e] at this
    cases this
  have h2 : m ++ [97] ∈ tk := by
    apply Classical.byContradiction
    intro n
    have : m ++ [97] ∈ (cands m).filter fun t => !decide (t ∈ tk) := List.mem_filter.mpr ⟨List.mem_cons_of_mem _ (List.mem_map.mpr ⟨97, by decide, rfl⟩), by rw [decide_eq_false n]; rfl⟩
    rw [e] at this
    cases this
  cases tk with
  | nil => cases h1
  | cons x l =>
    cases l with
    | nil =>
      have a := List.mem_singleton.mp h1
      have b := List.mem_singleton.mp h2
      have : m.length = (m ++ [97]).length := by rw [b, ← a]
      simp at this
    | cons y l => simp at h
/-- a drawn word that is not taken -/
def spLawWord : Sp := fun vs H Q _ => ∃ (p : Addr) (c : Nat) (a : Addr) (tk : List (List Nat)), vs = [.ref p, .ref a] ∧ Pool H p c ∧ c ≤ 800000 ∧ H a = some (.lst (lstS tk)) ∧ a ≠ p ∧ tk.length ≤ 1 ∧
  ∀ (r : List Nat) (H' : Hp), r.all lt = true → r.length ≤ 12 → Keep p H H' → Pool H' p (c + 12) → Q (.str (S r)) H'
section
variable {P : Program} {w : World} {K : PySem.W.Frag} {mg : Str → Option Value} {base : Heap} {aS : Addr}
theorem scOf : FnScope ["_law_pool_here", "_law_some"] ["_law_pool_here", "_law_some"] (defScope sOf) := ⟨rfl, rfl, rfl, by decide +kernel, rfl, by decide +kernel, by decide +kernel⟩
theorem ok_of {f fP : Addr} {fd fdP : FuncData} (F : Fun K "_law_of" "_law_of" sOf f fd) (T : Mod K mg aS)
    (kP : PySem.W.keepIn K (.ref fP) = true) (GP : FnOk P w K mg base CX0 1 fP fdP ["_law_pool_here", "_law_many"] spPick) (bP : Binds K fdP ["_law_pool_here", "_law_many"] []) (mP : mg "_law_pick" = some (.ref fP)) :
    FnOk P w K mg base CX0 2 f fd ["_law_pool_here", "_law_some"] spOf := by
  refine F.ok scOf (fun vs H Q E h => ?_) (fun cdv A outer s H vs Q E hr h => ?_)
  · obtain ⟨p, c, a, xs, rfl, _⟩ := h
    rfl
  · obtain ⟨p, c, a, xs, rfl, hp, hc, ha, hap, hn, hl, q⟩ := h
    refine ⟨_, pss_one (ps_ret (pe_ix ix_list (pv 1) (pe_call GP hr rfl mP kP bP .nil pass0 (pa_cons (pv 0) (pa_cons (pe_callB call_len_seq (by rfl) T.len PySem.boot_len (pa_cons (pv 1) pa_nil)) pa_nil))) (fun _ _ => rfl))), ?_⟩
    have := List.length_pos_iff.mpr hn
    refine ⟨_, rfl, _, rfl, _, rfl, a, xs, rfl, .inl (SqL.of ha), p, c, _, rfl, hp, by omega, by omega, by omega, fun r H' r0 r1 hk hp' => ?_⟩
    obtain ⟨v, hv, hm⟩ := at_mem r0 r1
    exact ⟨a, xs, r, v, rfl, rfl, SqL.of (hk _ _ hap ha), hv, q v H' hm hk hp'⟩
abbrev nWord : List Str := ["_law_pool_here", "_law_taken", "_law_letters", "_law_many", "_law_wide", "_law_made_here", "_law_k", "_law_letter", "_law_one"]
theorem scLawWord : FnScope nWord ["_law_pool_here", "_law_taken"] (defScope sLawWord) := ⟨rfl, rfl, rfl, by decide +kernel, rfl, by decide +kernel, by decide +kernel⟩
theorem at_many {r : Int} (h0 : 0 ≤ r) (h1 : r < 6) : ∃ m : Nat, 1 ≤ m ∧ m ≤ 11 ∧ atI [V.int 1, V.int 1, V.int 1, V.int 2, V.int 3, V.int 11] r = some (V.int m) := by
  rcases (show r = 0 ∨ r = 1 ∨ r = 2 ∨ r = 3 ∨ r = 4 ∨ r = 5 by omega) with h | h | h | h | h | h <;> subst h
  · exact ⟨1, by decide, by decide, rfl⟩
  · exact ⟨1, by decide, by decide, rfl⟩
  · exact ⟨1, by decide, by decide, rfl⟩
  · exact ⟨2, by decide, by decide, rfl⟩
  · exact ⟨3, by decide, by decide, rfl⟩
  · exact ⟨11, by decide, by decide, rfl⟩
theorem ok_lawWord {f fP : Addr} {fd fdP : FuncData} (F : Fun K "_law_word" "_law_word" sLawWord f fd) (T : Mod K mg aS)
    (kP : PySem.W.keepIn K (.ref fP) = true) (GP : FnOk P w K mg base CX0 1 fP fdP ["_law_pool_here", "_law_many"] spPick) (bP : Binds K fdP ["_law_pool_here", "_law_many"] []) (mP : mg "_law_pick" = some (.ref fP)) :
    FnOk P w K mg base CX0 2 f fd ["_law_pool_here", "_law_taken"] spLawWord := by
  refine F.ok scLawWord (fun vs H Q E h => ?_) (fun cdv A outer s H vs Q E hr h => ?_)
  · obtain ⟨p, c, a, tk, rfl, _⟩ := h
    rfl
  · obtain ⟨p, c, a, tk, rfl, hp, hc, ha, hap, htk, q⟩ := h
    refine ⟨_, pss_cons (ps_set (i := 2) scLawWord.nd rfl (.inr rfl) pe_str)
      (C8.pss_cut (ps_set (i := 3) scLawWord.nd rfl (.inl rfl) (pe_ix ix_list (pe_lst (pa_cons pe_int (pa_cons pe_int (pa_cons pe_int (pa_cons pe_int (pa_cons pe_int (pa_cons pe_int pa_nil))))))) (pe_call GP hr rfl mP kP bP .nil pass0 (pa_cons (pv 0) (pa_cons pe_int pa_nil))) (fun _ _ => rfl)))
      (C8.pss_cut (ps_set (i := 4) scLawWord.nd rfl (.inr rfl) (pe_ifExp (pt_cmpR op_eq (pv 3) pe_int (nomark _)) pe_int pe_int))
      (C8.pss_cut (ps_set (i := 5) scLawWord.nd rfl (.inr rfl) (pe_join pe_str (pe_lc (own := [("_law_k", 6)]) (g := gName 6) (tt := tYes) (by rfl) scLawWord.nd (pi_range1 (by rfl) T.range (pa_cons (pv 3) pa_nil))
        (blkOk_by (own := [("_law_k", 6)]) (N := nWord) (sc := defScope sLawWord) (by decide +kernel)) (fun _ _ _ _ _ => pg_name (i := 6) scLawWord.nd rfl (Or.inl rfl))
        (fun _ _ _ _ _ => pts_nil) (fun _ _ _ _ _ => pe_ix ix_str (pv 2) (pe_call GP hr rfl mP kP bP .nil pass0 (pa_cons (pv 0) (pa_cons (pv 4) pa_nil))) (fun _ _ => rfl)))))
      (pss_one (ps_ret (pe_ix ix_list (pe_lc (own := [("_law_one", 8)]) (g := gName 8) (tt := tTest (tOp (rIn K true) (tVar 8) (tVar 1))) (by rfl) scLawWord.nd (pi_list (pe_op op_cat (pe_lst (pa_cons (pv 5) pa_nil)) (pe_lc (own := [("_law_letter", 7)]) (g := gName 7) (tt := tYes) (by rfl) scLawWord.nd (pi_str (pv 2))
            (blkOk_by (own := [("_law_letter", 7)]) (N := nWord) (sc := defScope sLawWord) (by decide +kernel)) (fun _ _ _ _ _ => pg_name (i := 7) scLawWord.nd rfl (Or.inl rfl)) (fun _ _ _ _ _ => pts_nil) (fun _ _ _ _ _ => pe_op op_add_str (pv 5) (pv 7)))))
          (blkOk_by (own := [("_law_one", 8)]) (N := nWord) (sc := defScope sLawWord) (by decide +kernel)) (fun _ _ _ _ _ => pg_name (i := 8) scLawWord.nd rfl (Or.inl rfl)) (fun _ _ _ _ _ => pts_one (pt_cmpR op_notIn_seq (pv 8) (pv 1) (by rfl))) (fun _ _ _ _ _ => pv 8)) pe_int (fun _ _ => rfl))))))), ?_⟩
    refine ⟨fun σ H' => ∃ m : Nat, 1 ≤ m ∧ m ≤ 11 ∧ σ = [some (.ref p), some (.ref a), some (.str "abcdefghijklmnopqrstuvwxyz"), some (.int m), none, none, none, none, none] ∧ Keep p H H' ∧ Pool H' p (c + 1), ?_, ?_⟩
    · refine ⟨by show 6 ≤ sizeLine; decide, fun l hl => ⟨_, rfl, p, c, 6, rfl, hp.new hl, by omega, by decide, by decide, fun r H2 r0 r1 hk hp2 => ?_⟩⟩
      obtain ⟨m, m1, m2, hm⟩ := at_many r0 r1
      exact ⟨l, _, r, _, rfl, rfl, SqL.of (hk _ _ (pool_ne hp hl) upd_same), hm, m, m1, m2, rfl, ((Keep.refl p H).new hl).trans hk, hp2⟩
    rintro σ H1 ⟨m, m1, m2, rfl, k1, p1⟩
    refine ⟨fun σ H' => ∃ x : Nat, 1 ≤ x ∧ x ≤ 26 ∧ σ = [some (.ref p), some (.ref a), some (.str "abcdefghijklmnopqrstuvwxyz"), some (.int m), some (.int x), none, none, none, none] ∧ H' = H1, ?_, ?_⟩
    · refine ⟨_, rfl, rfl, _, rfl, ite2 (fun _ => ⟨4, by decide, by decide, rfl, rfl⟩) (fun _ => ⟨26, by decide, by decide, rfl, rfl⟩)⟩
    rintro σ H1' ⟨x, x1, x2, rfl, rfl⟩
    refine ⟨fun σ H' => ∃ ls : List Nat, ls.length = m ∧ ls.all lt = true ∧ σ = [some (.ref p), some (.ref a), some (.str "abcdefghijklmnopqrstuvwxyz"), some (.int m), some (.int x), some (.str (S ls)), none, none, none] ∧ Keep p H H' ∧ Pool H' p (c + 1 + m), ?_, ?_⟩
    · refine ⟨⟨_, rfl⟩, _, rfl, m, rfl, by omega, by omega, fun D hD => ?_⟩
      have hDp := pool_ne p1 hD
      refine lc_range (lo := 0) (n := m) (Ones p D H1' (c + 1) lt) ⟨[], rfl, rfl, upd_same, (Keep.refl p H1').new hD, p1.new hD⟩ ?_ ?_
      · intro i H' hi O
        obtain ⟨_, _, _, _, _, pi⟩ := id O
        refine ⟨rfl, ?_⟩
        refine ⟨_, rfl, _, rfl, _, rfl, p, c + 1 + i, x, rfl, pi, by omega, by omega, by omega, fun r H'' r0 r1 hk hp' => ?_⟩
        obtain ⟨d, hd, hl⟩ := at_sign cps_lits all_lt r0 (by simp; omega)
        exact ⟨_, r, d, rfl, rfl, by decide +kernel, hd, O.next hD hDp hk hp' hl hi (by omega)⟩
      · rintro H' ⟨rs, h1, h2, h3, h4, h5⟩
        refine ⟨_, D, (rs.map fun c => [c]).map S, rfl, rfl, .inl (SqL.of (by rw [h3, onesV_eq])), ?_, ?_⟩
        · rw [ones_sum, str_none, S_len]
          simp
          omega
        · rw [str_none, glue, flat_ones]
          exact ⟨rs, h1, h2, rfl, k1.trans h4, h5⟩
    rintro σ H2 ⟨ls, l1, l2, rfl, k2, p2⟩
    have pk2 := k2
    refine ⟨_, rfl, by show 1 ≤ sizeLine; decide, fun m1' hm1 => ⟨_, rfl, _, rfl, fun D hD => ?_⟩⟩
    have h1n : H2 m1' = none := hm1
    refine lc_it walk_str (fun i H' => Same H2 H' ∧ H' m1' = some (.lst [V.str (S ls)]) ∧ H' D = some (.lst (((("abcdefghijklmnopqrstuvwxyz" : Str).cps.toList.take i).map fun c => V.str (S (ls ++ [c])))))) ?_ (fun _ _ _ _ => trivial) ?_ ?_
    · exact ⟨Same.new (Same.new (Same.refl H2) hm1) hD, by rw [upd_ne (ne_of_none upd_same hD)]; exact upd_same, upd_same⟩
    · rintro i x0 H3 H4 hi ⟨s3, h3, h4⟩ ⟨rfl, c0, hc0, rfl⟩
      refine ⟨rfl, ?_⟩
      have hi' : i < 26 := hi
      refine ⟨_, rfl, _, rfl, _, _, rfl, rfl, ?_, _, h4, ?_, fun b o e => ?_, ?_, ?_⟩
      · rw [S_len]
        show ls.length + 1 ≤ sizeLine
        exact line_ge (by omega)
      · rw [List.length_map, List.length_take]
        exact Nat.lt_of_lt_of_le (show _ < 1000 by omega) (by decide)
      · rw [upd_ne (ne_of_none ((Same.new (o := .lst [V.str (S ls)]) (Same.refl H2) hm1) _ _ e |> fun z => by
          exact z) hD)]
        exact s3 b o e
      · rw [upd_ne (ne_of_none upd_same hD)]; exact h3
      · have : S ls ++ (⟨#[c0]⟩ : Str) = S (ls ++ [c0]) := S_app ls [c0]
        rw [upd_same, this, ← take_more (fun c => V.str (S (ls ++ [c]))) (cps_at hc0)]
    · rintro H3 ⟨s3, h3, h4⟩
      have e26 : ("abcdefghijklmnopqrstuvwxyz" : Str).cps.toList.take ("abcdefghijklmnopqrstuvwxyz" : Str).cps.size = abc := by
        rw [List.take_of_length_le (by simp), cps_lits]
        rfl
      have key : ([V.str (S ls)] : List V) ++ ((("abcdefghijklmnopqrstuvwxyz" : Str).cps.toList.take ("abcdefghijklmnopqrstuvwxyz" : Str).cps.size).map fun c => V.str (S (ls ++ [c]))) = lstS (cands ls) := by
        rw [e26]
        unfold lstS cands
        rw [List.map_cons, List.map_map]
        rfl
      have hap2 : H2 a = some (.lst (lstS tk)) := k2 _ _ hap ha
      refine ⟨m1', D, _, _, rfl, rfl, h3, h4, ?_, fun L hL => ⟨L, rfl, ⟨_, SqL.of upd_same⟩, fun D2 hD2 => ?_⟩⟩
      · rw [e26]
        show 1 + 26 ≤ sizeLine
        decide
      rw [key] at hD2 ⊢
      have t0 : Same H2 (upd H3 L (.lst (lstS (cands ls)))) := Same.new s3 hL
      have hcl : (lstS (cands ls)).length = 27 := by unfold lstS; rw [List.length_map]; rfl
      refine lc_list (K := K) (a := L) (xs := lstS (cands ls)) (fun i H' => Same (upd H3 L (.lst (lstS (cands ls)))) H' ∧ H' D2 = some (.lst (lstS (((cands ls).take i).filter fun t => !decide (t ∈ tk))))) ⟨Same.new (Same.refl _) hD2, upd_same⟩ (fun i H' _ ⟨s', _⟩ => SqL.of (s' _ _ upd_same)) ?_ ?_
      · rintro i y H5 hi ⟨s5, h5⟩
        obtain ⟨r, hr0, rfl⟩ := lst_at hi
        have hi27 : i < 27 := (List.getElem?_eq_some_iff.mp hr0).1
        refine ⟨rfl, ?_⟩
        refine ⟨_, rfl, _, rfl, a, _, rfl, .inl (SqL.of (s5 _ _ (t0 _ _ hap2))), rfl, (by rw [lstS_eq]; exact flat_strs _), _, rfl, ?_⟩
        show if (!inV (.str (S r)) (lstS tk)) = true then _ else _
        rw [inS]
        have tk1 : (cands ls).take (i + 1) = (cands ls).take i ++ [r] := by rw [List.take_add_one, hr0]; rfl
        by_cases hm : r ∈ tk
        · rw [decide_eq_true hm]
          refine iteF ⟨s5, ?_⟩
          rw [tk1, List.filter_append, List.filter_cons_of_neg (by rw [decide_eq_true hm]; decide), List.filter_nil, List.append_nil]
          exact h5
        · rw [decide_eq_false hm]
          refine iteT ⟨_, rfl, _, h5, ?_, Same.put s5 hD2, ?_⟩
          · refine lst_short (n := 27) ?_ (by decide)
            refine Nat.le_trans (List.length_filter_le _ _) ?_
            rw [List.length_take]; omega
          · rw [upd_same, lstS_add, tk1, List.filter_append, List.filter_cons_of_pos (by rw [decide_eq_false hm]; rfl), List.filter_nil]
      · rintro H5 ⟨s5, h5⟩
        rw [hcl, List.take_of_length_le (show (cands ls).length ≤ 27 from Nat.le_refl _)] at h5
        have hn := cands_free (m := ls) htk
        cases hL2 : (cands ls).filter fun t => !decide (t ∈ tk) with
        | nil => exact absurd hL2 hn
        | cons r rs =>
          rw [hL2] at h5
          have hr0 : r ∈ cands ls := (List.mem_filter.mp (by rw [hL2]; exact List.mem_cons_self ..)).1
          obtain ⟨r1, r2⟩ := cands_lt l2 r hr0
          refine ⟨D2, _, 0, _, rfl, rfl, SqL.of h5, atI_nat (j := 0) rfl, q r H5 r1 (by omega) (k2.trans (Same.keep (t0.trans s5))) ((p2.same (t0.trans s5)).mono (by omega))⟩
end
end K8

namespace K8
open PySem L2
abbrev sTokens : Stmt := top 27
/-- short rows of small signs -/
def Tiny (ts : List (List Nat)) : Prop := ∀ r ∈ ts, r.length ≤ 12 ∧ ∀ c ∈ r, c < 128
theorem lt_tiny {r : List Nat} (h : r.all lt = true) (hl : r.length ≤ 12) : r.length ≤ 12 ∧ ∀ c ∈ r, c < 128 := ⟨hl, fun c hc => by
  have := List.all_eq_true.mp h c hc
  unfold lt at this
  rw [Bool.and_eq_true] at this
  have := of_decide_eq_true this.2
  omega⟩
def spLawWords : Sp := fun vs H Q _ => ∃ (p : Addr) (c : Nat) (a : Addr), vs = [.ref p, .int 2, .ref a] ∧ Pool H p c ∧ c ≤ 700000 ∧ H a = some (.lst []) ∧ a ≠ p ∧
  ∀ (D : Addr) (ts : List (List Nat)) (H' : Hp), H D = none → H' D = some (.lst (lstS ts)) → ts.length = 2 → Tiny ts → Keep p H H' → Pool H' p (c + 24) → Q (.ref D) H'
def spTokens : Sp := fun vs H Q _ => ∃ (p : Addr) (c : Nat), vs = [.ref p, .int 12] ∧ Pool H p c ∧ c ≤ 600000 ∧
  ∀ (D : Addr) (ts : List (List Nat)) (H' : Hp), H D = none → D ≠ p → H' D = some (.lst (lstS ts)) → ts.length ≤ 12 → Tiny ts → Keep p H H' → Pool H' p (c + 60) → Q (.ref D) H'
section
variable {P : Program} {w : World} {K : PySem.W.Frag} {mg : Str → Option Value} {base : Heap} {aS : Addr}
theorem scLawWords : FnScope ["_law_pool_here", "_law_many", "_law_taken", "_law_found", "_law_k"] ["_law_pool_here", "_law_many", "_law_taken"] (defScope sLawWords) := ⟨rfl, rfl, rfl, by decide +kernel, rfl, by decide +kernel, by decide +kernel⟩
theorem ok_lawWords {f fW : Addr} {fd fdW : FuncData} (F : Fun K "_law_words" "_law_words" sLawWords f fd) (T : Mod K mg aS)
    (kW : PySem.W.keepIn K (.ref fW) = true) (GW : FnOk P w K mg base CX0 2 fW fdW ["_law_pool_here", "_law_taken"] spLawWord) (bW : Binds K fdW ["_law_pool_here", "_law_taken"] []) (mW : mg "_law_word" = some (.ref fW)) :
    FnOk P w K mg base CX0 3 f fd ["_law_pool_here", "_law_many", "_law_taken"] spLawWords := by
  refine F.ok scLawWords (fun vs H Q E h => ?_) (fun cdv A outer s H vs Q E hr h => ?_)
  · obtain ⟨p, c, a, rfl, _⟩ := h
    rfl
  · obtain ⟨p, c, a, rfl, hp, hc, ha, hap, q⟩ := h
    refine ⟨_, pss_cons (ps_set (i := 3) scLawWords.nd rfl (.inl rfl) (pe_lst pa_nil))
      (pss_cons (ps_for PassesOwn.never rfl (pi_range1 (by rfl) T.range (pa_cons (pv 1) pa_nil)) (pg_name (i := 4) scLawWords.nd rfl (.inl rfl))
        (pss_one (ps_expr (pe_bm PySem.F.plainAttrs_list PySem.F.slot_list_append PySem.F.type_list_append mt_append (pv 3) (pa_cons (pe_call GW hr rfl mW kW bW .nil pass0 (pa_cons (pv 0) (pa_cons (pe_op op_cat (pv 2) (pv 3)) pa_nil))) pa_nil)))))
      (pss_one (ps_ret (pv 3)))), ?_⟩
    refine ⟨Nat.zero_le _, fun D hD => ⟨_, rfl, 2, rfl, by decide, by decide, for_range (lo := 0) (n := 2) (fun i σ H' => ∃ (v : Option V) (ts : List (List Nat)), σ = [some (.ref p), some (.int 2), some (.ref a), some (.ref D), v] ∧ ts.length = i ∧ Tiny ts ∧ H' D = some (.lst (lstS ts)) ∧ Keep p H H' ∧ Pool H' p (c + 12 * i))
      ⟨none, [], rfl, rfl, fun _ h => (nomatch h), upd_same, (Keep.refl p H).new hD, hp.new hD⟩ ?_ ?_⟩⟩
    · rintro i σ H1 hi ⟨v, ts, rfl, ht, hty, h1, k1, p1⟩
      have hDp : D ≠ p := pool_ne hp hD
      have hDa : a ≠ D := ne_of_none ha hD
      have ha1 := k1 _ _ hap ha
      refine ⟨_, rfl, .inl ⟨rfl, _, SqL.of h1⟩, _, rfl, _, rfl, _, rfl, a, D, [], _, rfl, rfl, ha1, h1, ?_, fun L hL => ?_⟩
      · unfold lstS; rw [List.length_map]; exact line_ge (by show 0 + ts.length ≤ _; omega)
      refine ⟨p, c + 12 * i, L, ts, rfl, p1.new hL, by omega, upd_same, pool_ne p1 hL, by omega, fun r H2 r1 r2 k2 p2 => ?_⟩
      have h2 : H2 D = some (.lst (lstS ts)) := k2 _ _ hDp (by rw [upd_ne (ne_of_none h1 hL)]; exact h1)
      refine ⟨D, _, _, rfl, rfl, h2, lst_short (n := i) (by omega) (by omega), _, ts ++ [r], rfl, by simp [ht], ?_, by rw [upd_same, lstS_add], ?_, (p2.other (Ne.symm hDp)).mono (by omega)⟩
      · intro x hx
        rcases List.mem_append.mp hx with hx | hx
        · exact hty x hx
        · rw [List.mem_singleton.mp hx]; exact lt_tiny r1 r2
      · intro b o n e
        rw [upd_ne (ne_of_none e hD)]
        exact ((k1.new hL).trans k2) b o n e
    · rintro σ H1 ⟨v, ts, rfl, ht, hty, h1, k1, p1⟩
      exact ⟨_, rfl, q D ts H1 hD h1 ht hty k1 p1⟩
abbrev nTok : List Str := ["_law_pool_here", "_law_many", "_law_menu", "_law_k"]
theorem scTok : FnScope nTok ["_law_pool_here", "_law_many"] (defScope sTokens) := ⟨rfl, rfl, rfl, by decide +kernel, rfl, by decide +kernel, by decide +kernel⟩
theorem mem_lst {v : V} {ts : List (List Nat)} (h : v ∈ lstS ts) : ∃ r ∈ ts, v = V.str (S r) := by
  unfold lstS at h
  obtain ⟨r, hr, e⟩ := List.mem_map.mp h
  exact ⟨r, hr, e.symm⟩
def menu10 : List (List Nat) := [[61], [59], [44], [91], [93], [97], [98], [121, 101, 115], [48], [49, 50]]
theorem menu10_eq : [V.str "=", V.str ";", V.str ",", V.str "[", V.str "]", V.str "a", V.str "b", V.str "yes", V.str "0", V.str "12"] = lstS menu10 := by decide +kernel
def menu5 : List (List Nat) := [[97], [98], [61], [59], [48]]
theorem menu5_eq : [V.str "a", V.str "b", V.str "=", V.str ";", V.str "0"] = lstS menu5 := by decide +kernel
theorem tiny10 : Tiny menu10 := by unfold Tiny menu10; decide
theorem tiny5 : Tiny menu5 := by unfold Tiny menu5; decide
theorem Tiny.app {ts us : List (List Nat)} (h : Tiny ts) (h' : Tiny us) : Tiny (ts ++ us) := fun r hr => (List.mem_append.mp hr).elim (h r) (h' r)
theorem ok_tokens {f fP fO fW : Addr} {fd fdP fdO fdW : FuncData} (F : Fun K "_law_tokens" "_law_tokens" sTokens f fd) (T : Mod K mg aS)
    (kP : PySem.W.keepIn K (.ref fP) = true) (GP : FnOk P w K mg base CX0 1 fP fdP ["_law_pool_here", "_law_many"] spPick) (bP : Binds K fdP ["_law_pool_here", "_law_many"] []) (mP : mg "_law_pick" = some (.ref fP))
    (kO : PySem.W.keepIn K (.ref fO) = true) (GO : FnOk P w K mg base CX0 2 fO fdO ["_law_pool_here", "_law_some"] spOf) (bO : Binds K fdO ["_law_pool_here", "_law_some"] []) (mO : mg "_law_of" = some (.ref fO))
    (kW : PySem.W.keepIn K (.ref fW) = true) (GW : FnOk P w K mg base CX0 3 fW fdW ["_law_pool_here", "_law_many", "_law_taken"] spLawWords) (bW : Binds K fdW ["_law_pool_here", "_law_many", "_law_taken"] []) (mW : mg "_law_words" = some (.ref fW)) :
    FnOk P w K mg base CX0 4 f fd ["_law_pool_here", "_law_many"] spTokens := by
  refine F.ok scTok (fun vs H Q E h => ?_) (fun cdv A outer s H vs Q E hr h => ?_)
  · obtain ⟨p, c, rfl, _⟩ := h
    rfl
  · obtain ⟨p, c, rfl, hp, hc, q⟩ := h
    have hr1 : Room 1 _ := hr.mono (by decide)
    have hr2 : Room 2 _ := hr.mono (by decide)
    refine ⟨_, C8.pss_cut (ps_set (i := 2) scTok.nd rfl (.inr rfl) (pe_op op_cat (pe_lst (pa_cons pe_str (pa_cons pe_str (pa_cons pe_str (pa_cons pe_str (pa_cons pe_str (pa_cons pe_str (pa_cons pe_str (pa_cons pe_str (pa_cons pe_str (pa_cons pe_str pa_nil))))))))))) (pe_call GW hr rfl mW kW bW .nil pass0 (pa_cons (pv 0) (pa_cons pe_int (pa_cons (pe_lst pa_nil) pa_nil))))))
      (C8.pss_cut (ps_if (pt_cmpR op_eq (pe_call GP hr1 rfl mP kP bP .nil pass0 (pa_cons (pv 0) (pa_cons pe_int pa_nil))) pe_int (nomark _))
          (pss_one (ps_set (i := 2) scTok.nd rfl (.inr rfl) (pe_lst (pa_cons (pe_call GO hr2 rfl mO kO bO .nil pass0 (pa_cons (pv 0) (pa_cons (pv 2) pa_nil))) (pa_cons (pe_call GO hr2 rfl mO kO bO .nil pass0 (pa_cons (pv 0) (pa_cons (pe_lst (pa_cons pe_str (pa_cons pe_str (pa_cons pe_str (pa_cons pe_str (pa_cons pe_str pa_nil)))))) pa_nil))) pa_nil))))) pss_nil)
      (pss_one (ps_ret (pe_lc (own := [("_law_k", 3)]) (g := gName 3) (tt := tYes) (by rfl) scTok.nd (pi_range1 (by rfl) T.range (pa_cons (pe_call GP hr1 rfl mP kP bP .nil pass0 (pa_cons (pv 0) (pa_cons (pe_op op_add (pv 1) pe_int) pa_nil))) pa_nil))
        (blkOk_by (own := [("_law_k", 3)]) (N := nTok) (sc := defScope sTokens) (by decide +kernel)) (fun _ _ _ _ _ => pg_name (i := 3) scTok.nd rfl (Or.inl rfl)) (fun _ _ _ _ _ => pts_nil)
        (fun _ _ _ _ _ => pe_call GO hr2 rfl mO kO bO .nil pass0 (pa_cons (pv 0) (pa_cons (pv 2) pa_nil))))))), ?_⟩
    refine ⟨fun σ H' => ∃ (M : Addr) (ts : List (List Nat)), σ = [some (.ref p), some (.int 12), some (.ref M), none] ∧ H' M = some (.lst (lstS ts)) ∧ M ≠ p ∧ ts ≠ [] ∧ ts.length ≤ 12 ∧ Tiny ts ∧ Keep p H H' ∧ Pool H' p (c + 24), ?_, ?_⟩
    · refine ⟨by show 10 ≤ sizeLine; decide, fun l hl => ⟨_, rfl, Nat.zero_le _, fun e he => ?_⟩⟩
      refine ⟨p, c, e, rfl, (hp.new hl).new he, by omega, upd_same, pool_ne (hp.new hl) he, fun D ts H2 hD hD2 htl hty k2 p2 => ?_⟩
      have hlp := pool_ne hp hl
      have hl2 := k2 _ _ hlp (by rw [upd_ne (ne_of_none upd_same he)]; exact upd_same)
      refine ⟨l, D, _, _, rfl, rfl, hl2, hD2, ?_, fun M hM => ⟨M, menu10 ++ ts, rfl, ?_, pool_ne p2 hM, by simp [menu10], by rw [List.length_append, htl]; decide, tiny10.app hty, (((Keep.refl p H).new hl).new he).trans (k2.new hM), p2.new hM⟩⟩
      · unfold lstS; rw [List.length_map, htl]; show 10 + 2 ≤ sizeLine; decide
      · rw [upd_same, menu10_eq]
        unfold lstS
        rw [List.map_append]
    rintro σ H1 ⟨M, ts, rfl, hM, hMp, htn, htl, hty, k1, p1⟩
    refine ⟨fun σ H' => ∃ (M : Addr) (ts : List (List Nat)), σ = [some (.ref p), some (.int 12), some (.ref M), none] ∧ H' M = some (.lst (lstS ts)) ∧ M ≠ p ∧ ts ≠ [] ∧ ts.length ≤ 12 ∧ Tiny ts ∧ Keep p H H' ∧ Pool H' p (c + 27), ?_, ?_⟩
    · refine ⟨_, rfl, p, c + 24, 2, rfl, p1, by omega, by decide, by decide, fun r H2 r0 r1 k2 p2 => ⟨rfl, _, rfl, ite2 (fun _ => ?_) (fun _ => ⟨M, ts, rfl, k2 _ _ hMp hM, hMp, htn, htl, hty, k1.trans k2, p2.mono (by omega)⟩)⟩⟩
      have hM2 := k2 _ _ hMp hM
      have nn : ∀ us : List (List Nat), us ≠ [] → lstS us ≠ [] := fun us h e => h (List.map_eq_nil_iff.mp e)
      have ll : ∀ us : List (List Nat), us.length ≤ 12 → (lstS us).length ≤ 1000 := fun us h => by unfold lstS; rw [List.length_map]; omega
      refine ⟨_, rfl, _, rfl, p, c + 25, M, _, rfl, p2.mono (by omega), by omega, hM2, hMp, nn _ htn, ll _ htl, fun v H3 hv k3 p3 => ?_⟩
      obtain ⟨x, hx, rfl⟩ := mem_lst hv
      refine ⟨_, rfl, by show 5 ≤ sizeLine; decide, fun l hl => ?_⟩
      refine ⟨p, c + 26, l, lstS menu5, rfl, p3.new hl, by omega, by rw [upd_same, menu5_eq], pool_ne p3 hl, nn _ (by decide), ll _ (by decide), fun v H4 hv k4 p4 => ?_⟩
      obtain ⟨y, hy, rfl⟩ := mem_lst hv
      refine ⟨by show 2 ≤ sizeLine; decide, fun N hN => ⟨N, [x, y], rfl, upd_same, pool_ne p4 hN, by simp, by simp, ?_, (((k1.trans k2).trans k3).new hl).trans (k4.new hN), p4.new hN⟩⟩
      intro z hz
      rcases List.mem_cons.mp hz with rfl | hz
      · exact hty _ hx
      · rw [List.mem_singleton.mp hz]; exact tiny5 _ hy
    rintro σ H2 ⟨M, ts, rfl, hM, hMp, htn, htl, hty, k2, p2⟩
    refine ⟨_, rfl, _, rfl, 12, 1, rfl, rfl, p, c + 27, 13, rfl, p2, by omega, by decide, by decide, fun n H3 n0 n1 k3 p3 => ⟨n, rfl, by omega, by omega, fun D hD => ?_⟩⟩
    have hDp := pool_ne p3 hD
    have hM3 := k3 _ _ hMp hM
    have hDM : M ≠ D := ne_of_none hM3 hD
    refine lc_range (lo := 0) (n := n.toNat) (fun i H' => ∃ us : List (List Nat), us.length = i ∧ Tiny us ∧ H' D = some (.lst (lstS us)) ∧ Keep p H3 H' ∧ Pool H' p (c + 28 + i)) ⟨[], rfl, fun _ h => (nomatch h), upd_same, (Keep.refl p H3).new hD, p3.new hD⟩ ?_ ?_
    · rintro i H' hi ⟨us, a1, a2, a3, a4, a5⟩
      refine ⟨rfl, ?_⟩
      refine ⟨_, rfl, _, rfl, p, c + 28 + i, M, _, rfl, a5, by omega, a4 _ _ hMp hM3, hMp, (fun e => htn (List.map_eq_nil_iff.mp e)), by unfold lstS; rw [List.length_map]; omega, fun v H4 hv k4 p4 => ?_⟩
      obtain ⟨x, hx, rfl⟩ := mem_lst hv
      refine ⟨_, k4 _ _ hDp a3, lst_short (n := i) (by omega) (by omega), us ++ [x], by simp [a1], ?_, by rw [upd_same, lstS_add], ?_, (p4.mono (by omega)).other (Ne.symm hDp)⟩
      · intro z hz
        rcases List.mem_append.mp hz with hz | hz
        · exact a2 z hz
        · rw [List.mem_singleton.mp hz]; exact hty _ hx
      · intro b o n' e
        rw [upd_ne (ne_of_none e hD)]
        exact k4 b o n' (a4 b o n' e)
    · rintro H' ⟨us, a1, a2, a3, a4, a5⟩
      exact q D us H' ((k2.trans k3).free hDp hD) hDp a3 (by omega) a2 ((k2.trans k3).trans a4) (a5.mono (by omega))
end
end K8

namespace L2
open PySem PySem.Spec PyProof.Rows
/-- a text many times (twice or more) -/
def mulS (a : Str) (n : Nat) : Str := ⟨(List.replicate n a.cps).foldl (· ++ ·) #[]⟩
def rMulS : R2 := fun x y H Q => ∃ (a : Str) (n : Nat), x = .str a ∧ y = .int n ∧ 2 ≤ n ∧ n ≤ 1000 ∧ 1 ≤ a.length ∧ a.length ≤ 1000 ∧ (mulS a n).length ≤ sizeLine ∧ Q (.str (mulS a n)) H
theorem op_mulS {X : Cx} : OpR X (binaryOp .Mult) rMulS := by
  intro pins s σ H x y v u Q I rx ry h
  obtain ⟨a, n, rfl, rfl, h1, h2, h3, h4, h5, q⟩ := h
  obtain ⟨t, rfl⟩ := rx
  obtain ⟨t2, rfl⟩ := ry
  have hn : ((n : Int) == 1 || a.length == 0) = false := by
    rw [Bool.or_eq_false_iff]
    exact ⟨beq_eq_false_iff_ne.mpr (by omega), beq_eq_false_iff_ne.mpr (by omega)⟩
  refine P.mul_str ?_ (fun _ _ => ?_) (fun _ _ => ?_) ?_
  · rw [decide_eq_false (by omega), decide_eq_false (by omega)]
    rfl
  · intro h
    have n0 : (0 : Int) < (n : Int) := Int.natCast_pos.mpr (Nat.lt_of_lt_of_le (by decide) h1)
    have b : a.length * n ≤ 1000 * 1000 := Nat.mul_le_mul h4 h2
    have c : ((a.length : Int)) * (n : Int) ≤ 1000000 := by
      rw [← Int.natCast_mul]
      exact Int.ofNat_le.mpr b
    have d := Int.lt_mul_of_ediv_lt n0 h
    exact absurd (Int.lt_of_lt_of_le d c) (by decide)
  · show decide _ = false
    refine decide_eq_false ?_
    have : a.length * (n : Int).toNat ≤ 1000 * 1000 := Nat.mul_le_mul h4 (by omega)
    have h6 : (1000 * 1000 : Nat) ≤ sizeLine := by decide
    omega
  · rw [if_neg (by omega), if_neg (by rw [hn]; decide), Int.toNat_natCast]
    exact ⟨h5, .str (mulS a n), H, I.tok _, ⟨_, rfl⟩, q⟩
end L2

namespace K8
open PySem L2
abbrev sParts : Stmt := top 28
/-- whether repr and == can be asked: for data that are known -/
def fairB (d : PyData) : Bool := d.canLay0 && (decide (d.depth ≤ 10) && (d.showable && (!d.hasDict && decide (d.shown.length ≤ 400))))
theorem fair_of {d : PyData} (h : fairB d = true) : Fair1 d := by
  unfold fairB at h
  simp only [Bool.and_eq_true, Bool.not_eq_true', decide_eq_true_eq] at h
  exact ⟨h.1, h.2.1, h.2.2.1, h.2.2.2.1, h.2.2.2.2⟩
theorem fair_idx {i : Nat} (h : i < 16) : Fair1 (.int i) := by
  refine fair_of ?_
  revert i
  decide +kernel
def tokens7 : List Str := ["=", ";", ",", "a", "b", "12", "0"]
/-- the parts of a slip: sound ones, or such as are refused -/
def spParts (K : PySem.W.Frag) : Sp := fun vs H Q _ => ∃ (p : Addr) (c : Nat), vs = [.ref p] ∧ Pool H p c ∧ c ≤ 500000 ∧
  (∀ (q : Addr) (z : Str) (i : Nat) (o : Option Str) (H' : Hp), z ∈ kinds → i < 16 → (z = "written" → ∃ y ∈ tokens7, o = some y) → (z ≠ "written" → o = none) → Keep p H H' → Pool H' p (c + 10) → H' q = some (.tup [.str z, .int i, tokV o, .bl true]) → Q (.ref q) H') ∧
  (∀ (q : Addr) (k a t : V) (ok : Option Str) (n : Option Int) (ot : Option Str) (d : PyData) (H' : Hp), Thing K H' k ok → AtOk K H' a n → Thing K H' t ot → goodSlip ok n ot t = false → Dp K H' a d → Fair1 d → Keep p H H' → Pool H' p (c + 10) → H' q = some (.tup [k, a, t, .bl false]) → Q (.ref q) H')
theorem bad_kind {ok : Option Str} {n : Option Int} {ot : Option Str} {t : V} (h : ∀ z, ok = some z → z ∉ kinds) : goodSlip ok n ot t = false := by
  cases ok with
  | none => rfl
  | some z =>
    unfold goodSlip
    rw [Option.elim, decide_eq_false (h z rfl), Bool.false_and]
theorem bad_at {ok : Option Str} {n : Option Int} {ot : Option Str} {t : V} (h : ∀ i, n = some i → i < 0) : goodSlip ok n ot t = false := by
  cases ok with
  | none => rfl
  | some z =>
    cases n with
    | none => unfold goodSlip; simp
    | some i =>
      unfold goodSlip
      simp [h i rfl]
theorem bad_token {i : Option Int} {ot : Option Str} {t : V} (h : ot.elim V.non sortV = V.non) : goodSlip (some "written") i ot t = false := by
  unfold goodSlip
  cases i with
  | none => simp
  | some i => simp [h]
theorem bad_none {z : Str} {i : Option Int} {ot : Option Str} {t : V} (hz : z ≠ "written") (h : t ≠ .non) : goodSlip (some z) i ot t = false := by
  unfold goodSlip
  cases i with
  | none => simp
  | some i => simp [h, hz]
section
variable {K : PySem.W.Frag} {H : Hp}
theorem thing_str (z : Str) (h : z.length ≤ 1000) : Thing K H (.str z) (some z) := .inl ⟨z, rfl, rfl, Nat.le_trans h (by decide)⟩
theorem thing_non : Thing K H .non none := .inr ⟨rfl, _, .non, kit_ty (by decide +kernel)⟩
theorem thing_int (i : Int) : Thing K H (.int i) none := .inr ⟨rfl, _, .int i, kit_ty (by decide +kernel)⟩
theorem thing_bl (b : Bool) : Thing K H (.bl b) none := .inr ⟨rfl, _, .bl b, kit_ty (by decide +kernel)⟩
theorem thing_lst {l : Addr} {xs : List V} (h : H l = some (.lst xs)) : Thing K H (.ref l) none := .inr ⟨rfl, _, .lst h, kit_ty (by decide +kernel)⟩
theorem thing_tok (o : Option Str) (h : ∀ y, o = some y → y.length ≤ 1000) : Thing K H (tokV o) o := by
  cases o with
  | none => exact thing_non
  | some y => exact thing_str y (h y rfl)
/-- kinds that are none -/
theorem odd_kind {l : Addr} (h : H l = some (.lst [.str "left"])) {v : V} (hv : v ∈ [V.str "word", V.str "Left", V.str "", V.non, V.int 1, V.ref l]) : ∃ ok, Thing K H v ok ∧ ∀ z, ok = some z → z ∉ kinds := by
  simp only [List.mem_cons, List.not_mem_nil, or_false] at hv
  rcases hv with rfl | rfl | rfl | rfl | rfl | rfl
  · exact ⟨_, thing_str _ (by decide), fun z e => by cases e; decide +kernel⟩
  · exact ⟨_, thing_str _ (by decide), fun z e => by cases e; decide +kernel⟩
  · exact ⟨_, thing_str _ (by decide), fun z e => by cases e; decide +kernel⟩
  · exact ⟨_, thing_non, fun z e => by cases e⟩
  · exact ⟨_, thing_int 1, fun z e => by cases e⟩
  · exact ⟨_, thing_lst h, fun z e => by cases e⟩
/-- indexes that are none -/
theorem odd_at {l : Addr} (h : H l = some (.tup [.int 1])) {v : V} (hv : v ∈ [V.int (-1), V.bl true, V.bl false, V.non, V.str "0", V.ref l, V.int (-(10 ^ 20))]) : ∃ n d, AtOk K H v n ∧ (∀ i, n = some i → i < 0) ∧ Dp K H v d ∧ Fair1 d := by
  simp only [List.mem_cons, List.not_mem_nil, or_false] at hv
  rcases hv with rfl | rfl | rfl | rfl | rfl | rfl | rfl
  · exact ⟨some (-1), .int (-1), .inl ⟨_, rfl, rfl⟩, fun i e => (by cases e; decide), .int _, fair_of (by decide +kernel)⟩
  · exact ⟨none, .bool true, .inr ⟨rfl, _, .bl true, .inl rfl⟩, fun i e => (nomatch e), .bl _, fair_of (by decide +kernel)⟩
  · exact ⟨none, .bool false, .inr ⟨rfl, _, .bl false, .inl rfl⟩, fun i e => (nomatch e), .bl _, fair_of (by decide +kernel)⟩
  · exact ⟨none, .none, .inr ⟨rfl, _, .non, .inr (kit_ty (by decide +kernel))⟩, fun i e => (nomatch e), .non, fair_of (by decide +kernel)⟩
  · exact ⟨none, .str "0", .inr ⟨rfl, _, .str "0", .inr (kit_ty (by decide +kernel))⟩, fun i e => (nomatch e), .str _, fair_of (by decide +kernel)⟩
  · exact ⟨none, .tuple [.int 1], .inr ⟨rfl, _, .tup h, .inr (kit_ty (by decide +kernel))⟩, fun i e => (nomatch e), .tup (SqT.of h) (.cons (.int 1) .nil), fair_of (by decide +kernel)⟩
  · exact ⟨some (-(10 ^ 20)), .int (-(10 ^ 20)), .inl ⟨_, rfl, rfl⟩, fun i e => (by cases e; decide), .int _, fair_of (by decide +kernel)⟩
/-- tokens that are none -/
theorem odd_token {l : Addr} (h : H l = some (.lst [.str "a"])) {v : V} (hv : v ∈ [V.non, V.str "", V.str "A", V.str "a b", V.int 7, V.str "07", V.bl true, V.str (mulS "a" 13), V.ref l]) : ∃ ot, Thing K H v ot ∧ ot.elim V.non sortV = V.non := by
  simp only [List.mem_cons, List.not_mem_nil, or_false] at hv
  rcases hv with rfl | rfl | rfl | rfl | rfl | rfl | rfl | rfl | rfl
  · exact ⟨none, thing_non, rfl⟩
  · exact ⟨_, thing_str _ (by decide), by decide +kernel⟩
  · exact ⟨_, thing_str _ (by decide), by decide +kernel⟩
  · exact ⟨_, thing_str _ (by decide), by decide +kernel⟩
  · exact ⟨none, thing_int 7, rfl⟩
  · exact ⟨_, thing_str _ (by decide), by decide +kernel⟩
  · exact ⟨none, thing_bl true, rfl⟩
  · exact ⟨_, thing_str _ (by decide +kernel), by decide +kernel⟩
  · exact ⟨none, thing_lst h, rfl⟩
/-- what stands in None's place -/
theorem odd_none {v : V} (hv : v ∈ [V.str "a", V.str "", V.int 0, V.bl false, V.str ";"]) : ∃ ot, Thing K H v ot ∧ v ≠ .non := by
  simp only [List.mem_cons, List.not_mem_nil, or_false] at hv
  rcases hv with rfl | rfl | rfl | rfl | rfl
  · exact ⟨_, thing_str _ (by decide), by simp⟩
  · exact ⟨_, thing_str _ (by decide), by simp⟩
  · exact ⟨none, thing_int 0, by simp⟩
  · exact ⟨none, thing_bl false, by simp⟩
  · exact ⟨_, thing_str _ (by decide), by simp⟩
end
theorem kind_mem {v : V} (hv : v ∈ [V.str "left", V.str "doubled", V.str "swapped", V.str "written", V.str "written"]) : ∃ z, v = .str z ∧ z ∈ kinds := by
  simp only [List.mem_cons, List.not_mem_nil, or_false] at hv
  rcases hv with rfl | rfl | rfl | rfl | rfl <;> exact ⟨_, rfl, by decide +kernel⟩
theorem tok_mem {v : V} (hv : v ∈ [V.str "=", V.str ";", V.str ",", V.str "a", V.str "b", V.str "12", V.str "0"]) : ∃ y ∈ tokens7, v = .str y := by
  simp only [List.mem_cons, List.not_mem_nil, or_false] at hv
  rcases hv with rfl | rfl | rfl | rfl | rfl | rfl | rfl <;> exact ⟨_, by decide +kernel, rfl⟩
theorem tok7_len : ∀ y ∈ tokens7, y.length ≤ 1000 := by decide +kernel
theorem kinds_len : ∀ z ∈ kinds, z.length ≤ 1000 := by decide +kernel
section
variable {P : Program} {w : World} {K : PySem.W.Frag} {mg : Str → Option Value} {base : Heap} {aS aK : Addr}
theorem scParts : FnScope ["_law_pool_here", "_law_kind", "_law_spot", "_law_one", "_law_way"] ["_law_pool_here"] (defScope sParts) := ⟨rfl, rfl, rfl, by decide +kernel, rfl, by decide +kernel, by decide +kernel⟩
theorem at_spot {r : Int} (h0 : 0 ≤ r) (h1 : r < 3) : ∃ m : Int, 1 ≤ m ∧ m ≤ 16 ∧ atI [V.int 4, V.int 8, V.int 16] r = some (V.int m) := by
  rcases (show r = 0 ∨ r = 1 ∨ r = 2 by omega) with h | h | h <;> subst h
  · exact ⟨4, by decide, by decide, rfl⟩
  · exact ⟨8, by decide, by decide, rfl⟩
  · exact ⟨16, by decide, by decide, rfl⟩
theorem ok_parts {f fP fO : Addr} {fd fdP fdO : FuncData} (F : Fun K "_law_parts" "_law_parts" sParts f fd) (T : Mod2 K mg aS aK)
    (kP : PySem.W.keepIn K (.ref fP) = true) (GP : FnOk P w K mg base CX0 1 fP fdP ["_law_pool_here", "_law_many"] spPick) (bP : Binds K fdP ["_law_pool_here", "_law_many"] []) (mP : mg "_law_pick" = some (.ref fP))
    (kO : PySem.W.keepIn K (.ref fO) = true) (GO : FnOk P w K mg base CX0 2 fO fdO ["_law_pool_here", "_law_some"] spOf) (bO : Binds K fdO ["_law_pool_here", "_law_some"] []) (mO : mg "_law_of" = some (.ref fO)) :
    FnOk P w K mg base CX0 3 f fd ["_law_pool_here"] (spParts K) := by
  refine F.ok scParts (fun vs H Q E h => ?_) (fun cdv A outer s H vs Q E hr h => ?_)
  · obtain ⟨p, c, rfl, _⟩ := h
    rfl
  · obtain ⟨p, c, rfl, hp, hc, q, qb⟩ := h
    have hr1 : Room 1 _ := hr.mono (by decide)
    refine ⟨_, C8.pss_cut (ps_set (i := 1) scParts.nd rfl (.inl rfl) (pe_call GO hr rfl mO kO bO .nil pass0 (pa_cons (pv 0) (pa_cons (pe_lst (pa_cons pe_str (pa_cons pe_str (pa_cons pe_str (pa_cons pe_str (pa_cons pe_str pa_nil)))))) pa_nil))))
      (C8.pss_cut (ps_set (i := 2) scParts.nd rfl (.inl rfl) (pe_call GP hr1 rfl mP kP bP .nil pass0 (pa_cons (pv 0) (pa_cons (pe_ix ix_list (pe_lst (pa_cons pe_int (pa_cons pe_int (pa_cons pe_int pa_nil)))) (pe_call GP hr1 rfl mP kP bP .nil pass0 (pa_cons (pv 0) (pa_cons pe_int pa_nil))) (fun _ _ => rfl)) pa_nil))))
      (C8.pss_cut (ps_set (i := 3) scParts.nd rfl (.inl rfl) (pe_ifExp (pt_cmpR op_eq (pv 1) pe_str (nomark _)) (pe_call GO hr rfl mO kO bO .nil pass0 (pa_cons (pv 0) (pa_cons (pe_lst (pa_cons pe_str (pa_cons pe_str (pa_cons pe_str (pa_cons pe_str (pa_cons pe_str (pa_cons pe_str (pa_cons pe_str pa_nil)))))))) pa_nil))) pe_non))
      (C8.pss_cut (ps_set (i := 4) scParts.nd rfl (.inl rfl) (pe_call GP hr1 rfl mP kP bP .nil pass0 (pa_cons (pv 0) (pa_cons pe_int pa_nil))))
      (C8.pss_cut (ps_if (pt_cmpR op_eq (pv 4) pe_int (nomark _)) (pss_one (ps_ret (pe_tup (pa_cons (pe_call GO hr rfl mO kO bO .nil pass0 (pa_cons (pv 0) (pa_cons (pe_lst (pa_cons pe_str (pa_cons pe_str (pa_cons pe_str (pa_cons pe_non (pa_cons pe_int (pa_cons (pe_lst (pa_cons pe_str pa_nil)) pa_nil))))))) pa_nil))) (pa_cons (pv 2) (pa_cons (pv 3) (pa_cons pe_bl pa_nil))))))) pss_nil)
      (C8.pss_cut (ps_if (pt_cmpR op_eq (pv 4) pe_int (nomark _)) (pss_one (ps_ret (pe_tup (pa_cons (pv 1) (pa_cons (pe_call GO hr rfl mO kO bO .nil pass0 (pa_cons (pv 0) (pa_cons (pe_lst (pa_cons (pe_un un_neg pe_int) (pa_cons pe_bl (pa_cons pe_bl (pa_cons pe_non (pa_cons pe_str (pa_cons (pe_tup (pa_cons pe_int pa_nil)) (pa_cons (pe_un un_neg (pe_op op_pow pe_int pe_int)) pa_nil)))))))) pa_nil))) (pa_cons (pv 3) (pa_cons pe_bl pa_nil))))))) pss_nil)
      (C8.pss_cut (ps_if (PW.pt (pw_and (pt_cmpR op_eq (pv 4) pe_int (nomark _)) (pw_and1 (pt_cmpR op_eq (pv 1) pe_str (nomark _))))) (pss_one (ps_ret (pe_tup (pa_cons (pv 1) (pa_cons (pv 2) (pa_cons (pe_call GO hr rfl mO kO bO .nil pass0 (pa_cons (pv 0) (pa_cons (pe_lst (pa_cons pe_non (pa_cons pe_str (pa_cons pe_str (pa_cons pe_str (pa_cons pe_int (pa_cons pe_str (pa_cons pe_bl (pa_cons (pe_op op_mulS pe_str pe_int) (pa_cons (pe_lst (pa_cons pe_str pa_nil)) pa_nil)))))))))) pa_nil))) (pa_cons pe_bl pa_nil))))))) pss_nil)
      (pss_cons (ps_if (pt_cmpR op_eq (pv 4) pe_int (nomark _)) (pss_one (ps_ret (pe_tup (pa_cons (pv 1) (pa_cons (pv 2) (pa_cons (pe_call GO hr rfl mO kO bO .nil pass0 (pa_cons (pv 0) (pa_cons (pe_lst (pa_cons pe_str (pa_cons pe_str (pa_cons pe_int (pa_cons pe_bl (pa_cons pe_str pa_nil)))))) pa_nil))) (pa_cons pe_bl pa_nil))))))) pss_nil)
      (pss_one (ps_ret (pe_tup (pa_cons (pv 1) (pa_cons (pv 2) (pa_cons (pv 3) (pa_cons pe_bl pa_nil)))))))))))))), ?_⟩
    have four : 4 ≤ sizeLine := by decide
    refine ⟨fun σ H' => ∃ z : Str, σ = [some (.ref p), some (.str z), none, none, none] ∧ z ∈ kinds ∧ Keep p H H' ∧ Pool H' p (c + 1), ?_, ?_⟩
    · refine ⟨_, rfl, by show 5 ≤ sizeLine; decide, fun l hl => ⟨p, c, l, _, rfl, hp.new hl, by omega, upd_same, pool_ne hp hl, by simp, by simp, fun v H' hv hk hp' => ?_⟩⟩
      obtain ⟨z, rfl, hz⟩ := kind_mem hv
      exact ⟨z, rfl, hz, ((Keep.refl p H).new hl).trans hk, hp'⟩
    rintro σ H1 ⟨z, rfl, hz, k1, p1⟩
    refine ⟨fun σ H' => ∃ i : Nat, σ = [some (.ref p), some (.str z), some (.int i), none, none] ∧ i < 16 ∧ Keep p H H' ∧ Pool H' p (c + 3), ?_, ?_⟩
    · refine ⟨_, rfl, by show 3 ≤ sizeLine; decide, fun l hl => ⟨_, rfl, p, c + 1, 3, rfl, p1.new hl, by omega, by decide, by decide, fun r H2 r0 r1 hk hp2 => ?_⟩⟩
      obtain ⟨m, m1, m2, hm⟩ := at_spot r0 r1
      refine ⟨l, _, r, _, rfl, rfl, SqL.of (hk _ _ (pool_ne p1 hl) upd_same), hm, p, c + 2, m, rfl, hp2.mono (by omega), by omega, by omega, by omega, fun i H3 i0 i1 k3 p3 => ⟨i.toNat, ?_, by omega, ((k1.new hl).trans hk).trans k3, p3.mono (by omega)⟩⟩
      rw [Int.toNat_of_nonneg i0]
      rfl
    rintro σ H2 ⟨i, rfl, hi, k2, p2⟩
    refine ⟨fun σ H' => ∃ o : Option Str, σ = [some (.ref p), some (.str z), some (.int i), some (tokV o), none] ∧ (z = "written" → ∃ y ∈ tokens7, o = some y) ∧ (z ≠ "written" → o = none) ∧ Keep p H H' ∧ Pool H' p (c + 4), ?_, ?_⟩
    · refine ⟨_, rfl, rfl, _, rfl, ?_⟩
      show if decide (V.str z = V.str ("written" : Str)) = true then _ else _
      rw [eq_strB]
      refine ite2 (fun h => ?_) (fun h => ?_)
      · have h := of_decide_eq_true h
        refine ⟨_, rfl, by show 7 ≤ sizeLine; decide, fun l hl => ⟨p, c + 3, l, _, rfl, p2.new hl, by omega, upd_same, pool_ne p2 hl, by simp, by simp, fun v H' hv hk hp' => ?_⟩⟩
        obtain ⟨y, hy, rfl⟩ := tok_mem hv
        exact ⟨some y, rfl, fun _ => ⟨y, hy, rfl⟩, fun n => absurd h n, (k2.new hl).trans hk, hp'⟩
      · have h : z ≠ "written" := fun e => h (decide_eq_true e)
        exact ⟨none, rfl, fun e => absurd e h, fun _ => rfl, k2, p2.mono (by omega)⟩
    rintro σ H3 ⟨o, rfl, ho1, ho2, k3, p3⟩
    have olen : ∀ y, o = some y → y.length ≤ 1000 := fun y e => by
      by_cases h : z = "written"
      · obtain ⟨y', hy', e'⟩ := ho1 h
        rw [e] at e'
        exact Option.some.inj e' ▸ tok7_len y' hy'
      · rw [ho2 h] at e; cases e
    refine ⟨fun σ H' => ∃ x : Int, σ = [some (.ref p), some (.str z), some (.int i), some (tokV o), some (.int x)] ∧ Keep p H H' ∧ Pool H' p (c + 5), ?_, ?_⟩
    · exact ⟨_, rfl, p, c + 4, 8, rfl, p3, by omega, by decide, by decide, fun r H' _ _ hk hp' => ⟨r, rfl, k3.trans hk, hp'⟩⟩
    rintro σ H4 ⟨x, rfl, k4, p4⟩
    refine ⟨fun σ H' => σ = [some (.ref p), some (.str z), some (.int i), some (tokV o), some (.int x)] ∧ H' = H4, ?_, ?_⟩
    · refine ⟨_, rfl, rfl, _, rfl, ite2 (fun _ => ?_) (fun _ => ⟨rfl, rfl⟩)⟩
      refine ⟨_, rfl, by show 1 ≤ sizeLine; decide, fun l hl => ⟨by show 6 ≤ sizeLine; decide, fun m hm => ?_⟩⟩
      refine ⟨p, c + 5, m, _, rfl, (p4.new hl).new hm, by omega, upd_same, pool_ne (p4.new hl) hm, by simp, by simp, fun v H' hv hk hp' => ⟨_, rfl, _, rfl, four, fun r hr' => ?_⟩⟩
      have hl' : H' l = some (.lst [.str "left"]) := hk _ _ (pool_ne p4 hl) (by rw [upd_ne (ne_of_none upd_same hm)]; exact upd_same)
      obtain ⟨ok, h1, h2⟩ := odd_kind (K := K) hl' hv
      have s5 := Same.new (o := .tup [v, .int i, tokV o, .bl false]) (Same.refl H') hr'
      exact qb r v (.int i) (tokV o) ok (some i) o (.int i) _ (h1.same s5) (.inl ⟨_, rfl, rfl⟩) (thing_tok o olen) (bad_kind h2) (.int _) (fair_idx hi) ((((k4.new hl).new hm).trans hk).new hr') ((hp'.mono (by omega)).new hr') upd_same
    rintro σ H4' ⟨rfl, rfl⟩
    refine ⟨fun σ H' => σ = [some (.ref p), some (.str z), some (.int i), some (tokV o), some (.int x)] ∧ H' = H4', ?_, ?_⟩
    · refine ⟨_, rfl, rfl, _, rfl, ite2 (fun _ => ?_) (fun _ => ⟨rfl, rfl⟩)⟩
      refine ⟨_, rfl, _, rfl, 1, rfl, by show 1 ≤ sizeLine; decide, fun l hl => ⟨10, 20, rfl, rfl, ⟨by decide, by decide, by decide⟩, _, rfl, by show 7 ≤ sizeLine; decide, fun m hm => ?_⟩⟩
      refine ⟨p, c + 5, m, _, rfl, (p4.new hl).new hm, by omega, upd_same, pool_ne (p4.new hl) hm, by simp, by simp, fun v H' hv hk hp' => ⟨_, rfl, four, fun r hr' => ?_⟩⟩
      have hl' : H' l = some (.tup [.int 1]) := hk _ _ (pool_ne p4 hl) (by rw [upd_ne (ne_of_none upd_same hm)]; exact upd_same)
      obtain ⟨n, d, h1, h2, h3, h4⟩ := odd_at (K := K) hl' hv
      have s5 := Same.new (o := .tup [.str z, v, tokV o, .bl false]) (Same.refl H') hr'
      exact qb r (.str z) v (tokV o) (some z) n o d _ (thing_str z (kinds_len z hz)) (h1.same s5) (thing_tok o olen) (bad_at h2) (dp_same s5 d h3) h4 ((((k4.new hl).new hm).trans hk).new hr') ((hp'.mono (by omega)).new hr') upd_same
    rintro σ H4 ⟨rfl, rfl⟩
    refine ⟨fun σ H' => σ = [some (.ref p), some (.str z), some (.int i), some (tokV o), some (.int x)] ∧ H' = H4 ∧ (x = 2 → z ≠ "written"), ?_, ?_⟩
    · refine ⟨_, rfl, rfl, _, rfl, ite2 (fun hx => ?_) (fun hx => ⟨rfl, rfl, fun e => absurd (decide_eq_true (by rw [e])) hx⟩)⟩
      refine ⟨_, rfl, rfl, _, rfl, ?_⟩
      show if decide (V.str z = V.str ("written" : Str)) = true then _ else _
      rw [eq_strB]
      refine ite2 (fun h => ?_) (fun h => ⟨rfl, rfl, fun _ e => h (decide_eq_true e)⟩)
      have h := of_decide_eq_true h
      refine ⟨_, rfl, _, rfl, _, rfl, "a", 13, rfl, rfl, by decide, by decide, by decide, by decide, by decide +kernel, by show 1 ≤ sizeLine; decide, fun l hl => ⟨by show 9 ≤ sizeLine; decide, fun m hm => ?_⟩⟩
      refine ⟨p, c + 5, m, _, rfl, (p4.new hl).new hm, by omega, upd_same, pool_ne (p4.new hl) hm, by simp, by simp, fun v H' hv hk hp' => ⟨four, fun r hr' => ?_⟩⟩
      have hl' : H' l = some (.lst [.str "a"]) := hk _ _ (pool_ne p4 hl) (by rw [upd_ne (ne_of_none upd_same hm)]; exact upd_same)
      obtain ⟨ot, h1, h2⟩ := odd_token (K := K) hl' hv
      have s5 := Same.new (o := .tup [.str z, .int i, v, .bl false]) (Same.refl H') hr'
      exact qb r (.str z) (.int i) v (some z) (some i) ot (.int i) _ (thing_str z (kinds_len z hz)) (.inl ⟨_, rfl, rfl⟩) (h1.same s5) (h ▸ bad_token h2) (.int _) (fair_idx hi) ((((k4.new hl).new hm).trans hk).new hr') ((hp'.mono (by omega)).new hr') upd_same
    rintro σ H4 ⟨rfl, rfl, hx2⟩
    refine ⟨_, rfl, rfl, _, rfl, ite2 (fun hx => ?_) (fun _ => ?_)⟩
    · have hx : x = 2 := by
        have := of_decide_eq_true hx
        injection this
      refine ⟨_, rfl, _, rfl, _, rfl, by show 5 ≤ sizeLine; decide, fun m hm => ?_⟩
      refine ⟨p, c + 5, m, _, rfl, p4.new hm, by omega, upd_same, pool_ne p4 hm, by simp, by simp, fun v H' hv hk hp' => ⟨four, fun r hr' => ?_⟩⟩
      obtain ⟨ot, h1, h2⟩ := odd_none (K := K) (H := H') hv
      have s5 := Same.new (o := .tup [.str z, .int i, v, .bl false]) (Same.refl H') hr'
      exact qb r (.str z) (.int i) v (some z) (some i) ot (.int i) _ (thing_str z (kinds_len z hz)) (.inl ⟨_, rfl, rfl⟩) (h1.same s5) (bad_none (hx2 hx) h2) (.int _) (fair_idx hi) (((k4.new hm).trans hk).new hr') ((hp'.mono (by omega)).new hr') upd_same
    · exact ⟨_, rfl, _, rfl, _, rfl, four, fun r hr' => q r z i o _ hz hi ho1 ho2 (k4.new hr') ((p4.mono (by omega)).new hr') upd_same⟩
end
end K8

namespace K8
open PySem L2
abbrev sLawFits : Stmt := top 29
abbrev sLawDue : Stmt := top 30
abbrev sMade : Stmt := top 31
abbrev sDone : Stmt := top 32
def PartsAt (H : Hp) (q : Addr) (z : Str) (i : Nat) (o : Option Str) : Prop := H q = some (.tup [.str z, .int i, tokV o, .bl true])
def spLawFits (K : PySem.W.Frag) : Sp := fun vs H Q _ => ∃ (q a : Addr) (z : Str) (i : Nat) (o : Option Str) (ws : List Str), vs = [.ref q, .ref a] ∧ PartsAt H q z i o ∧ H a = some (.lst (ws.map V.str)) ∧ Q (.bl (fitsB z i o ws)) H
def spLawDue (K : PySem.W.Frag) : Sp := fun vs H Q _ => ∃ (q a : Addr) (z : Str) (i : Nat) (o : Option Str) (ws : List Str), vs = [.ref q, .ref a] ∧ PartsAt H q z i o ∧ H a = some (.lst (ws.map V.str)) ∧ Sound z o ∧ fitsB z i o ws = true ∧ ws.length ≤ 1000 ∧
  ∀ (D : Addr) (H' : Hp), H D = none → Same H H' → H' D = some (.lst ((dueS z i o ws).map V.str)) → Q (.ref D) H'
def spMade (K : PySem.W.Frag) (C : Addr) : Sp := fun vs H Q _ => ∃ (q : Addr) (k a t : V) (b : Bool) (ok : Option Str) (n : Option Int) (ot : Option Str), vs = [.ref q] ∧ H q = some (.tup [k, a, t, .bl b]) ∧ Thing K H k ok ∧ AtOk K H a n ∧ Thing K H t ot ∧
  (goodSlip ok n ot t = true → ∀ (x dx : Addr) (H' : Hp), H x = none → Same H H' → H' x = some (.ins C dx (flds k a t)) → Q (.ref x) H') ∧
  (goodSlip ok n ot t = false → ∀ (r : Addr) (H' : Hp), Same H H' → H' r = some (.tup [a]) → Q (.ref r) H')
def spDone (K : PySem.W.Frag) (C : Addr) : Sp := fun vs H Q _ => ∃ (x a : Addr) (z : Str) (i : Nat) (t : Option Str) (ws : List Str), vs = [.ref x, .ref a] ∧ SlipAt C H x z i t ∧ Sound z t ∧ Row K H a ws ∧ ws.length ≤ 1000 ∧
  (fitsB z i t ws = true → ∀ p H', Same H H' → H' p = some (.lst ((dueS z i t ws).map V.str)) → Q (.ref p) H') ∧
  (fitsB z i t ws = false → ∀ p H', Same H H' → H' p = some (.tup [.int i]) → Q (.ref p) H')
section
variable {P : Program} {w : World} {K : PySem.W.Frag} {mg : Str → Option Value} {base : Heap} {aS aK : Addr}
abbrev nPF : List Str := ["_law_parts_here", "_law_file", "_law_kind", "_law_spot"]
theorem scLawFits : FnScope nPF ["_law_parts_here", "_law_file"] (defScope sLawFits) := ⟨rfl, rfl, rfl, by decide +kernel, rfl, by decide +kernel, by decide +kernel⟩
theorem ok_lawFits {f : Addr} {fd : FuncData} (F : Fun K "_law_fits" "_law_fits" sLawFits f fd) (T : Mod2 K mg aS aK) : FnOk P w K mg base CX0 1 f fd ["_law_parts_here", "_law_file"] (spLawFits K) := by
  refine F.ok scLawFits (fun vs H Q E h => ?_) (fun cdv A outer s H vs Q E hr h => ?_)
  · obtain ⟨q, a, z, i, o, ws, rfl, _⟩ := h
    rfl
  · obtain ⟨q', a, z, i, t, ws, rfl, hq, ha, q⟩ := h
    have hw : Row K H a ws := .inl (SqL.of ha)
    have sq : SqT K H q' [.str z, .int i, tokV t, .bl true] := SqT.of hq
    refine ⟨_, pss_cons (ps_par (i := 2) (j := 3) (by rfl) scLawFits.nd rfl rfl (by decide) rfl rfl (pa_cons (pe_ix ix_tup (pv 0) pe_int (fun _ _ => rfl)) (pa_cons (pe_ix ix_tup (pv 0) pe_int (fun _ _ => rfl)) pa_nil)) (by rfl))
      (pss_cons (ps_if (pt_cmpR op_ge (pv 3) (pe_callB call_len (by rfl) T.len PySem.boot_len (pa_cons (pv 1) pa_nil)) (nomark _)) (pss_one (ps_ret pe_bl)) pss_nil)
      (pss_cons (ps_if (pt_cmpR op_eq (pv 2) pe_str (nomark _))
        (pss_one (ps_ret (pe_and (pe_cmpR op_lt (pe_op op_add (pv 3) pe_int) (pe_callB call_len (by rfl) T.len PySem.boot_len (pa_cons (pv 1) pa_nil)) (nomark _))
          (pe_one (pe_cmpR op_ne (pe_ix ix_seq (pv 1) (pv 3) (fun _ _ => rfl)) (pe_ix ix_seq (pv 1) (pe_op op_add (pv 3) pe_int) (fun _ _ => rfl)) (nomark _)))))) pss_nil)
      (pss_one (ps_ret (pe_or (pe_cmpR op_ne (pv 2) pe_str (nomark _)) (pe_one (pe_cmpR op_ne (pe_ix ix_seq (pv 1) (pv 3) (fun _ _ => rfl)) (pe_ix ix_tup (pv 0) pe_int (fun _ _ => rfl)) (nomark _)))))))), ?_⟩
    refine ⟨_, rfl, q', _, 0, _, rfl, rfl, sq, atI_nat (j := 0) rfl, _, rfl, q', _, 1, _, rfl, rfl, sq, atI_nat (j := 1) rfl, _, _, rfl, ?_⟩
    refine ⟨_, rfl, _, rfl, _, _, rfl, hw.len, _, _, rfl, rfl, _, rfl, ?_⟩
    show if decide ((ws.length : Int) ≤ (i : Int)) = true then _ else _
    unfold fitsB at q
    by_cases h1 : ws.length ≤ i
    · rw [decide_eq_true (show (ws.length : Int) ≤ (i : Int) by omega)]
      rw [if_pos h1] at q
      exact iteT q
    · rw [decide_eq_false (show ¬ (ws.length : Int) ≤ (i : Int) by omega)]
      rw [if_neg h1] at q
      have hi : i < ws.length := by omega
      refine iteF ⟨_, rfl, rfl, _, rfl, ?_⟩
      show if decide (V.str z = V.str ("swapped" : Str)) = true then _ else _
      rw [eq_strB]
      refine ite2 (fun h2 => ?_) (fun h2 => ?_)
      · rw [if_pos (of_decide_eq_true h2)] at q
        refine ⟨_, rfl, _, _, rfl, rfl, _, rfl, _, _, rfl, hw.len, _, _, rfl, rfl, _, rfl, ?_⟩
        show if decide ((i : Int) + 1 < (ws.length : Int)) = true then _ else _
        by_cases h3 : i + 1 < ws.length
        · rw [decide_eq_true (show (i : Int) + 1 < (ws.length : Int) by omega)]
          rw [decide_eq_true h3, Bool.true_and, List.getElem?_eq_getElem hi, List.getElem?_eq_getElem h3] at q
          refine iteT ⟨_, rfl, _, rfl, hw.ix hi rfl ⟨_, rfl, _, rfl, _, _, rfl, rfl, hw.ix h3 rfl ⟨rfl, ?_⟩⟩⟩
          show Q (V.bl (!decide (V.str ws[i] = V.str ws[i + 1]))) H
          have e : decide (V.str ws[i] = V.str ws[i + 1]) = decide (some ws[i + 1] = some ws[i]) := by
            rw [← str_dec, decide_eq_decide]
            exact eq_comm
          rw [e]
          exact q
        · rw [decide_eq_false (show ¬ (i : Int) + 1 < (ws.length : Int) by omega)]
          rw [decide_eq_false h3, Bool.false_and] at q
          exact iteF q
      · rw [if_neg (fun e => h2 (decide_eq_true e))] at q
        refine ⟨_, rfl, rfl, _, rfl, ?_⟩
        show if (!decide (V.str z = V.str ("written" : Str))) = true then _ else _
        rw [eq_strB]
        cases hz : decide (z = "written") with
        | false =>
          rw [hz, Bool.not_false, Bool.true_or] at q
          exact iteT q
        | true =>
          rw [hz, Bool.not_true, Bool.false_or, List.getElem?_eq_getElem hi] at q
          refine iteF ⟨_, rfl, _, rfl, hw.ix hi rfl ⟨_, rfl, q', _, 2, _, rfl, rfl, sq, atI_nat (j := 2) rfl, ?_, ?_⟩⟩
          · exact scal_tok (some _) t
          · show Q (V.bl (!decide (V.str ws[i] = tokV t))) H
            rw [tokV_str]
            exact q
theorem scLawDue : FnScope nPF ["_law_parts_here", "_law_file"] (defScope sLawDue) := ⟨rfl, rfl, rfl, by decide +kernel, rfl, by decide +kernel, by decide +kernel⟩
theorem ok_lawDue {f : Addr} {fd : FuncData} (F : Fun K "_law_due" "_law_due" sLawDue f fd) : FnOk P w K mg base CX0 1 f fd ["_law_parts_here", "_law_file"] (spLawDue K) := by
  refine F.ok scLawDue (fun vs H Q E h => ?_) (fun cdv A outer s H vs Q E hr h => ?_)
  · obtain ⟨q, a, z, i, o, ws, rfl, _⟩ := h
    rfl
  · obtain ⟨q', a, z, i, t, ws, rfl, hq, ha, ⟨hk, hwr⟩, hf, hl, q⟩ := h
    have hi := fits_lt hf
    have sq : SqT K H q' [.str z, .int i, tokV t, .bl true] := SqT.of hq
    have sz : ∀ n : Nat, n ≤ 5000 → n ≤ sizeLine := fun n h => Nat.le_trans h (by decide)
    have hg : ws.getD i "" = ws[i] := by rw [List.getD_eq_getElem?_getD, List.getElem?_eq_getElem hi]; rfl
    refine ⟨_, pss_cons (ps_par (i := 2) (j := 3) (by rfl) scLawDue.nd rfl rfl (by decide) rfl rfl (pa_cons (pe_ix ix_tup (pv 0) pe_int (fun _ _ => rfl)) (pa_cons (pe_ix ix_tup (pv 0) pe_int (fun _ _ => rfl)) pa_nil)) (by rfl))
      (pss_cons (ps_if (pt_cmpR op_eq (pv 2) pe_str (nomark _)) (pss_one (ps_ret (pe_op op_cat (pe_slice sl_list (pv 1) po_none (po_some (pv 3))) (pe_slice sl_list (pv 1) (po_some (pe_op op_add (pv 3) pe_int)) po_none)))) pss_nil)
      (pss_cons (ps_if (pt_cmpR op_eq (pv 2) pe_str (nomark _)) (pss_one (ps_ret (pe_op op_cat (pe_op op_cat (pe_slice sl_list (pv 1) po_none (po_some (pv 3))) (pe_lst (pa_cons (pe_ix ix_list (pv 1) (pv 3) (fun _ _ => rfl)) (pa_cons (pe_ix ix_list (pv 1) (pv 3) (fun _ _ => rfl)) pa_nil)))) (pe_slice sl_list (pv 1) (po_some (pe_op op_add (pv 3) pe_int)) po_none)))) pss_nil)
      (pss_cons (ps_if (pt_cmpR op_eq (pv 2) pe_str (nomark _)) (pss_one (ps_ret (pe_op op_cat (pe_op op_cat (pe_slice sl_list (pv 1) po_none (po_some (pv 3))) (pe_lst (pa_cons (pe_ix ix_list (pv 1) (pe_op op_add (pv 3) pe_int) (fun _ _ => rfl)) (pa_cons (pe_ix ix_list (pv 1) (pv 3) (fun _ _ => rfl)) pa_nil)))) (pe_slice sl_list (pv 1) (po_some (pe_op op_add (pv 3) pe_int)) po_none)))) pss_nil)
      (pss_one (ps_ret (pe_op op_cat (pe_op op_cat (pe_slice sl_list (pv 1) po_none (po_some (pv 3))) (pe_lst (pa_cons (pe_ix ix_tup (pv 0) pe_int (fun _ _ => rfl)) pa_nil))) (pe_slice sl_list (pv 1) (po_some (pe_op op_add (pv 3) pe_int)) po_none))))))), ?_⟩
    refine ⟨_, rfl, q', _, 0, _, rfl, rfl, sq, atI_nat (j := 0) rfl, _, rfl, q', _, 1, _, rfl, rfl, sq, atI_nat (j := 1) rfl, _, _, rfl, ?_⟩
    refine ⟨_, rfl, rfl, _, rfl, ?_⟩
    -- the beginning, the middle, the end
    have three : ∀ (mid : List Str) (k : Nat) (hi' : Int), hi' = (k : Int) → mid.length ≤ 5 → ∀ (Q2 : VK), (∀ (D : Addr) (H' : Hp), H D = none → Same H H' → H' D = some (.lst ((ws.take i ++ mid ++ ws.drop k).map V.str)) → Q2 (.ref D) H') →
        ∀ p H1, H p = none → H1 = upd H p (.lst (cutV (ws.map V.str) none (some (i : Int)))) → ∀ l, H1 l = none → ∀ Hl, Hl = upd H1 l (.lst (mid.map V.str)) →
        rCat (.ref p) (.ref l) Hl fun y Hy => ∃ aa xs, V.ref a = .ref aa ∧ SqL K Hy aa xs ∧ ∀ r, Hy r = none → rCat y (.ref r) (upd Hy r (.lst (cutV xs (some hi') none))) Q2 := by
      intro mid k hi' e hm Q2 q2 p H1 hp eH1 l hl' Hl eHl
      subst e eH1 eHl
      have n1 : p ≠ l := ne_of_none upd_same hl'
      refine ⟨p, l, _, _, rfl, rfl, by rw [upd_ne n1]; exact upd_same, upd_same, sz _ ?_, fun M hM => ?_⟩
      · rw [cut_hi]; simp; omega
      have s1 := Same.new (o := .lst (mid.map V.str)) (Same.new (o := .lst (cutV (ws.map V.str) none (some (i : Int)))) (Same.refl H) hp) hl'
      have s2 := Same.new (o := .lst (cutV (ws.map V.str) none (some (i : Int)) ++ mid.map V.str)) s1 hM
      refine ⟨a, _, rfl, SqL.of (s2 _ _ ha), fun r hr' => ⟨M, r, _, _, rfl, rfl, by rw [upd_ne (ne_of_none upd_same hr')]; exact upd_same, upd_same, sz _ ?_, fun D hD => ?_⟩⟩
      · rw [cut_hi, cut_lo]; simp; omega
      · have s3 := Same.new (o := .lst (cutV (ws.map V.str) (some (k : Int)) none)) s2 hr'
        refine q2 D _ (s3.free hD) (Same.new s3 hD) ?_
        rw [upd_same, cut_hi, cut_lo, List.map_append, List.map_append]
    unfold dueS at q
    show if decide (V.str z = V.str ("left" : Str)) = true then _ else _
    rw [eq_strB]
    have r1 : ((i : Int) + 1) = ((i + 1 : Nat) : Int) := by omega
    have r2 : ((i : Int) + 2) = ((i + 2 : Nat) : Int) := by omega
    refine ite2 (fun h1 => ?_) (fun h1 => ?_)
    · rw [if_pos (of_decide_eq_true h1)] at q
      refine ⟨_, rfl, _, rfl, (i : Int), rfl, a, _, rfl, SqL.of ha, fun p hp => ⟨_, rfl, _, rfl, _, _, rfl, rfl, ((i : Int) + 1), rfl, a, _, rfl, SqL.of ((Same.new (Same.refl H) hp) _ _ ha), fun r hr' => ⟨p, r, _, _, rfl, rfl, by rw [upd_ne (ne_of_none upd_same hr')]; exact upd_same, upd_same, sz _ ?_, fun D hD => ?_⟩⟩⟩
      · rw [cut_hi, r1, cut_lo]; simp; omega
      · have s3 := Same.new (o := .lst (cutV (ws.map V.str) (some ((i : Int) + 1)) none)) (Same.new (o := .lst (cutV (ws.map V.str) none (some (i : Int)))) (Same.refl H) hp) hr'
        refine q D _ (s3.free hD) (Same.new s3 hD) ?_
        rw [upd_same, cut_hi, r1, cut_lo, List.map_append]
    rw [if_neg (fun h => h1 (decide_eq_true h))] at q
    refine ⟨_, rfl, rfl, _, rfl, ?_⟩
    show if decide (V.str z = V.str ("doubled" : Str)) = true then _ else _
    rw [eq_strB]
    refine ite2 (fun h2 => ?_) (fun h2 => ?_)
    · rw [if_pos (of_decide_eq_true h2), hg, List.drop_eq_getElem_cons hi] at q
      refine ⟨_, rfl, _, rfl, (i : Int), rfl, a, _, rfl, SqL.of ha, fun p hp => ?_⟩
      have ha1 := (Same.new (o := .lst (cutV (ws.map V.str) none (some (i : Int)))) (Same.refl H) hp) _ _ ha
      refine ⟨_, rfl, _, rfl, a, _, _, _, rfl, rfl, SqL.of ha1, at_row hi, _, rfl, _, rfl, a, _, _, _, rfl, rfl, SqL.of ha1, at_row hi, by show 2 ≤ sizeLine; decide, fun l hl' => ?_⟩
      obtain ⟨p1, l1, xs1, zs1, e1, e2, e3, e4, e5, e6⟩ := three [ws[i], ws[i]] (i + 1) ((i : Int) + 1) r1 (by simp) Q (fun D H' hD s' h' => q D H' hD s' (by rw [h', List.append_assoc]; rfl)) p _ hp rfl l hl' _ rfl
      refine ⟨p1, l1, xs1, zs1, e1, e2, e3, e4, e5, fun M hM => ?_⟩
      obtain ⟨aa, xs2, e7, e8, e9⟩ := e6 M hM
      exact ⟨_, rfl, _, rfl, _, _, rfl, rfl, ((i : Int) + 1), rfl, aa, xs2, e7, e8, e9⟩
    rw [if_neg (fun h => h2 (decide_eq_true h))] at q
    refine ⟨_, rfl, rfl, _, rfl, ?_⟩
    show if decide (V.str z = V.str ("swapped" : Str)) = true then _ else _
    rw [eq_strB]
    refine ite2 (fun h3 => ?_) (fun h3 => ?_)
    · rw [if_pos (of_decide_eq_true h3)] at q
      have hi1 := fits_swap (of_decide_eq_true h3) hf
      have hg1 : ws.getD (i + 1) "" = ws[i + 1] := by rw [List.getD_eq_getElem?_getD, List.getElem?_eq_getElem hi1]; rfl
      rw [hg, hg1] at q
      refine ⟨_, rfl, _, rfl, (i : Int), rfl, a, _, rfl, SqL.of ha, fun p hp => ?_⟩
      have ha1 := (Same.new (o := .lst (cutV (ws.map V.str) none (some (i : Int)))) (Same.refl H) hp) _ _ ha
      refine ⟨_, rfl, _, rfl, _, _, rfl, rfl, a, _, _, _, rfl, rfl, SqL.of ha1, at_row hi1, _, rfl, _, rfl, a, _, _, _, rfl, rfl, SqL.of ha1, at_row hi, by show 2 ≤ sizeLine; decide, fun l hl' => ?_⟩
      obtain ⟨p1, l1, xs1, zs1, e1, e2, e3, e4, e5, e6⟩ := three [ws[i + 1], ws[i]] (i + 2) ((i : Int) + 2) r2 (by simp) Q (fun D H' hD s' h' => q D H' hD s' (by rw [h', List.append_assoc]; rfl)) p _ hp rfl l hl' _ rfl
      refine ⟨p1, l1, xs1, zs1, e1, e2, e3, e4, e5, fun M hM => ?_⟩
      obtain ⟨aa, xs2, e7, e8, e9⟩ := e6 M hM
      exact ⟨_, rfl, _, rfl, _, _, rfl, rfl, ((i : Int) + 2), rfl, aa, xs2, e7, e8, e9⟩
    · rw [if_neg (fun h => h3 (decide_eq_true h))] at q
      have hz : z = "written" := by
        have h1 : z ≠ "left" := fun h => h1 (decide_eq_true h)
        have h2 : z ≠ "doubled" := fun h => h2 (decide_eq_true h)
        have h3 : z ≠ "swapped" := fun h => h3 (decide_eq_true h)
        simp only [kinds, List.mem_cons, List.not_mem_nil, or_false] at hk
        rcases hk with h | h | h | h
        · exact absurd h h1
        · exact absurd h h2
        · exact absurd h h3
        · exact h
      obtain ⟨y, rfl⟩ := hwr hz
      refine ⟨_, rfl, _, rfl, (i : Int), rfl, a, _, rfl, SqL.of ha, fun p hp => ?_⟩
      refine ⟨_, rfl, q', _, 2, _, rfl, rfl, SqT.ext sq (Same.new (Same.refl H) hp), atI_nat (j := 2) rfl, by show 1 ≤ sizeLine; decide, fun l hl' => ?_⟩
      obtain ⟨p1, l1, xs1, zs1, e1, e2, e3, e4, e5, e6⟩ := three [y] (i + 1) ((i : Int) + 1) r1 (by simp) Q (fun D H' hD s' h' => q D H' hD s' (by rw [h', List.append_assoc]; rfl)) p _ hp rfl l hl' _ rfl
      refine ⟨p1, l1, xs1, zs1, e1, e2, e3, e4, e5, fun M hM => ?_⟩
      obtain ⟨aa, xs2, e7, e8, e9⟩ := e6 M hM
      exact ⟨_, rfl, _, rfl, _, _, rfl, rfl, ((i : Int) + 1), rfl, aa, xs2, e7, e8, e9⟩
end
end K8

namespace K8
open PySem L2
section
variable {P : Program} {w : World} {K : PySem.W.Frag} {mg : Str → Option Value} {base : Heap} {aS aK : Addr}
theorem scMade : FnScope ["_law_parts_here", "e"] ["_law_parts_here"] (defScope sMade) := ⟨rfl, rfl, rfl, by decide +kernel, rfl, by decide +kernel, by decide +kernel⟩
theorem ok_made {f fI C CB fE : Addr} {fd fdI : FuncData} (F : Fun K "_law_made" "_law_made" sMade f fd) (S : SlipC K mg C) (TE : K8E.ErrTxt P K mg CB fE) (XF : XfC K CB)
    (M : Mk K C fI) (GI : FnOk P w K mg base (L2.CX P w) 5 fI fdI ["self", "kind", "at", "token"] (spInit K C CB)) (bI : Binds K fdI ["self", "kind", "at", "token"] []) :
    FnOk P w K mg base CX0 7 f fd ["_law_parts_here"] (spMade K C) := by
  refine F.ok scMade (fun vs H Q E h => ?_) (fun cdv A outer s H vs Q E hr h => ?_)
  · obtain ⟨q, k, a, t, b, ok, n, ot, rfl, _⟩ := h
    rfl
  · obtain ⟨q', k, a, t, b, ok, n, ot, rfl, hq, hk, ha, ht, q, qb⟩ := h
    have sq : SqT K H q' [k, a, t, .bl b] := SqT.of hq
    refine ⟨_, pss_one (ps_try_as (i := 1) (tb := fun W => tRet (tMakeS C (spInit K C CB) (WE W) (tCons (tOp (rIxT K) (tVar 0) (tC (.int 0))) (tCons (tOp (rIxT K) (tVar 0) (tC (.int 1))) (tCons (tOp (rIxT K) (tVar 0) (tC (.int 2))) tNil))))) rfl rfl scMade.nd rfl rfl ⟨rfl, by decide, .inl TE.gC⟩ takes0
      (fun W pn xe tk _ => pss_one (ps_ret (pe_makeS M GI hr rfl S.gC bI (fun σ => passAt tk σ) (pa_cons (pe_ix ix_tup (pv 0) pe_int (fun _ _ => rfl)) (pa_cons (pe_ix ix_tup (pv 0) pe_int (fun _ _ => rfl)) (pa_cons (pe_ix ix_tup (pv 0) pe_int (fun _ _ => rfl)) pa_nil))))))
      (fun a oe cls d pn hz hf => pss_one (ps_ret (pe_tup (pa_cons (pe_xf XF TE.noN hz hf (pv 1)) pa_nil))))), ?_⟩
    refine ⟨_, rfl, q', _, 0, _, rfl, rfl, sq, atI_nat (j := 0) rfl, _, rfl, q', _, 1, _, rfl, rfl, sq, atI_nat (j := 1) rfl, _, rfl, q', _, 2, _, rfl, rfl, sq, atI_nat (j := 2) rfl, fun x dx hx hdx ndx => ?_⟩
    have nx : (upd H dx (.own x)) x = none := by rw [upd_ne ndx.symm]; exact hx
    have s1 : Same H (upd (upd H dx (.own x)) x (.ins C dx [])) := Same.new (Same.new (Same.refl H) hdx) nx
    refine ⟨x, dx, k, a, t, ok, n, ot, rfl, upd_same, hk.same s1, ha.same s1, ht.same s1, fun hg H' kp h' => ⟨rfl, q hg x dx H' hx (fun b o e => kp b o (ne_of_none e hx) (s1 b o e)) h'⟩, fun hg d H' hd s' hxd => ?_⟩
    exact ⟨true, TE.te, fun _ a' ha' => ⟨_, rfl, rfl, rfl, d, _, _, rfl, hxd, rfl, by show 1 ≤ sizeLine; decide, fun r hr' => qb hg r _ (Same.new (s1.trans s') hr') upd_same⟩, fun z => nomatch z⟩
theorem scDone : FnScope ["_law_slip", "_law_file", "e"] ["_law_slip", "_law_file"] (defScope sDone) := ⟨rfl, rfl, rfl, by decide +kernel, rfl, by decide +kernel, by decide +kernel⟩
theorem ok_done {f fC C CB fE : Addr} {fd fdC : FuncData} (F : Fun K "_law_done" "_law_done" sDone f fd) (TE : K8E.ErrTxt P K mg CB fE) (XF : XfC K CB)
    (c : StX.CallO K C fC) (GC : FnOk P w K mg base (L2.CX P w) 2 fC fdC ["self", "file"] (spCallS K C CB)) (bC : Binds K fdC ["self", "file"] []) :
    FnOk P w K mg base CX0 3 f fd ["_law_slip", "_law_file"] (spDone K C) := by
  refine F.ok scDone (fun vs H Q E h => ?_) (fun cdv A outer s H vs Q E hr h => ?_)
  · obtain ⟨x, a, z, i, t, ws, rfl, _⟩ := h
    rfl
  · obtain ⟨x, a, z, i, t, ws, rfl, hx, hs, hw, hl, q, qb⟩ := h
    obtain ⟨dx, hx'⟩ := id hx
    refine ⟨_, pss_one (ps_try_as (i := 2) rfl rfl scDone.nd rfl rfl ⟨rfl, by decide, .inl TE.gC⟩ takes0
      (fun W pn xe tk _ => pss_one (ps_ret (pe_callOS (pv 0) c GC hr bC (fun σ => passAt tk σ) (pa_cons (pv 1) pa_nil))))
      (fun a oe cls d pn hz hf => pss_one (ps_ret (pe_tup (pa_cons (pe_xf XF TE.noN hz hf (pv 2)) pa_nil))))), ?_⟩
    refine ⟨_, rfl, x, rfl, _, rfl, ⟨dx, _, hx'⟩, x, a, z, i, t, ws, rfl, hx, hs, hw, hl, fun hf p H' _ s' h' => q hf p H' s' h', fun hf d H' hd s' hxd => ?_⟩
    exact ⟨true, TE.te, fun _ a' ha' => ⟨_, rfl, rfl, rfl, d, _, _, rfl, hxd, rfl, by show 1 ≤ sizeLine; decide, fun r hr' => qb hf r _ (Same.new s' hr') upd_same⟩, fun z => nomatch z⟩
end
end K8

namespace K8
open PySem L2
abbrev sLists : Stmt := top 34
/-- two lists of small data -/
def spLists (K : PySem.W.Frag) : Sp := fun vs H Q _ => ∃ (p : Addr) (c : Nat), vs = [.ref p] ∧ Pool H p c ∧ c ≤ 400000 ∧
  ∀ (q a b : Addr) (xs ys : List V) (ds es : List PyData) (H' : Hp), H' q = some (.tup [.ref a, .ref b]) → H' a = some (.lst xs) → H' b = some (.lst ys) → H a = none → H b = none → DpAll K H' xs ds → DpAll K H' ys es → Fair ds → Fair es → xs.length ≤ 9 → ys.length ≤ 9 → Keep p H H' → Q (.ref q) H'
/-- the tuples among the items -/
structure Tups (H : Hp) (p t1 t2 t3 t4 t5 : Addr) : Prop where
  h1 : H t1 = some (.tup [.str "a", .int 1])
  h2 : H t2 = some (.tup [.str "a", .str "yes"])
  h3 : H t3 = some (.tup [.str "b", .non])
  h4 : H t4 = some (.tup [.str "x", .str "y"])
  h5 : H t5 = some (.tup [.str "c", .ref t4])
  n1 : t1 ≠ p
  n2 : t2 ≠ p
  n3 : t3 ≠ p
  n4 : t4 ≠ p
  n5 : t5 ≠ p
theorem Tups.keep {H H' : Hp} {p t1 t2 t3 t4 t5 : Addr} (T : Tups H p t1 t2 t3 t4 t5) (k : Keep p H H') : Tups H' p t1 t2 t3 t4 t5 :=
  ⟨k _ _ T.n1 T.h1, k _ _ T.n2 T.h2, k _ _ T.n3 T.h3, k _ _ T.n4 T.h4, k _ _ T.n5 T.h5, T.n1, T.n2, T.n3, T.n4, T.n5⟩
def items (t1 t2 t3 t5 : Addr) : List V := [.ref t1, .ref t2, .ref t3, .ref t5, .str "a", .int 0]
theorem item_dp {K : PySem.W.Frag} {H : Hp} {p t1 t2 t3 t4 t5 : Addr} (T : Tups H p t1 t2 t3 t4 t5) {v : V} (hv : v ∈ items t1 t2 t3 t5) : ∃ d, Dp K H v d ∧ Fair1 d := by
  simp only [items, List.mem_cons, List.not_mem_nil, or_false] at hv
  rcases hv with rfl | rfl | rfl | rfl | rfl | rfl
  · exact ⟨.tuple [.str "a", .int 1], .tup (SqT.of T.h1) (.cons (.str _) (.cons (.int _) .nil)), fair_of (by decide +kernel)⟩
  · exact ⟨.tuple [.str "a", .str "yes"], .tup (SqT.of T.h2) (.cons (.str _) (.cons (.str _) .nil)), fair_of (by decide +kernel)⟩
  · exact ⟨.tuple [.str "b", .none], .tup (SqT.of T.h3) (.cons (.str _) (.cons .non .nil)), fair_of (by decide +kernel)⟩
  · exact ⟨.tuple [.str "c", .tuple [.str "x", .str "y"]], .tup (SqT.of T.h5) (.cons (.str _) (.cons (.tup (SqT.of T.h4) (.cons (.str _) (.cons (.str _) .nil))) .nil)), fair_of (by decide +kernel)⟩
  · exact ⟨.str "a", .str _, fair_of (by decide +kernel)⟩
  · exact ⟨.int 0, .int _, fair_of (by decide +kernel)⟩
theorem items_dp {K : PySem.W.Frag} {H : Hp} {p t1 t2 t3 t4 t5 : Addr} (T : Tups H p t1 t2 t3 t4 t5) : ∀ {xs : List V}, (∀ v ∈ xs, v ∈ items t1 t2 t3 t5) → ∃ ds, DpAll K H xs ds ∧ Fair ds
  | [], _ => ⟨[], .nil, fun _ h => (nomatch h)⟩
  | v :: xs, h => by
    obtain ⟨d, h1, h2⟩ := item_dp (K := K) T (h v (List.mem_cons_self ..))
    obtain ⟨ds, h3, h4⟩ := items_dp (K := K) T (xs := xs) fun x hx => h x (List.mem_cons_of_mem _ hx)
    refine ⟨d :: ds, .cons h1 h3, fun x hx => ?_⟩
    rcases List.mem_cons.mp hx with rfl | hx
    · exact h2
    · exact h4 x hx
abbrev nLists : List Str := ["_law_pool_here", "_law_some", "_law_ahead", "_law_rest", "_law_first", "_law_second", "_law_k"]
section
variable {P : Program} {w : World} {K : PySem.W.Frag} {mg : Str → Option Value} {base : Heap} {aS aK : Addr}
theorem scLists : FnScope nLists ["_law_pool_here"] (defScope sLists) := ⟨rfl, rfl, rfl, by decide +kernel, rfl, by decide +kernel, by decide +kernel⟩
/-- a list of up to three drawn items -/
def Drawn (H : Hp) (D : Addr) (its : List V) : Prop := ∃ xs : List V, H D = some (.lst xs) ∧ xs.length ≤ 3 ∧ ∀ v ∈ xs, v ∈ its
theorem Drawn.keep {H H' : Hp} {p D : Addr} {its : List V} (d : Drawn H D its) (n : D ≠ p) (k : Keep p H H') : Drawn H' D its := by
  obtain ⟨xs, h, r⟩ := d
  exact ⟨xs, k _ _ n h, r⟩
theorem ok_lists {f fP fO : Addr} {fd fdP fdO : FuncData} (F : Fun K "_law_lists" "_law_lists" sLists f fd) (T : Mod2 K mg aS aK)
    (kP : PySem.W.keepIn K (.ref fP) = true) (GP : FnOk P w K mg base CX0 1 fP fdP ["_law_pool_here", "_law_many"] spPick) (bP : Binds K fdP ["_law_pool_here", "_law_many"] []) (mP : mg "_law_pick" = some (.ref fP))
    (kO : PySem.W.keepIn K (.ref fO) = true) (GO : FnOk P w K mg base CX0 2 fO fdO ["_law_pool_here", "_law_some"] spOf) (bO : Binds K fdO ["_law_pool_here", "_law_some"] []) (mO : mg "_law_of" = some (.ref fO)) :
    FnOk P w K mg base CX0 3 f fd ["_law_pool_here"] (spLists K) := by
  refine F.ok scLists (fun vs H Q E h => ?_) (fun cdv A outer s H vs Q E hr h => ?_)
  · obtain ⟨p, c, rfl, _⟩ := h
    rfl
  · obtain ⟨p, c, rfl, hp, hc, q⟩ := h
    have hr1 : Room 1 _ := hr.mono (by decide)
    refine ⟨_, C8.pss_cut (ps_set (i := 1) scLists.nd rfl (.inr rfl) (pe_lst (pa_cons (pe_tup (pa_cons pe_str (pa_cons pe_int pa_nil))) (pa_cons (pe_tup (pa_cons pe_str (pa_cons pe_str pa_nil))) (pa_cons (pe_tup (pa_cons pe_str (pa_cons pe_non pa_nil))) (pa_cons (pe_tup (pa_cons pe_str (pa_cons (pe_tup (pa_cons pe_str (pa_cons pe_str pa_nil))) pa_nil))) (pa_cons pe_str (pa_cons pe_int pa_nil))))))))
      (C8.pss_cut (ps_setLc (i := 2) (own := [("_law_k", 6)]) (g := gName 6) (tt := tYes) (te := tCall spOf [] E0 (tCons (tVar 0) (tCons (tVar 1) tNil))) (by rfl) scLists.nd rfl rfl (sw_true rfl rfl rfl (by decide +kernel)) (pi_range1 (by rfl) T.range (pa_cons (pe_call GP hr1 rfl mP kP bP .nil pass0 (pa_cons (pv 0) (pa_cons pe_int pa_nil))) pa_nil))
        (blkOk_by (own := [("_law_k", 6)]) (N := nLists) (sc := defScope sLists) (by decide +kernel)) (fun _ _ _ _ _ => pg_name (i := 6) scLists.nd rfl (Or.inl rfl)) (fun _ _ _ _ _ => pts_nil) (fun _ _ _ _ _ => pe_call GO hr rfl mO kO bO .nil pass0 (pa_cons (pv 0) (pa_cons (pv 1) pa_nil))))
      (C8.pss_cut (ps_setLc (i := 3) (own := [("_law_k", 6)]) (g := gName 6) (tt := tYes) (te := tCall spOf [] E0 (tCons (tVar 0) (tCons (tVar 1) tNil))) (by rfl) scLists.nd rfl rfl (sw_true rfl rfl rfl (by decide +kernel)) (pi_range1 (by rfl) T.range (pa_cons (pe_call GP hr1 rfl mP kP bP .nil pass0 (pa_cons (pv 0) (pa_cons pe_int pa_nil))) pa_nil))
        (blkOk_by (own := [("_law_k", 6)]) (N := nLists) (sc := defScope sLists) (by decide +kernel)) (fun _ _ _ _ _ => pg_name (i := 6) scLists.nd rfl (Or.inl rfl)) (fun _ _ _ _ _ => pts_nil) (fun _ _ _ _ _ => pe_call GO hr rfl mO kO bO .nil pass0 (pa_cons (pv 0) (pa_cons (pv 1) pa_nil))))
      (C8.pss_cut (ps_setLc (i := 4) (own := [("_law_k", 6)]) (g := gName 6) (tt := tYes) (te := tCall spOf [] E0 (tCons (tVar 0) (tCons (tSl (rSlL K) (tVar 1) tNoPart (tPart (tC (.int 3)))) tNil))) (by rfl) scLists.nd rfl rfl (sw_true rfl rfl rfl (by decide +kernel)) (pi_range1 (by rfl) T.range (pa_cons (pe_call GP hr1 rfl mP kP bP .nil pass0 (pa_cons (pv 0) (pa_cons pe_int pa_nil))) pa_nil))
        (blkOk_by (own := [("_law_k", 6)]) (N := nLists) (sc := defScope sLists) (by decide +kernel)) (fun _ _ _ _ _ => pg_name (i := 6) scLists.nd rfl (Or.inl rfl)) (fun _ _ _ _ _ => pts_nil) (fun _ _ _ _ _ => pe_call GO hr rfl mO kO bO .nil pass0 (pa_cons (pv 0) (pa_cons (pe_slice sl_list (pv 1) po_none (po_some pe_int)) pa_nil))))
      (C8.pss_cut (ps_setLc (i := 5) (own := [("_law_k", 6)]) (g := gName 6) (tt := tYes) (te := tCall spOf [] E0 (tCons (tVar 0) (tCons (tSl (rSlL K) (tVar 1) tNoPart (tPart (tC (.int 3)))) tNil))) (by rfl) scLists.nd rfl rfl (sw_true rfl rfl rfl (by decide +kernel)) (pi_range1 (by rfl) T.range (pa_cons (pe_call GP hr1 rfl mP kP bP .nil pass0 (pa_cons (pv 0) (pa_cons pe_int pa_nil))) pa_nil))
        (blkOk_by (own := [("_law_k", 6)]) (N := nLists) (sc := defScope sLists) (by decide +kernel)) (fun _ _ _ _ _ => pg_name (i := 6) scLists.nd rfl (Or.inl rfl)) (fun _ _ _ _ _ => pts_nil) (fun _ _ _ _ _ => pe_call GO hr rfl mO kO bO .nil pass0 (pa_cons (pv 0) (pa_cons (pe_slice sl_list (pv 1) po_none (po_some pe_int)) pa_nil))))
      (pss_one (ps_ret (pe_tup (pa_cons (pe_op op_cat (pe_op op_cat (pv 2) (pv 4)) (pv 3)) (pa_cons (pe_op op_cat (pe_op op_cat (pv 2) (pv 5)) (pv 3)) pa_nil))))))))), ?_⟩
    have one2 : 2 ≤ sizeLine := by decide
    -- the items
    refine ⟨fun σ H' => ∃ M t1 t2 t3 t4 t5, σ = [some (.ref p), some (.ref M), none, none, none, none, none] ∧ Tups H' p t1 t2 t3 t4 t5 ∧ H' M = some (.lst (items t1 t2 t3 t5)) ∧ M ≠ p ∧ Keep p H H' ∧ Pool H' p c, ?_, ?_⟩
    · refine ⟨one2, fun t1 n1 => ⟨one2, fun t2 n2 => ⟨one2, fun t3 n3 => ⟨one2, fun t4 n4 => ⟨one2, fun t5 n5 => ⟨by show 6 ≤ sizeLine; decide, fun M nM => ?_⟩⟩⟩⟩⟩⟩
      have g1 := hp.new (o := .tup [.str "a", .int 1]) n1
      have g2 := g1.new (o := .tup [.str "a", .str "yes"]) n2
      have g3 := g2.new (o := .tup [.str "b", .non]) n3
      have g4 := g3.new (o := .tup [.str "x", .str "y"]) n4
      have g5 := g4.new (o := .tup [.str "c", .ref t4]) n5
      have gM := g5.new (o := .lst (items t1 t2 t3 t5)) nM
      have s5 := Same.new (o := .lst (items t1 t2 t3 t5)) (Same.refl _) nM
      have s4 := (Same.new (o := .tup [.str "c", .ref t4]) (Same.refl _) n5).trans s5
      have s3 := (Same.new (o := .tup [.str "x", .str "y"]) (Same.refl _) n4).trans s4
      have s2 := (Same.new (o := .tup [.str "b", .non]) (Same.refl _) n3).trans s3
      have s1 := (Same.new (o := .tup [.str "a", .str "yes"]) (Same.refl _) n2).trans s2
      have s0 := (Same.new (o := .tup [.str "a", .int 1]) (Same.refl H) n1).trans s1
      exact ⟨M, t1, t2, t3, t4, t5, rfl, ⟨s1 _ _ upd_same, s2 _ _ upd_same, s3 _ _ upd_same, s4 _ _ upd_same, s5 _ _ upd_same, pool_ne hp n1, pool_ne g1 n2, pool_ne g2 n3, pool_ne g3 n4, pool_ne g4 n5⟩, upd_same, pool_ne g5 nM, Same.keep s0, gM⟩
    rintro σ H0 ⟨M, t1, t2, t3, t4, t5, rfl, T0, hM0, hMp, k0, p0⟩
    refine ⟨fun σ H' => ∃ D, σ = [some (.ref p), some (.ref M), some (.ref D), none, none, none, none] ∧ Drawn H' D (items t1 t2 t3 t5) ∧ D ≠ p ∧ Keep p H0 H' ∧ Pool H' p (c + 4), ?_, ?_⟩
    · refine ⟨_, rfl, p, c, 4, rfl, p0, by omega, by decide, by decide, fun n Hn n0 n1 kn pn => ⟨n, rfl, by omega, by omega, fun D hD => ?_⟩⟩
      have hDp := pool_ne pn hD
      have hMn := kn _ _ hMp hM0
      refine lc_range (lo := 0) (n := n.toNat) (fun i H' => (∃ xs : List V, H' D = some (.lst xs) ∧ xs.length = i ∧ ∀ v ∈ xs, v ∈ items t1 t2 t3 t5) ∧ Keep p Hn H' ∧ Pool H' p (c + 1 + i)) ⟨⟨[], upd_same, rfl, fun _ h => (nomatch h)⟩, (Keep.refl p Hn).new hD, pn.new hD⟩ ?_ ?_
      · rintro i H' hi ⟨⟨xs, a1, a2, a3⟩, a4, a5⟩
        refine ⟨rfl, ?_⟩
        refine ⟨_, rfl, _, rfl, p, _, M, _, rfl, a5, by omega, a4 _ _ hMp hMn, hMp, by simp [items], by simp [items], fun v H4 hv k4 p4 => ?_⟩
        have hD4 := k4 _ _ hDp a1
        have hv' := hv
        have k4' := k4
        refine ⟨xs, hD4, Nat.lt_of_lt_of_le (show xs.length < 100 by omega) (by decide), ⟨xs ++ [v], upd_same, by simp [a2], ?_⟩, ?_, (p4.mono (by omega)).other (Ne.symm hDp)⟩
        · intro x hx
          rcases List.mem_append.mp hx with hx | hx
          · exact a3 x hx
          · rw [List.mem_singleton.mp hx]; exact hv'
        · intro b o n' e
          rw [upd_ne (ne_of_none e hD)]
          exact k4' b o n' (a4 b o n' e)
      · rintro H' ⟨⟨xs, a1, a2, a3⟩, a4, a5⟩
        exact ⟨D, rfl, ⟨xs, a1, by omega, a3⟩, hDp, kn.trans a4, a5.mono (by omega)⟩
    rintro σ H1 ⟨D1, rfl, d1, nD1, k1, p1⟩
    have hM1 := k1 _ _ hMp hM0
    refine ⟨fun σ H' => ∃ D, σ = [some (.ref p), some (.ref M), some (.ref D1), some (.ref D), none, none, none] ∧ Drawn H' D (items t1 t2 t3 t5) ∧ D ≠ p ∧ Keep p H1 H' ∧ Pool H' p (c + 8), ?_, ?_⟩
    · refine ⟨_, rfl, p, c + 4, 4, rfl, p1, by omega, by decide, by decide, fun n Hn n0 n1 kn pn => ⟨n, rfl, by omega, by omega, fun D hD => ?_⟩⟩
      have hDp := pool_ne pn hD
      have hMn := kn _ _ hMp hM1
      refine lc_range (lo := 0) (n := n.toNat) (fun i H' => (∃ xs : List V, H' D = some (.lst xs) ∧ xs.length = i ∧ ∀ v ∈ xs, v ∈ items t1 t2 t3 t5) ∧ Keep p Hn H' ∧ Pool H' p (c + 5 + i)) ⟨⟨[], upd_same, rfl, fun _ h => (nomatch h)⟩, (Keep.refl p Hn).new hD, pn.new hD⟩ ?_ ?_
      · rintro i H' hi ⟨⟨xs, a1, a2, a3⟩, a4, a5⟩
        refine ⟨rfl, ?_⟩
        refine ⟨_, rfl, _, rfl, p, _, M, _, rfl, a5, by omega, a4 _ _ hMp hMn, hMp, by simp [items], by simp [items], fun v H4 hv k4 p4 => ?_⟩
        have hD4 := k4 _ _ hDp a1
        have hv' := hv
        have k4' := k4
        refine ⟨xs, hD4, Nat.lt_of_lt_of_le (show xs.length < 100 by omega) (by decide), ⟨xs ++ [v], upd_same, by simp [a2], ?_⟩, ?_, (p4.mono (by omega)).other (Ne.symm hDp)⟩
        · intro x hx
          rcases List.mem_append.mp hx with hx | hx
          · exact a3 x hx
          · rw [List.mem_singleton.mp hx]; exact hv'
        · intro b o n' e
          rw [upd_ne (ne_of_none e hD)]
          exact k4' b o n' (a4 b o n' e)
      · rintro H' ⟨⟨xs, a1, a2, a3⟩, a4, a5⟩
        exact ⟨D, rfl, ⟨xs, a1, by omega, a3⟩, hDp, kn.trans a4, a5.mono (by omega)⟩
    rintro σ H2 ⟨D2, rfl, d2, nD2, k2, p2⟩
    have hM2 := k2 _ _ hMp hM1
    replace d1 := d1.keep nD1 k2
    refine ⟨fun σ H' => ∃ D, σ = [some (.ref p), some (.ref M), some (.ref D1), some (.ref D2), some (.ref D), none, none] ∧ Drawn H' D (items t1 t2 t3 t5) ∧ D ≠ p ∧ Keep p H2 H' ∧ Pool H' p (c + 12), ?_, ?_⟩
    · refine ⟨_, rfl, p, c + 8, 4, rfl, p2, by omega, by decide, by decide, fun n Hn n0 n1 kn pn => ⟨n, rfl, by omega, by omega, fun D hD => ?_⟩⟩
      have hDp := pool_ne pn hD
      have hMn := kn _ _ hMp hM2
      refine lc_range (lo := 0) (n := n.toNat) (fun i H' => (∃ xs : List V, H' D = some (.lst xs) ∧ xs.length = i ∧ ∀ v ∈ xs, v ∈ items t1 t2 t3 t5) ∧ Keep p Hn H' ∧ Pool H' p (c + 9 + i)) ⟨⟨[], upd_same, rfl, fun _ h => (nomatch h)⟩, (Keep.refl p Hn).new hD, pn.new hD⟩ ?_ ?_
      · rintro i H' hi ⟨⟨xs, a1, a2, a3⟩, a4, a5⟩
        refine ⟨rfl, ?_⟩
        refine ⟨_, rfl, _, rfl, 3, rfl, M, _, rfl, SqL.of (a4 _ _ hMp hMn), fun l hl => ?_⟩
        have hcut : cutV (items t1 t2 t3 t5) none (some 3) = [.ref t1, .ref t2, .ref t3] := rfl
        refine ⟨p, _, l, _, rfl, a5.new hl, by omega, upd_same, pool_ne a5 hl, by rw [hcut]; simp, by rw [hcut]; simp, fun v H4 hv k4 p4 => ?_⟩
        have hD4 := k4 _ _ hDp (by rw [upd_ne (ne_of_none a1 hl)]; exact a1)
        have hv' : v ∈ items t1 t2 t3 t5 := by
          rw [hcut] at hv
          simp only [List.mem_cons, List.not_mem_nil, or_false] at hv
          rcases hv with rfl | rfl | rfl <;> simp [items]
        have k4' := ((Keep.refl p H').new hl).trans k4
        refine ⟨xs, hD4, Nat.lt_of_lt_of_le (show xs.length < 100 by omega) (by decide), ⟨xs ++ [v], upd_same, by simp [a2], ?_⟩, ?_, (p4.mono (by omega)).other (Ne.symm hDp)⟩
        · intro x hx
          rcases List.mem_append.mp hx with hx | hx
          · exact a3 x hx
          · rw [List.mem_singleton.mp hx]; exact hv'
        · intro b o n' e
          rw [upd_ne (ne_of_none e hD)]
          exact k4' b o n' (a4 b o n' e)
      · rintro H' ⟨⟨xs, a1, a2, a3⟩, a4, a5⟩
        exact ⟨D, rfl, ⟨xs, a1, by omega, a3⟩, hDp, kn.trans a4, a5.mono (by omega)⟩
    rintro σ H3 ⟨D3, rfl, d3, nD3, k3, p3⟩
    have hM3 := k3 _ _ hMp hM2
    replace d1 := d1.keep nD1 k3
    replace d2 := d2.keep nD2 k3
    refine ⟨fun σ H' => ∃ D, σ = [some (.ref p), some (.ref M), some (.ref D1), some (.ref D2), some (.ref D3), some (.ref D), none] ∧ Drawn H' D (items t1 t2 t3 t5) ∧ D ≠ p ∧ Keep p H3 H' ∧ Pool H' p (c + 16), ?_, ?_⟩
    · refine ⟨_, rfl, p, c + 12, 4, rfl, p3, by omega, by decide, by decide, fun n Hn n0 n1 kn pn => ⟨n, rfl, by omega, by omega, fun D hD => ?_⟩⟩
      have hDp := pool_ne pn hD
      have hMn := kn _ _ hMp hM3
      refine lc_range (lo := 0) (n := n.toNat) (fun i H' => (∃ xs : List V, H' D = some (.lst xs) ∧ xs.length = i ∧ ∀ v ∈ xs, v ∈ items t1 t2 t3 t5) ∧ Keep p Hn H' ∧ Pool H' p (c + 13 + i)) ⟨⟨[], upd_same, rfl, fun _ h => (nomatch h)⟩, (Keep.refl p Hn).new hD, pn.new hD⟩ ?_ ?_
      · rintro i H' hi ⟨⟨xs, a1, a2, a3⟩, a4, a5⟩
        refine ⟨rfl, ?_⟩
        refine ⟨_, rfl, _, rfl, 3, rfl, M, _, rfl, SqL.of (a4 _ _ hMp hMn), fun l hl => ?_⟩
        have hcut : cutV (items t1 t2 t3 t5) none (some 3) = [.ref t1, .ref t2, .ref t3] := rfl
        refine ⟨p, _, l, _, rfl, a5.new hl, by omega, upd_same, pool_ne a5 hl, by rw [hcut]; simp, by rw [hcut]; simp, fun v H4 hv k4 p4 => ?_⟩
        have hD4 := k4 _ _ hDp (by rw [upd_ne (ne_of_none a1 hl)]; exact a1)
        have hv' : v ∈ items t1 t2 t3 t5 := by
          rw [hcut] at hv
          simp only [List.mem_cons, List.not_mem_nil, or_false] at hv
          rcases hv with rfl | rfl | rfl <;> simp [items]
        have k4' := ((Keep.refl p H').new hl).trans k4
        refine ⟨xs, hD4, Nat.lt_of_lt_of_le (show xs.length < 100 by omega) (by decide), ⟨xs ++ [v], upd_same, by simp [a2], ?_⟩, ?_, (p4.mono (by omega)).other (Ne.symm hDp)⟩
        · intro x hx
          rcases List.mem_append.mp hx with hx | hx
          · exact a3 x hx
          · rw [List.mem_singleton.mp hx]; exact hv'
        · intro b o n' e
          rw [upd_ne (ne_of_none e hD)]
          exact k4' b o n' (a4 b o n' e)
      · rintro H' ⟨⟨xs, a1, a2, a3⟩, a4, a5⟩
        exact ⟨D, rfl, ⟨xs, a1, by omega, a3⟩, hDp, kn.trans a4, a5.mono (by omega)⟩
    rintro σ H4 ⟨D4, rfl, d4, nD4, k4, p4⟩
    have hM4 := k4 _ _ hMp hM3
    replace d1 := d1.keep nD1 k4
    replace d2 := d2.keep nD2 k4
    replace d3 := d3.keep nD3 k4
    have T4 := T0.keep (((k1.trans k2).trans k3).trans k4)
    have kk := k0.trans (((k1.trans k2).trans k3).trans k4)
    obtain ⟨xa, e1, l1, m1⟩ := d1
    obtain ⟨xr, e2, l2, m2⟩ := d2
    obtain ⟨xf, e3, l3, m3⟩ := d3
    obtain ⟨xg, e4, l4, m4⟩ := d4
    have sz : ∀ n : Nat, n ≤ 100 → n ≤ sizeLine := fun n h => Nat.le_trans h (by decide)
    refine ⟨_, rfl, _, rfl, D1, D3, xa, xf, rfl, rfl, e1, e3, sz _ (by omega), fun L hL => ?_⟩
    have b1 : Same H4 (upd H4 L (.lst (xa ++ xf))) := Same.new (Same.refl H4) hL
    refine ⟨_, rfl, L, D2, _, _, rfl, rfl, upd_same, b1 _ _ e2, sz _ (by simp; omega), fun L2 hL2 => ?_⟩
    have b2 := Same.new (o := .lst (xa ++ xf ++ xr)) b1 hL2
    refine ⟨_, rfl, _, rfl, D1, D4, xa, xg, rfl, rfl, b2 _ _ e1, b2 _ _ e4, sz _ (by omega), fun L3 hL3 => ?_⟩
    have b3 := Same.new (o := .lst (xa ++ xg)) b2 hL3
    refine ⟨_, rfl, L3, D2, _, _, rfl, rfl, upd_same, b3 _ _ e2, sz _ (by simp; omega), fun L4 hL4 => ⟨by show 2 ≤ sizeLine; decide, fun r hr' => ?_⟩⟩
    have b4 := Same.new (o := .lst (xa ++ xg ++ xr)) b3 hL4
    have b5 := Same.new (o := .tup [.ref L2, .ref L4]) b4 hr'
    have T5 := T4.keep (Same.keep b5)
    have memL : ∀ (us : List V), (∀ v ∈ us, v ∈ items t1 t2 t3 t5) → ∀ v ∈ xa ++ us ++ xr, v ∈ items t1 t2 t3 t5 := fun us hu v hv => by
      rcases List.mem_append.mp hv with hv | hv
      · rcases List.mem_append.mp hv with hv | hv
        · exact m1 v hv
        · exact hu v hv
      · exact m2 v hv
    obtain ⟨ds, h1, h2⟩ := items_dp (K := K) T5 (memL xf m3)
    obtain ⟨es, h3, h4⟩ := items_dp (K := K) T5 (memL xg m4)
    have n24 : L2 ≠ L4 := ne_of_none ((Same.new (o := .lst (xa ++ xg)) (Same.refl _) hL3) _ _ upd_same) hL4
    have nn : ∀ a : Addr, H4 a = none → a ≠ p := fun a h => pool_ne p4 h
    have f2 := b1.free hL2
    have f4 := b3.free hL4
    refine q r L2 L4 _ _ ds es _ upd_same ?_ ?_ (kk.free (nn _ f2) f2) (kk.free (nn _ f4) f4) h1 h3 h2 h4 (by simp; omega) (by simp; omega) (kk.trans (Same.keep b5))
    · refine (Same.new (o := .tup [.ref L2, .ref L4]) (Same.refl _) hr') _ _ ?_
      rw [upd_ne n24]
      exact (Same.new (o := .lst (xa ++ xg)) (Same.refl _) hL3) _ _ upd_same
    · exact (Same.new (o := .tup [.ref L2, .ref L4]) (Same.refl _) hr') _ _ upd_same
end
end K8

namespace K8
open PySem L2
/-- what repr asks of data -/
structure ShownOk (d : PyData) : Prop where
  s : d.showable = true
  n : d.hasDict = false
  dp : d.depth ≤ 60
  l : d.shown.length ≤ sizeLine
theorem Fair1.ok {d : PyData} (f : Fair1 d) : ShownOk d := ⟨f.show_, f.dict, Nat.le_trans f.dep (by decide), line_ge (Nat.le_trans f.len (by decide))⟩
theorem sum_le {xs : List PyData} {n : Nat} (h : xs.length ≤ n) (f : ((PyData.shownAll xs).map (·.length)).sum ≤ 400 * xs.length) : ((PyData.shownAll xs).map (·.length)).sum ≤ 400 * n := by
  have := Nat.mul_le_mul_left 400 h
  omega
theorem list_len {ds : List PyData} (f : Fair ds) (h : ds.length ≤ 200) : (PyData.list ds).shown.length ≤ 90000 := by
  have r := f.all
  have a := listText_len_le (PyData.shownAll ds)
  have b := sum_le h r.len
  rw [r.num] at a
  rw [PyData.shown]
  omega
theorem Fair.listOk {ds : List PyData} (f : Fair ds) (h : ds.length ≤ 200) : ShownOk (.list ds) := by
  have r := f.all
  refine ⟨by rw [PyData.showable]; exact r.show_, by rw [PyData.hasDict]; exact r.dict, by rw [PyData.depth]; have := r.dep; omega, line_ge (Nat.le_trans (list_len f h) (by decide))⟩
theorem Fair.tupOk {ds : List PyData} (f : Fair ds) (h : ds.length ≤ 200) : ShownOk (.tuple ds) := by
  have r := f.all
  refine ⟨by rw [PyData.showable]; exact r.show_, by rw [PyData.hasDict]; exact r.dict, by rw [PyData.depth]; have := r.dep; omega, ?_⟩
  have a := tupleText_len_le (PyData.shownAll ds)
  have b := sum_le h r.len
  rw [r.num] at a
  rw [PyData.shown]
  exact line_ge (by omega)
theorem pairOk {ds es : List PyData} (f : Fair ds) (g : Fair es) (h : ds.length ≤ 200) (h' : es.length ≤ 200) : ShownOk (.tuple [.list ds, .list es]) := by
  have r := f.all
  have q := g.all
  refine ⟨?_, ?_, ?_, ?_⟩
  · rw [PyData.showable, PyData.showableAll, PyData.showableAll, PyData.showableAll, PyData.showable, PyData.showable, r.show_, q.show_]; rfl
  · rw [PyData.hasDict, PyData.hasDictAll, PyData.hasDictAll, PyData.hasDictAll, PyData.hasDict, PyData.hasDict, r.dict, q.dict]; rfl
  · have := r.dep
    have := q.dep
    rw [PyData.depth, PyData.depthAll, PyData.depthAll, PyData.depthAll, PyData.depth, PyData.depth]
    omega
  · have a := tupleText_len_le (PyData.shownAll [.list ds, .list es])
    have b := list_len f h
    have c := list_len g h'
    rw [PyData.shown]
    rw [PyData.shownAll, PyData.shownAll, PyData.shownAll] at a ⊢
    simp only [List.map_cons, List.map_nil, List.sum_cons, List.sum_nil, List.length_cons, List.length_nil] at a
    exact line_ge (by omega)
theorem fair_str {r : List Nat} (h : r.length ≤ 12 ∧ ∀ c ∈ r, c < 128) : Fair1 (.str (S r)) := by
  refine ⟨?_, by rw [PyData.depth]; decide, by rw [PyData.showable], by rw [PyData.hasDict], ?_⟩
  · rw [PyData.canLay0]
    unfold PyData.strOk
    rw [Array.all_eq_true_iff_forall_mem]
    intro c hc
    have : c ∈ r := by
      have e := S_cps r
      rw [← e]
      exact Array.mem_toList_iff.mpr hc
    have := h.2 c this
    exact decide_eq_true (by omega)
  · rw [PyData.shown]
    have a := StrLaws.reprText_len (S r) fun c hc => by
      rw [S_cps] at hc
      have := h.2 c hc
      omega
    rw [S_len] at a
    have := h.1
    omega
/-- texts that can be shown -/
def FairS (ws : List Str) : Prop := ∀ w ∈ ws, Fair1 (.str w)
theorem tiny_fair {ts : List (List Nat)} (h : Tiny ts) : FairS (ts.map S) := fun w hw => by
  obtain ⟨r, hr, rfl⟩ := List.mem_map.mp hw
  exact fair_str (h r hr)
theorem FairS.data {ws : List Str} (h : FairS ws) : Fair (ws.map PyData.str) := fun d hd => by
  obtain ⟨w, hw, rfl⟩ := List.mem_map.mp hd
  exact h w hw
theorem dp_strs (K : PySem.W.Frag) (H : Hp) : ∀ ws : List Str, DpAll K H (ws.map V.str) (ws.map PyData.str)
  | [] => .nil
  | _ :: ws => .cons (.str _) (dp_strs K H ws)
/-- a slip that there is -/
structure Snd (z : Str) (i : Nat) (o : Option Str) : Prop where
  k : z ∈ kinds
  i : i < 16
  w : z = "written" → ∃ y ∈ tokens7, o = some y
  n : z ≠ "written" → o = none
theorem Snd.sound {z : Str} {i : Nat} {o : Option Str} (s : Snd z i o) : Sound z o := ⟨s.k, fun h => let ⟨y, _, e⟩ := s.w h; ⟨y, e⟩⟩
theorem tok7_sort : ∀ y ∈ tokens7, sortV y ≠ V.non := by
  intro y hy
  simp only [tokens7, List.mem_cons, List.not_mem_nil, or_false] at hy
  rcases hy with rfl | rfl | rfl | rfl | rfl | rfl | rfl <;> decide +kernel
theorem tok7_fair : ∀ y ∈ tokens7, Fair1 (.str y) := by
  intro y hy
  simp only [tokens7, List.mem_cons, List.not_mem_nil, or_false] at hy
  rcases hy with rfl | rfl | rfl | rfl | rfl | rfl | rfl <;> exact fair_of (by decide +kernel)
theorem Snd.good {z : Str} {i : Nat} {o : Option Str} (s : Snd z i o) : goodSlip (some z) (some (i : Int)) o (tokV o) = true := by
  unfold goodSlip
  rw [Option.elim, Option.elim, decide_eq_true s.k, decide_eq_false (by omega : ¬ (i : Int) < 0)]
  by_cases h : z = "written"
  · rw [if_pos h]
    obtain ⟨y, hy, rfl⟩ := s.w h
    show (true && (!false && !decide (sortV y = V.non))) = true
    rw [decide_eq_false (tok7_sort y hy)]
    rfl
  · rw [if_neg h, s.n h]
    rfl
theorem Snd.len {z : Str} {i : Nat} {o : Option Str} (s : Snd z i o) : ∀ y, o = some y → y.length ≤ 1000 := fun y e => by
  by_cases h : z = "written"
  · obtain ⟨y', hy', e'⟩ := s.w h
    rw [e] at e'
    exact Option.some.inj e' ▸ tok7_len y' hy'
  · rw [s.n h] at e; cases e
/-- the token of a slip, as data -/
def tokD : Option Str → PyData
  | none => .none
  | some y => .str y
theorem dp_tok {K : PySem.W.Frag} {H : Hp} (o : Option Str) : Dp K H (tokV o) (tokD o) := by
  cases o with
  | none => exact .non
  | some y => exact .str y
theorem Snd.fairT {z : Str} {i : Nat} {o : Option Str} (s : Snd z i o) : Fair1 (tokD o) := by
  by_cases h : z = "written"
  · obtain ⟨y, hy, rfl⟩ := s.w h
    exact tok7_fair y hy
  · rw [s.n h]; exact fair_of (by decide +kernel)
theorem Snd.fairK {z : Str} {i : Nat} {o : Option Str} (s : Snd z i o) : Fair1 (.str z) := by
  have h := s.k
  simp only [kinds, List.mem_cons, List.not_mem_nil, or_false] at h
  rcases h with rfl | rfl | rfl | rfl <;> exact fair_of (by decide +kernel)
theorem Snd.fair3 {z : Str} {i : Nat} {o : Option Str} (s : Snd z i o) : Fair [.str z, .int i, tokD o] := fun d hd => by
  simp only [List.mem_cons, List.not_mem_nil, or_false] at hd
  rcases hd with rfl | rfl | rfl
  · exact s.fairK
  · exact fair_idx s.i
  · exact s.fairT
/-- what comes of a slip done -/
def dueD (z : Str) (i : Nat) (o : Option Str) (ws : List Str) : PyData := if fitsB z i o ws = true then .list ((dueS z i o ws).map PyData.str) else .tuple [.int i]
theorem due_fair {z : Str} {i : Nat} {o : Option Str} {ws : List Str} (s : Snd z i o) (h : FairS ws) : FairS (dueS z i o ws) := by
  have e0 : Fair1 (.str "") := fair_of (by decide +kernel)
  have gd : ∀ j, Fair1 (.str (ws.getD j "")) := fun j => by
    rw [List.getD_eq_getElem?_getD]
    cases e : ws[j]? with
    | none => exact e0
    | some w => exact h w (List.mem_of_getElem? e)
  have gt : Fair1 (.str (o.getD "")) := by
    by_cases hz : z = "written"
    · obtain ⟨y, hy, rfl⟩ := s.w hz
      exact tok7_fair y hy
    · rw [s.n hz]; exact e0
  intro w hw
  unfold dueS at hw
  split at hw
  · rcases List.mem_append.mp hw with hw | hw
    · exact h w (List.mem_of_mem_take hw)
    · exact h w (List.mem_of_mem_drop hw)
  · split at hw
    · rcases List.mem_append.mp hw with hw | hw
      · exact h w (List.mem_of_mem_take hw)
      · rcases List.mem_cons.mp hw with rfl | hw
        · exact gd i
        · exact h w (List.mem_of_mem_drop hw)
    · split at hw
      · rcases List.mem_append.mp hw with hw | hw
        · exact h w (List.mem_of_mem_take hw)
        · rcases List.mem_cons.mp hw with rfl | hw
          · exact gd _
          · rcases List.mem_cons.mp hw with rfl | hw
            · exact gd i
            · exact h w (List.mem_of_mem_drop hw)
      · rcases List.mem_append.mp hw with hw | hw
        · exact h w (List.mem_of_mem_take hw)
        · rcases List.mem_cons.mp hw with rfl | hw
          · exact gt
          · exact h w (List.mem_of_mem_drop hw)
theorem due_len (z : Str) (i : Nat) (o : Option Str) (ws : List Str) : (dueS z i o ws).length ≤ 2 * ws.length + 3 := by
  unfold dueS
  split
  · simp; omega
  · split
    · simp; omega
    · split <;> (simp; omega)
theorem due_ok {z : Str} {i : Nat} {o : Option Str} {ws : List Str} (s : Snd z i o) (h : FairS ws) (hl : ws.length ≤ 20) : ShownOk (dueD z i o ws) := by
  unfold dueD
  split
  · refine (due_fair s h).data.listOk ?_
    have := due_len z i o ws
    rw [List.length_map]
    omega
  · refine Fair.tupOk (fun d hd => ?_) (by simp)
    rw [List.mem_singleton.mp hd]
    exact fair_idx s.i
end K8

/-! promises of defs that ask that no repr is under way (at the law's call none is) -/
namespace L2
open PySem PySem.Spec PyProof.Rows
theorem deeper_guards (A : Around) (e : Env) : (A.deeper e).guards = A.guards := rfl
/-- as FnOk (no error leaves), where no repr is under way -/
structure FnG (P : Program) (w : World) (K : PySem.W.Frag) (mg : Str → Option Value) (base : Heap) (k : Nat) (f : Addr) (fd : FuncData) (ps : List Str) (sp : Sp) : Prop where
  gl : ∀ vs H Q E, sp vs H Q E → vs.length = ps.length
  go : ∀ (A : Around) (outer : List Env) (s : Shared) (H : Hp) (args : Args) (us : List Value) (vs : List V) (Q : VK), A.guards = some [] → Room k A → Env0 P w K mg base A outer s H →
    BindsTo s fd args (ps.zip us) → Vals vs us → sp vs H Q E0 → codeAny (model P w) A (.call (.ref f) args) (CR CX0 outer P w H s Q E0) s
section
variable {P : Program} {w : World} {K : PySem.W.Frag} {mg : Str → Option Value} {base : Heap}
theorem Fun.okG {x qual : Str} {st : Stmt} {f : Addr} {fd : FuncData} {N ps : List Str} {k : Nat} {sp : Sp} (F : Fun K x qual st f fd) (S : FnScope N ps (defScope st)) (hlen : ∀ vs H Q E, sp vs H Q E → vs.length = ps.length)
    (hb : ∀ (cdv : Value) (A : Around) (outer : List Env) (s : Shared) (H : Hp) (vs : List V) (Q : VK), (A.deeper (envOfC qual (defScope st) s.heap.objs.size f cdv)).guards = some [] →
      Room k (A.deeper (envOfC qual (defScope st) s.heap.objs.size f cdv)) → sp vs H Q E0 →
      ∃ t, PSs (cxOf CX0 P w K mg base N qual (defScope st) f cdv A outer s H E0).nox (defBody st) t ∧ t { nx := fun _ H' => Q .non H', rt := Q } (start N vs) H) : FnG P w K mg base (k + 1) f fd ps sp := by
  obtain ⟨oc, od, kV, doc, pm, an, cdv, ct, osl, rfl, lk, hcd⟩ := F.ex
  refine ⟨hlen, ?_⟩
  intro A outer s H args us vs Q hgu hroom env0 hbind hvals hsp
  have grown : ∀ b o, base.get? b = some o → s.heap.get? b = some o := fun b o e => (env0.bs b o e).1
  have inK : K.In s.heap := env0.mod.kin.keeps grown
  have noLim := env0.mod.nolimit.keeps grown
  refine codeAny_call_function hroom.depth (inK _ _ lk) rfl S.co S.gen rfl (PySem.W.codeRec_of inK hcd) (hbind _ _ _ _ ?_)
  refine wpAny_newFunctionEnv_cells S.kind ?_ ?_
  · rintro ⟨n, u⟩ hy
    have hp := S.par n (List.of_mem_zip hy).1
    cases hp with
    | inl q => exact Or.inl q
    | inr q => exact Or.inr ⟨q, PySem.W.cellsFrom_some _ _ _ (Or.inl q)⟩
  · intro env he s1 call
    subst he
    refine ⟨noLim.keeps call.toInCall.keep, codeAny_func ?_⟩
    obtain ⟨t, der, reading⟩ := hb cdv A outer s H vs Q hgu (hroom.deeper _) hsp
    have inv := inv_start (CX := CX0) (P := P) (w := w) (K := K) (mg := mg) (base := base) (E := E0) S hroom.hd env0 (hlen _ _ _ _ hsp) hvals call
    refine wpAny_mono (der.nox.run [] s1 (start N vs) H _ inv reading) ?_ ?_
    · rintro (_ | _ | _ | u) s' hs
      · obtain ⟨σ', H', J, q⟩ := hs
        exact ⟨V.non, H', J.os, J.bare, J.base, J.hok, rfl, q⟩
      · exact hs.elim fun _ z => z.elim fun _ z => z.2.elim
      · exact hs.elim fun _ z => z.elim fun _ z => z.2.elim
      · obtain ⟨v, σ', H', J, rv, q⟩ := hs
        exact ⟨v, H', J.os, J.bare, J.base, J.hok, rv, q⟩
    · exact fun e s' hs => hs
end
section
variable {X : Cx} {k : Nat} {f : Addr} {fd : FuncData} {ps : List Str} {sp : Sp} {x : Str} {p pos : Pos} {e : Expr} {es : List Expr} {t : TA}
theorem pe_callG (F : FnG X.prog X.w X.K X.mg X.base k f fd ps sp) (hgu : X.A.guards = some []) (hr : Room k X.A) (hg : Gl X x) (hm : X.mg x = some (.ref f)) (hk : PySem.W.keepIn X.K (.ref f) = true) (hb : Binds X.K fd ps []) (ha : PA X (e :: es) t)
    (hdb : (x == ("__debug__" : Str)) = false := by decide) (he : starEach (e :: es) X.env = (false, eval e X.env) :: starEach es X.env := by rfl) (hpl : (backTo pos (starEach es X.env)).any (·.1) = false := by rfl) :
    PE X (.Call (.Name x p) (e :: es) [] pos) (tCall sp [] E0 t) := by
  constructor
  intro pins s σ H Q I h
  refine wpAny_Call_Name_kw (ld_glob I hg hm ?_ hdb)
  refine PySem.W.callWith_K (h₀ := X.base) I.ok.mod.kin hk (thn (ha.run pos pins s σ H _ I h) ?_) he hpl
  rintro us s1 ⟨vs, H1, I1, r, q⟩
  refine ⟨I1.kIn, ?_⟩
  rw [List.append_nil] at q
  have hl : (us ++ []).length = ps.length := by rw [List.append_nil, ← r.length]; exact F.gl _ _ _ _ q
  have hbd := hb s1 us I1.kIn hl
  rw [List.append_nil] at hbd
  refine wpAny_call (codeAny_mono (F.go X.A X.stack s1 H1 ⟨us, []⟩ us vs Q hgu hr I1.env0 hbd r q) ?_)
  rintro (er | (_ | _ | _ | u)) s' hq
  · exact hq.elim
  · exact hq.elim
  · exact hq.elim
  · exact hq.elim
  · exact I1.after hq
end
end L2

/-! repr(data): what is shown of lists, tuples, texts, ints, bools and None at any depth -/
namespace L2
open PySem PySem.Spec PyProof.Rows
/-- the reading: d the data, shown as Python shows it -/
def rRepr (K : PySem.W.Frag) : List V → Hp → VK → Prop := fun xs H Q => ∃ (v : V) (d : PyData), xs = [v] ∧ Dp K H v d ∧ d.showable = true ∧ d.hasDict = false ∧ d.depth ≤ 60 ∧ d.shown.length ≤ sizeLine ∧ Q (.str d.shown) H
theorem call_reprD {X : Cx} (hgu : X.A.guards = some []) (hu : X.A.units + 64 < cLine) : CallR X (.builtin "repr") (rRepr X.K) := by
  intro pins s σ H xs us Q I r h
  obtain ⟨v, d, rfl, hd, hs, hnd, hdep, hsz, q⟩ := h
  obtain ⟨u, rfl, ru⟩ := vals1 r
  obtain ⟨as, hr⟩ := Dp.reads I d v u hd ru
  have fin : ∀ (s' : Shared) (t : Tok), Inv X pins σ H s' → EP X pins σ Q (.str d.shown t) s' := fun s' t J => ⟨.str d.shown, H, J, ⟨t, rfl⟩, q⟩
  have viaRef : ∀ a : Addr, u = .ref a → wpAny (model X.prog X.w) X.A (PySem.call (.builtin "repr") [u]) (EP X pins σ Q) X.xe s := fun a e => by
    subst e
    exact repr_of_reads' hr hs (fun z => by rw [hnd] at z; cases z) hgu (by omega) (fun _ _ e => e) (fun h' u tk k => fin _ _ (I.kept (t' := tk) k)) hsz
  cases hd with
  | non =>
    obtain rfl : u = .none := ru
    exact PySem.P.repr_of_none (fin _ _ (I.tok _))
  | bl b =>
    obtain rfl : u = .bool b := ru
    have e : (PyData.bool b).shown = (if b then "True" else "False" : Str) := PyData.shown_bool b
    rw [e] at fin
    cases b
    · exact PySem.P.repr_of_bool (fin _ _ (I.tok _))
    · exact PySem.P.repr_of_bool (fin _ _ (I.tok _))
  | int i =>
    obtain ⟨t, rfl⟩ := ru
    have hs' : i.natAbs.log2 < 1920 := by simpa [PyData.showable] using hs
    have e := PyData.shown_int i
    rw [e] at fin
    exact PySem.P.repr_of_int hs' (fin _ _ (I.tok _))
  | str x =>
    obtain ⟨t, rfl⟩ := ru
    have e := PyData.shown_str x
    rw [e] at fin hsz
    exact PySem.P.repr_of_str (fin _ _ (I.tok _)) hsz
  | lst _ _ => exact viaRef _ ru
  | tup _ _ => exact viaRef _ ru
end L2

/-! the end of a law row for a promise that asks that no repr is under way -/
namespace L2
open PySem PySem.Spec PyProof.Rows
section
variable {P : Program} {w : World} {K : PySem.W.Frag} {mg mb : Str → Option Value} {k : Nat} {fa a : Addr} {fd : FuncData} {x : Str} {sp : Sp} {s : Shared} {vs : List Value} {ns : List Int}
/-- what the caller asks of the end -/
abbrev AskedK (s : Shared) : Result → Shared → Prop := fun r s' => r = .ok (.ret (.bool true)) ∧ OldK s.heap s'.heap ∧ s'.os = s.os ∧ AllBare s'.gens
theorem endG_of {H : Hp} (KX : K.In s.heap) (hns : s.heap.Ns mainGlobals mg) (hb : s.heap.Ns builtinsNs mb) (hbb : ∀ x : Str, x ≠ "__name__" → mb x = bootBuiltins x) (hlim : s.heap.NoLimit) (hg : s.gens = #[])
    (hobj : s.heap.get? a = some { cls := .type "list", data := .seq vs.toArray }) (hroom : Room k callerA)
    (F : ∀ base : Heap, K.In base → base.Ns mainGlobals mg → FnG P w K mg base k fa fd [x] sp) (hbind : ∀ (s : Shared) (u : Value), BindsTo s fd ⟨[u], []⟩ [(x, u)])
    (hO : Only H) (hok : HOk P w H s.heap) (one : ∀ b, H b ≠ none → b = a) (free : H a ≠ none → K.lookup a = none)
    (hsp : sp [.ref a] H (fun v _ => v = .bl true) E0) : codeAny (model P w) callerA (.call (.ref fa) ⟨[.ref a], []⟩) (AskedK s) s := by
  have base_of : ∀ {b : Addr} {o : Obj}, s.heap.get? b = some o → H b = none → (hidT s.heap H).get? b = some o := fun e n => hidT_get e n
  have apart : ∀ {b : Addr}, b ≠ a → H b = none := fun {b} hba => Classical.byContradiction fun z => hba (one b z)
  have notDict : ∀ {b : Addr} {o : Obj} {es : Array DictEntry} {ep : Nat}, s.heap.get? b = some o → o.data = .dict es ep → H b = none := by
    intro b o es ep e d
    refine apart fun z => ?_
    rw [z, hobj] at e
    cases e
    cases d
  have keepNs : ∀ {b : Addr} {m : Str → Option Value}, s.heap.Ns b m → (hidT s.heap H).Ns b m := by
    rintro b m ⟨o, es, ep, e, d, r⟩
    exact ⟨o, es, ep, base_of e (notDict e d), d, r⟩
  have inBase : K.In (hidT s.heap H) := by
    intro b o e
    refine base_of (KX b o e) (Classical.byContradiction fun z => ?_)
    have hba := one b z
    subst hba
    rw [free z] at e
    cases e
  have md : Mod K mg (hidT s.heap H) := by
    refine ⟨inBase, keepNs hns, ⟨mb, keepNs hb, hbb⟩, ?_⟩
    obtain ⟨mc, h1, h2⟩ := hlim
    exact ⟨mc, keepNs h1, h2⟩
  have env0 : Env0 P w K mg (hidT s.heap H) callerA [] s H := by
    refine ⟨rfl, md, fun b o e => of_hidT e, Nat.le_of_eq (hidT_size _ _), trivial, ?_, hok, .of_eq hg⟩
    intro b hb
    exact absurd (show b ∈ ([] : List Addr) from hb) (by simp)
  refine codeAny_mono ((F _ inBase (keepNs hns)).go callerA [] s H ⟨[.ref a], []⟩ [.ref a] [.ref a] _ rfl hroom env0 (hbind s (.ref a)) (.cons rfl .nil) hsp) ?_
  rintro (er | (_ | _ | _ | u)) s' h
  · exact h.elim
  · exact h.elim
  · exact h.elim
  · exact h.elim
  · obtain ⟨v, H', os, bare, un, hok', rv, q⟩ := h
    have q' : v = .bl true := q
    subst q'
    obtain rfl : u = Value.bool true := rv
    refine ⟨rfl, OldK.of_keep ?_, os, bare⟩
    intro b o e
    rcases hO b with z | ⟨ob, xs, z⟩
    · exact un.keep b o e z (by intro y; exact absurd (show b ∈ ([] : List Addr) from y) (by simp)) (by simp)
    · obtain ⟨e1, _⟩ := hok b _ z
      obtain ⟨e2, _⟩ := hok' b _ (un.frzs b ob _ z)
      rw [e] at e1
      cases e1
      exact e2
theorem law_callG (KX : K.In s.heap) (hns : s.heap.Ns mainGlobals mg) (hb : s.heap.Ns builtinsNs mb) (hbb : ∀ x : Str, x ≠ "__name__" → mb x = bootBuiltins x) (hlim : s.heap.NoLimit) (hg : s.gens = #[])
    (hobj : s.heap.get? a = some { cls := .type "list", data := .seq vs.toArray }) (hi : IntsAre vs ns) (hl : ns.length ≤ sizeLine) (hroom : Room k callerA)
    (F : ∀ base : Heap, K.In base → base.Ns mainGlobals mg → FnG P w K mg base k fa fd [x] sp) (hbind : ∀ (s : Shared) (u : Value), BindsTo s fd ⟨[u], []⟩ [(x, u)])
    (hsp : ∀ H : Hp, Only H → SqL K H a (ns.map V.int) → sp [.ref a] H (fun v _ => v = .bl true) E0) : codeAny (model P w) callerA (.call (.ref fa) ⟨[.ref a], []⟩) (AskedK s) s := by
  have rv := vals_ints hi
  have lenV := hi.length
  cases hk : K.lookup a with
  | some o =>
    have e := KX a o hk
    rw [hobj] at e
    cases e
    have sq : SqL K (fun _ => none) a (ns.map V.int) := .inr ⟨_, vs.toArray, _, hk, rfl, rfl, rfl, by rw [List.size_toArray, lenV]; exact hl, by simpa using rv⟩
    have only : Only (fun _ => none) := fun _ => .inl rfl
    have hok : HOk P w (fun _ => none) s.heap := by
      intro b u z
      have z' : (none : Option HO) = some u := z
      cases z'
    exact endG_of KX hns hb hbb hlim hg hobj hroom F hbind only hok (fun b z => absurd rfl z) (fun z => absurd rfl z) (hsp _ only sq)
  | none =>
    let O : Obj := { cls := .type "list", data := .seq vs.toArray }
    let H : Hp := fun b => if b = a then some (.frz O (.lst (ns.map V.int))) else none
    have atA : H a = some (.frz O (.lst (ns.map V.int))) := if_pos rfl
    have off : ∀ b, b ≠ a → H b = none := fun b n => if_neg n
    have only : Only H := by
      intro b
      by_cases n : b = a
      · exact .inr ⟨O, ns.map V.int, by rw [n]; exact atA⟩
      · exact .inl (off b n)
    have hok : HOk P w H s.heap := by
      intro b u z
      by_cases n : b = a
      · subst n
        rw [atA] at z
        cases z
        exact ⟨hobj, by rw [List.length_map]; exact hl, vs, _, rv, hobj⟩
      · rw [off b n] at z
        cases z
    have one : ∀ b, H b ≠ none → b = a := fun b z => Classical.byContradiction fun n => z (off b n)
    exact endG_of KX hns hb hbb hlim hg hobj hroom F hbind only hok one (fun _ => hk) (hsp _ only (.inl (.inr ⟨O, atA⟩)))
end
/-- the goal that k_head leaves, from the law's promise -/
theorem walk_ofG {l : PySem.W.OpenLaw} {n k : Nat} {q : Program} {loose : List Str} {XP : (Str → Option Value) → Heap → Prop} {YP : World → Heap → Prop} {d : DefRec} {K : Params → PySem.W.Frag} {sp : World → Sp} {x : Str}
    (hn : l.most = some n) (hn2 : n ≤ sizeLine) (hdf : d.params.defaults = []) (hr : Room k callerA) (hY : ∀ (w : World) (h : Heap), YP w h → (K w.params).In h)
    (F : ∀ (w : World) (mg : Str → Option Value) (fa : Addr) (h : Heap), (K w.params).In h → h.Ns mainGlobals mg → mg d.name = some (.ref fa) →
      ∃ fd : FuncData, (∀ (s : Shared) (u : Value), BindsTo s fd ⟨[u], []⟩ [(x, u)]) ∧ ∀ base : Heap, (K w.params).In base → base.Ns mainGlobals mg → FnG l.prog w (K w.params) mg base k fa fd [x] (sp w))
    (hsp : ∀ (w : World) (H : Hp) (a : Addr) (ns : List Int), ns.length ≤ n → Only H → SqL (K w.params) H a (ns.map V.int) → sp w [.ref a] H (fun v _ => v = .bl true) E0) :
    PySem.W.WalkO q loose XP YP l.row.toRowW d [] (fun f vs => PySem.call f vs) := by
  refine Att.attach_call hn hdf ?_
  intro w s₀ s₁ mg mb fa o pm cd doc a vs ns G Y ho hd hcd hmg hobj hints hlen hg
  have KX := hY w _ Y
  obtain ⟨fd, hb, hF⟩ := F w mg fa _ KX G.T.g hmg
  exact law_callG KX G.T.g G.T.b G.T.builtins G.T.nolimit hg hobj hints (Nat.le_trans hlen hn2) hr hF hb (fun H hO hS => hsp w H a ns hlen hO hS)
end L2

namespace K8
open PySem L2
abbrev sLaw : Stmt := top 35
def spLaw (K : PySem.W.Frag) : Sp := fun vs H Q _ => ∃ (a : Addr) (ns : List Int), vs = [.ref a] ∧ SqL K H a (ns.map V.int) ∧ ns.length ≤ 63 ∧ ∀ H', Q (.bl true) H'
abbrev Fn (P : Program) (w : World) (K : PySem.W.Frag) (mg : Str → Option Value) (base : Heap) (n : Nat) (x : Str) (ps : List Str) (sp : Sp) : Prop :=
  ∃ f fd, PySem.W.keepIn K (.ref f) = true ∧ FnOk P w K mg base CX0 n f fd ps sp ∧ Binds K fd ps [] ∧ mg x = some (.ref f)
/-- the law's callees -/
structure Callees (P : Program) (w : World) (K : PySem.W.Frag) (mg : Str → Option Value) (base : Heap) (C CB : Addr) : Prop where
  pool : Fn P w K mg base 1 "_law_pool" ["_law_script", "_law_place"] (spPool K)
  parts : Fn P w K mg base 3 "_law_parts" ["_law_pool_here"] (spParts K)
  made : Fn P w K mg base 7 "_law_made" ["_law_parts_here"] (spMade K C)
  tokens : Fn P w K mg base 4 "_law_tokens" ["_law_pool_here", "_law_many"] spTokens
  lfits : Fn P w K mg base 1 "_law_fits" ["_law_parts_here", "_law_file"] (spLawFits K)
  due : Fn P w K mg base 1 "_law_due" ["_law_parts_here", "_law_file"] (spLawDue K)
  done : Fn P w K mg base 3 "_law_done" ["_law_slip", "_law_file"] (spDone K C)
  lists : Fn P w K mg base 3 "_law_lists" ["_law_pool_here"] (spLists K)
  trim : Fn P w K mg base 2 "trimmed" ["first", "second"] (spTrim K)
  cut : Fn P w K mg base 1 "_law_cut" ["_law_first", "_law_second"] (spLawCut K)
  fits : ∃ f fd, Meth K C "fits" f ∧ FnOk P w K mg base CX0 1 f fd ["self", "file"] (spFits K C) ∧ Binds K fd ["self", "file"] []
  eq : ∃ f fd, PySem.W.findIn K (.ref C) "__eq__" = some (some (.ref f)) ∧ PySem.W.isFn K (.ref f) = true ∧ FnOk P w K mg base CX0 1 f fd ["self", "other"] (spEqS K C) ∧ Binds K fd ["self", "other"] []
  init : ∃ f fd, Mk K C f ∧ FnOk P w K mg base (L2.CX P w) 5 f fd ["self", "kind", "at", "token"] (spInit K C CB) ∧ Binds K fd ["self", "kind", "at", "token"] []
  tupNot : PySem.W.notFirst K C (.type "tuple") = true
  tupKit : PySem.W.kitOne K (.type "tuple") (.ref C) = some false
abbrev nLaw : List Str := ["_law_script", "_law_kept", "_law_place", "_law_pool_here", "_law_parts_here", "_law_slip", "_law_turn", "_law_file", "_law_copy", "_law_fits_here", "_law_due_here", "_law_other", "_law_others", "_law_first", "_law_second", "_law_copies", "_law_told"]
/-- the law's cells -/
abbrev s17 (a kp : Addr) (v2 v3 v4 v5 v6 v7 v8 v9 v10 v11 v12 v13 v14 v15 v16 : Option V) : St := [some (.ref a), some (.ref kp), v2, v3, v4, v5, v6, v7, v8, v9, v10, v11, v12, v13, v14, v15, v16]
/-- a slip that was kept, beside its parts -/
structure Rec where
  t : Addr
  x : Addr
  q : Addr
  z : Str
  i : Nat
  o : Option Str
structure RecOk (C : Addr) (H : Hp) (r : Rec) : Prop where
  tp : H r.t = some (.tup [.ref r.x, .ref r.q])
  sl : SlipAt C H r.x r.z r.i r.o
  pt : PartsAt H r.q r.z r.i r.o
  sd : Snd r.z r.i r.o
structure Kept (C : Addr) (H : Hp) (kp : Addr) (rs : List Rec) : Prop where
  l : H kp = some (.lst (rs.map fun r => V.ref r.t))
  ok : ∀ r ∈ rs, RecOk C H r
theorem RecOk.same {C : Addr} {H H' : Hp} {r : Rec} (k : RecOk C H r) (s : Same H H') : RecOk C H' r := ⟨s _ _ k.tp, k.sl.same s, s _ _ k.pt, k.sd⟩
theorem Kept.same {C : Addr} {H H' : Hp} {kp : Addr} {rs : List Rec} (k : Kept C H kp rs) (s : Same H H') : Kept C H' kp rs := ⟨s _ _ k.l, fun r hr => (k.ok r hr).same s⟩
/-- what is no list is not the list's address -/
theorem ne_lst {H : Hp} {b kp : Addr} {o : HO} {L : List V} (h : H b = some o) (hk : H kp = some (.lst L)) (n : o ≠ .lst L) : b ≠ kp := fun e => n (by rw [e, hk] at h; exact (Option.some.inj h).symm)
theorem RecOk.put {C : Addr} {H : Hp} {r : Rec} {kp : Addr} {L : List V} {o : HO} (k : RecOk C H r) (hk : H kp = some (.lst L)) : RecOk C (upd H kp o) r := by
  obtain ⟨dx, hx⟩ := k.sl
  exact ⟨by rw [upd_ne (ne_lst k.tp hk (by simp))]; exact k.tp, ⟨dx, by rw [upd_ne (ne_lst hx hk (by simp))]; exact hx⟩, by unfold PartsAt; rw [upd_ne (ne_lst k.pt hk (by simp))]; exact k.pt, k.sd⟩
theorem pool_lst {H : Hp} {p : Addr} {c : Nat} (h : Pool H p c) : ∃ L, H p = some (.lst L) := by
  obtain ⟨g, m, k, e, _⟩ := h
  exact ⟨_, e⟩
theorem bool_ok (b : Bool) : ShownOk (.bool b) := by
  cases b <;> exact (fair_of (by decide +kernel)).ok
/-- the parts of a slip, as data -/
def partsD (z : Str) (i : Nat) (o : Option Str) : PyData := .tuple [.str z, .int i, tokD o, .bool true]
theorem partsD_dp {K : PySem.W.Frag} {H : Hp} {q : Addr} {z : Str} {i : Nat} {o : Option Str} (h : PartsAt H q z i o) : Dp K H (.ref q) (partsD z i o) :=
  .tup (SqT.of h) (.cons (.str _) (.cons (.int _) (.cons (dp_tok o) (.cons (.bl _) .nil))))
theorem Snd.fair4 {z : Str} {i : Nat} {o : Option Str} (s : Snd z i o) : Fair [.str z, .int i, tokD o, .bool true] := fun d hd => by
  simp only [List.mem_cons, List.not_mem_nil, or_false] at hd
  rcases hd with rfl | rfl | rfl | rfl
  · exact s.fairK
  · exact fair_idx s.i
  · exact s.fairT
  · exact fair_of (by decide +kernel)
theorem tokD_eqv (o o' : Option Str) : PyData.eqv (tokD o) (tokD o') = decide (o = o') := by
  cases o with
  | none => cases o' with
    | none => rfl
    | some y => rfl
  | some x => cases o' with
    | none => rfl
    | some y =>
      show (x == y) = _
      by_cases h : x = y
      · rw [h]; simp
      · rw [decide_eq_false (by simpa using h)]; exact beq_eq_false_iff_ne.mpr h
theorem partsD_eqv (z z' : Str) (i i' : Nat) (o o' : Option Str) : PyData.eqv (partsD z i o) (partsD z' i' o') = (decide (z = z') && (decide (i = i') && decide (o = o'))) := by
  unfold partsD
  rw [PyData.eqv, PyData.eqvAll, PyData.eqvAll, PyData.eqvAll, PyData.eqvAll, PyData.eqvAll, tokD_eqv, PyData.eqv, PyData.eqv, PyData.eqv]
  have e1 : (z == z') = decide (z = z') := by
    by_cases h : z = z'
    · rw [h]; simp
    · rw [decide_eq_false h]; exact beq_eq_false_iff_ne.mpr h
  have e2 : ((i : Int) == (i' : Int)) = decide (i = i') := by
    by_cases h : i = i'
    · rw [h]; simp
    · rw [decide_eq_false h]; exact beq_eq_false_iff_ne.mpr (by omega)
  rw [e1, e2]
  simp
theorem eqv_self {d : PyData} (h : SeqAt.shaped d = true) : PyData.eqv d d = true := by
  unfold SeqAt.shaped at h
  exact SeqAt.eqv_refl d (Bool.and_eq_true_iff.mp h).1
theorem two_shaped {ds es : List PyData} (f : Fair ds) (g : Fair es) : SeqAt.shaped (.list [.list ds, .list es]) = true := by
  have r := f.all
  have q := g.all
  unfold SeqAt.shaped
  rw [PyData.canLay0, PyData.canLayAll0, PyData.canLayAll0, PyData.canLayAll0, PyData.canLay0, PyData.canLay0, r.lay, q.lay, PyData.depth, PyData.depthAll, PyData.depthAll, PyData.depthAll, PyData.depth, PyData.depth]
  have := r.dep
  have := q.dep
  exact decide_eq_true (by omega)
theorem rest_sub {α : Type} (n m : Nat) (l : List α) : ∀ d ∈ rest n m l, d ∈ l := fun _ h => List.mem_of_mem_drop (List.mem_of_mem_take h)
theorem DpAll.rest {K : PySem.W.Frag} {H : Hp} {ds : List PyData} {vs : List V} (n m : Nat) (h : DpAll K H vs ds) : DpAll K H (rest n m vs) (rest n m ds) := by
  have e := DpAll.len (DpAll.drop n h)
  unfold K8.rest
  rw [e]
  exact DpAll.take _ (DpAll.drop n h)
section
variable {P : Program} {w : World} {K : PySem.W.Frag} {mg : Str → Option Value} {base : Heap} {aS aK : Addr}
theorem scLaw : FnScope nLaw ["_law_script"] (defScope sLaw) := ⟨rfl, rfl, rfl, by decide +kernel, rfl, by decide +kernel, by decide +kernel⟩
theorem ok_law {f C CB : Addr} {fd : FuncData} (F : Fun K "law" "law" sLaw f fd) (T : Mod2 K mg aS aK) (S : SlipC K mg C) (Ca : Callees P w K mg base C CB) : FnG P w K mg base 8 f fd ["_law_script"] (spLaw K) := by
  obtain ⟨fPool, fdPool, kPool, GPool, bPool, mPool⟩ := Ca.pool
  obtain ⟨fP, fdP, kP, GP, bP, mP⟩ := Ca.parts
  obtain ⟨fM, fdM, kM', GM, bM, mM⟩ := Ca.made
  obtain ⟨fT, fdT, kT, GT, bT, mT⟩ := Ca.tokens
  obtain ⟨fF, fdF, kF, GF, bF, mF⟩ := Ca.lfits
  obtain ⟨fD, fdD, kD, GD, bD, mD⟩ := Ca.due
  obtain ⟨fO, fdO, kO, GO, bO, mO⟩ := Ca.done
  obtain ⟨fL, fdL, kL, GL, bL, mL⟩ := Ca.lists
  obtain ⟨fR, fdR, kR, GR, bR, mR⟩ := Ca.trim
  obtain ⟨fC, fdC, kC, GC, bC, mC⟩ := Ca.cut
  obtain ⟨fX, fdX, mX, GX, bX⟩ := Ca.fits
  obtain ⟨fE, fdE, eE, iE, GE, bE⟩ := Ca.eq
  obtain ⟨fI, fdI, MI, GI, bI⟩ := Ca.init
  refine F.okG scLaw (fun vs H Q E h => ?_) (fun cdv A outer s H vs Q hgu hr h => ?_)
  · obtain ⟨a, ns, rfl, _⟩ := h
    rfl
  · obtain ⟨a, ns, rfl, hS, hl, q⟩ := h
    have hr1 : Room 1 _ := hr.mono (by decide)
    have hr2 : Room 2 _ := hr.mono (by decide)
    have hr3 : Room 3 _ := hr.mono (by decide)
    have hr4 : Room 4 _ := hr.mono (by decide)
    have hr6 : Room 6 _ := hr.mono (by decide)
    refine ⟨_, C8.pss_cut (ps_set (i := 1) scLaw.nd rfl (.inl rfl) (pe_lst pa_nil))
      (C8.pss_cut (ps_for PassesOwn.never rfl (pi_range1 (by rfl) T.range (pa_cons pe_int pa_nil)) (pg_name (i := 2) scLaw.nd rfl (.inl rfl))
        (C8.pss_cut (ps_set (i := 3) scLaw.nd rfl (.inl rfl) (pe_call GPool hr1 rfl mPool kPool bPool .nil pass0 (pa_cons (pv 0) (pa_cons (pv 2) pa_nil))))
        (C8.pss_cut (ps_set (i := 4) scLaw.nd rfl (.inl rfl) (pe_call GP hr3 rfl mP kP bP .nil pass0 (pa_cons (pv 3) pa_nil)))
        (C8.pss_cut (ps_set (i := 5) scLaw.nd rfl (.inl rfl) (pe_call GM hr rfl mM kM' bM .nil pass0 (pa_cons (pv 4) pa_nil)))
        (C8.pss_cut (ps_if (pt_not (pt_val (pe_ix ix_tup (pv 4) pe_int (fun _ _ => rfl))))
            (pss_cons (ps_if (pt_cmpR op_ne (pe_callB (call_reprD hgu hr.units) (by rfl) T.repr (by decide +kernel) (pa_cons (pv 5) pa_nil)) (pe_callB (call_reprD hgu hr.units) (by rfl) T.repr (by decide +kernel) (pa_cons (pe_tup (pa_cons (pe_ix ix_tup (pv 4) pe_int (fun _ _ => rfl)) pa_nil)) pa_nil)) (nomark _)) (pss_one (ps_ret pe_bl)) pss_nil)
            (pss_one ps_continue)) pss_nil)
        (C8.pss_cut (ps_if (PW.pt (pw_or (pt_not (pt_val (pe_callB call_isi (by rfl) T.isi (by decide +kernel) (pa_cons (pv 5) (pa_cons (pe_glob (v := .ref C) (by rfl) S.gC rfl) pa_nil)))))
            (pw_or1 (pt_cmpR op_ne (pe_callB (call_reprD hgu hr.units) (by rfl) T.repr (by decide +kernel) (pa_cons (pe_lst (pa_cons (pe_fld (pv 5) rfl) (pa_cons (pe_fld (pv 5) rfl) (pa_cons (pe_fld (pv 5) rfl) pa_nil)))) pa_nil))
              (pe_callB (call_reprD hgu hr.units) (by rfl) T.repr (by decide +kernel) (pa_cons (pe_lst (pa_cons (pe_ix ix_tup (pv 4) pe_int (fun _ _ => rfl)) (pa_cons (pe_ix ix_tup (pv 4) pe_int (fun _ _ => rfl)) (pa_cons (pe_ix ix_tup (pv 4) pe_int (fun _ _ => rfl)) pa_nil)))) pa_nil)) (nomark _))))) (pss_one (ps_ret pe_bl)) pss_nil)
        (C8.pss_cut (ps_for PassesOwn.never rfl (pi_range1 (by rfl) T.range (pa_cons pe_int pa_nil)) (pg_name (i := 6) scLaw.nd rfl (.inl rfl))
          (C8.pss_cut (ps_set (i := 7) scLaw.nd rfl (.inl rfl) (pe_call GT hr4 rfl mT kT bT .nil pass0 (pa_cons (pv 3) (pa_cons pe_int pa_nil))))
          (C8.pss_cut (ps_set (i := 8) scLaw.nd rfl (.inl rfl) (pe_callTy call_list_of (by rfl) T.list (by decide +kernel) (pa_cons (pv 7) pa_nil)))
          (C8.pss_cut (ps_set (i := 9) scLaw.nd rfl (.inl rfl) (pe_call GF hr1 rfl mF kF bF .nil pass0 (pa_cons (pv 4) (pa_cons (pv 8) pa_nil))))
          (C8.pss_cut (ps_set (i := 10) scLaw.nd rfl (.inl rfl) (pe_ifExp (pt_val (pv 9)) (pe_call GD hr1 rfl mD kD bD .nil pass0 (pa_cons (pv 4) (pa_cons (pv 8) pa_nil))) (pe_tup (pa_cons (pe_ix ix_tup (pv 4) pe_int (fun _ _ => rfl)) pa_nil))))
          (C8.pss_cut (ps_if (PW.pt (pw_or (pt_cmpR op_ne (pe_callB (call_reprD hgu hr.units) (by rfl) T.repr (by decide +kernel) (pa_cons (pe_meth (pv 5) S.cl mX GX hr1 bX .nil pass0 (pa_cons (pv 7) pa_nil)) pa_nil)) (pe_callB (call_reprD hgu hr.units) (by rfl) T.repr (by decide +kernel) (pa_cons (pv 9) pa_nil)) (nomark _))
              (pw_or (pt_cmpR op_ne (pe_callB (call_reprD hgu hr.units) (by rfl) T.repr (by decide +kernel) (pa_cons (pe_call GO hr3 rfl mO kO bO .nil pass0 (pa_cons (pv 5) (pa_cons (pv 7) pa_nil))) pa_nil)) (pe_callB (call_reprD hgu hr.units) (by rfl) T.repr (by decide +kernel) (pa_cons (pv 10) pa_nil)) (nomark _))
              (pw_or1 (pt_cmpR (op_neD hr.units) (pv 7) (pv 8) (nomark _)))))) (pss_one (ps_ret pe_bl)) pss_nil)
          (pss_one (ps_if (PW.pt (pw_or (pt_cmpR op_ne (pe_callB (call_reprD hgu hr.units) (by rfl) T.repr (by decide +kernel) (pa_cons (pe_meth (pv 5) S.cl mX GX hr1 bX .nil pass0 (pa_cons (pe_callTy call_tuple_of (by rfl) T.tuple (by decide +kernel) (pa_cons (pv 7) pa_nil)) pa_nil)) pa_nil)) (pe_callB (call_reprD hgu hr.units) (by rfl) T.repr (by decide +kernel) (pa_cons (pv 9) pa_nil)) (nomark _))
              (pw_or1 (pt_cmpR op_ne (pe_callB (call_reprD hgu hr.units) (by rfl) T.repr (by decide +kernel) (pa_cons (pe_call GO hr3 rfl mO kO bO .nil pass0 (pa_cons (pv 5) (pa_cons (pe_callTy call_tuple_of (by rfl) T.tuple (by decide +kernel) (pa_cons (pv 7) pa_nil)) pa_nil))) pa_nil)) (pe_callB (call_reprD hgu hr.units) (by rfl) T.repr (by decide +kernel) (pa_cons (pv 10) pa_nil)) (nomark _))))) (pss_one (ps_ret pe_bl)) pss_nil))))))))
        (pss_one (ps_expr (pe_bm PySem.F.plainAttrs_list PySem.F.slot_list_append PySem.F.type_list_append mt_append (pv 1) (pa_cons (pe_tup (pa_cons (pv 5) (pa_cons (pv 4) pa_nil))) pa_nil)))))))))))
      (C8.pss_cut (ps_for PassesOwn.never rfl (pi_list (pv 1)) (pg_tup (by rfl) (pgs_cons (pg_name (i := 5) scLaw.nd rfl (.inl rfl)) (pgs_cons (pg_name (i := 4) scLaw.nd rfl (.inl rfl)) pgs_nil)))
        (pss_one (ps_for PassesOwn.never rfl (pi_list (pv 1)) (pg_tup (by rfl) (pgs_cons (pg_name (i := 11) scLaw.nd rfl (.inl rfl)) (pgs_cons (pg_name (i := 12) scLaw.nd rfl (.inl rfl)) pgs_nil)))
          (pss_one (ps_if (PW.pt (pw_or (pt_cmpR op_ne (pe_cmpR (op_eqOwn GE hr1 eE iE bE pass0) (pv 5) (pv 11) (nomark _)) (pe_cmpR (op_eqD hr.units) (pv 4) (pv 12) (nomark _)) (nomark _))
              (pw_or (pt_cmpR (op_eqOwn GE hr1 eE iE bE pass0) (pv 5) (pv 4) (nomark _))
              (pw_or1 (pt_not (pt_cmpR (op_eqOwn GE hr1 eE iE bE pass0) (pv 5) (pe_make MI GI hr6 rfl S.gC bI .nil passNo (pa_cons (pe_ix ix_tup (pv 4) pe_int (fun _ _ => rfl)) (pa_cons (pe_ix ix_tup (pv 4) pe_int (fun _ _ => rfl)) (pa_cons (pe_ix ix_tup (pv 4) pe_int (fun _ _ => rfl)) pa_nil)))) (nomark _))))))) (pss_one (ps_ret pe_bl)) pss_nil)))))
      (C8.pss_cut (ps_for PassesOwn.never rfl (pi_range2 (by rfl) T.range (pa_cons pe_int (pa_cons pe_int pa_nil))) (pg_name (i := 2) scLaw.nd rfl (.inl rfl))
        (C8.pss_cut (ps_asg (pe_call GL hr3 rfl mL kL bL .nil pass0 (pa_cons (pe_call GPool hr1 rfl mPool kPool bPool .nil pass0 (pa_cons (pv 0) (pa_cons (pv 2) pa_nil))) pa_nil)) (pg_tup (by rfl) (pgs_cons (pg_name (i := 13) scLaw.nd rfl (.inl rfl)) (pgs_cons (pg_name (i := 14) scLaw.nd rfl (.inl rfl)) pgs_nil))))
        (C8.pss_cut (ps_set (i := 15) scLaw.nd rfl (.inl rfl) (pe_lst (pa_cons (pe_callTy call_list_of (by rfl) T.list (by decide +kernel) (pa_cons (pv 13) pa_nil)) (pa_cons (pe_callTy call_list_of (by rfl) T.list (by decide +kernel) (pa_cons (pv 14) pa_nil)) pa_nil))))
        (C8.pss_cut (ps_set (i := 16) scLaw.nd rfl (.inl rfl) (pe_call GR hr2 rfl mR kR bR .nil pass0 (pa_cons (pv 13) (pa_cons (pv 14) pa_nil))))
        (C8.pss_cut (ps_if (PW.pt (pw_or (pt_not (pt_val (pe_callB call_isi (by rfl) T.isi (by decide +kernel) (pa_cons (pv 16) (pa_cons (pe_bltn (v := .ty "tuple") (by rfl) T.tuple (by decide +kernel) rfl) pa_nil)))))
            (pw_or (pt_cmpR op_ne (pe_callB (call_reprD hgu hr.units) (by rfl) T.repr (by decide +kernel) (pa_cons (pv 16) pa_nil)) (pe_callB (call_reprD hgu hr.units) (by rfl) T.repr (by decide +kernel) (pa_cons (pe_call GC hr1 rfl mC kC bC .nil pass0 (pa_cons (pe_ix ix_list (pv 15) pe_int (fun _ _ => rfl)) (pa_cons (pe_ix ix_list (pv 15) pe_int (fun _ _ => rfl)) pa_nil))) pa_nil)) (nomark _))
            (pw_or1 (pt_cmpR (op_neD hr.units) (pe_lst (pa_cons (pv 13) (pa_cons (pv 14) pa_nil))) (pv 15) (nomark _)))))) (pss_one (ps_ret pe_bl)) pss_nil)
        (C8.pss_cut (ps_expr (pe_bm PySem.F.plainAttrs_list PySem.F.slot_list_append PySem.F.type_list_append mt_append (pe_ix ix_tup (pv 16) pe_int (fun _ _ => rfl)) (pa_cons pe_str pa_nil)))
        (pss_one (ps_if (PW.pt (pw_or (pt_cmpR (op_neD hr.units) (pe_lst (pa_cons (pv 13) (pa_cons (pv 14) pa_nil))) (pv 15) (nomark _))
            (pw_or1 (pt_cmpR op_ne (pe_callB (call_reprD hgu hr.units) (by rfl) T.repr (by decide +kernel) (pa_cons (pe_call GR hr2 rfl mR kR bR .nil pass0 (pa_cons (pv 14) (pa_cons (pv 13) pa_nil))) pa_nil)) (pe_callB (call_reprD hgu hr.units) (by rfl) T.repr (by decide +kernel) (pa_cons (pe_call GC hr1 rfl mC kC bC .nil pass0 (pa_cons (pe_ix ix_list (pv 15) pe_int (fun _ _ => rfl)) (pa_cons (pe_ix ix_list (pv 15) pe_int (fun _ _ => rfl)) pa_nil))) pa_nil)) (nomark _))))) (pss_one (ps_ret pe_bl)) pss_nil))))))))
      (pss_one (ps_ret pe_bl))))), ?_⟩
    have one : 1 ≤ sizeLine := by decide
    have two : 2 ≤ sizeLine := by decide
    have three : 3 ≤ sizeLine := by decide
    have nfC : PySem.W.notFirst K C (.ref C) = true := by unfold PySem.W.notFirst; simp
    refine ⟨fun σ H' => ∃ kp, σ = s17 a kp none none none none none none none none none none none none none none none ∧ H' kp = some (.lst []) ∧ H kp = none ∧ Same H H', ?_, ?_⟩
    · exact ⟨Nat.zero_le _, fun kp hkp => ⟨kp, rfl, upd_same, hkp, Same.new (Same.refl H) hkp⟩⟩
    rintro σ H0 ⟨kp, rfl, hk0, hkn, s0⟩
    refine ⟨fun σ H' => (∃ v2 v3 v4 v5 v6 v7 v8 v9 v10 v11 v12 v13 v14 v15 v16, σ = s17 a kp v2 v3 v4 v5 v6 v7 v8 v9 v10 v11 v12 v13 v14 v15 v16) ∧ ∃ rs : List Rec, rs.length ≤ 4 ∧ Kept C H' kp rs ∧ Same H H', ?_, ?_⟩
    · refine ⟨4, rfl, by decide, by decide, for_range (lo := 0) (n := 4) (fun i σ H' => (∃ v2 v3 v4 v5 v6 v7 v8 v9 v10 v11 v12 v13 v14 v15 v16, σ = s17 a kp v2 v3 v4 v5 v6 v7 v8 v9 v10 v11 v12 v13 v14 v15 v16) ∧ ∃ rs : List Rec, rs.length ≤ i ∧ Kept C H' kp rs ∧ Same H H') ⟨⟨_, _, _, _, _, _, _, _, _, _, _, _, _, _, _, rfl⟩, [], by simp, ⟨hk0, fun _ h => (nomatch h)⟩, s0⟩ ?_ ?_⟩
      · rintro i σ H1 hi ⟨⟨v2, v3, v4, v5, v6, v7, v8, v9, v10, v11, v12, v13, v14, v15, v16, rfl⟩, rs, hrl, hK, s1⟩
        refine ⟨fun σ H' => ∃ v2 p, σ = s17 a kp v2 (some (.ref p)) v4 v5 v6 v7 v8 v9 v10 v11 v12 v13 v14 v15 v16 ∧ H1 p = none ∧ Pool H' p 0 ∧ Same H1 H', ?_, ?_⟩
        · exact ⟨_, rfl, _, rfl, a, ns, _, rfl, s1.seq hS, hl, by omega, by omega, fun p H' hp s' hP => ⟨_, p, rfl, hp, hP, s'⟩⟩
        rintro σ H2 ⟨v2, p, rfl, hp1, p2, s2⟩
        refine ⟨fun σ H' => ∃ q, σ = s17 a kp v2 (some (.ref p)) (some (.ref q)) v5 v6 v7 v8 v9 v10 v11 v12 v13 v14 v15 v16 ∧ Keep p H2 H' ∧ Pool H' p 10 ∧ ((∃ z i o, PartsAt H' q z i o ∧ Snd z i o) ∨ (∃ (k u t : V) (ok : Option Str) (n : Option Int) (ot : Option Str) (d : PyData), H' q = some (.tup [k, u, t, .bl false]) ∧ Thing K H' k ok ∧ AtOk K H' u n ∧ Thing K H' t ot ∧ goodSlip ok n ot t = false ∧ Dp K H' u d ∧ Fair1 d)), ?_, ?_⟩
        · exact ⟨_, rfl, p, 0, rfl, p2, by omega, fun q z i o H' hz hi' hw hn kk pp h' => ⟨q, rfl, kk, pp, .inl ⟨z, i, o, h', ⟨hz, hi', hw, hn⟩⟩⟩, fun q k u t ok n ot d H' h1 h2 h3 hg h4 h5 kk pp h' => ⟨q, rfl, kk, pp, .inr ⟨k, u, t, ok, n, ot, d, h', h1, h2, h3, hg, h4, h5⟩⟩⟩
        rintro σ H3 ⟨q', rfl, k3, p3, hout⟩
        refine ⟨fun σ H' => ∃ x, σ = s17 a kp v2 (some (.ref p)) (some (.ref q')) (some (.ref x)) v6 v7 v8 v9 v10 v11 v12 v13 v14 v15 v16 ∧ Same H3 H' ∧ ((∃ z i o, PartsAt H' q' z i o ∧ Snd z i o ∧ SlipAt C H' x z i o) ∨ (∃ (k u t : V) (d : PyData), H' q' = some (.tup [k, u, t, .bl false]) ∧ H' x = some (.tup [u]) ∧ Dp K H' u d ∧ Fair1 d)), ?_, ?_⟩
        · rcases hout with ⟨z, i', o, hq, sd⟩ | ⟨k, u, t, ok, n, ot, d, hq, h1, h2, h3, hg, h4, h5⟩
          · exact ⟨_, rfl, q', .str z, .int i', tokV o, true, some z, some i', o, rfl, hq, thing_str z (kinds_len z sd.k), .inl ⟨_, rfl, rfl⟩, thing_tok o sd.len, fun _ x dx H' hx s' h' => ⟨x, rfl, s', .inl ⟨z, i', o, s' _ _ hq, sd, dx, h'⟩⟩, fun hg => absurd (sd.good.symm.trans hg) (by decide)⟩
          · exact ⟨_, rfl, q', k, u, t, false, ok, n, ot, rfl, hq, h1, h2, h3, fun hg' => absurd (hg.symm.trans hg') (by decide), fun _ r H' s' h' => ⟨r, rfl, s', .inr ⟨k, u, t, d, s' _ _ hq, h', dp_same s' d h4, h5⟩⟩⟩
        rintro σ H4 ⟨x, rfl, s4, hm⟩
        have kpp : kp ≠ p := ne_of_none hK.l hp1
        have keepK : ∀ H', Keep p H2 H' → Kept C H' kp rs := fun H' kk => ⟨kk _ _ kpp (s2 _ _ hK.l), fun r hr => by
          have ro := hK.ok r hr
          obtain ⟨dx, hx⟩ := ro.sl
          exact ⟨kk _ _ (ne_of_none ro.tp hp1) (s2 _ _ ro.tp), ⟨dx, kk _ _ (ne_of_none hx hp1) (s2 _ _ hx)⟩, kk _ _ (ne_of_none ro.pt hp1) (s2 _ _ ro.pt), ro.sd⟩⟩
        have sameK : ∀ H', Keep p H2 H' → Same H H' := fun H' kk => s1.trans (kk.same s2 hp1)
        refine ⟨fun σ H' => σ = s17 a kp v2 (some (.ref p)) (some (.ref q')) (some (.ref x)) v6 v7 v8 v9 v10 v11 v12 v13 v14 v15 v16 ∧ H' = H4 ∧ ∃ z i o, PartsAt H4 q' z i o ∧ Snd z i o ∧ SlipAt C H4 x z i o, ?_, ?_⟩
        · rcases hm with ⟨z, i', o, hq, sd, hsl⟩ | ⟨k, u, t, d, hq, hx, hd, fd⟩
          · exact ⟨_, rfl, q', _, 3, _, rfl, rfl, SqT.of hq, atI_nat (j := 3) rfl, true, rfl, iteF ⟨rfl, rfl, z, i', o, hq, sd, hsl⟩⟩
          · have so : ShownOk (.tuple [d]) := Fair.tupOk (fun e he => (List.mem_singleton.mp he) ▸ fd) (by simp)
            refine ⟨_, rfl, q', _, 3, _, rfl, rfl, SqT.of hq, atI_nat (j := 3) rfl, false, rfl, iteT ?_⟩
            refine ⟨_, rfl, _, .tuple [d], rfl, .tup (SqT.of hx) (.cons hd .nil), so.s, so.n, so.dp, so.l, _, rfl, q', _, 1, _, rfl, rfl, SqT.of hq, atI_nat (j := 1) rfl, one, fun r hr' => ?_⟩
            have s5 := Same.new (o := .tup [u]) (Same.refl H4) hr'
            have kk := k3.trans (Same.keep (s4.trans s5))
            exact ⟨.ref r, .tuple [d], rfl, .tup (SqT.of upd_same) (.cons (dp_same s5 d hd) .nil), so.s, so.n, so.dp, so.l, rfl, _, rfl, iteNS rfl ⟨⟨_, _, _, _, _, _, _, _, _, _, _, _, _, _, _, rfl⟩, rs, by omega, keepK _ kk, sameK _ kk⟩⟩
        rintro σ H4' ⟨rfl, rfl, z, i', o, hq, sd, hsl⟩
        refine ⟨fun σ H' => σ = s17 a kp v2 (some (.ref p)) (some (.ref q')) (some (.ref x)) v6 v7 v8 v9 v10 v11 v12 v13 v14 v15 v16 ∧ Same H4' H', ?_, ?_⟩
        · have ty := slip_ty S hsl
          obtain ⟨dx, hx⟩ := id hsl
          have so := sd.fair3.listOk (by simp)
          refine ⟨_, rfl, .ref x, .ref C, .ref C, .ref C, true, rfl, .own C, .base ty, kit_self K C, true, rfl, iteF ?_⟩
          refine ⟨_, rfl, x, C, dx, _, _, rfl, hx, S.cl, S.nk, look1 _ _ _, _, rfl, x, C, dx, _, _, rfl, hx, S.cl, S.na, look2 _ _ _, _, rfl, x, C, dx, _, _, rfl, hx, S.cl, S.nt, look3 _ _ _, three, fun l hl' => ?_⟩
          have sq : SqT K (upd H4' l (.lst [.str z, .int i', tokV o])) q' [.str z, .int i', tokV o, .bl true] := SqT.ext (SqT.of hq) (Same.new (Same.refl _) hl')
          refine ⟨.ref l, .list [.str z, .int i', tokD o], rfl, .lst (SqL.of upd_same) (.cons (.str _) (.cons (.int _) (.cons (dp_tok o) .nil))), so.s, so.n, so.dp, so.l, ?_⟩
          refine ⟨_, rfl, q', _, 0, _, rfl, rfl, sq, atI_nat (j := 0) rfl, _, rfl, q', _, 1, _, rfl, rfl, sq, atI_nat (j := 1) rfl, _, rfl, q', _, 2, _, rfl, rfl, sq, atI_nat (j := 2) rfl, three, fun l2 hl2 => ?_⟩
          exact ⟨.ref l2, .list [.str z, .int i', tokD o], rfl, .lst (SqL.of upd_same) (.cons (.str _) (.cons (.int _) (.cons (dp_tok o) .nil))), so.s, so.n, so.dp, so.l, rfl, _, rfl, iteNS rfl ⟨rfl, Same.new (Same.new (Same.refl _) hl') hl2⟩⟩
        rintro σ H5 ⟨rfl, s5⟩
        have kk5 : Keep p H2 H5 := k3.trans (Same.keep (s4.trans s5))
        have p5 : Pool H5 p 10 := p3.same (s4.trans s5)
        have hq5 := s5 _ _ hq
        obtain ⟨dx, hx5⟩ := hsl.same s5
        obtain ⟨PL, hPL⟩ := pool_lst p5
        have nqp : q' ≠ p := ne_lst hq5 hPL (by simp)
        have nxp : x ≠ p := ne_lst hx5 hPL (by simp)
        refine ⟨fun σ H' => (∃ v6 v7 v8 v9 v10, σ = s17 a kp v2 (some (.ref p)) (some (.ref q')) (some (.ref x)) v6 v7 v8 v9 v10 v11 v12 v13 v14 v15 v16) ∧ Keep p H5 H' ∧ Pool H' p 300, ?_, ?_⟩
        · refine ⟨3, rfl, by decide, by decide, for_range (lo := 0) (n := 3) (fun j σ H' => (∃ v6 v7 v8 v9 v10, σ = s17 a kp v2 (some (.ref p)) (some (.ref q')) (some (.ref x)) v6 v7 v8 v9 v10 v11 v12 v13 v14 v15 v16) ∧ Keep p H5 H' ∧ Pool H' p (10 + 60 * j)) ⟨⟨_, _, _, _, _, rfl⟩, Keep.refl p H5, p5⟩ ?_ ?_⟩
          · rintro j σ H6 hj ⟨⟨v6, v7, v8, v9, v10, rfl⟩, k6, p6⟩
            refine ⟨fun σ H' => ∃ v6 D ts, σ = s17 a kp v2 (some (.ref p)) (some (.ref q')) (some (.ref x)) v6 (some (.ref D)) v8 v9 v10 v11 v12 v13 v14 v15 v16 ∧ H' D = some (.lst (lstS ts)) ∧ ts.length ≤ 12 ∧ Tiny ts ∧ Keep p H5 H' ∧ Pool H' p (10 + 60 * j + 60), ?_, ?_⟩
            · exact ⟨_, rfl, p, 10 + 60 * j, rfl, p6, by omega, fun D ts H' _ _ h' hl' ht kk pp => ⟨_, D, ts, rfl, h', hl', ht, k6.trans kk, pp⟩⟩
            rintro σ H7 ⟨v6, D, ts, rfl, hD, htl, hty, k7, p7⟩
            have hq7 : PartsAt H7 q' z i' o := k7 _ _ nqp hq5
            have hx7 : H7 x = some (.ins C dx (flds (.str z) (.int i') (tokV o))) := k7 _ _ nxp hx5
            have fw := tiny_fair hty
            rw [lstS_eq] at hD
            have hwl : (ts.map K8.S).length ≤ 12 := by rw [List.length_map]; exact htl
            generalize ts.map K8.S = ws at hD fw hwl
            refine ⟨fun σ H' => ∃ M, σ = s17 a kp v2 (some (.ref p)) (some (.ref q')) (some (.ref x)) v6 (some (.ref D)) (some (.ref M)) v9 v10 v11 v12 v13 v14 v15 v16 ∧ H' M = some (.lst (ws.map V.str)) ∧ Same H7 H', ?_, ?_⟩
            · exact ⟨_, rfl, D, _, rfl, .inl (SqL.of hD), fun M hM => ⟨M, rfl, upd_same, Same.new (Same.refl _) hM⟩⟩
            rintro σ H8 ⟨M, rfl, hM, s8⟩
            refine ⟨fun σ H' => σ = s17 a kp v2 (some (.ref p)) (some (.ref q')) (some (.ref x)) v6 (some (.ref D)) (some (.ref M)) (some (.bl (fitsB z i' o ws))) v10 v11 v12 v13 v14 v15 v16 ∧ H' = H8, ?_, ?_⟩
            · exact ⟨_, rfl, _, rfl, q', M, z, i', o, ws, rfl, s8 _ _ hq7, hM, rfl, rfl⟩
            rintro σ H8' ⟨rfl, rfl⟩
            refine ⟨fun σ H' => ∃ u, σ = s17 a kp v2 (some (.ref p)) (some (.ref q')) (some (.ref x)) v6 (some (.ref D)) (some (.ref M)) (some (.bl (fitsB z i' o ws))) (some u) v11 v12 v13 v14 v15 v16 ∧ Dp K H' u (dueD z i' o ws) ∧ Same H8' H', ?_, ?_⟩
            · refine ⟨_, rfl, _, rfl, ?_⟩
              unfold dueD
              refine ite2 (fun hf => ?_) (fun hf => ?_)
              · exact ⟨_, rfl, _, rfl, q', M, z, i', o, ws, rfl, s8 _ _ hq7, hM, sd.sound, hf, by omega, fun E' H' _ s' h' => ⟨.ref E', rfl, by rw [if_pos hf]; exact .lst (SqL.of h') (dp_strs K H' _), s'⟩⟩
              · exact ⟨_, rfl, q', _, 1, _, rfl, rfl, SqT.of (s8 _ _ hq7), atI_nat (j := 1) rfl, one, fun E' hE => ⟨.ref E', rfl, by rw [if_neg hf]; exact .tup (SqT.of upd_same) (.cons (.int _) .nil), Same.new (Same.refl _) hE⟩⟩
            rintro σ H9 ⟨u, rfl, hu, s9⟩
            have so := due_ok sd fw (show ws.length ≤ 20 by omega)
            have sb := bool_ok (fitsB z i' o ws)
            have s79 := s8.trans s9
            have hx9 := s79 _ _ hx7
            have hD9 := s79 _ _ hD
            have hM9 := s9 _ _ hM
            have hsl9 : SlipAt C H9 x z i' o := ⟨dx, hx9⟩
            have shw := fair_shaped fw.data
            refine ⟨fun σ H' => σ = s17 a kp v2 (some (.ref p)) (some (.ref q')) (some (.ref x)) v6 (some (.ref D)) (some (.ref M)) (some (.bl (fitsB z i' o ws))) (some u) v11 v12 v13 v14 v15 v16 ∧ Same H9 H', ?_, ?_⟩
            · refine ⟨_, rfl, x, dx, _, rfl, hx9, no_fits _ _ _, _, rfl, x, D, z, i', o, ws, rfl, hsl9, .inl (SqL.of hD9), _, .bool _, rfl, .bl _, sb.s, sb.n, sb.dp, sb.l, _, rfl, _, .bool _, rfl, .bl _, sb.s, sb.n, sb.dp, sb.l, rfl, _, rfl, iteNS rfl ?_⟩
              refine ⟨_, rfl, _, rfl, x, D, z, i', o, ws, rfl, hsl9, sd.sound, .inl (SqL.of hD9), by omega, fun hf E' H' s' h' => ?_, fun hf E' H' s' h' => ?_⟩
              · have hdue : Dp K H' (.ref E') (dueD z i' o ws) := by unfold dueD; rw [if_pos hf]; exact .lst (SqL.of h') (dp_strs K H' _)
                refine ⟨.ref E', _, rfl, hdue, so.s, so.n, so.dp, so.l, _, rfl, u, _, rfl, dp_same s' _ hu, so.s, so.n, so.dp, so.l, rfl, _, rfl, iteNS rfl ?_⟩
                refine ⟨_, rfl, _, rfl, .list _, .list _, .lst (SqL.of (s' _ _ hD9)) (dp_strs K H' ws), .lst (SqL.of (s' _ _ hM9)) (dp_strs K H' ws), shw, shw, _, rfl, ?_⟩
                rw [eqv_self shw]
                exact iteF ⟨rfl, s'⟩
              · have hdue : Dp K H' (.ref E') (dueD z i' o ws) := by unfold dueD; rw [if_neg (by rw [hf]; decide)]; exact .tup (SqT.of h') (.cons (.int _) .nil)
                refine ⟨.ref E', _, rfl, hdue, so.s, so.n, so.dp, so.l, _, rfl, u, _, rfl, dp_same s' _ hu, so.s, so.n, so.dp, so.l, rfl, _, rfl, iteNS rfl ?_⟩
                refine ⟨_, rfl, _, rfl, .list _, .list _, .lst (SqL.of (s' _ _ hD9)) (dp_strs K H' ws), .lst (SqL.of (s' _ _ hM9)) (dp_strs K H' ws), shw, shw, _, rfl, ?_⟩
                rw [eqv_self shw]
                exact iteF ⟨rfl, s'⟩
            rintro σ H10 ⟨rfl, s10⟩
            have hx10 := s10 _ _ hx9
            have hD10 := s10 _ _ hD9
            refine ⟨_, rfl, x, dx, _, rfl, hx10, no_fits _ _ _, _, rfl, D, _, rfl, .inl ⟨SqL.of hD10, fun l hl' => ?_⟩⟩
            have s11 := Same.new (o := .tup (ws.map V.str)) (Same.refl H10) hl'
            refine ⟨x, l, z, i', o, ws, rfl, ⟨dx, s11 _ _ hx10⟩, .inr (SqT.of upd_same), _, .bool _, rfl, .bl _, sb.s, sb.n, sb.dp, sb.l, _, rfl, _, .bool _, rfl, .bl _, sb.s, sb.n, sb.dp, sb.l, rfl, _, rfl, iteNS rfl ?_⟩
            refine ⟨_, rfl, _, rfl, D, _, rfl, .inl ⟨SqL.of (s11 _ _ hD10), fun l2 hl2 => ?_⟩⟩
            have s12 := Same.new (o := .tup (ws.map V.str)) s11 hl2
            refine ⟨x, l2, z, i', o, ws, rfl, ⟨dx, s12 _ _ hx10⟩, sd.sound, .inr (SqT.of upd_same), by omega, fun hf E' H' s' h' => ?_, fun hf E' H' s' h' => ?_⟩
            · have hdue : Dp K H' (.ref E') (dueD z i' o ws) := by unfold dueD; rw [if_pos hf]; exact .lst (SqL.of h') (dp_strs K H' _)
              exact ⟨.ref E', _, rfl, hdue, so.s, so.n, so.dp, so.l, _, rfl, u, _, rfl, dp_same (s10.trans (s12.trans s')) _ hu, so.s, so.n, so.dp, so.l, rfl, _, rfl, iteNS rfl ⟨⟨_, _, _, _, _, rfl⟩, k7.trans (Same.keep (s79.trans (s10.trans (s12.trans s')))), (p7.same (s79.trans (s10.trans (s12.trans s')))).mono (by omega)⟩⟩
            · have hdue : Dp K H' (.ref E') (dueD z i' o ws) := by unfold dueD; rw [if_neg (by rw [hf]; decide)]; exact .tup (SqT.of h') (.cons (.int _) .nil)
              exact ⟨.ref E', _, rfl, hdue, so.s, so.n, so.dp, so.l, _, rfl, u, _, rfl, dp_same (s10.trans (s12.trans s')) _ hu, so.s, so.n, so.dp, so.l, rfl, _, rfl, iteNS rfl ⟨⟨_, _, _, _, _, rfl⟩, k7.trans (Same.keep (s79.trans (s10.trans (s12.trans s')))), (p7.same (s79.trans (s10.trans (s12.trans s')))).mono (by omega)⟩⟩
          · rintro σ H6 ⟨hv, k6, p6⟩
            exact ⟨hv, k6, p6.mono (by omega)⟩
        rintro σ H6 ⟨⟨v6, v7, v8, v9, v10, rfl⟩, k6, p6⟩
        have kk6 := kk5.trans k6
        have K6 := keepK _ kk6
        refine ⟨_, rfl, .inl ⟨rfl, _, SqL.of K6.l⟩, _, rfl, _, rfl, two, fun t ht => ?_⟩
        have s7 := Same.new (o := .tup [.ref x, .ref q']) (Same.refl H6) ht
        have hl7 := s7 _ _ K6.l
        refine ⟨kp, _, _, rfl, rfl, hl7, ?_, ⟨_, _, _, _, _, _, _, _, _, _, _, _, _, _, _, rfl⟩, rs ++ [⟨t, x, q', z, i', o⟩], by rw [List.length_append, List.length_singleton]; omega, ⟨by rw [upd_same, List.map_append]; rfl, ?_⟩, Same.put ((sameK _ kk6).trans s7) hkn⟩
        · rw [List.length_map]; exact Nat.lt_of_lt_of_le (show rs.length < 100 by omega) (by decide)
        · intro r hr
          rcases List.mem_append.mp hr with hr | hr
          · exact ((K6.ok r hr).same s7).put hl7
          · rw [List.mem_singleton.mp hr]
            exact RecOk.put ⟨upd_same, ⟨dx, s7 _ _ (k6 _ _ nxp hx5)⟩, s7 _ _ (k6 _ _ nqp hq5), sd⟩ hl7
      · rintro σ H1 ⟨hv, rs, hrl, hK, s1⟩
        exact ⟨hv, rs, hrl, hK, s1⟩
    rintro σ H1 ⟨⟨v2, v3, v4, v5, v6, v7, v8, v9, v10, v11, v12, v13, v14, v15, v16, rfl⟩, rs, hrl, hK, s1⟩
    clear hk0 s0
    have rec_at : ∀ {i : Nat} {y : V}, (rs.map fun r => V.ref r.t)[i]? = some y → ∃ r ∈ rs, y = .ref r.t := fun h => by
      rw [List.getElem?_map] at h
      obtain ⟨r, hr, e⟩ := Option.map_eq_some_iff.mp h
      exact ⟨r, List.mem_of_getElem? hr, e.symm⟩
    refine ⟨fun σ H' => (∃ v2 v3 v4 v5 v6 v7 v8 v9 v10 v11 v12 v13 v14 v15 v16, σ = s17 a kp v2 v3 v4 v5 v6 v7 v8 v9 v10 v11 v12 v13 v14 v15 v16) ∧ Same H H', ?_, ?_⟩
    · refine ⟨_, rfl, kp, rfl, ⟨_, SqL.of hK.l⟩, for_list (K := K) (a := kp) (xs := rs.map fun r => V.ref r.t) (fun _ σ H' => (∃ v2 v3 v4 v5 v6 v7 v8 v9 v10 v11 v12 v13 v14 v15 v16, σ = s17 a kp v2 v3 v4 v5 v6 v7 v8 v9 v10 v11 v12 v13 v14 v15 v16) ∧ Kept C H' kp rs ∧ Same H H') ⟨⟨_, _, _, _, _, _, _, _, _, _, _, _, _, _, _, rfl⟩, hK, s1⟩ (fun _ σ H' _ ⟨_, k, _⟩ => SqL.of k.l) ?_ ?_⟩
      · rintro i y σ H2 hi ⟨⟨v2, v3, v4, v5, v6, v7, v8, v9, v10, v11, v12, v13, v14, v15, v16, rfl⟩, K2, s2⟩
        obtain ⟨r, hr, rfl⟩ := rec_at hi
        refine ⟨r.t, _, rfl, SqT.of (K2.ok r hr).tp, rfl, _, _, rfl, _, _, rfl, rfl, ?_⟩
        refine ⟨_, rfl, kp, rfl, ⟨_, SqL.of K2.l⟩, for_list (K := K) (a := kp) (xs := rs.map fun r => V.ref r.t) (fun _ σ H' => (∃ v11 v12, σ = s17 a kp v2 v3 (some (.ref r.q)) (some (.ref r.x)) v6 v7 v8 v9 v10 v11 v12 v13 v14 v15 v16) ∧ Kept C H' kp rs ∧ Same H H') ⟨⟨_, _, rfl⟩, K2, s2⟩ (fun _ σ H' _ ⟨_, k, _⟩ => SqL.of k.l) ?_ ?_⟩
        · rintro i2 y2 σ H3 hi2 ⟨⟨v11, v12, rfl⟩, K3, s3⟩
          obtain ⟨r2, hr2, rfl⟩ := rec_at hi2
          have o1 := K3.ok r hr
          have o2 := K3.ok r2 hr2
          obtain ⟨dx, hx⟩ := o1.sl
          refine ⟨r2.t, _, rfl, SqT.of o2.tp, rfl, _, _, rfl, _, _, rfl, rfl, ?_⟩
          refine ⟨_, rfl, _, rfl, r.x, dx, _, .ref C, rfl, hx, .base (slip_ty S o2.sl), nfC, r.x, _, r.z, r.i, r.o, rfl, o1.sl, .inl ⟨r2.x, r2.z, r2.i, r2.o, rfl, o2.sl, _, rfl, ?_⟩⟩
          refine ⟨_, rfl, _, rfl, partsD r.z r.i r.o, partsD r2.z r2.i r2.o, partsD_dp o1.pt, partsD_dp o2.pt, fair_shaped_t o1.sd.fair4, fair_shaped_t o2.sd.fair4, rfl, _, rfl, ?_⟩
          rw [partsD_eqv]
          refine iteNS rfl ?_
          refine ⟨_, rfl, _, rfl, r.x, dx, _, .type "tuple", rfl, hx, .base (.tup o1.pt), Ca.tupNot, r.x, _, r.z, r.i, r.o, rfl, o1.sl, .inr ⟨.type "tuple", .tup o1.pt, Ca.tupKit, _, rfl, _, rfl, iteF ?_⟩⟩
          have sq := SqT.of (K := K) o1.pt
          refine ⟨_, rfl, _, rfl, r.q, _, 0, _, rfl, rfl, sq, atI_nat (j := 0) rfl, _, rfl, r.q, _, 1, _, rfl, rfl, sq, atI_nat (j := 1) rfl, _, rfl, r.q, _, 2, _, rfl, rfl, sq, atI_nat (j := 2) rfl, fun y dy hy hdy ndy => ?_⟩
          have ny : (upd H3 dy (.own y)) y = none := by rw [upd_ne ndy.symm]; exact hy
          have s4 : Same H3 (upd (upd H3 dy (.own y)) y (.ins C dy [])) := Same.new (Same.new (Same.refl H3) hdy) ny
          refine ⟨y, dy, .str r.z, .int r.i, tokV r.o, some r.z, some (r.i : Int), r.o, rfl, upd_same, thing_str _ (kinds_len _ o1.sd.k), .inl ⟨_, rfl, rfl⟩, thing_tok _ o1.sd.len, fun _ H' kp' h' => ⟨rfl, ?_⟩, fun hg => absurd (o1.sd.good.symm.trans hg) (by decide)⟩
          have s5 : Same H3 H' := fun b o e => kp' b o (ne_of_none e hy) (s4 b o e)
          have n1 : SlipAt C H' y r.z r.i r.o := ⟨dy, h'⟩
          refine ⟨r.x, dx, _, .ref C, rfl, s5 _ _ hx, .base (slip_ty S n1), nfC, r.x, _, r.z, r.i, r.o, rfl, ⟨dx, s5 _ _ hx⟩, .inl ⟨y, r.z, r.i, r.o, rfl, n1, _, rfl, _, rfl, ?_⟩⟩
          rw [decide_eq_true rfl, decide_eq_true rfl, decide_eq_true rfl]
          exact iteF ⟨⟨_, _, rfl⟩, K3.same s5, s3.trans s5⟩
        · rintro σ H3 ⟨⟨v11, v12, rfl⟩, K3, s3⟩
          exact ⟨⟨_, _, _, _, _, _, _, _, _, _, _, _, _, _, _, rfl⟩, K3, s3⟩
      · rintro σ H2 ⟨hv, _, s2⟩
        exact ⟨hv, s2⟩
    clear hK s1 rec_at
    rintro σ H1 ⟨⟨v2, v3, v4, v5, v6, v7, v8, v9, v10, v11, v12, v13, v14, v15, v16, rfl⟩, s1⟩
    refine ⟨fun σ H' => True, ?_, fun σ H' _ => q H'⟩
    refine ⟨4, 7, rfl, ⟨by decide, by decide, by decide, by decide⟩, for_range (lo := 4) (n := 3) (fun _ σ H' => (∃ v2 v3 v4 v5 v6 v7 v8 v9 v10 v11 v12 v13 v14 v15 v16, σ = s17 a kp v2 v3 v4 v5 v6 v7 v8 v9 v10 v11 v12 v13 v14 v15 v16) ∧ Same H H') ⟨⟨_, _, _, _, _, _, _, _, _, _, _, _, _, _, _, rfl⟩, s1⟩ ?_ (fun _ _ _ => trivial)⟩
    rintro i σ H2 hi ⟨⟨v2, v3, v4, v5, v6, v7, v8, v9, v10, v11, v12, v13, v14, v15, v16, rfl⟩, s2⟩
    -- the two lists
    refine ⟨fun σ H' => ∃ v2 f g xs ys ds es, σ = s17 a kp v2 v3 v4 v5 v6 v7 v8 v9 v10 v11 v12 (some (.ref f)) (some (.ref g)) v15 v16 ∧ H' f = some (.lst xs) ∧ H' g = some (.lst ys) ∧ DpAll K H' xs ds ∧ DpAll K H' ys es ∧ Fair ds ∧ Fair es ∧ xs.length ≤ 9 ∧ ys.length ≤ 9 ∧ Same H H', ?_, ?_⟩
    · refine ⟨_, rfl, _, rfl, a, ns, _, rfl, s2.seq hS, hl, by omega, by omega, fun p H' hp s' hP => ⟨p, 0, rfl, hP, by omega, fun q' f g xs ys ds es H'' hq hf hg _ _ dx dy fx fy lx ly kk => ?_⟩⟩
      exact ⟨q', _, rfl, SqT.of hq, rfl, _, _, rfl, _, _, rfl, rfl, _, f, g, xs, ys, ds, es, rfl, hf, hg, dx, dy, fx, fy, lx, ly, s2.trans (kk.same s' hp)⟩
    rintro σ H3 ⟨v2, f', g, xs, ys, ds, es, rfl, hf, hg, dx, dy, fx, fy, lx, ly, s3⟩
    have ex := DpAll.len dx
    have ey := DpAll.len dy
    -- their copies
    refine ⟨fun σ H' => ∃ cc l1 l2, σ = s17 a kp v2 v3 v4 v5 v6 v7 v8 v9 v10 v11 v12 (some (.ref f')) (some (.ref g)) (some (.ref cc)) v16 ∧ H' cc = some (.lst [.ref l1, .ref l2]) ∧ H' l1 = some (.lst xs) ∧ H' l2 = some (.lst ys) ∧ Same H3 H', ?_, ?_⟩
    · refine ⟨_, rfl, f', xs, rfl, .inl (SqL.of hf), fun l1 h1 => ?_⟩
      have t1 := Same.new (o := .lst xs) (Same.refl H3) h1
      refine ⟨_, rfl, g, ys, rfl, .inl (SqL.of (t1 _ _ hg)), fun l2 h2 => ⟨two, fun cc h3 => ?_⟩⟩
      have u2 := Same.new (o := .lst ys) (Same.refl _) h2
      have u3 := Same.new (o := .lst [.ref l1, .ref l2]) (Same.refl _) h3
      exact ⟨cc, l1, l2, rfl, upd_same, u3 _ _ (u2 _ _ upd_same), u3 _ _ upd_same, t1.trans (u2.trans u3)⟩
    rintro σ H4 ⟨cc, l1, l2, rfl, hcc, hl1, hl2, s4⟩
    replace hf := s4 _ _ hf
    replace hg := s4 _ _ hg
    replace dx := dpAll_same s4 _ dx
    replace dy := dpAll_same s4 _ dy
    have fX : Fair (rest (kN ds es) (kM ds es) ds) := fx.sub (rest_sub _ _ _)
    have fY : Fair (rest (kN ds es) (kM ds es) es) := fy.sub (rest_sub _ _ _)
    have rl : ∀ {α : Type} (n m : Nat) (l : List α), (rest n m l).length ≤ l.length := fun n m l => by
      unfold rest
      rw [List.length_take, List.length_drop]; omega
    have so := pairOk fX fY (Nat.le_trans (rl _ _ _) (by omega)) (Nat.le_trans (rl _ _ _) (by omega))
    have sh2 := two_shaped fx fy
    -- trimmed
    refine ⟨fun σ H' => ∃ pt l r, σ = s17 a kp v2 v3 v4 v5 v6 v7 v8 v9 v10 v11 v12 (some (.ref f')) (some (.ref g)) (some (.ref cc)) (some (.ref pt)) ∧ H' pt = some (.tup [.ref l, .ref r]) ∧ H' l = some (.lst (rest (kN ds es) (kM ds es) xs)) ∧ H' r = some (.lst (rest (kN ds es) (kM ds es) ys)) ∧ H4 l = none ∧ Same H4 H', ?_, ?_⟩
    · exact ⟨_, rfl, _, rfl, f', g, xs, ys, ds, es, rfl, SqL.of hf, SqL.of hg, dx, dy, fx, fy, fun pt l r H' s' hln _ _ hp hl' hr' => ⟨pt, l, r, rfl, hp, hl', hr', hln, s'⟩⟩
    rintro σ H5 ⟨pt, l, r, rfl, hpt, hll, hrr, hln, s5⟩
    have dx5 := dpAll_same s5 _ dx
    have dy5 := dpAll_same s5 _ dy
    have told : ∀ H', Same H5 H' → ∀ p' l' r', H' p' = some (.tup [.ref l', .ref r']) → SqL K H' l' (rest (kN ds es) (kM ds es) xs) → SqL K H' r' (rest (kN ds es) (kM ds es) ys) → Dp K H' (.ref p') (.tuple [.list (rest (kN ds es) (kM ds es) ds), .list (rest (kN ds es) (kM ds es) es)]) := fun H' s' p' l' r' h1 h2 h3 =>
      .tup (SqT.of h1) (.cons (.lst h2 (DpAll.rest _ _ (dpAll_same s' _ dx5))) (.cons (.lst h3 (DpAll.rest _ _ (dpAll_same s' _ dy5))) .nil))
    -- both == beside their copies
    have both : ∀ H', Same H5 H' → ∀ m c', SqL K H' m [.ref f', .ref g] → SqL K H' c' [.ref l1, .ref l2] → Dp K H' (.ref m) (.list [.list ds, .list es]) ∧ Dp K H' (.ref c') (.list [.list ds, .list es]) := fun H' s' m c' h1 h2 =>
      ⟨.lst h1 (.cons (.lst (SqL.of (s' _ _ (s5 _ _ hf))) (dpAll_same s' _ dx5)) (.cons (.lst (SqL.of (s' _ _ (s5 _ _ hg))) (dpAll_same s' _ dy5)) .nil)),
       .lst h2 (.cons (.lst (SqL.of (s' _ _ (s5 _ _ hl1))) (dpAll_same s' _ dx5)) (.cons (.lst (SqL.of (s' _ _ (s5 _ _ hl2))) (dpAll_same s' _ dy5)) .nil))⟩
    have hcc5 := s5 _ _ hcc
    refine ⟨fun σ H' => σ = s17 a kp v2 v3 v4 v5 v6 v7 v8 v9 v10 v11 v12 (some (.ref f')) (some (.ref g)) (some (.ref cc)) (some (.ref pt)) ∧ Same H5 H', ?_, ?_⟩
    · refine ⟨_, rfl, .ref pt, .ty "tuple", .type "tuple", .type "tuple", true, rfl, .ty "tuple", .base (.tup hpt), kit_ty (by decide +kernel), true, rfl, iteF ?_⟩
      refine ⟨_, rfl, .ref pt, _, rfl, told H5 (Same.refl H5) pt l r hpt (SqL.of hll) (SqL.of hrr), so.s, so.n, so.dp, so.l, ?_⟩
      refine ⟨_, rfl, cc, _, 0, _, rfl, rfl, SqL.of hcc5, atI_nat (j := 0) rfl, _, rfl, cc, _, 1, _, rfl, rfl, SqL.of hcc5, atI_nat (j := 1) rfl, ?_⟩
      refine ⟨l1, l2, xs, ys, ds, es, rfl, SqL.of (s5 _ _ hl1), SqL.of (s5 _ _ hl2), dx5, dy5, fx, fy, fun p' l' r' H' s' hp' hl' hr' => ?_⟩
      refine ⟨.ref p', _, rfl, told H' s' p' l' r' hp' hl' hr', so.s, so.n, so.dp, so.l, rfl, _, rfl, iteNS rfl ?_⟩
      refine ⟨_, rfl, _, rfl, two, fun m hm => ?_⟩
      have s6 := Same.new (o := .lst [.ref f', .ref g]) s' hm
      obtain ⟨b1, b2⟩ := both _ s6 m cc (SqL.of upd_same) (SqL.of (s6 _ _ hcc5))
      refine ⟨_, rfl, _, _, b1, b2, sh2, sh2, _, rfl, ?_⟩
      rw [eqv_self sh2]
      exact iteF ⟨rfl, s6⟩
    rintro σ H6 ⟨rfl, s6⟩
    -- told[0].append('x')
    have nf : f' ≠ l := ne_of_none hf hln
    have ng : g ≠ l := ne_of_none hg hln
    have nc : cc ≠ l := ne_of_none hcc hln
    have na : l1 ≠ l := ne_of_none hl1 hln
    have nb : l2 ≠ l := ne_of_none hl2 hln
    refine ⟨fun σ H' => σ = s17 a kp v2 v3 v4 v5 v6 v7 v8 v9 v10 v11 v12 (some (.ref f')) (some (.ref g)) (some (.ref cc)) (some (.ref pt)) ∧ Same H4 H', ?_, ?_⟩
    · refine ⟨_, rfl, pt, _, 0, _, rfl, rfl, SqT.of (s6 _ _ hpt), atI_nat (j := 0) rfl, .inl ⟨rfl, _, SqL.of (s6 _ _ hll)⟩, l, _, _, rfl, rfl, s6 _ _ hll, ?_, rfl, Same.put (s5.trans s6) hln⟩
      have := rl (kN ds es) (kM ds es) xs
      exact Nat.lt_of_lt_of_le (show _ < 100 by omega) (by decide)
    rintro σ H7 ⟨rfl, s7⟩
    have dx7 := dpAll_same s7 _ dx
    have dy7 := dpAll_same s7 _ dy
    refine ⟨_, rfl, _, rfl, two, fun m hm => ?_⟩
    have s8 := Same.new (o := .lst [.ref f', .ref g]) s7 hm
    have dx8 := dpAll_same s8 _ dx
    have dy8 := dpAll_same s8 _ dy
    refine ⟨_, rfl, .list [.list ds, .list es], .list [.list ds, .list es], .lst (SqL.of upd_same) (.cons (.lst (SqL.of (s8 _ _ hf)) dx8) (.cons (.lst (SqL.of (s8 _ _ hg)) dy8) .nil)), .lst (SqL.of (s8 _ _ hcc)) (.cons (.lst (SqL.of (s8 _ _ hl1)) dx8) (.cons (.lst (SqL.of (s8 _ _ hl2)) dy8) .nil)), sh2, sh2, _, rfl, ?_⟩
    rw [eqv_self sh2]
    refine iteF ?_
    refine ⟨_, rfl, _, rfl, g, f', ys, xs, es, ds, rfl, SqL.of (s8 _ _ hg), SqL.of (s8 _ _ hf), dy8, dx8, fy, fx, fun p1 a1 b1 H8 s9 _ _ _ hp1 ha1 hb1 => ?_⟩
    have dx9 := dpAll_same s9 _ dx8
    have dy9 := dpAll_same s9 _ dy8
    have fA : Fair (rest (kN es ds) (kM es ds) es) := fy.sub (rest_sub _ _ _)
    have fB : Fair (rest (kN es ds) (kM es ds) ds) := fx.sub (rest_sub _ _ _)
    have so3 := pairOk fA fB (Nat.le_trans (rl _ _ _) (by omega)) (Nat.le_trans (rl _ _ _) (by omega))
    refine ⟨.ref p1, .tuple [.list (rest (kN es ds) (kM es ds) es), .list (rest (kN es ds) (kM es ds) ds)], rfl, .tup (SqT.of hp1) (.cons (.lst (SqL.of ha1) (DpAll.rest _ _ dy9)) (.cons (.lst (SqL.of hb1) (DpAll.rest _ _ dx9)) .nil)), so3.s, so3.n, so3.dp, so3.l, ?_⟩
    have s10 := s8.trans s9
    refine ⟨_, rfl, cc, _, 1, _, rfl, rfl, SqL.of (s10 _ _ hcc), atI_nat (j := 1) rfl, _, rfl, cc, _, 0, _, rfl, rfl, SqL.of (s10 _ _ hcc), atI_nat (j := 0) rfl, ?_⟩
    refine ⟨l2, l1, ys, xs, es, ds, rfl, SqL.of (s10 _ _ hl2), SqL.of (s10 _ _ hl1), dy9, dx9, fy, fx, fun p2 a2 b2 H9 s11 hp2 ha2 hb2 => ?_⟩
    exact ⟨.ref p2, _, rfl, .tup (SqT.of hp2) (.cons (.lst ha2 (DpAll.rest _ _ (dpAll_same s11 _ dy9))) (.cons (.lst hb2 (DpAll.rest _ _ (dpAll_same s11 _ dx9))) .nil)), so3.s, so3.n, so3.dp, so3.l, rfl, _, rfl, iteNS rfl ⟨⟨_, _, _, _, _, _, _, _, _, _, _, _, _, _, _, rfl⟩, (s3.trans s4).trans (s10.trans s11)⟩⟩
end
end K8

namespace K8
open PySem L2
/-- a def that the written part holds under its own name -/
def Held (K : PySem.W.Frag) (mg : Str → Option Value) (x : Str) (st : Stmt) (f : Addr) (fd : FuncData) : Prop := Fun K x x st f fd ∧ mg x = some (.ref f)
/-- the written part's words for classes and constants -/
structure Rest (P : Program) (K : PySem.W.Frag) (mg : Str → Option Value) (C CB fE aS aK fInit fMEq fMCall fMFits : Addr) : Prop where
  T : Mod2 K mg aS aK
  S : SlipC K mg C
  TE : K8E.ErrTxt P K mg CB fE
  XF : XfC K CB
  M : Mk K C fInit
  fits : Meth K C "fits" fMFits
  eq1 : PySem.W.findIn K (.ref C) "__eq__" = some (some (.ref fMEq))
  eq2 : PySem.W.isFn K (.ref fMEq) = true
  call : StX.CallO K C fMCall
  tupNot : PySem.W.notFirst K C (.type "tuple") = true
  tupKit : PySem.W.kitOne K (.type "tuple") (.ref C) = some false
theorem all_of {P : Program} {w : World} {K : PySem.W.Frag} {mg : Str → Option Value} {base : Heap} {C CB fE aS aK : Addr} {fOneOf fCons fWord fNum fInt fSign fSort fIsSlip fBegin fTrim fPool fPick fOf fLWord fLWords fTokens fParts fLFits fDue fMade fDone fCut fLists fMEq fMCall fMFits fInit fLaw : Addr} {dOneOf dCons dWord dNum dInt dSign dSort dIsSlip dBegin dTrim dPool dPick dOf dLWord dLWords dTokens dParts dLFits dDue dMade dDone dCut dLists dMEq dMCall dMFits dInit dLaw : FuncData} (R : Rest P K mg C CB fE aS aK fInit fMEq fMCall fMFits)
    (hOneOf : Held K mg "is_one_of" sOneOf fOneOf dOneOf) (hCons : Held K mg "consists_of" sConsists fCons dCons) (hWord : Held K mg "is_word" sIsWord fWord dWord) (hNum : Held K mg "is_numeral" sIsNumeral fNum dNum) (hInt : Held K mg "is_integer" sIsInteger fInt dInt) (hSign : Held K mg "is_sign" sIsSign fSign dSign) (hSort : Held K mg "sort_of" sSortOf fSort dSort) (hIsSlip : Held K mg "is_slip" sIsSlip fIsSlip dIsSlip) (hBegin : Held K mg "common_beginning" sBegin fBegin dBegin) (hTrim : Held K mg "trimmed" sTrimmed fTrim dTrim) (hPool : Held K mg "_law_pool" sPool fPool dPool) (hPick : Held K mg "_law_pick" sPick fPick dPick) (hOf : Held K mg "_law_of" sOf fOf dOf) (hLWord : Held K mg "_law_word" sLawWord fLWord dLWord) (hLWords : Held K mg "_law_words" sLawWords fLWords dLWords) (hTokens : Held K mg "_law_tokens" sTokens fTokens dTokens) (hParts : Held K mg "_law_parts" sParts fParts dParts) (hLFits : Held K mg "_law_fits" sLawFits fLFits dLFits) (hDue : Held K mg "_law_due" sLawDue fDue dDue) (hMade : Held K mg "_law_made" sMade fMade dMade) (hDone : Held K mg "_law_done" sDone fDone dDone) (hCut : Held K mg "_law_cut" sLawCut fCut dCut) (hLists : Held K mg "_law_lists" sLists fLists dLists)
    (hMEq : Fun K "__eq__" "Slip.__eq__" sEq fMEq dMEq) (hMCall : Fun K "__call__" "Slip.__call__" sCall fMCall dMCall) (hMFits : Fun K "fits" "Slip.fits" sFits fMFits dMFits) (hInit : FunD K "__init__" "Slip.__init__" (defArgs sInit) (defBody sInit) (defScope sInit) [.non] [] fInit dInit) (hLaw : Fun K "law" "law" sLaw fLaw dLaw)
    (bOneOf : Binds K dOneOf ["thing", "words"] []) (bCons : Binds K dCons ["thing", "characters"] []) (bWord : Binds K dWord ["thing"] []) (bNum : Binds K dNum ["thing"] []) (bInt : Binds K dInt ["thing"] []) (bSign : Binds K dSign ["thing"] []) (bSort : Binds K dSort ["thing"] []) (bIsSlip : Binds K dIsSlip ["kind", "at", "token"] []) (bBegin : Binds K dBegin ["first", "second"] []) (bTrim : Binds K dTrim ["first", "second"] []) (bPool : Binds K dPool ["_law_script", "_law_place"] []) (bPick : Binds K dPick ["_law_pool_here", "_law_many"] []) (bOf : Binds K dOf ["_law_pool_here", "_law_some"] []) (bLWord : Binds K dLWord ["_law_pool_here", "_law_taken"] []) (bLWords : Binds K dLWords ["_law_pool_here", "_law_many", "_law_taken"] []) (bTokens : Binds K dTokens ["_law_pool_here", "_law_many"] []) (bParts : Binds K dParts ["_law_pool_here"] []) (bLFits : Binds K dLFits ["_law_parts_here", "_law_file"] []) (bDue : Binds K dDue ["_law_parts_here", "_law_file"] []) (bMade : Binds K dMade ["_law_parts_here"] []) (bDone : Binds K dDone ["_law_slip", "_law_file"] []) (bCut : Binds K dCut ["_law_first", "_law_second"] []) (bLists : Binds K dLists ["_law_pool_here"] []) (bMEq : Binds K dMEq ["self", "other"] []) (bMCall : Binds K dMCall ["self", "file"] []) (bMFits : Binds K dMFits ["self", "file"] []) (bInit : Binds K dInit ["self", "kind", "at", "token"] []) : FnG P w K mg base 8 fLaw dLaw ["_law_script"] (spLaw K) := by
  have T := R.T
  have T0 := R.T.toMod
  have GOneOf : FnOk P w K mg base CX0 1 fOneOf dOneOf ["thing", "words"] (spOneOf K) := ok_oneOf hOneOf.1 T0
  have GWord : FnOk P w K mg base CX0 2 fWord dWord ["thing"] (spWord K) := ok_word hWord.1 T0 hCons.1 bCons hCons.2
  have GNum : FnOk P w K mg base CX0 2 fNum dNum ["thing"] (spNum K) := ok_num hNum.1 T0 hCons.1 bCons hCons.2
  have GInt : FnOk P w K mg base CX0 1 fInt dInt ["thing"] (spInteger K) := ok_integer hInt.1 T0 T.bool
  have GSign : FnOk P w K mg base CX0 2 fSign dSign ["thing"] (spSign K) := ok_sign hSign.1 T0 hOneOf.1 bOneOf hOneOf.2
  have GSort : FnOk P w K mg base CX0 3 fSort dSort ["thing"] (spSort K) := ok_sort hSort.1 hSign.1.kp GSign bSign hSign.2 hWord.1.kp GWord bWord hWord.2 hNum.1.kp GNum bNum hNum.2
  have GIsSlip : FnOk P w K mg base CX0 4 fIsSlip dIsSlip ["kind", "at", "token"] (spIsSlip K) := ok_isSlip hIsSlip.1 T hOneOf.1.kp GOneOf bOneOf hOneOf.2 hInt.1.kp GInt bInt hInt.2 hSort.1.kp GSort bSort hSort.2
  have GInit : FnOk P w K mg base (L2.CX P w) 5 fInit dInit ["self", "kind", "at", "token"] (spInit K C CB) := ok_init hInit R.S R.TE hIsSlip.1.kp GIsSlip bIsSlip hIsSlip.2
  have GMEq : FnOk P w K mg base CX0 1 fMEq dMEq ["self", "other"] (spEqS K C) := ok_eq hMEq T R.S
  have GMFits : FnOk P w K mg base CX0 1 fMFits dMFits ["self", "file"] (spFits K C) := ok_fits hMFits T R.S
  have GMCall : FnOk P w K mg base (L2.CX P w) 2 fMCall dMCall ["self", "file"] (spCallS K C CB) := ok_call hMCall T R.S R.TE GMFits bMFits R.fits
  have GBegin : FnOk P w K mg base CX0 1 fBegin dBegin ["first", "second"] (spBegin K) := ok_begin hBegin.1 T0 T.min
  have GTrim : FnOk P w K mg base CX0 2 fTrim dTrim ["first", "second"] (spTrim K) := ok_trimmed hTrim.1 T0 hBegin.1.kp GBegin bBegin hBegin.2
  have GPool : FnOk P w K mg base CX0 1 fPool dPool ["_law_script", "_law_place"] (spPool K) := ok_pool hPool.1 T0.toBare
  have GPick : FnOk P w K mg base CX0 1 fPick dPick ["_law_pool_here", "_law_many"] spPick := ok_pick hPick.1 T0.toBare
  have GOf : FnOk P w K mg base CX0 2 fOf dOf ["_law_pool_here", "_law_some"] spOf := ok_of hOf.1 T0 hPick.1.kp GPick bPick hPick.2
  have GLWord : FnOk P w K mg base CX0 2 fLWord dLWord ["_law_pool_here", "_law_taken"] spLawWord := ok_lawWord hLWord.1 T0 hPick.1.kp GPick bPick hPick.2
  have GLWords : FnOk P w K mg base CX0 3 fLWords dLWords ["_law_pool_here", "_law_many", "_law_taken"] spLawWords := ok_lawWords hLWords.1 T0 hLWord.1.kp GLWord bLWord hLWord.2
  have GTokens : FnOk P w K mg base CX0 4 fTokens dTokens ["_law_pool_here", "_law_many"] spTokens := ok_tokens hTokens.1 T0 hPick.1.kp GPick bPick hPick.2 hOf.1.kp GOf bOf hOf.2 hLWords.1.kp GLWords bLWords hLWords.2
  have GParts : FnOk P w K mg base CX0 3 fParts dParts ["_law_pool_here"] (spParts K) := ok_parts hParts.1 T hPick.1.kp GPick bPick hPick.2 hOf.1.kp GOf bOf hOf.2
  have GLFits : FnOk P w K mg base CX0 1 fLFits dLFits ["_law_parts_here", "_law_file"] (spLawFits K) := ok_lawFits hLFits.1 T
  have GDue : FnOk P w K mg base CX0 1 fDue dDue ["_law_parts_here", "_law_file"] (spLawDue K) := ok_lawDue hDue.1
  have GMade : FnOk P w K mg base CX0 7 fMade dMade ["_law_parts_here"] (spMade K C) := ok_made hMade.1 R.S R.TE R.XF R.M GInit bInit
  have GDone : FnOk P w K mg base CX0 3 fDone dDone ["_law_slip", "_law_file"] (spDone K C) := ok_done hDone.1 R.TE R.XF R.call GMCall bMCall
  have GCut : FnOk P w K mg base CX0 1 fCut dCut ["_law_first", "_law_second"] (spLawCut K) := ok_lawCut hCut.1
  have GLists : FnOk P w K mg base CX0 3 fLists dLists ["_law_pool_here"] (spLists K) := ok_lists hLists.1 T hPick.1.kp GPick bPick hPick.2 hOf.1.kp GOf bOf hOf.2
  exact ok_law hLaw T R.S ⟨⟨fPool, dPool, hPool.1.kp, GPool, bPool, hPool.2⟩, ⟨fParts, dParts, hParts.1.kp, GParts, bParts, hParts.2⟩, ⟨fMade, dMade, hMade.1.kp, GMade, bMade, hMade.2⟩, ⟨fTokens, dTokens, hTokens.1.kp, GTokens, bTokens, hTokens.2⟩, ⟨fLFits, dLFits, hLFits.1.kp, GLFits, bLFits, hLFits.2⟩, ⟨fDue, dDue, hDue.1.kp, GDue, bDue, hDue.2⟩, ⟨fDone, dDone, hDone.1.kp, GDone, bDone, hDone.2⟩, ⟨fLists, dLists, hLists.1.kp, GLists, bLists, hLists.2⟩, ⟨fTrim, dTrim, hTrim.1.kp, GTrim, bTrim, hTrim.2⟩, ⟨fCut, dCut, hCut.1.kp, GCut, bCut, hCut.2⟩, ⟨fMFits, dMFits, R.fits, GMFits, bMFits⟩, ⟨fMEq, dMEq, R.eq1, R.eq2, GMEq, bMEq⟩, ⟨fInit, dInit, R.M, GInit, bInit⟩, R.tupNot, R.tupKit⟩
end K8

namespace K8
open PySem L2
section
variable {K : PySem.W.Frag} {h : Heap} {mg : Str → Option Value}
/-- a def of the top, read off the written part -/
theorem held {x : Str} {st : Stmt} {f : Addr} {oc : Value} {od an : Option Addr} {osl : Array (Option Value)} {kV doc pm cdv ct : Value} (X : K.In h) (G : h.Ns mainGlobals mg) (a : PySem.W.nsIn K mainGlobals x = some (some (.ref f)))
    (l : K.lookup f = some ⟨oc, od, .func (PySem.W.fnOf x x (defArgs st) (defBody st) (defScope st) .none kV doc pm an cdv ct), osl⟩) (c : PySem.W.codeIn K cdv x = true) (k : PySem.W.keepIn K (.ref f) = true) : Held K mg x st f (PySem.W.fnOf x x (defArgs st) (defBody st) (defScope st) .none kV doc pm an cdv ct) :=
  ⟨fun_mk l c k, PySem.W.mg_of X G a⟩
theorem signs_vals {t1 t2 t3 t4 t5 : Tok} {its : Array Value} (e : its = #[.str "=" t1, .str ";" t2, .str "," t3, .str "[" t4, .str "]" t5]) : its.size ≤ sizeLine ∧ Vals (K8.signs.map V.str) its.toList := by
  subst e
  exact ⟨by show 5 ≤ sizeLine; decide, .cons ⟨_, rfl⟩ (.cons ⟨_, rfl⟩ (.cons ⟨_, rfl⟩ (.cons ⟨_, rfl⟩ (.cons ⟨_, rfl⟩ .nil))))⟩
theorem kinds_vals {t1 t2 t3 t4 : Tok} {its : Array Value} (e : its = #[.str "left" t1, .str "doubled" t2, .str "swapped" t3, .str "written" t4]) : its.size ≤ sizeLine ∧ Vals (K8.kinds.map V.str) its.toList := by
  subst e
  exact ⟨by show 4 ≤ sizeLine; decide, .cons ⟨_, rfl⟩ (.cons ⟨_, rfl⟩ (.cons ⟨_, rfl⟩ (.cons ⟨_, rfl⟩ .nil)))⟩
/-- what is no instance of an own class -/
theorem kit_not {C : Addr} (hd : PySem.W.hasDictIn K C = true) (ht : PySem.W.typeIn K (.ref C) = some (.type "type")) (hs : PySem.W.subIn K (.type "tuple") (.ref C) = some false) : PySem.W.kitOne K (.type "tuple") (.ref C) = some false := by
  obtain ⟨cd, hc, _⟩ := PySem.W.any_some hd
  have e : ((PySem.W.clsIn K C).isSome && PySem.W.typeIn K (.ref C) == some (.type "type")) = true := by rw [hc, ht]; rfl
  unfold PySem.W.kitOne
  rw [if_neg (fun q => by cases eq_of_beq q)]
  show (if ((PySem.W.clsIn K C).isSome && PySem.W.typeIn K (.ref C) == some (.type "type")) = true then PySem.W.subIn K (.type "tuple") (.ref C) else none) = some false
  rw [if_pos e]
  exact hs
end
theorem all_mk {P : Program} {w : World} {K : PySem.W.Frag} {h : Heap} {mg : Str → Option Value} {fa C CB fE aS aK : Addr} (X : K.In h) (G : h.Ns mainGlobals mg) (hfa : mg "law" = some (.ref fa))
    {nm q : Str} {N CS : Addr} {bs : List Value} {sn : List Str} {sub : List Value} {ab : Bool} {col : Option Bool} {dd : Option Addr} {m0 m1 m2 m3 m5 : Option Value} {oI pmI ctI : Value} {odI anI : Option Addr} {slI : Array (Option Value)} {docI : Value} {cda cc : Addr}
    {ccl : Value} {cdd : Option Addr} {vs : Array Value} {ccs : Array (Option Value)} {file : Str} {tf : Tok} {cl : Value} {cld : Option Addr} {csl : Array (Option Value)} {tL tD tM t1 t2 t3 t4 t5 u1 u2 u3 u4 : Tok} {dS dK : Option Addr} {its itk : Array Value} {nS nK : Nat} {slS slK : Array (Option Value)}
    {fOneOf fCons fWord fNum fInt fSign fSort fIsSlip fBegin fTrim fPool fPick fOf fLWord fLWords fTokens fParts fLFits fDue fMade fDone fCut fLists fMEq fMCall fMFits fInit fLaw : Addr} {odOneOf anOneOf odCons anCons odWord anWord odNum anNum odInt anInt odSign anSign odSort anSort odIsSlip anIsSlip odBegin anBegin odTrim anTrim odPool anPool odPick anPick odOf anOf odLWord anLWord odLWords anLWords odTokens anTokens odParts anParts odLFits anLFits odDue anDue odMade anMade odDone anDone odCut anCut odLists anLists odMEq anMEq odMCall anMCall odMFits anMFits odInit anInit odLaw anLaw : Option Addr} {slOneOf slCons slWord slNum slInt slSign slSort slIsSlip slBegin slTrim slPool slPick slOf slLWord slLWords slTokens slParts slLFits slDue slMade slDone slCut slLists slMEq slMCall slMFits slInit slLaw : Array (Option Value)}
    {ocOneOf kVOneOf dcOneOf pmOneOf cdOneOf ctOneOf ocCons kVCons dcCons pmCons cdCons ctCons ocWord kVWord dcWord pmWord cdWord ctWord ocNum kVNum dcNum pmNum cdNum ctNum ocInt kVInt dcInt pmInt cdInt ctInt ocSign kVSign dcSign pmSign cdSign ctSign ocSort kVSort dcSort pmSort cdSort ctSort ocIsSlip kVIsSlip dcIsSlip pmIsSlip cdIsSlip ctIsSlip ocBegin kVBegin dcBegin pmBegin cdBegin ctBegin ocTrim kVTrim dcTrim pmTrim cdTrim ctTrim ocPool kVPool dcPool pmPool cdPool ctPool ocPick kVPick dcPick pmPick cdPick ctPick ocOf kVOf dcOf pmOf cdOf ctOf ocLWord kVLWord dcLWord pmLWord cdLWord ctLWord ocLWords kVLWords dcLWords pmLWords cdLWords ctLWords ocTokens kVTokens dcTokens pmTokens cdTokens ctTokens ocParts kVParts dcParts pmParts cdParts ctParts ocLFits kVLFits dcLFits pmLFits cdLFits ctLFits ocDue kVDue dcDue pmDue cdDue ctDue ocMade kVMade dcMade pmMade cdMade ctMade ocDone kVDone dcDone pmDone cdDone ctDone ocCut kVCut dcCut pmCut cdCut ctCut ocLists kVLists dcLists pmLists cdLists ctLists ocMEq kVMEq dcMEq pmMEq cdMEq ctMEq ocMCall kVMCall dcMCall pmMCall cdMCall ctMCall ocMFits kVMFits dcMFits pmMFits cdMFits ctMFits ocInit kVInit dcInit pmInit cdInit ctInit ocLaw kVLaw dcLaw pmLaw cdLaw ctLaw : Value} {aD : Addr} {clD : Value} {ddD : Option Addr} {nD : Nat} {slD : Array (Option Value)}
    (aB : PySem.W.nsIn K mainGlobals "BadSlip" = some (some (.ref CB)))
    (aSE : PySem.W.nsIn K mainGlobals "SettingsError" = some (some (.ref CS)))
    (xL : K.lookup CB = some (excClassObj nm q CB N bs [.ref CS, .type "ValueError", .type "Exception", .type "BaseException", .type "object"] true sn sub ab col dd m0 m1 m2 m3 m5 "ValueError.__new__"))
    (bsa : PySem.W.findIn K (.ref CB) "__setattr__" = some (some (.builtin "object.__setattr__")))
    (bga : PySem.W.findIn K (.ref CB) "__getattribute__" = some (some (.builtin "BaseException.__getattribute__")))
    (bgg : PySem.W.findIn K (.ref CB) "__getattr__" = some none)
    (bnb : PySem.W.findIn K (.ref CB) "at" = some none)
    (biC : PySem.W.findIn K (.ref CB) "__init__" = some (some (.ref fE)))
    (btI : PySem.W.typeIn K (.ref fE) = some (.type "function"))
    (bkC : PySem.W.keepIn K (.ref CB) = true)
    (beC : PySem.W.subIn K (.ref CB) (.type "BaseException") = some true)
    (bvC : PySem.W.subIn K (.ref CB) (.type "ValueError") = some true)
    (btC : PySem.W.typeIn K (.ref CB) = some (.type "type"))
    (bhC : PySem.W.hasDictIn K CB = true)
    (bsC : PySem.W.subIn K (.ref CB) (.ref CB) = some true)
    (bmC : PySem.W.mroIn K CB (.ref CB) = some true)
    (sup : PySem.W.ks_superIn K CB CB "__init__" = some (some (.builtin "ValueError.__init__")))
    (tp : PySem.W.nsIn K PySem.cStatics "thirdparty.any" = some none)
    (su : PySem.W.nsIn K mainGlobals "super" = some none)
    (topp : (P.main.scope.names.lookup ("super" : Str)).isSome = false)
    (lI : K.lookup fE = some ⟨oI, odI, .func (PySem.W.ksFn "__init__" "BadSlip.__init__" (K8E.eA ⟨6, 17, 6, 21⟩ ⟨6, 23, 6, 25⟩) (K8E.eB "a slip that cannot be made" 0 ⟨7, 8, 7, 13⟩ ⟨7, 8, 7, 15⟩ ⟨7, 8, 7, 24⟩ ⟨7, 25, 7, 53⟩ ⟨7, 8, 7, 54⟩ ⟨7, 8, 7, 54⟩ ⟨8, 8, 8, 12⟩ ⟨8, 8, 8, 15⟩ ⟨8, 18, 8, 20⟩ ⟨8, 8, 8, 20⟩) K8E.eS .none .none docI pmI anI (.ref cda) ctI cc), slI⟩)
    (cI : PySem.W.codeIn K (.ref cda) "BadSlip.__init__" = true)
    (lD : K.lookup cda = some ⟨ccl, cdd, .fields vs, ccs⟩)
    (vf : vs[2]? = some (.str file tf))
    (pf : ((P.main.file : Str) == file) = true)
    (lc : K.lookup cc = some ⟨cl, cld, .cell (some (.ref CB)), csl⟩)
    (aC : PySem.W.nsIn K mainGlobals "Slip" = some (some (.ref C)))
    (pg : PySem.W.plainGet K C Str.empty = true)
    (hdC : PySem.W.hasDictIn K C = true)
    (po : PySem.W.plainOver K C = true)
    (saC : PySem.W.findIn K (.ref C) "__setattr__" = some (some (.builtin "object.__setattr__")))
    (mkC : PySem.W.makesIn K C = true)
    (kpC : PySem.W.keepIn K (.ref C) = true)
    (nk : PySem.W.findIn K (.ref C) "kind" = some none)
    (na : PySem.W.findIn K (.ref C) "at" = some none)
    (nt : PySem.W.findIn K (.ref C) "token" = some none)
    (haC : PySem.W.findIn K (.ref C) "__class__" = some (some (.builtin "object.__class__")))
    (hnC : PySem.W.specialIn K (.builtin "object.__class__") "__get__" = some (some (.builtin "getset_descriptor.__get__")))
    (htkC : PySem.W.takesIn K (.builtin "object.__class__") = some true)
    (hmC : PySem.W.mroIn K C (.type "object") = some true)
    (tyC : PySem.W.typeIn K (.ref C) = some (.type "type"))
    (tnC : PySem.W.notFirst K C (.type "tuple") = true)
    (tsC : PySem.W.subIn K (.type "tuple") (.ref C) = some false)
    (iInit : PySem.W.findIn K (.ref C) "__init__" = some (some (.ref fInit)))
    (jInit : PySem.W.isFn K (.ref fInit) = true)
    (lInit : K.lookup fInit = some ⟨ocInit, odInit, .func (PySem.W.fnOf "__init__" "Slip.__init__" (defArgs sInit) (defBody sInit) (defScope sInit) (.ref aD) kVInit dcInit pmInit anInit cdInit ctInit), slInit⟩)
    (cInit : PySem.W.codeIn K cdInit "Slip.__init__" = true)
    (kInit : PySem.W.keepIn K (.ref fInit) = true)
    (lDf : K.lookup aD = some ⟨clD, ddD, .seq #[.none] nD, slD⟩)
    (iMEq : PySem.W.findIn K (.ref C) "__eq__" = some (some (.ref fMEq)))
    (jMEq : PySem.W.isFn K (.ref fMEq) = true)
    (lMEq : K.lookup fMEq = some ⟨ocMEq, odMEq, .func (PySem.W.fnOf "__eq__" "Slip.__eq__" (defArgs sEq) (defBody sEq) (defScope sEq) .none kVMEq dcMEq pmMEq anMEq cdMEq ctMEq), slMEq⟩)
    (cMEq : PySem.W.codeIn K cdMEq "Slip.__eq__" = true)
    (kMEq : PySem.W.keepIn K (.ref fMEq) = true)
    (iMCall : PySem.W.findIn K (.ref C) "__call__" = some (some (.ref fMCall)))
    (jMCall : PySem.W.isFn K (.ref fMCall) = true)
    (lMCall : K.lookup fMCall = some ⟨ocMCall, odMCall, .func (PySem.W.fnOf "__call__" "Slip.__call__" (defArgs sCall) (defBody sCall) (defScope sCall) .none kVMCall dcMCall pmMCall anMCall cdMCall ctMCall), slMCall⟩)
    (cMCall : PySem.W.codeIn K cdMCall "Slip.__call__" = true)
    (kMCall : PySem.W.keepIn K (.ref fMCall) = true)
    (iMFits : PySem.W.findIn K (.ref C) "fits" = some (some (.ref fMFits)))
    (jMFits : PySem.W.isFn K (.ref fMFits) = true)
    (lMFits : K.lookup fMFits = some ⟨ocMFits, odMFits, .func (PySem.W.fnOf "fits" "Slip.fits" (defArgs sFits) (defBody sFits) (defScope sFits) .none kVMFits dcMFits pmMFits anMFits cdMFits ctMFits), slMFits⟩)
    (cMFits : PySem.W.codeIn K cdMFits "Slip.fits" = true)
    (kMFits : PySem.W.keepIn K (.ref fMFits) = true)
    (fnC : PySem.W.fnIn K fMCall = true)
    (gL : PySem.W.nsIn K mainGlobals "LETTERS" = some (some (.str cLetters tL)))
    (gD : PySem.W.nsIn K mainGlobals "DIGITS" = some (some (.str cDigits tD)))
    (gM : PySem.W.nsIn K mainGlobals "LONGEST" = some (some (.int 12 tM)))
    (gG : PySem.W.nsIn K mainGlobals "SIGNS" = some (some (.ref aS)))
    (lS : K.lookup aS = some ⟨.type "tuple", dS, .seq its nS, slS⟩)
    (vS : its = #[.str "=" t1, .str ";" t2, .str "," t3, .str "[" t4, .str "]" t5])
    (gK : PySem.W.nsIn K mainGlobals "KINDS" = some (some (.ref aK)))
    (lK : K.lookup aK = some ⟨.type "tuple", dK, .seq itk nK, slK⟩)
    (vK : itk = #[.str "left" u1, .str "doubled" u2, .str "swapped" u3, .str "written" u4])
    (zint : PySem.W.nsIn K mainGlobals "int" = some none)
    (zlen : PySem.W.nsIn K mainGlobals "len" = some none)
    (zsum : PySem.W.nsIn K mainGlobals "sum" = some none)
    (zabs : PySem.W.nsIn K mainGlobals "abs" = some none)
    (zrange : PySem.W.nsIn K mainGlobals "range" = some none)
    (zstr : PySem.W.nsIn K mainGlobals "str" = some none)
    (zall : PySem.W.nsIn K mainGlobals "all" = some none)
    (zmax : PySem.W.nsIn K mainGlobals "max" = some none)
    (zisi : PySem.W.nsIn K mainGlobals "isinstance" = some none)
    (zenum : PySem.W.nsIn K mainGlobals "enumerate" = some none)
    (zrepr : PySem.W.nsIn K mainGlobals "repr" = some none)
    (zlist : PySem.W.nsIn K mainGlobals "list" = some none)
    (zbool : PySem.W.nsIn K mainGlobals "bool" = some none)
    (zmin : PySem.W.nsIn K mainGlobals "min" = some none)
    (ztuple : PySem.W.nsIn K mainGlobals "tuple" = some none)
    (aOneOf : PySem.W.nsIn K mainGlobals "is_one_of" = some (some (.ref fOneOf)))
    (lOneOf : K.lookup fOneOf = some ⟨ocOneOf, odOneOf, .func (PySem.W.fnOf "is_one_of" "is_one_of" (defArgs sOneOf) (defBody sOneOf) (defScope sOneOf) .none kVOneOf dcOneOf pmOneOf anOneOf cdOneOf ctOneOf), slOneOf⟩)
    (cOneOf : PySem.W.codeIn K cdOneOf "is_one_of" = true)
    (kOneOf : PySem.W.keepIn K (.ref fOneOf) = true)
    (aCons : PySem.W.nsIn K mainGlobals "consists_of" = some (some (.ref fCons)))
    (lCons : K.lookup fCons = some ⟨ocCons, odCons, .func (PySem.W.fnOf "consists_of" "consists_of" (defArgs sConsists) (defBody sConsists) (defScope sConsists) .none kVCons dcCons pmCons anCons cdCons ctCons), slCons⟩)
    (cCons : PySem.W.codeIn K cdCons "consists_of" = true)
    (kCons : PySem.W.keepIn K (.ref fCons) = true)
    (aWord : PySem.W.nsIn K mainGlobals "is_word" = some (some (.ref fWord)))
    (lWord : K.lookup fWord = some ⟨ocWord, odWord, .func (PySem.W.fnOf "is_word" "is_word" (defArgs sIsWord) (defBody sIsWord) (defScope sIsWord) .none kVWord dcWord pmWord anWord cdWord ctWord), slWord⟩)
    (cWord : PySem.W.codeIn K cdWord "is_word" = true)
    (kWord : PySem.W.keepIn K (.ref fWord) = true)
    (aNum : PySem.W.nsIn K mainGlobals "is_numeral" = some (some (.ref fNum)))
    (lNum : K.lookup fNum = some ⟨ocNum, odNum, .func (PySem.W.fnOf "is_numeral" "is_numeral" (defArgs sIsNumeral) (defBody sIsNumeral) (defScope sIsNumeral) .none kVNum dcNum pmNum anNum cdNum ctNum), slNum⟩)
    (cNum : PySem.W.codeIn K cdNum "is_numeral" = true)
    (kNum : PySem.W.keepIn K (.ref fNum) = true)
    (aInt : PySem.W.nsIn K mainGlobals "is_integer" = some (some (.ref fInt)))
    (lInt : K.lookup fInt = some ⟨ocInt, odInt, .func (PySem.W.fnOf "is_integer" "is_integer" (defArgs sIsInteger) (defBody sIsInteger) (defScope sIsInteger) .none kVInt dcInt pmInt anInt cdInt ctInt), slInt⟩)
    (cInt : PySem.W.codeIn K cdInt "is_integer" = true)
    (kInt : PySem.W.keepIn K (.ref fInt) = true)
    (aSign : PySem.W.nsIn K mainGlobals "is_sign" = some (some (.ref fSign)))
    (lSign : K.lookup fSign = some ⟨ocSign, odSign, .func (PySem.W.fnOf "is_sign" "is_sign" (defArgs sIsSign) (defBody sIsSign) (defScope sIsSign) .none kVSign dcSign pmSign anSign cdSign ctSign), slSign⟩)
    (cSign : PySem.W.codeIn K cdSign "is_sign" = true)
    (kSign : PySem.W.keepIn K (.ref fSign) = true)
    (aSort : PySem.W.nsIn K mainGlobals "sort_of" = some (some (.ref fSort)))
    (lSort : K.lookup fSort = some ⟨ocSort, odSort, .func (PySem.W.fnOf "sort_of" "sort_of" (defArgs sSortOf) (defBody sSortOf) (defScope sSortOf) .none kVSort dcSort pmSort anSort cdSort ctSort), slSort⟩)
    (cSort : PySem.W.codeIn K cdSort "sort_of" = true)
    (kSort : PySem.W.keepIn K (.ref fSort) = true)
    (aIsSlip : PySem.W.nsIn K mainGlobals "is_slip" = some (some (.ref fIsSlip)))
    (lIsSlip : K.lookup fIsSlip = some ⟨ocIsSlip, odIsSlip, .func (PySem.W.fnOf "is_slip" "is_slip" (defArgs sIsSlip) (defBody sIsSlip) (defScope sIsSlip) .none kVIsSlip dcIsSlip pmIsSlip anIsSlip cdIsSlip ctIsSlip), slIsSlip⟩)
    (cIsSlip : PySem.W.codeIn K cdIsSlip "is_slip" = true)
    (kIsSlip : PySem.W.keepIn K (.ref fIsSlip) = true)
    (aBegin : PySem.W.nsIn K mainGlobals "common_beginning" = some (some (.ref fBegin)))
    (lBegin : K.lookup fBegin = some ⟨ocBegin, odBegin, .func (PySem.W.fnOf "common_beginning" "common_beginning" (defArgs sBegin) (defBody sBegin) (defScope sBegin) .none kVBegin dcBegin pmBegin anBegin cdBegin ctBegin), slBegin⟩)
    (cBegin : PySem.W.codeIn K cdBegin "common_beginning" = true)
    (kBegin : PySem.W.keepIn K (.ref fBegin) = true)
    (aTrim : PySem.W.nsIn K mainGlobals "trimmed" = some (some (.ref fTrim)))
    (lTrim : K.lookup fTrim = some ⟨ocTrim, odTrim, .func (PySem.W.fnOf "trimmed" "trimmed" (defArgs sTrimmed) (defBody sTrimmed) (defScope sTrimmed) .none kVTrim dcTrim pmTrim anTrim cdTrim ctTrim), slTrim⟩)
    (cTrim : PySem.W.codeIn K cdTrim "trimmed" = true)
    (kTrim : PySem.W.keepIn K (.ref fTrim) = true)
    (aPool : PySem.W.nsIn K mainGlobals "_law_pool" = some (some (.ref fPool)))
    (lPool : K.lookup fPool = some ⟨ocPool, odPool, .func (PySem.W.fnOf "_law_pool" "_law_pool" (defArgs sPool) (defBody sPool) (defScope sPool) .none kVPool dcPool pmPool anPool cdPool ctPool), slPool⟩)
    (cPool : PySem.W.codeIn K cdPool "_law_pool" = true)
    (kPool : PySem.W.keepIn K (.ref fPool) = true)
    (aPick : PySem.W.nsIn K mainGlobals "_law_pick" = some (some (.ref fPick)))
    (lPick : K.lookup fPick = some ⟨ocPick, odPick, .func (PySem.W.fnOf "_law_pick" "_law_pick" (defArgs sPick) (defBody sPick) (defScope sPick) .none kVPick dcPick pmPick anPick cdPick ctPick), slPick⟩)
    (cPick : PySem.W.codeIn K cdPick "_law_pick" = true)
    (kPick : PySem.W.keepIn K (.ref fPick) = true)
    (aOf : PySem.W.nsIn K mainGlobals "_law_of" = some (some (.ref fOf)))
    (lOf : K.lookup fOf = some ⟨ocOf, odOf, .func (PySem.W.fnOf "_law_of" "_law_of" (defArgs sOf) (defBody sOf) (defScope sOf) .none kVOf dcOf pmOf anOf cdOf ctOf), slOf⟩)
    (cOf : PySem.W.codeIn K cdOf "_law_of" = true)
    (kOf : PySem.W.keepIn K (.ref fOf) = true)
    (aLWord : PySem.W.nsIn K mainGlobals "_law_word" = some (some (.ref fLWord)))
    (lLWord : K.lookup fLWord = some ⟨ocLWord, odLWord, .func (PySem.W.fnOf "_law_word" "_law_word" (defArgs sLawWord) (defBody sLawWord) (defScope sLawWord) .none kVLWord dcLWord pmLWord anLWord cdLWord ctLWord), slLWord⟩)
    (cLWord : PySem.W.codeIn K cdLWord "_law_word" = true)
    (kLWord : PySem.W.keepIn K (.ref fLWord) = true)
    (aLWords : PySem.W.nsIn K mainGlobals "_law_words" = some (some (.ref fLWords)))
    (lLWords : K.lookup fLWords = some ⟨ocLWords, odLWords, .func (PySem.W.fnOf "_law_words" "_law_words" (defArgs sLawWords) (defBody sLawWords) (defScope sLawWords) .none kVLWords dcLWords pmLWords anLWords cdLWords ctLWords), slLWords⟩)
    (cLWords : PySem.W.codeIn K cdLWords "_law_words" = true)
    (kLWords : PySem.W.keepIn K (.ref fLWords) = true)
    (aTokens : PySem.W.nsIn K mainGlobals "_law_tokens" = some (some (.ref fTokens)))
    (lTokens : K.lookup fTokens = some ⟨ocTokens, odTokens, .func (PySem.W.fnOf "_law_tokens" "_law_tokens" (defArgs sTokens) (defBody sTokens) (defScope sTokens) .none kVTokens dcTokens pmTokens anTokens cdTokens ctTokens), slTokens⟩)
    (cTokens : PySem.W.codeIn K cdTokens "_law_tokens" = true)
    (kTokens : PySem.W.keepIn K (.ref fTokens) = true)
    (aParts : PySem.W.nsIn K mainGlobals "_law_parts" = some (some (.ref fParts)))
    (lParts : K.lookup fParts = some ⟨ocParts, odParts, .func (PySem.W.fnOf "_law_parts" "_law_parts" (defArgs sParts) (defBody sParts) (defScope sParts) .none kVParts dcParts pmParts anParts cdParts ctParts), slParts⟩)
    (cParts : PySem.W.codeIn K cdParts "_law_parts" = true)
    (kParts : PySem.W.keepIn K (.ref fParts) = true)
    (aLFits : PySem.W.nsIn K mainGlobals "_law_fits" = some (some (.ref fLFits)))
    (lLFits : K.lookup fLFits = some ⟨ocLFits, odLFits, .func (PySem.W.fnOf "_law_fits" "_law_fits" (defArgs sLawFits) (defBody sLawFits) (defScope sLawFits) .none kVLFits dcLFits pmLFits anLFits cdLFits ctLFits), slLFits⟩)
    (cLFits : PySem.W.codeIn K cdLFits "_law_fits" = true)
    (kLFits : PySem.W.keepIn K (.ref fLFits) = true)
    (aDue : PySem.W.nsIn K mainGlobals "_law_due" = some (some (.ref fDue)))
    (lDue : K.lookup fDue = some ⟨ocDue, odDue, .func (PySem.W.fnOf "_law_due" "_law_due" (defArgs sLawDue) (defBody sLawDue) (defScope sLawDue) .none kVDue dcDue pmDue anDue cdDue ctDue), slDue⟩)
    (cDue : PySem.W.codeIn K cdDue "_law_due" = true)
    (kDue : PySem.W.keepIn K (.ref fDue) = true)
    (aMade : PySem.W.nsIn K mainGlobals "_law_made" = some (some (.ref fMade)))
    (lMade : K.lookup fMade = some ⟨ocMade, odMade, .func (PySem.W.fnOf "_law_made" "_law_made" (defArgs sMade) (defBody sMade) (defScope sMade) .none kVMade dcMade pmMade anMade cdMade ctMade), slMade⟩)
    (cMade : PySem.W.codeIn K cdMade "_law_made" = true)
    (kMade : PySem.W.keepIn K (.ref fMade) = true)
    (aDone : PySem.W.nsIn K mainGlobals "_law_done" = some (some (.ref fDone)))
    (lDone : K.lookup fDone = some ⟨ocDone, odDone, .func (PySem.W.fnOf "_law_done" "_law_done" (defArgs sDone) (defBody sDone) (defScope sDone) .none kVDone dcDone pmDone anDone cdDone ctDone), slDone⟩)
    (cDone : PySem.W.codeIn K cdDone "_law_done" = true)
    (kDone : PySem.W.keepIn K (.ref fDone) = true)
    (aCut : PySem.W.nsIn K mainGlobals "_law_cut" = some (some (.ref fCut)))
    (lCut : K.lookup fCut = some ⟨ocCut, odCut, .func (PySem.W.fnOf "_law_cut" "_law_cut" (defArgs sLawCut) (defBody sLawCut) (defScope sLawCut) .none kVCut dcCut pmCut anCut cdCut ctCut), slCut⟩)
    (cCut : PySem.W.codeIn K cdCut "_law_cut" = true)
    (kCut : PySem.W.keepIn K (.ref fCut) = true)
    (aLists : PySem.W.nsIn K mainGlobals "_law_lists" = some (some (.ref fLists)))
    (lLists : K.lookup fLists = some ⟨ocLists, odLists, .func (PySem.W.fnOf "_law_lists" "_law_lists" (defArgs sLists) (defBody sLists) (defScope sLists) .none kVLists dcLists pmLists anLists cdLists ctLists), slLists⟩)
    (cLists : PySem.W.codeIn K cdLists "_law_lists" = true)
    (kLists : PySem.W.keepIn K (.ref fLists) = true)
    (aLaw : PySem.W.nsIn K mainGlobals "law" = some (some (.ref fLaw)))
    (lLaw : K.lookup fLaw = some ⟨ocLaw, odLaw, .func (PySem.W.fnOf "law" "law" (defArgs sLaw) (defBody sLaw) (defScope sLaw) .none kVLaw dcLaw pmLaw anLaw cdLaw ctLaw), slLaw⟩)
    (cLaw : PySem.W.codeIn K cdLaw "law" = true)
    (kLaw : PySem.W.keepIn K (.ref fLaw) = true) :
    ∃ fd : FuncData, (∀ (s : Shared) (v : Value), BindsTo s fd ⟨[v], []⟩ [("_law_script", v)]) ∧ ∀ base : Heap, K.In base → base.Ns mainGlobals mg → FnG P w K mg base 8 fa fd ["_law_script"] (spLaw K) := by
  have e := hfa.symm.trans (PySem.W.mg_of X G aLaw)
  cases e
  have M0 : Mod K mg aS :=
    { int := PySem.W.mg_none_of X G zint, len := PySem.W.mg_none_of X G zlen, sum := PySem.W.mg_none_of X G zsum, abs := PySem.W.mg_none_of X G zabs, range := PySem.W.mg_none_of X G zrange, str := PySem.W.mg_none_of X G zstr, all := PySem.W.mg_none_of X G zall, max := PySem.W.mg_none_of X G zmax, isi := PySem.W.mg_none_of X G zisi, enum := PySem.W.mg_none_of X G zenum, repr := PySem.W.mg_none_of X G zrepr, list := PySem.W.mg_none_of X G zlist, letters := ⟨_, PySem.W.mg_of X G gL⟩, digits := ⟨_, PySem.W.mg_of X G gD⟩, longest := ⟨_, PySem.W.mg_of X G gM⟩, sgn := PySem.W.mg_of X G gG, tup := ⟨_, its, nS, lS, rfl, rfl, (signs_vals vS).1, (signs_vals vS).2⟩ }
  have M2 : Mod2 K mg aS aK := { M0 with kin := PySem.W.mg_of X G gK, ktup := ⟨_, itk, nK, lK, rfl, rfl, (kinds_vals vK).1, (kinds_vals vK).2⟩, bool := PySem.W.mg_none_of X G zbool, min := PySem.W.mg_none_of X G zmin, tuple := PySem.W.mg_none_of X G ztuple }
  have TE : K8E.ErrTxt P K mg CB fE :=
    { gC := PySem.W.mg_of X G aB, cls := ⟨nm, q, N, bs, _, sn, sub, ab, col, dd, m0, m1, m2, m3, m5, xL, by rfl⟩, sa := bsa, noN := bnb, iC := biC, tC := btI, kC := bkC, exC := beC, vaC := bvC, tyC := btC, te := PySem.W.exm_ref beC bhC btC bsC, sub := bmC, sup := sup, tp := tp, su := PySem.W.mg_none_of X G su, top := topp,
      fn := ⟨_, _, _, _, _, cda, cc, _, _, _, _, _, _, _, _, _, _, _, _, _, _, _, _, lI, cI, ⟨_, _, vs, _, file, tf, lD, vf, pf⟩, fun env => ⟨_, rfl⟩, _, _, _, lc⟩ }
  have S : SlipC K mg C := ⟨⟨pg, hdC, po, saC⟩, nk, na, nt, PySem.W.mg_of X G aC, haC, hnC, htkC, hmC⟩
  have R : Rest P K mg C CB fE aS aK fInit fMEq fMCall fMFits := ⟨M2, S, TE, ⟨bga, bgg, beC, bhC⟩, ⟨mkC, iInit, jInit, kpC⟩, ⟨iMFits, jMFits, kMFits⟩, iMEq, jMEq, ⟨iMCall, jMCall, fnC⟩, tnC, kit_not hdC tyC tsC⟩
  have hInit : FunD K "__init__" "Slip.__init__" (defArgs sInit) (defBody sInit) (defScope sInit) [.non] [] fInit (PySem.W.fnOf "__init__" "Slip.__init__" (defArgs sInit) (defBody sInit) (defScope sInit) (.ref aD) kVInit dcInit pmInit anInit cdInit ctInit) :=
    ⟨⟨_, _, _, _, _, _, _, _, _, _, rfl, lInit, cInit, .inr ⟨by simp, aD, _, [.none], nD, rfl, lDf, rfl, .cons rfl .nil⟩, .inl rfl⟩, kInit⟩
  have bInit : Binds K (PySem.W.fnOf "__init__" "Slip.__init__" (defArgs sInit) (defBody sInit) (defScope sInit) (.ref aD) kVInit dcInit pmInit anInit cdInit ctInit) ["self", "kind", "at", "token"] [] := by
    obtain ⟨ds, h1, h2⟩ := hInit.binds1 (ps := ["self", "kind", "at", "token"]) 4 1 (by simp) rfl fun _ _ _ _ _ _ _ us its h1 h2 => match us, its, h1, h2 with | [_, _, _, _], [_], _, _ => ⟨_, rfl, rfl⟩
    cases h1
    exact h2
  have hOneOf := held (st := sOneOf) X G aOneOf lOneOf cOneOf kOneOf
  have bOneOf := hOneOf.1.binds (ps := ["thing", "words"]) fun _ _ _ _ _ _ us hl => match us, hl with | [_, _], _ => rfl
  have hCons := held (st := sConsists) X G aCons lCons cCons kCons
  have bCons := hCons.1.binds (ps := ["thing", "characters"]) fun _ _ _ _ _ _ us hl => match us, hl with | [_, _], _ => rfl
  have hWord := held (st := sIsWord) X G aWord lWord cWord kWord
  have bWord := hWord.1.binds (ps := ["thing"]) fun _ _ _ _ _ _ us hl => match us, hl with | [_], _ => rfl
  have hNum := held (st := sIsNumeral) X G aNum lNum cNum kNum
  have bNum := hNum.1.binds (ps := ["thing"]) fun _ _ _ _ _ _ us hl => match us, hl with | [_], _ => rfl
  have hInt := held (st := sIsInteger) X G aInt lInt cInt kInt
  have bInt := hInt.1.binds (ps := ["thing"]) fun _ _ _ _ _ _ us hl => match us, hl with | [_], _ => rfl
  have hSign := held (st := sIsSign) X G aSign lSign cSign kSign
  have bSign := hSign.1.binds (ps := ["thing"]) fun _ _ _ _ _ _ us hl => match us, hl with | [_], _ => rfl
  have hSort := held (st := sSortOf) X G aSort lSort cSort kSort
  have bSort := hSort.1.binds (ps := ["thing"]) fun _ _ _ _ _ _ us hl => match us, hl with | [_], _ => rfl
  have hIsSlip := held (st := sIsSlip) X G aIsSlip lIsSlip cIsSlip kIsSlip
  have bIsSlip := hIsSlip.1.binds (ps := ["kind", "at", "token"]) fun _ _ _ _ _ _ us hl => match us, hl with | [_, _, _], _ => rfl
  have hBegin := held (st := sBegin) X G aBegin lBegin cBegin kBegin
  have bBegin := hBegin.1.binds (ps := ["first", "second"]) fun _ _ _ _ _ _ us hl => match us, hl with | [_, _], _ => rfl
  have hTrim := held (st := sTrimmed) X G aTrim lTrim cTrim kTrim
  have bTrim := hTrim.1.binds (ps := ["first", "second"]) fun _ _ _ _ _ _ us hl => match us, hl with | [_, _], _ => rfl
  have hPool := held (st := sPool) X G aPool lPool cPool kPool
  have bPool := hPool.1.binds (ps := ["_law_script", "_law_place"]) fun _ _ _ _ _ _ us hl => match us, hl with | [_, _], _ => rfl
  have hPick := held (st := sPick) X G aPick lPick cPick kPick
  have bPick := hPick.1.binds (ps := ["_law_pool_here", "_law_many"]) fun _ _ _ _ _ _ us hl => match us, hl with | [_, _], _ => rfl
  have hOf := held (st := sOf) X G aOf lOf cOf kOf
  have bOf := hOf.1.binds (ps := ["_law_pool_here", "_law_some"]) fun _ _ _ _ _ _ us hl => match us, hl with | [_, _], _ => rfl
  have hLWord := held (st := sLawWord) X G aLWord lLWord cLWord kLWord
  have bLWord := hLWord.1.binds (ps := ["_law_pool_here", "_law_taken"]) fun _ _ _ _ _ _ us hl => match us, hl with | [_, _], _ => rfl
  have hLWords := held (st := sLawWords) X G aLWords lLWords cLWords kLWords
  have bLWords := hLWords.1.binds (ps := ["_law_pool_here", "_law_many", "_law_taken"]) fun _ _ _ _ _ _ us hl => match us, hl with | [_, _, _], _ => rfl
  have hTokens := held (st := sTokens) X G aTokens lTokens cTokens kTokens
  have bTokens := hTokens.1.binds (ps := ["_law_pool_here", "_law_many"]) fun _ _ _ _ _ _ us hl => match us, hl with | [_, _], _ => rfl
  have hParts := held (st := sParts) X G aParts lParts cParts kParts
  have bParts := hParts.1.binds (ps := ["_law_pool_here"]) fun _ _ _ _ _ _ us hl => match us, hl with | [_], _ => rfl
  have hLFits := held (st := sLawFits) X G aLFits lLFits cLFits kLFits
  have bLFits := hLFits.1.binds (ps := ["_law_parts_here", "_law_file"]) fun _ _ _ _ _ _ us hl => match us, hl with | [_, _], _ => rfl
  have hDue := held (st := sLawDue) X G aDue lDue cDue kDue
  have bDue := hDue.1.binds (ps := ["_law_parts_here", "_law_file"]) fun _ _ _ _ _ _ us hl => match us, hl with | [_, _], _ => rfl
  have hMade := held (st := sMade) X G aMade lMade cMade kMade
  have bMade := hMade.1.binds (ps := ["_law_parts_here"]) fun _ _ _ _ _ _ us hl => match us, hl with | [_], _ => rfl
  have hDone := held (st := sDone) X G aDone lDone cDone kDone
  have bDone := hDone.1.binds (ps := ["_law_slip", "_law_file"]) fun _ _ _ _ _ _ us hl => match us, hl with | [_, _], _ => rfl
  have hCut := held (st := sLawCut) X G aCut lCut cCut kCut
  have bCut := hCut.1.binds (ps := ["_law_first", "_law_second"]) fun _ _ _ _ _ _ us hl => match us, hl with | [_, _], _ => rfl
  have hLists := held (st := sLists) X G aLists lLists cLists kLists
  have bLists := hLists.1.binds (ps := ["_law_pool_here"]) fun _ _ _ _ _ _ us hl => match us, hl with | [_], _ => rfl
  have hMEq := fun_mk (st := sEq) lMEq cMEq kMEq
  have bMEq := hMEq.binds (ps := ["self", "other"]) fun _ _ _ _ _ _ us hl => match us, hl with | [_, _], _ => rfl
  have hMCall := fun_mk (st := sCall) lMCall cMCall kMCall
  have bMCall := hMCall.binds (ps := ["self", "file"]) fun _ _ _ _ _ _ us hl => match us, hl with | [_, _], _ => rfl
  have hMFits := fun_mk (st := sFits) lMFits cMFits kMFits
  have bMFits := hMFits.binds (ps := ["self", "file"]) fun _ _ _ _ _ _ us hl => match us, hl with | [_, _], _ => rfl
  exact ⟨PySem.W.fnOf "law" "law" (defArgs sLaw) (defBody sLaw) (defScope sLaw) .none kVLaw dcLaw pmLaw anLaw cdLaw ctLaw, fun s v => .of_eq rfl, fun base _ _ => all_of R hOneOf hCons hWord hNum hInt hSign hSort hIsSlip hBegin hTrim hPool hPick hOf hLWord hLWords hTokens hParts hLFits hDue hMade hDone hCut hLists hMEq hMCall hMFits hInit (fun_mk (st := sLaw) lLaw cLaw kLaw) bOneOf bCons bWord bNum bInt bSign bSort bIsSlip bBegin bTrim bPool bPick bOf bLWord bLWords bTokens bParts bLFits bDue bMade bDone bCut bLists bMEq bMCall bMFits bInit⟩
theorem walk {l : PySem.W.OpenLaw} {q : Program} {loose : List Str} {XP : (Str → Option Value) → Heap → Prop} {YP : World → Heap → Prop} {d : DefRec} {K : Params → PySem.W.Frag} (hn : l.most = some 63) (hdf : d.params.defaults = [])
    (hY : ∀ (w : World) (h : Heap), YP w h → (K w.params).In h)
    (F : ∀ (w : World) (mg : Str → Option Value) (fa : Addr) (h : Heap), (K w.params).In h → h.Ns mainGlobals mg → mg d.name = some (.ref fa) →
      ∃ fd : FuncData, (∀ (s : Shared) (u : Value), BindsTo s fd ⟨[u], []⟩ [("_law_script", u)]) ∧ ∀ base : Heap, (K w.params).In base → base.Ns mainGlobals mg → FnG l.prog w (K w.params) mg base 8 fa fd ["_law_script"] (spLaw (K w.params))) :
    PySem.W.WalkO q loose XP YP l.row.toRowW d [] (fun f vs => PySem.call f vs) :=
  L2.walk_ofG (n := 63) (k := 8) (x := "_law_script") (sp := fun w => spLaw (K w.params)) hn (by decide) hdf ⟨rfl, by decide, by decide⟩ hY F fun _ _ a ns hl _ hS => ⟨a, ns, rfl, hS, hl, fun _ => rfl⟩
end K8

open PySem PySem.W PyProof.Rows in
set_option maxRecDepth 100000 in
set_option maxHeartbeats 0 in
theorem PySem.Challenge.cw_slipreach_k08_slips_done_and_lists_trimm_holds : PySem.Challenge.rw_slipreach_k08_slips_done_and_lists_trimm.Holds := by
  w_on
  o_law
  k_head
  (case hw => w_witness2)
  k_fill
  refine K8.walk (l := PySem.Challenge.rw_slipreach_k08_slips_done_and_lists_trimm) rfl rfl (fun w h Y => kIn_of Y) ?F
  case F =>
    intro w mg fa h KX G hmg
    refine' K8.all_mk KX G hmg ?aB ?aSE ?xL ?bsa ?bga ?bgg ?bnb ?biC ?btI ?bkC ?beC ?bvC ?btC ?bhC ?bsC ?bmC ?sup ?tp ?su ?topp ?lI ?cI ?lD ?vf ?pf ?lc ?aC ?pg ?hdC ?po ?saC ?mkC ?kpC ?nk ?na ?nt ?haC ?hnC ?htkC ?hmC ?tyC ?tnC ?tsC ?iInit ?jInit ?lInit ?cInit ?kInit ?lDf ?iMEq ?jMEq ?lMEq ?cMEq ?kMEq ?iMCall ?jMCall ?lMCall ?cMCall ?kMCall ?iMFits ?jMFits ?lMFits ?cMFits ?kMFits ?fnC ?gL ?gD ?gM ?gG ?lS ?vS ?gK ?lK ?vK ?zint ?zlen ?zsum ?zabs ?zrange ?zstr ?zall ?zmax ?zisi ?zenum ?zrepr ?zlist ?zbool ?zmin ?ztuple ?aOneOf ?lOneOf ?cOneOf ?kOneOf ?aCons ?lCons ?cCons ?kCons ?aWord ?lWord ?cWord ?kWord ?aNum ?lNum ?cNum ?kNum ?aInt ?lInt ?cInt ?kInt ?aSign ?lSign ?cSign ?kSign ?aSort ?lSort ?cSort ?kSort ?aIsSlip ?lIsSlip ?cIsSlip ?kIsSlip ?aBegin ?lBegin ?cBegin ?kBegin ?aTrim ?lTrim ?cTrim ?kTrim ?aPool ?lPool ?cPool ?kPool ?aPick ?lPick ?cPick ?kPick ?aOf ?lOf ?cOf ?kOf ?aLWord ?lLWord ?cLWord ?kLWord ?aLWords ?lLWords ?cLWords ?kLWords ?aTokens ?lTokens ?cTokens ?kTokens ?aParts ?lParts ?cParts ?kParts ?aLFits ?lLFits ?cLFits ?kLFits ?aDue ?lDue ?cDue ?kDue ?aMade ?lMade ?cMade ?kMade ?aDone ?lDone ?cDone ?kDone ?aCut ?lCut ?cCut ?kCut ?aLists ?lLists ?cLists ?kLists ?aLaw ?lLaw ?cLaw ?kLaw
    (case aB => k_is)
    (case aSE => k_is)
    (case xL => k_is)
    (case bsa => k_is)
    (case bga => k_is)
    (case bgg => k_is)
    (case bnb => k_is)
    (case biC => k_is)
    (case btI => k_is)
    (case bkC => k_is)
    (case beC => k_is)
    (case bvC => k_is)
    (case btC => k_is)
    (case bhC => k_is)
    (case bsC => first | rfl | k_is)
    (case bmC => k_is)
    (case sup => ks_is)
    (case tp => k_is)
    (case su => k_is)
    (case topp => first | rfl | decide +kernel)
    (case lI => k_is)
    (case cI => k_is)
    (case lD => k_is)
    (case vf => first | rfl | decide +kernel)
    (case pf => first | rfl | decide +kernel)
    (case lc => k_is)
    (case aC => k_is)
    (case pg => k_is)
    (case hdC => k_is)
    (case po => k_is)
    (case saC => k_is)
    (case mkC => k_is)
    (case kpC => k_is)
    (case nk => k_is)
    (case na => k_is)
    (case nt => k_is)
    (case haC => k_is)
    (case hnC => k_is)
    (case htkC => k_is)
    (case hmC => k_is)
    (case tyC => k_is)
    (case tnC => k_is)
    (case tsC => k_is)
    (case iInit => k_is)
    (case jInit => k_is)
    (case lInit => k_is)
    (case cInit => k_is)
    (case kInit => k_is)
    (case lDf => k_is)
    (case iMEq => k_is)
    (case jMEq => k_is)
    (case lMEq => k_is)
    (case cMEq => k_is)
    (case kMEq => k_is)
    (case iMCall => k_is)
    (case jMCall => k_is)
    (case lMCall => k_is)
    (case cMCall => k_is)
    (case kMCall => k_is)
    (case iMFits => k_is)
    (case jMFits => k_is)
    (case lMFits => k_is)
    (case cMFits => k_is)
    (case kMFits => k_is)
    (case fnC => k_is)
    (case gL => k_is)
    (case gD => k_is)
    (case gM => k_is)
    (case gG => k_is)
    (case lS => k_is)
    (case vS => rfl)
    (case gK => k_is)
    (case lK => k_is)
    (case vK => rfl)
    (case zint => k_is)
    (case zlen => k_is)
    (case zsum => k_is)
    (case zabs => k_is)
    (case zrange => k_is)
    (case zstr => k_is)
    (case zall => k_is)
    (case zmax => k_is)
    (case zisi => k_is)
    (case zenum => k_is)
    (case zrepr => k_is)
    (case zlist => k_is)
    (case zbool => k_is)
    (case zmin => k_is)
    (case ztuple => k_is)
    (case aOneOf => k_is)
    (case lOneOf => k_is)
    (case cOneOf => k_is)
    (case kOneOf => k_is)
    (case aCons => k_is)
    (case lCons => k_is)
    (case cCons => k_is)
    (case kCons => k_is)
    (case aWord => k_is)
    (case lWord => k_is)
    (case cWord => k_is)
    (case kWord => k_is)
    (case aNum => k_is)
    (case lNum => k_is)
    (case cNum => k_is)
    (case kNum => k_is)
    (case aInt => k_is)
    (case lInt => k_is)
    (case cInt => k_is)
    (case kInt => k_is)
    (case aSign => k_is)
    (case lSign => k_is)
    (case cSign => k_is)
    (case kSign => k_is)
    (case aSort => k_is)
    (case lSort => k_is)
    (case cSort => k_is)
    (case kSort => k_is)
    (case aIsSlip => k_is)
    (case lIsSlip => k_is)
    (case cIsSlip => k_is)
    (case kIsSlip => k_is)
    (case aBegin => k_is)
    (case lBegin => k_is)
    (case cBegin => k_is)
    (case kBegin => k_is)
    (case aTrim => k_is)
    (case lTrim => k_is)
    (case cTrim => k_is)
    (case kTrim => k_is)
    (case aPool => k_is)
    (case lPool => k_is)
    (case cPool => k_is)
    (case kPool => k_is)
    (case aPick => k_is)
    (case lPick => k_is)
    (case cPick => k_is)
    (case kPick => k_is)
    (case aOf => k_is)
    (case lOf => k_is)
    (case cOf => k_is)
    (case kOf => k_is)
    (case aLWord => k_is)
    (case lLWord => k_is)
    (case cLWord => k_is)
    (case kLWord => k_is)
    (case aLWords => k_is)
    (case lLWords => k_is)
    (case cLWords => k_is)
    (case kLWords => k_is)
    (case aTokens => k_is)
    (case lTokens => k_is)
    (case cTokens => k_is)
    (case kTokens => k_is)
    (case aParts => k_is)
    (case lParts => k_is)
    (case cParts => k_is)
    (case kParts => k_is)
    (case aLFits => k_is)
    (case lLFits => k_is)
    (case cLFits => k_is)
    (case kLFits => k_is)
    (case aDue => k_is)
    (case lDue => k_is)
    (case cDue => k_is)
    (case kDue => k_is)
    (case aMade => k_is)
    (case lMade => k_is)
    (case cMade => k_is)
    (case kMade => k_is)
    (case aDone => k_is)
    (case lDone => k_is)
    (case cDone => k_is)
    (case kDone => k_is)
    (case aCut => k_is)
    (case lCut => k_is)
    (case cCut => k_is)
    (case kCut => k_is)
    (case aLists => k_is)
    (case lLists => k_is)
    (case cLists => k_is)
    (case kLists => k_is)
    (case aLaw => k_is)
    (case lLaw => k_is)
    (case cLaw => k_is)
    (case kLaw => k_is)

