import PyProof.Rows.All
import Wide.All
import OpenK.AllK
import Wide.FinOn
import HandS.ForMost
import HandS.IsInst
import HandS.Wide
import PySem.Challenge.RW_slipreach_k15_pages_of_fates
import HandS.Codes
import HandS.Star
import HandS.OwnEq
import HandS.ForExc
import PyProof.ReprRoads
import PyProof.ReprText
import HandS.Walk
import HandS.Style
import HandS.Conv
import PyProof.ReprLen
import PyProof.EqAt
import PyProof.EqKinds
import PyProof.TupleCall
import HandS.Base
import HandS.Call
import HandS.List
import HandS.Set
import HandS.Strs
import KE.KDictLaws
import HandS.StrMore
import HandS.Text
import PyProof.StrOps2
import KE.KxField
import HandS.FStr
import PyProof.Rows.StrStrike
import HandS.SortKw
import KE.SortKeyHeap
import HandS.DictTup
import HandS.TryOnly
import PyProof.Rows.StrPartPair
import PyProof.Rows.StrLawsPart
import KE.KExcSuper
import HandS.ExcField
import HandS.ExcIs
import HandS.ListItems
import KE.KDictCopyH
import HandS.Small
import HandS.ReplaceLit
import HandS.Replace
import HandS.Evl
import KE.OsRunLaw
import HandS.Head2
set_option Elab.async false
set_option linter.all false
set_option maxRecDepth 110000
set_option maxHeartbeats 8100000
set_option hygiene false in
local macro_rules | `(tactic| o_headL (kHook $k $a $e)) => `(tactic| (exact h))
set_option maxRecDepth 100000 in
theorem K5.pre (h : (PySem.W.OpenLaw.row PySem.Challenge.rw_slipreach_k15_pages_of_fates).Holds) : (PySem.W.OpenLaw.row PySem.Challenge.rw_slipreach_k15_pages_of_fates).Holds := by
  k_headL
open PySem PySem.W in
def K5.qv : Program := view (PySem.W.OpenLaw.row PySem.Challenge.rw_slipreach_k15_pages_of_fates).prog [33]
def K5.nms0 : List PySem.Str := ["__name__", "SettingsError", "BadPage", "LETTERS", "LONGEST", "consists_of", "is_word", "FATES", "KINDS", "ROLES", "page_line", "LAYERS", "WIDTHS", "fields_of", "fates_in", "read_line", "read_page", "line_rank", "page_of", "_law_pool", "_law_pick", "_law_of", "_law_word", "_law_words", "_law_table", "_law_line", "_law_turned", "_law_wrong", "_law_refused"]
def K5.nms : List PySem.Str := K5.nms0
def K5.ads0 : List PySem.Addr := [2, 3, 15, 22, 23, 24, 25, 28, 31, 36, 37, 39, 40, 42, 43, 44, 45, 46, 49, 52, 53, 54, 56, 57, 59, 60, 61, 62, 63, 64, 66, 67, 69, 70, 71, 72, 73, 75, 76, 78]
def K5.ads1 : List PySem.Addr := [79, 80, 83, 84, 85, 87, 88, 90, 91, 92, 94, 95, 97, 98, 99, 101, 102, 104, 105, 106, 109, 110, 111, 113, 114, 116, 117, 118, 120, 121, 123, 124, 125, 127, 128, 130, 131, 132, 135, 136]
def K5.ads2 : List PySem.Addr := [137, 139, 140, 142, 143, 144, 147, 148, 149, 151, 152, 154, 155, 156, 158, 159, 161, 162, 163, 165, 166, 168, 169, 170, 172, 173, 175, 176, 177, 180, 181]
def K5.ads : List PySem.Addr := K5.ads0 ++ (K5.ads1 ++ (K5.ads2))
set_option maxRecDepth 100000 in
theorem K5.ads_eq : ∀ P, K5.ads = (K5.pre.heap_1 P).map (·.1) := fun _ => by kernel_rfl
noncomputable abbrev K5.hk : PySem.W.Hook := PySem.W.kHook K5.pre.heap_1 K5.ads K5.ads_eq
noncomputable abbrev K5.obK (s : PySem.W.SharedT) : List (Option PySem.Obj) := K5.ads.map (HandSHeadRun.getT s)
theorem K5.obK_eq (s : PySem.W.SharedT) : K5.obK s = K5.hk.obs s.abs := List.map_congr_left fun a _ => HandSHeadRun.getT_eq s a
set_option maxRecDepth 100000 in
set_option maxHeartbeats 0 in
theorem K5.run_false (w : PySem.World) : HandSHeadRun.RunEq (PySem.W.OpenLaw.row PySem.Challenge.rw_slipreach_k15_pages_of_fates) K5.qv K5.hk K5.obK 11000 K5.nms (PySem.World.withFollow w "special-get-raises" false) := by
  intro os
  kernel_rfl
set_option maxRecDepth 100000 in
set_option maxHeartbeats 0 in
theorem K5.run_true (w : PySem.World) : HandSHeadRun.RunEq (PySem.W.OpenLaw.row PySem.Challenge.rw_slipreach_k15_pages_of_fates) K5.qv K5.hk K5.obK 11000 K5.nms (PySem.World.withFollow w "special-get-raises" true) := by
  intro os
  kernel_rfl
theorem K5.run_all : ∀ w : PySem.World, HandSHeadRun.RunEq (PySem.W.OpenLaw.row PySem.Challenge.rw_slipreach_k15_pages_of_fates) K5.qv K5.hk K5.obK 11000 K5.nms w := (PySem.W.byRow2 "special-get-raises" K5.run_false K5.run_true)
namespace K5
open PySem L2
def top (i : Nat) : Stmt := PySem.Challenge.pw_slipreach_k15_pages_of_fates.main.body.getD i (.Pass ⟨0, 0, 0, 0⟩)
abbrev sPool : Stmt := top 23
abbrev sPick : Stmt := top 24
/-- built-in names that the top has left alone -/
structure Bare (mg : Str → Option Value) : Prop where
  int : mg "int" = none
  len : mg "len" = none
  sum : mg "sum" = none
  abs : mg "abs" = none
  range : mg "range" = none
  str : mg "str" = none
  all : mg "all" = none
  isi : mg "isinstance" = none
  repr : mg "repr" = none
  list : mg "list" = none
  tuple : mg "tuple" = none
  set : mg "set" = none
  dict : mg "dict" = none
  bool : mg "bool" = none
/-- all but the object at p is as it was -/
def Keep (p : Addr) (H H' : Hp) : Prop := ∀ b o, b ≠ p → H b = some o → H' b = some o
theorem Keep.refl (p : Addr) (H : Hp) : Keep p H H := fun _ _ _ h => h
theorem Keep.trans {p : Addr} {H H1 H2 : Hp} (a : Keep p H H1) (b : Keep p H1 H2) : Keep p H H2 := fun c o n h => b c o n (a c o n h)
theorem Keep.new {p l : Addr} {H H1 : Hp} {o : HO} (a : Keep p H H1) (hl : H1 l = none) : Keep p H (upd H1 l o) := fun b u n h => by
  rw [upd_ne (ne_of_none (a b u n h) hl)]
  exact a b u n h
theorem Keep.own {p : Addr} {H H1 : Hp} {o : HO} (a : Keep p H H1) : Keep p H (upd H1 p o) := fun b u n h => by
  rw [upd_ne n]
  exact a b u n h
/-- at p a pool: what is left of a great cell, a start, how many were drawn (at most c) -/
def Pool (H : Hp) (p : Addr) (c : Nat) : Prop := ∃ g m k : Int, H p = some (.lst [.int g, .int m, .int k]) ∧ 0 ≤ g ∧ 0 ≤ m ∧ m ≤ 16140901064500000000 ∧ 0 ≤ k ∧ k ≤ (c : Int)
theorem Pool.new {H : Hp} {p l : Addr} {c : Nat} {o : HO} (a : Pool H p c) (hl : H l = none) : Pool (upd H l o) p c := by
  obtain ⟨g, m, k, h, r⟩ := a
  exact ⟨g, m, k, by rw [upd_ne (ne_of_none h hl)]; exact h, r⟩
theorem Pool.mono {H : Hp} {p : Addr} {c d : Nat} (a : Pool H p c) (h : c ≤ d) : Pool H p d := by
  obtain ⟨g, m, k, h1, h2, h3, h4, h5, h6⟩ := a
  exact ⟨g, m, k, h1, h2, h3, h4, h5, by omega⟩
theorem Pool.other {H : Hp} {p l : Addr} {c : Nat} {o : HO} (a : Pool H p c) (hl : p ≠ l) : Pool (upd H l o) p c := by
  obtain ⟨g, m, k, h, r⟩ := a
  exact ⟨g, m, k, by rw [upd_ne hl]; exact h, r⟩
/-- a number below many is drawn -/
def spPick : Sp := fun vs H Q _ => ∃ (p : Addr) (c : Nat) (n : Int), vs = [.ref p, .int n] ∧ Pool H p c ∧ c ≤ 1000000 ∧ 0 < n ∧ n < 1000000000001 ∧
  ∀ (r : Int) (H' : Hp), 0 ≤ r → r < n → Keep p H H' → Pool H' p (c + 1) → Q (.int r) H'
section
variable {P : Program} {w : World} {K : PySem.W.Frag} {mg : Str → Option Value} {base : Heap}
theorem scPick : FnScope ["_law_pool_here", "_law_many", "_law_found", "_law_mixed"] ["_law_pool_here", "_law_many"] (defScope sPick) := ⟨rfl, rfl, rfl, by decide +kernel, rfl, by decide +kernel, by decide +kernel⟩
theorem pow_bound {m k : Int} (h0 : 0 ≤ m) (h1 : m ≤ 16140901064500000000) (h2 : 0 ≤ k) (h3 : k ≤ 1000001) : (m + 1500450271 * k).natAbs < 2 ^ 64 := by omega
theorem pow_bound2 {a k : Int} (h0 : 0 ≤ a) (h1 : a < 2305843009213693921) (h2 : 0 ≤ k) (h3 : k ≤ 1000001) : (a + 28657 * k).natAbs < 2 ^ 64 := by omega
theorem ok_pick {f : Addr} {fd : FuncData} (F : Fun K "_law_pick" "_law_pick" sPick f fd) (T : Bare mg) : FnOk P w K mg base CX0 1 f fd ["_law_pool_here", "_law_many"] spPick := by
  refine F.ok scPick (fun vs H Q E h => ?_) (fun cdv A outer s H vs Q E hr h => ?_)
  · obtain ⟨p, c, n, rfl, _⟩ := h
    rfl
  · obtain ⟨p, c, n, rfl, ⟨g, m, k, hp, hg, hm, hm', hk, hk'⟩, hc, hn, hn', q⟩ := h
    refine ⟨_, pss_cons (ps_if (pt_cmpR op_gt (pe_ix ix_list (pv 0) pe_int (fun _ _ => rfl)) pe_int (nomark _))
        (pss_cons (ps_set (i := 2) scPick.nd rfl (.inl rfl) (pe_op op_mod (pe_callTy call_int1 (by rfl) T.int (by decide +kernel) (pa_cons (pe_ix ix_list (pv 0) pe_int (fun _ _ => rfl)) pa_nil)) (pv 1)))
          (pss_cons (ps_asg (pe_op op_fdivW (pe_ix ix_list (pv 0) pe_int (fun _ _ => rfl)) (pv 1)) (pg_sub (pv 0) pe_int set_list))
            (pss_one (ps_ret (pv 2))))) pss_nil)
      (pss_cons (ps_asg (pe_op op_add (pe_ix ix_list (pv 0) pe_int (fun _ _ => rfl)) pe_int) (pg_sub (pv 0) pe_int set_list))
      (pss_cons (ps_set (i := 3) scPick.nd rfl (.inl rfl) (pe_op op_mod (pe_callTy call_int1 (by rfl) T.int (by decide +kernel) (pa_cons
          (pe_op op_pow (pe_op op_add (pe_ix ix_list (pv 0) pe_int (fun _ _ => rfl)) (pe_op op_mul pe_int (pe_ix ix_list (pv 0) pe_int (fun _ _ => rfl)))) pe_int) pa_nil)) pe_int))
      (pss_cons (ps_set (i := 3) scPick.nd rfl (.inl rfl) (pe_op op_mod (pe_callTy call_int1 (by rfl) T.int (by decide +kernel) (pa_cons
          (pe_op op_pow (pe_op op_add (pv 3) (pe_op op_mul pe_int (pe_ix ix_list (pv 0) pe_int (fun _ _ => rfl)))) pe_int) pa_nil)) pe_int))
      (pss_one (ps_ret (pe_op op_mod (pe_callTy call_int1 (by rfl) T.int (by decide +kernel) (pa_cons (pe_op op_fdiv (pv 3) pe_int) pa_nil)) (pv 1))))))), ?_⟩
    refine ⟨_, rfl, p, _, _, _, rfl, rfl, SqL.of hp, atI_nat rfl, _, _, rfl, rfl, _, rfl, ?_⟩
    refine ite2 (fun h0 => ?_) (fun h0 => ?_)
    · refine ⟨_, rfl, p, _, _, _, rfl, rfl, SqL.of hp, atI_nat rfl, .inl ⟨_, rfl, _, rfl, _, _, rfl, rfl, hn, ?_⟩⟩
      refine ⟨_, rfl, p, _, _, _, rfl, rfl, SqL.of hp, atI_nat rfl, _, rfl, _, _, rfl, rfl, wide_div (b := 40) hn (by omega) (by decide) (by decide), _, rfl, p, _, _, _, rfl, rfl, hp, rfl, ?_⟩
      refine ⟨_, rfl, ?_⟩
      refine q _ _ (Int.emod_nonneg _ (by omega)) (Int.emod_lt_of_pos _ hn) (Keep.refl p H).own ⟨g / n, m, k, upd_same, Int.ediv_nonneg hg (by omega), hm, hm', hk, by omega⟩
    · have e1 : ∀ H' : Hp, H' p = some (.lst [.int g, .int m, .int (k + 1)]) → SqL K H' p [.int g, .int m, .int (k + 1)] := fun _ e => SqL.of e
      refine ⟨_, rfl, p, _, _, _, rfl, rfl, SqL.of hp, atI_nat rfl, _, _, rfl, rfl, _, rfl, p, _, _, _, rfl, rfl, hp, rfl, ?_⟩
      refine ⟨_, rfl, p, [.int g, .int m, .int (k + 1)], _, _, rfl, rfl, e1 _ upd_same, atI_nat rfl, _, rfl, p, [.int g, .int m, .int (k + 1)], _, _, rfl, rfl, e1 _ upd_same, atI_nat rfl, _, _, rfl, rfl, .inl (by decide), _, _, rfl, rfl, _, _, rfl, rfl, ⟨by decide, by decide, pow_bound hm hm' (by omega) (by omega)⟩, .inl ⟨_, rfl, _, _, rfl, rfl, (by show (0 : Int) < 2305843009213693921; decide), ?_⟩⟩
      refine ⟨_, rfl, _, rfl, p, [.int g, .int m, .int (k + 1)], _, _, rfl, rfl, e1 _ upd_same, atI_nat rfl, _, _, rfl, rfl, .inl (by decide), _, _, rfl, rfl, _, _, rfl, rfl, ⟨by decide, by decide, pow_bound2 (Int.emod_nonneg _ (by decide)) (Int.emod_lt_of_pos _ (by decide)) (by omega) (by omega)⟩, .inl ⟨_, rfl, _, _, rfl, rfl, (by show (0 : Int) < 2305843009213693951; decide), ?_⟩⟩
      refine ⟨_, rfl, _, _, rfl, rfl, ⟨by decide, by decide⟩, .inl ⟨_, rfl, _, rfl, _, _, rfl, rfl, hn, ?_⟩⟩
      exact q _ _ (Int.emod_nonneg _ (by omega)) (Int.emod_lt_of_pos _ hn) (Keep.refl p H).own ⟨g, m, k + 1, upd_same, hg, hm, hm', by omega, by omega⟩
end
end K5

namespace K5
open PySem L2
/-- a new pool for one place of the script -/
def spPool (K : PySem.W.Frag) : Sp := fun vs H Q _ => ∃ (a : Addr) (ns : List Int) (k m : Int), vs = [.ref a, .int k, .int m] ∧ SqL K H a (ns.map V.int) ∧ ns.length ≤ 63 ∧ 0 ≤ k ∧ k ≤ 63 ∧ 0 ≤ m ∧ m ≤ 1000 ∧
  ∀ (p : Addr) (H' : Hp), H p = none → Same H H' → Pool H' p 0 → Q (.ref p) H'
section
variable {P : Program} {w : World} {K : PySem.W.Frag} {mg : Str → Option Value} {base : Heap}
theorem Same.new {H H1 : Hp} {l : Addr} {o : HO} (a : Same H H1) (hl : H1 l = none) : Same H (upd H1 l o) := fun b u h => by
  rw [upd_ne (ne_of_none (a b u h) hl)]
  exact a b u h
theorem at_int {ns : List Int} {k : Int} (h0 : 0 ≤ k) (h1 : k < (ns.length : Int)) : ∃ z, atI (ns.map V.int) k = some (V.int z) := by
  have hk : k.toNat < ns.length := by omega
  refine ⟨ns[k.toNat], at_of (j := k.toNat) (by omega) ?_⟩
  rw [List.getElem?_map, List.getElem?_eq_getElem hk]
  rfl
theorem scPool : FnScope ["_law_script", "_law_place", "_law_salt", "_law_cell", "_law_great"] ["_law_script", "_law_place", "_law_salt"] (defScope sPool) := ⟨rfl, rfl, rfl, by decide +kernel, rfl, by decide +kernel, by decide +kernel⟩
theorem ok_pool {f : Addr} {fd : FuncData} (F : Fun K "_law_pool" "_law_pool" sPool f fd) (T : Bare mg) : FnOk P w K mg base CX0 1 f fd ["_law_script", "_law_place", "_law_salt"] (spPool K) := by
  refine F.ok scPool (fun vs H Q E h => ?_) (fun cdv A outer s H vs Q E hr h => ?_)
  · obtain ⟨a, ns, k, m, rfl, _⟩ := h
    rfl
  · obtain ⟨a, ns, k, m, rfl, hS, hl, hk, hk', hm0, hm1, q⟩ := h
    refine ⟨_, C8.pss_cut (ps_set (i := 3) scPool.nd rfl (.inl rfl) (pe_ifExp (pt_cmpR op_lt (pv 1) (pe_callB call_len_seq (by rfl) T.len PySem.boot_len (pa_cons (pv 0) pa_nil)) (nomark _))
          (pe_ix ix_list (pv 0) (pv 1) (fun _ _ => rfl))
          (pe_op op_mod (pe_callTy call_int1 (by rfl) T.int (by decide +kernel) (pa_cons (pe_callB (cr_sum rfl) (by rfl) T.sum (by decide +kernel) (pa_cons (pe_slice sl_list (pv 0) po_none (po_some pe_int)) pa_nil)) pa_nil)) pe_int)))
      (C8.pss_cut (ps_set (i := 4) scPool.nd rfl (.inl rfl) (pe_ifExp (pt_cmpR op_ge (pe_callB call_abs (by rfl) T.abs (by decide +kernel) (pa_cons (pv 3) pa_nil)) (pe_op op_pow pe_int pe_int) (nomark _))
          (pe_callB call_abs (by rfl) T.abs (by decide +kernel) (pa_cons (pv 3) pa_nil)) pe_int))
      (pss_one (ps_ret (pe_lst (pa_cons (pv 4) (pa_cons
          (pe_op op_add (pe_op op_add (pe_op op_add (pe_op op_mul (pe_op op_mod (pe_callTy call_int1 (by rfl) T.int (by decide +kernel) (pa_cons (pv 3) pa_nil)) pe_int) pe_int) (pe_op op_mul pe_int (pv 1))) (pe_op op_mul pe_int (pv 2))) pe_int)
          (pa_cons pe_int pa_nil))))))), ?_⟩
    refine ⟨fun σ H' => ∃ z : Int, σ = [some (.ref a), some (.int k), some (.int m), some (.int z), none] ∧ Same H H', ?_, ?_⟩
    · refine ⟨_, rfl, _, rfl, a, _, rfl, .inl hS, _, _, rfl, rfl, _, rfl, ?_⟩
      refine ite2 (fun h0 => ?_) (fun h0 => ?_)
      · have h0 : k < ((ns.map V.int).length : Int) := of_decide_eq_true h0
        rw [List.length_map] at h0
        obtain ⟨z, hz⟩ := at_int hk h0
        exact ⟨_, rfl, _, rfl, a, _, _, _, rfl, rfl, hS, hz, z, rfl, Same.refl H⟩
      · refine ⟨_, rfl, _, rfl, a, _, rfl, hS, fun l hl => ?_⟩
        refine ⟨l, ns.take 1, rfl, SqL.of ?_, .inl ⟨_, rfl, _, _, rfl, rfl, (by show (0 : Int) < 1000003; decide), _, rfl, Same.new (Same.refl H) hl⟩⟩
        rw [upd_same]
        congr 2
        unfold cutV
        cases ns with
        | nil => rfl
        | cons z ns => simp [HT.sIx]
    · rintro σ H1 ⟨z, rfl, s1⟩
      refine ⟨fun σ H' => ∃ g : Int, 0 ≤ g ∧ σ = [some (.ref a), some (.int k), some (.int m), some (.int z), some (.int g)] ∧ H' = H1, ?_, ?_⟩
      · refine ⟨_, rfl, _, rfl, _, _, rfl, rfl, ⟨by decide, by decide, by decide⟩, _, _, rfl, rfl, _, rfl, ?_⟩
        refine ite2 (fun _ => ?_) (fun _ => ?_)
        · refine ⟨_, rfl, _, rfl, _, ?_, rfl, rfl⟩
          by_cases hz : z < 0
          · rw [if_pos hz]; omega
          · rw [if_neg hz]; omega
        · exact ⟨0, Int.le_refl 0, rfl, rfl⟩
      · rintro σ H2 ⟨g, hg, rfl, rfl⟩
        refine ⟨_, rfl, _, rfl, .inl ⟨_, rfl, _, _, rfl, rfl, (by show (0 : Int) < 2305843009213693951; decide), _, _, rfl, rfl, .inr (by decide), _, rfl, _, _, rfl, rfl, .inl (by decide), _, _, rfl, rfl, _, rfl, _, _, rfl, rfl, .inl (by decide), _, _, rfl, rfl, _, _, rfl, rfl, by show 3 ≤ sizeLine; decide, fun p hp => ?_⟩⟩
        refine q p _ (s1.free hp) (Same.new s1 hp) ⟨g, _, 0, upd_same, hg, ?_, ?_, by decide, by decide⟩
        · have h1 := Int.emod_nonneg z (show (2305843009213693951 : Int) ≠ 0 by decide)
          omega
        · have h1 := Int.emod_lt_of_pos z (show (0 : Int) < 2305843009213693951 by decide)
          omega
end
end K5

/-! rules that hold for every program: an own == with any answer; making and calling of instances in a try -/
namespace L2
open PySem PySem.Spec PyProof.Rows
/-- a def that may let errors out, called where none leaves -/
theorem passNo {X : Cx} {P : Program} {w : World} : Passes (L2.CX P w) X (fun _ _ _ => False) := fun _ _ _ _ _ _ _ h => by
  obtain ⟨a, B, H', cls, d, ea, fl, hok, ub, na, os, ag, he⟩ := h
  exact he.elim
section
variable {X : Cx} {CX : CXT} {k : Nat} {f C : Addr} {fd : FuncData} {ps : List Str} {sp : Sp} {x : Str} {p pos : Pos} {e : Expr} {es : List Expr} {t : TA}
theorem run_makeS {pins : List (Addr × Obj)} {σ : St} {H : Hp} {s : Shared} {Q : VK} {us : List Value} {vs : List V} {E : XK} (M : Mk X.K C f) (F : FnOk X.prog X.w X.K X.mg X.base CX k f fd ps sp) (hr : Room (k + 1) X.A) (hb : Binds X.K fd ps [])
    (hx : PassesAt CX X σ E) (I : Inv X pins σ H s) (r : Vals vs us)
    (h : ∀ x dx, H x = none → H dx = none → dx ≠ x → sp (.ref x :: vs) (upd (upd H dx (.own x)) x (.ins C dx [])) (fun v H2 => v = .non ∧ Q (.ref x) H2) E) :
    wpAny (model X.prog X.w) X.A (call (.ref C) us) (EP X pins σ Q) X.xe s := by
  have hq := h (s.heap.objs.size + 1) s.heap.objs.size (I.hok.fresh (Nat.le_succ _)) (I.hok.fresh (Nat.le_refl _)) (Nat.ne_of_lt (Nat.lt_succ_self _))
  have I2 := Inv.made (C := C) I
  have r2 : Vals (V.ref (s.heap.objs.size + 1) :: vs) (Value.ref (s.heap.objs.size + 1) :: us) := .cons rfl r
  have hl : (Value.ref (s.heap.objs.size + 1) :: us).length = ps.length := by
    have e := r2.length
    rw [F.len _ _ _ _ hq] at e
    exact e.symm
  have b := hb _ (Value.ref (s.heap.objs.size + 1) :: us) I2.kIn (by rw [List.append_nil]; exact hl)
  rw [List.append_nil] at b
  refine wpAny_call (make_map (f := f) I.kIn M.makes M.init (beq_iff_eq.mp M.fn) (codeAny_mono (F.run _ X.stack _ _ ⟨Value.ref (s.heap.objs.size + 1) :: us, []⟩ (Value.ref (s.heap.objs.size + 1) :: us) _ _ E (hr.make C us [])
    (I2.env0.make C us []) b r2 hq) fun r s' hq' => ?_))
  cases r with
  | error e => exact hx pins _ _ e s' I2 hq'
  | ok fl =>
    cases fl with
    | ret u =>
      obtain ⟨v, H', I3, rv, ev, q3⟩ := I2.after hq'
      subst ev
      exact ⟨rv, ⟨V.ref (s.heap.objs.size + 1), H', I3, rfl, q3⟩⟩
    | next => exact False.elim hq'
    | brk => exact False.elim hq'
    | cont => exact False.elim hq'
def tMakeS (C : Addr) (sp : Sp) (E : St → XK) (t : TA) : TE := fun σ H Q => t σ H fun vs H1 => ∀ x dx, H1 x = none → H1 dx = none → dx ≠ x →
  sp (.ref x :: vs) (upd (upd H1 dx (.own x)) x (.ins C dx [])) (fun v H2 => v = .non ∧ Q (.ref x) H2) (E σ)
/-- C(e, ..), made in a try; every parameter is given -/
theorem pe_makeS {E : St → XK} (M : Mk X.K C f) (F : FnOk X.prog X.w X.K X.mg X.base CX k f fd ps sp) (hr : Room (k + 1) X.A) (hg : Gl X x) (hm : X.mg x = some (.ref C)) (hb : Binds X.K fd ps []) (hx : ∀ σ, PassesAt CX X σ (E σ))
    (ha : PA X (e :: es) t) (hdb : (x == ("__debug__" : Str)) = false := by decide) (he : starEach (e :: es) X.env = (false, eval e X.env) :: starEach es X.env := by rfl) (hpl : (backTo pos (starEach es X.env)).any (·.1) = false := by rfl) :
    PE X (.Call (.Name x p) (e :: es) [] pos) (tMakeS C sp E t) := by
  refine ⟨fun pins s σ H Q I h => ?_⟩
  refine wpAny_Call_Name_kw (ld_glob I hg hm ?_ hdb)
  refine PySem.W.callWith_K (h₀ := X.base) I.ok.mod.kin M.kp (thn (ha.run pos pins s σ H _ I h) fun us s1 ⟨vs, H1, I1, r, q⟩ => ⟨I1.kIn, ?_⟩) he hpl
  exact run_makeS M F hr hb (hx σ) I1 r q
/-- o(e, ..), o an instance, called in a try -/
def tCallOS (C : Addr) (sp : Sp) (E : St → XK) (tf : TE) (t : TA) : TE := fun σ H Q => tf σ H fun y H1 => ∃ a, y = V.ref a ∧ t σ H1 fun vs H2 => (∃ dx fs, H2 a = some (.ins C dx fs)) ∧ sp (V.ref a :: vs) H2 Q (E σ)
theorem pe_callOS {E : St → XK} {fe : Expr} {tf : TE} {g : Addr} (hf : PE X fe tf) (c : StX.CallO X.K C g) (F : FnOk X.prog X.w X.K X.mg X.base CX k g fd ps sp) (hr : Room k X.A) (hb : Binds X.K fd ps []) (hx : ∀ σ, PassesAt CX X σ (E σ)) (ha : PA X (e :: es) t)
    (ht : eval (.Call fe (e :: es) [] pos) X.env = (do callWith pos (← eval fe X.env) [] (backTo pos (starEach (e :: es) X.env)) (backToKw pos (keywordEach [] X.env))) := by rfl)
    (he : starEach (e :: es) X.env = (false, eval e X.env) :: starEach es X.env := by rfl) (hpl : (backTo pos (starEach es X.env)).any (·.1) = false := by rfl) : PE X (.Call fe (e :: es) [] pos) (tCallOS C sp E tf t) := by
  refine ⟨fun pins s σ H Q I h => ?_⟩
  refine Call_ (thn (hf.run pins s σ H _ I h) fun u s1 ⟨y, H1, I1, ry, a, ey, q⟩ => ?_) ht
  subst ey
  obtain rfl : u = Value.ref a := ry
  refine StX.callO_with (thn (ha.run pos pins s1 σ H1 _ I1 q) fun us s2 ⟨vs, H2, I2, r, hi, q2⟩ => ?_) he hpl
  obtain ⟨ox, od, J, hd⟩ := StX.insC_at I2 (.inr hi)
  refine ⟨⟨C, ox, od, J, hd⟩, wpAny_call (PySem.W.kco_code I2.kIn J hd c.at_ c.fn c.fi ?_)⟩
  have r2 : Vals (V.ref a :: vs) (Value.ref a :: us) := .cons rfl r
  have hl : (Value.ref a :: us).length = ps.length := by rw [← r2.length]; exact F.len _ _ _ _ q2
  have b := hb s2 (Value.ref a :: us) I2.kIn (by rw [List.append_nil]; exact hl)
  rw [List.append_nil] at b
  refine codeAny_mono (F.run X.A X.stack s2 H2 ⟨Value.ref a :: us, []⟩ (Value.ref a :: us) (V.ref a :: vs) Q (E σ) hr I2.env0 b r2 q2) fun r s' hq => ?_
  cases r with
  | error e => exact hx σ pins H2 s2 e s' I2 hq
  | ok fl =>
    cases fl with
    | ret u => exact I2.after hq
    | next => exact False.elim hq
    | brk => exact False.elim hq
    | cont => exact False.elim hq
/-- x == y, x an instance with an own __eq__ that answers True or False -/
def rEqOwn (K : PySem.W.Frag) (C : Addr) (sp : Sp) (E : XK) : R2 := fun x y H Q => ∃ (a dx : Addr) (fs : List (Str × V)) (t : Value), x = .ref a ∧ H a = some (.ins C dx fs) ∧ TyX K H y t ∧ PySem.W.notFirst K C t = true ∧ sp [.ref a, y] H (fun v H' => ∃ b, v = .bl b ∧ Q (.bl b) H') E
theorem op_eqOwn {E : XK} (F : FnOk X.prog X.w X.K X.mg X.base CX k f fd ps sp) (hr : Room k X.A) (hs : PySem.W.findIn X.K (.ref C) "__eq__" = some (some (.ref f))) (hf : PySem.W.isFn X.K (.ref f) = true) (hb : Binds X.K fd ps []) (hx : Passes CX X E) : OpR X (compareOp .Eq) (rEqOwn X.K C sp E) := by
  intro pins s σ H x y v u Q I rx ry hq
  obtain ⟨a, dx, fs, t, rfl, ha, ty, hn, q⟩ := hq
  cases rx
  obtain ⟨mA, J, _⟩ := ins_get I.hok ha
  obtain ⟨od, J, _⟩ := J.look
  obtain ⟨P, Z, pz, _⟩ := kit_of I ry ty
  obtain ⟨m, hF⟩ := I.fr
  show wpAny (model X.prog X.w) X.A (richCompare .Eq (.ref a) u) (EP X pins σ Q) X.xe s
  refine PySem.W.cmp_K (op := .Eq) (tb := t) hr.units0 hF I.ok.mod.kin J (Z.ty _ _ I.kIn pz) hn hs hf ?_
  have r2 : Vals [V.ref a, y] [Value.ref a, u] := .cons rfl (.cons ry .nil)
  have hl : [Value.ref a, u].length = ps.length := by rw [← r2.length]; exact F.len _ _ _ _ q
  have b := hb s [Value.ref a, u] I.kIn (by rw [List.append_nil]; exact hl)
  rw [List.append_nil] at b
  refine wpAny_call (codeAny_mono (F.run X.A X.stack s H ⟨[.ref a, u], []⟩ [.ref a, u] [.ref a, y] _ E hr I.env0 b r2 q) fun r s' hq => ?_)
  cases r with
  | error e => exact hx pins σ H s e s' I hq
  | ok fl =>
    cases fl with
    | ret w =>
      obtain ⟨z, H', I', rz, c, ez, q'⟩ := I.after hq
      subst ez
      cases rz
      exact ⟨.bl c, H', I', rfl, q'⟩
    | next => exact False.elim hq
    | brk => exact False.elim hq
    | cont => exact False.elim hq
end
end L2

/-! promises of defs that ask that no repr is under way (at the law's call none is) -/
namespace L2
open PySem PySem.Spec PyProof.Rows
theorem deeper_guards (A : Around) (e : Env) : (A.deeper e).guards = A.guards := rfl
/-- as FnOk (no error leaves), where no repr is under way -/
structure FnG (P : Program) (w : World) (K : PySem.W.Frag) (mg : Str → Option Value) (base : Heap) (k : Nat) (f : Addr) (fd : FuncData) (ps : List Str) (sp : Sp) : Prop where
  gl : ∀ vs H Q E, sp vs H Q E → vs.length = ps.length
  go : ∀ (A : Around) (outer : List Env) (s : Shared) (H : Hp) (args : Args) (us : List Value) (vs : List V) (Q : VK), A.guards = some [] → Room k A → Env0 P w K mg base A outer s H →
    BindsTo s fd args (ps.zip us) → Vals vs us → sp vs H Q E0 → codeAny (model P w) A (.call (.ref f) args) (CR CX0 outer P w H s Q E0) s
section
variable {P : Program} {w : World} {K : PySem.W.Frag} {mg : Str → Option Value} {base : Heap}
theorem Fun.okG {x qual : Str} {st : Stmt} {f : Addr} {fd : FuncData} {N ps : List Str} {k : Nat} {sp : Sp} (F : Fun K x qual st f fd) (S : FnScope N ps (defScope st)) (hlen : ∀ vs H Q E, sp vs H Q E → vs.length = ps.length)
    (hb : ∀ (cdv : Value) (A : Around) (outer : List Env) (s : Shared) (H : Hp) (vs : List V) (Q : VK), (A.deeper (envOfC qual (defScope st) s.heap.objs.size f cdv)).guards = some [] →
      Room k (A.deeper (envOfC qual (defScope st) s.heap.objs.size f cdv)) → sp vs H Q E0 →
      ∃ t, PSs (cxOf CX0 P w K mg base N qual (defScope st) f cdv A outer s H E0).nox (defBody st) t ∧ t { nx := fun _ H' => Q .non H', rt := Q } (start N vs) H) : FnG P w K mg base (k + 1) f fd ps sp := by
  obtain ⟨oc, od, kV, doc, pm, an, cdv, ct, osl, rfl, lk, hcd⟩ := F.ex
  refine ⟨hlen, ?_⟩
  intro A outer s H args us vs Q hgu hroom env0 hbind hvals hsp
  have grown : ∀ b o, base.get? b = some o → s.heap.get? b = some o := fun b o e => (env0.bs b o e).1
  have inK : K.In s.heap := env0.mod.kin.keeps grown
  have noLim := env0.mod.nolimit.keeps grown
  refine codeAny_call_function hroom.depth (inK _ _ lk) rfl S.co S.gen rfl (PySem.W.codeRec_of inK hcd) (hbind _ _ _ _ ?_)
  refine wpAny_newFunctionEnv_cells S.kind ?_ ?_
  · rintro ⟨n, u⟩ hy
    have hp := S.par n (List.of_mem_zip hy).1
    cases hp with
    | inl q => exact Or.inl q
    | inr q => exact Or.inr ⟨q, PySem.W.cellsFrom_some _ _ _ (Or.inl q)⟩
  · intro env he s1 call
    subst he
    refine ⟨noLim.keeps call.toInCall.keep, codeAny_func ?_⟩
    obtain ⟨t, der, reading⟩ := hb cdv A outer s H vs Q hgu (hroom.deeper _) hsp
    have inv := inv_start (CX := CX0) (P := P) (w := w) (K := K) (mg := mg) (base := base) (E := E0) S hroom.hd env0 (hlen _ _ _ _ hsp) hvals call
    refine wpAny_mono (der.nox.run [] s1 (start N vs) H _ inv reading) ?_ ?_
    · rintro (_ | _ | _ | u) s' hs
      · obtain ⟨σ', H', J, q⟩ := hs
        exact ⟨V.non, H', J.os, J.bare, J.base, J.hok, rfl, q⟩
      · exact hs.elim fun _ z => z.elim fun _ z => z.2.elim
      · exact hs.elim fun _ z => z.elim fun _ z => z.2.elim
      · obtain ⟨v, σ', H', J, rv, q⟩ := hs
        exact ⟨v, H', J.os, J.bare, J.base, J.hok, rv, q⟩
    · exact fun e s' hs => hs
end
section
variable {X : Cx} {k : Nat} {f : Addr} {fd : FuncData} {ps : List Str} {sp : Sp} {x : Str} {p pos : Pos} {e : Expr} {es : List Expr} {t : TA}
theorem pe_callG (F : FnG X.prog X.w X.K X.mg X.base k f fd ps sp) (hgu : X.A.guards = some []) (hr : Room k X.A) (hg : Gl X x) (hm : X.mg x = some (.ref f)) (hk : PySem.W.keepIn X.K (.ref f) = true) (hb : Binds X.K fd ps []) (ha : PA X (e :: es) t)
    (hdb : (x == ("__debug__" : Str)) = false := by decide) (he : starEach (e :: es) X.env = (false, eval e X.env) :: starEach es X.env := by rfl) (hpl : (backTo pos (starEach es X.env)).any (·.1) = false := by rfl) :
    PE X (.Call (.Name x p) (e :: es) [] pos) (tCall sp [] E0 t) := by
  constructor
  intro pins s σ H Q I h
  refine wpAny_Call_Name_kw (ld_glob I hg hm ?_ hdb)
  refine PySem.W.callWith_K (h₀ := X.base) I.ok.mod.kin hk (thn (ha.run pos pins s σ H _ I h) ?_) he hpl
  rintro us s1 ⟨vs, H1, I1, r, q⟩
  refine ⟨I1.kIn, ?_⟩
  rw [List.append_nil] at q
  have hl : (us ++ []).length = ps.length := by rw [List.append_nil, ← r.length]; exact F.gl _ _ _ _ q
  have hbd := hb s1 us I1.kIn hl
  rw [List.append_nil] at hbd
  refine wpAny_call (codeAny_mono (F.go X.A X.stack s1 H1 ⟨us, []⟩ us vs Q hgu hr I1.env0 hbd r q) ?_)
  rintro (er | (_ | _ | _ | u)) s' hq
  · exact hq.elim
  · exact hq.elim
  · exact hq.elim
  · exact hq.elim
  · exact I1.after hq
end
end L2

/-! repr(data): what is shown of lists, tuples, texts, ints, bools and None at any depth -/
namespace L2
open PySem PySem.Spec PyProof.Rows
/-- the reading: d the data, shown as Python shows it -/
def rRepr (K : PySem.W.Frag) : List V → Hp → VK → Prop := fun xs H Q => ∃ (v : V) (d : PyData), xs = [v] ∧ Dp K H v d ∧ d.showable = true ∧ d.hasDict = false ∧ d.depth ≤ 60 ∧ d.shown.length ≤ sizeLine ∧ Q (.str d.shown) H
theorem call_reprD {X : Cx} (hgu : X.A.guards = some []) (hu : X.A.units + 64 < cLine) : CallR X (.builtin "repr") (rRepr X.K) := by
  intro pins s σ H xs us Q I r h
  obtain ⟨v, d, rfl, hd, hs, hnd, hdep, hsz, q⟩ := h
  obtain ⟨u, rfl, ru⟩ := vals1 r
  obtain ⟨as, hr⟩ := Dp.reads I d v u hd ru
  have fin : ∀ (s' : Shared) (t : Tok), Inv X pins σ H s' → EP X pins σ Q (.str d.shown t) s' := fun s' t J => ⟨.str d.shown, H, J, ⟨t, rfl⟩, q⟩
  have viaRef : ∀ a : Addr, u = .ref a → wpAny (model X.prog X.w) X.A (PySem.call (.builtin "repr") [u]) (EP X pins σ Q) X.xe s := fun a e => by
    subst e
    exact repr_of_reads' hr hs (fun z => by rw [hnd] at z; cases z) hgu (by omega) (fun _ _ e => e) (fun h' u tk k => fin _ _ (I.kept (t' := tk) k)) hsz
  cases hd with
  | non =>
    obtain rfl : u = .none := ru
    exact PySem.P.repr_of_none (fin _ _ (I.tok _))
  | bl b =>
    obtain rfl : u = .bool b := ru
    have e : (PyData.bool b).shown = (if b then "True" else "False" : Str) := PyData.shown_bool b
    rw [e] at fin
    cases b
    · exact PySem.P.repr_of_bool (fin _ _ (I.tok _))
    · exact PySem.P.repr_of_bool (fin _ _ (I.tok _))
  | int i =>
    obtain ⟨t, rfl⟩ := ru
    have hs' : i.natAbs.log2 < 1920 := by simpa [PyData.showable] using hs
    have e := PyData.shown_int i
    rw [e] at fin
    exact PySem.P.repr_of_int hs' (fin _ _ (I.tok _))
  | str x =>
    obtain ⟨t, rfl⟩ := ru
    have e := PyData.shown_str x
    rw [e] at fin hsz
    exact PySem.P.repr_of_str (fin _ _ (I.tok _)) hsz
  | lst _ _ => exact viaRef _ ru
  | tup _ _ => exact viaRef _ ru
end L2

namespace K5
open PySem L2
theorem inV_strs (z : Str) (ws : List Str) : inV (.str z) (ws.map V.str) = decide (z ∈ ws) := by
  unfold inV
  induction ws with
  | nil => rfl
  | cons y ws ih =>
    rw [List.map_cons, List.any_cons, ih]
    show (y == z || _) = _
    by_cases h : y = z
    · subst h; simp
    · have h' : ¬ z = y := fun e => h e.symm
      have e : (y == z) = false := by simpa using h
      rw [e, Bool.false_or]
      simp [h']
theorem flat_strs (ws : List Str) : (ws.map V.str).all flatV = true := by
  rw [List.all_map]
  exact List.all_eq_true.mpr fun _ _ => rfl
theorem all_id_map {α : Type} (p : α → Bool) (l : List α) : (l.map p).all id = l.all p := by
  induction l with
  | nil => rfl
  | cons a l ih => rw [List.map_cons, List.all_cons, List.all_cons, ih]; rfl
theorem take_more {α β : Type} (f : α → β) {l : List α} {i : Nat} {c : α} (h : l[i]? = some c) : (l.take i).map f ++ [f c] = (l.take (i + 1)).map f := by
  rw [List.take_add_one, h, List.map_append]
  rfl
/-- a thing that may be a text -/
def Thing (K : PySem.W.Frag) (H : Hp) (v : V) (o : Option Str) : Prop := (∃ z, v = .str z ∧ o = some z) ∨ (o = none ∧ ∃ t, TyX K H v t ∧ PySem.W.kitOne K t (.type "str") = some false)
theorem line_ge {n : Nat} (h : n ≤ 1000000) : n ≤ sizeLine := Nat.le_trans h (by decide)
theorem Same.put {H H1 : Hp} {l : Addr} {o : HO} (a : Same H H1) (hl : H l = none) : Same H (upd H1 l o) := fun b u h => by
  rw [upd_ne (ne_of_none h hl)]
  exact a b u h
theorem eq_strB (x y : Str) : decide (V.str x = V.str y) = decide (x = y) := by
  by_cases h : x = y
  · rw [h]; simp
  · have : ¬ V.str x = V.str y := fun z => h (V.str.inj z)
    rw [decide_eq_false h, decide_eq_false this]
theorem pool_ne {H' : Hp} {p D : Addr} {n : Nat} (a : Pool H' p n) (h : H' D = none) : D ≠ p := by
  obtain ⟨_, _, _, e, _⟩ := a
  exact Ne.symm (ne_of_none e h)
theorem Keep.free {p D : Addr} {H H1 : Hp} (k : Keep p H H1) (n : D ≠ p) (h : H1 D = none) : H D = none := by
  cases e : H D with
  | none => rfl
  | some o =>
    rw [k D o n e] at h
    cases h
theorem Same.keep {p : Addr} {H H1 : Hp} (s : Same H H1) : Keep p H H1 := fun b o _ e => s b o e
theorem Pool.same {H H1 : Hp} {p : Addr} {c : Nat} (a : Pool H p c) (s : Same H H1) : Pool H1 p c := by
  obtain ⟨g, m, k, h, r⟩ := a
  exact ⟨g, m, k, s _ _ h, r⟩
theorem Same.free {H H1 : Hp} {T' : Addr} (s : Same H H1) (h : H1 T' = none) : H T' = none := by
  cases e : H T' with
  | none => rfl
  | some o =>
    rw [s _ _ e] at h
    cases h
theorem Keep.same {p : Addr} {H H1 H2 : Hp} (k : Keep p H1 H2) (s : Same H H1) (hp : H p = none) : Same H H2 := fun b o e => k b o (ne_of_none e hp) (s b o e)
mutual
theorem dp_same {K : PySem.W.Frag} {H H' : Hp} (s : Same H H') : ∀ (d : PyData) {v : V}, Dp K H v d → Dp K H' v d
  | .none, _, h => by cases h; exact .non
  | .bool _, _, h => by cases h; exact .bl _
  | .int _, _, h => by cases h; exact .int _
  | .str _, _, h => by cases h; exact .str _
  | .list ds, _, h => by
    cases h with
    | lst h1 h2 => exact .lst (s.seq h1) (dpAll_same s ds h2)
  | .tuple ds, _, h => by
    cases h with
    | tup h1 h2 => exact .tup (SqT.ext h1 s) (dpAll_same s ds h2)
  | .dict _, _, h => by cases h
theorem dpAll_same {K : PySem.W.Frag} {H H' : Hp} (s : Same H H') : ∀ (ds : List PyData) {vs : List V}, DpAll K H vs ds → DpAll K H' vs ds
  | [], _, h => by cases h; exact .nil
  | d :: ds, _, h => by
    cases h with
    | cons h1 h2 => exact .cons (dp_same s d h1) (dpAll_same s ds h2)
end
theorem DpAll.len {K : PySem.W.Frag} {H : Hp} : ∀ {ds : List PyData} {vs : List V}, DpAll K H vs ds → vs.length = ds.length
  | [], _, h => by cases h; rfl
  | d :: ds, _, h => by
    cases h with
    | cons h1 h2 => rw [List.length_cons, List.length_cons, DpAll.len h2]
theorem DpAll.drop {K : PySem.W.Frag} {H : Hp} : ∀ {ds : List PyData} {vs : List V} (k : Nat), DpAll K H vs ds → DpAll K H (vs.drop k) (ds.drop k)
  | _, _, 0, h => h
  | [], _, k + 1, h => by cases h; exact .nil
  | d :: ds, _, k + 1, h => by
    cases h with
    | cons h1 h2 => exact DpAll.drop k h2
theorem DpAll.take {K : PySem.W.Frag} {H : Hp} : ∀ {ds : List PyData} {vs : List V} (k : Nat), DpAll K H vs ds → DpAll K H (vs.take k) (ds.take k)
  | _, _, 0, _ => .nil
  | [], _, k + 1, h => by cases h; exact .nil
  | d :: ds, _, k + 1, h => by
    cases h with
    | cons h1 h2 => exact .cons h1 (DpAll.take k h2)
theorem DpAll.app {K : PySem.W.Frag} {H : Hp} : ∀ {ds es : List PyData} {vs us : List V}, DpAll K H vs ds → DpAll K H us es → DpAll K H (vs ++ us) (ds ++ es)
  | [], _, _, _, h, h' => by cases h; exact h'
  | d :: ds, _, _, _, h, h' => by
    cases h with
    | cons h1 h2 => exact .cons h1 (DpAll.app h2 h')
theorem DpAll.rev {K : PySem.W.Frag} {H : Hp} : ∀ {ds : List PyData} {vs : List V}, DpAll K H vs ds → DpAll K H vs.reverse ds.reverse
  | [], _, h => by cases h; exact .nil
  | d :: ds, _, h => by
    cases h with
    | cons h1 h2 =>
      rw [List.reverse_cons, List.reverse_cons]
      exact DpAll.app (DpAll.rev h2) (.cons h1 .nil)
theorem DpAll.at {K : PySem.W.Frag} {H : Hp} : ∀ {ds : List PyData} {vs : List V} {k : Nat} {d : PyData}, DpAll K H vs ds → ds[k]? = some d → ∃ v, vs[k]? = some v ∧ Dp K H v d
  | [], _, _, _, _, e => by cases e
  | d :: ds, _, 0, _, h, e => by
    cases h with
    | cons h1 h2 => exact ⟨_, rfl, (Option.some.inj e) ▸ h1⟩
  | d :: ds, _, k + 1, _, h, e => by
    cases h with
    | cons h1 h2 => exact DpAll.at (ds := ds) (k := k) h2 e
/-- data that == and repr can be asked of -/
structure Fair1 (d : PyData) : Prop where
  lay : d.canLay0 = true
  dep : d.depth ≤ 10
  show_ : d.showable = true
  dict : d.hasDict = false
  len : d.shown.length ≤ 400
def Fair (ds : List PyData) : Prop := ∀ d ∈ ds, Fair1 d
theorem Fair1.shaped {d : PyData} (f : Fair1 d) : SeqAt.shaped d = true := by
  unfold SeqAt.shaped
  rw [f.lay, Bool.true_and]
  exact decide_eq_true (Nat.le_trans f.dep (by decide))
/-- all of many -/
structure FairL (ds : List PyData) : Prop where
  lay : PyData.canLayAll0 ds = true
  dep : PyData.depthAll ds ≤ 10
  show_ : PyData.showableAll ds = true
  dict : PyData.hasDictAll ds = false
  len : ((PyData.shownAll ds).map (·.length)).sum ≤ 400 * ds.length
  num : (PyData.shownAll ds).length = ds.length
theorem Fair.all : ∀ {ds : List PyData}, Fair ds → FairL ds
  | [], _ => ⟨rfl, by decide, rfl, rfl, by decide, rfl⟩
  | d :: ds, f => by
    have h := f d (List.mem_cons_self ..)
    have r := Fair.all (ds := ds) fun x hx => f x (List.mem_cons_of_mem _ hx)
    refine ⟨?_, ?_, ?_, ?_, ?_, ?_⟩
    · rw [PyData.canLayAll0, h.lay, r.lay]; rfl
    · rw [PyData.depthAll]; exact Nat.max_le.mpr ⟨h.dep, r.dep⟩
    · rw [PyData.showableAll, h.show_, r.show_]; rfl
    · rw [PyData.hasDictAll, h.dict, r.dict]; rfl
    · have a := h.len
      have b := r.len
      rw [PyData.shownAll, List.map_cons, List.sum_cons, List.length_cons]
      omega
    · rw [PyData.shownAll, List.length_cons, List.length_cons, r.num]
theorem fair_shaped {ds : List PyData} (f : Fair ds) : SeqAt.shaped (.list ds) = true := by
  have r := f.all
  unfold SeqAt.shaped
  rw [PyData.canLay0, r.lay, Bool.true_and, PyData.depth]
  exact decide_eq_true (by have := r.dep; omega)
theorem fair_shaped_t {ds : List PyData} (f : Fair ds) : SeqAt.shaped (.tuple ds) = true := by
  have r := f.all
  unfold SeqAt.shaped
  rw [PyData.canLay0, r.lay, Bool.true_and, PyData.depth]
  exact decide_eq_true (by have := r.dep; omega)
theorem Fair.sub {ds es : List PyData} (f : Fair ds) (h : ∀ d ∈ es, d ∈ ds) : Fair es := fun d hd => f d (h d hd)
/-- what repr asks of data -/
structure ShownOk (d : PyData) : Prop where
  s : d.showable = true
  n : d.hasDict = false
  dp : d.depth ≤ 60
  l : d.shown.length ≤ sizeLine
theorem Fair1.ok {d : PyData} (f : Fair1 d) : ShownOk d := ⟨f.show_, f.dict, Nat.le_trans f.dep (by decide), line_ge (Nat.le_trans f.len (by decide))⟩
theorem sum_le {xs : List PyData} {n : Nat} (h : xs.length ≤ n) (f : ((PyData.shownAll xs).map (·.length)).sum ≤ 400 * xs.length) : ((PyData.shownAll xs).map (·.length)).sum ≤ 400 * n := by
  have := Nat.mul_le_mul_left 400 h
  omega
theorem list_len {ds : List PyData} (f : Fair ds) (h : ds.length ≤ 200) : (PyData.list ds).shown.length ≤ 90000 := by
  have r := f.all
  have a := listText_len_le (PyData.shownAll ds)
  have b := sum_le h r.len
  rw [r.num] at a
  rw [PyData.shown]
  omega
theorem Fair.listOk {ds : List PyData} (f : Fair ds) (h : ds.length ≤ 200) : ShownOk (.list ds) := by
  have r := f.all
  refine ⟨by rw [PyData.showable]; exact r.show_, by rw [PyData.hasDict]; exact r.dict, by rw [PyData.depth]; have := r.dep; omega, line_ge (Nat.le_trans (list_len f h) (by decide))⟩
theorem Fair.tupOk {ds : List PyData} (f : Fair ds) (h : ds.length ≤ 200) : ShownOk (.tuple ds) := by
  have r := f.all
  refine ⟨by rw [PyData.showable]; exact r.show_, by rw [PyData.hasDict]; exact r.dict, by rw [PyData.depth]; have := r.dep; omega, ?_⟩
  have a := tupleText_len_le (PyData.shownAll ds)
  have b := sum_le h r.len
  rw [r.num] at a
  rw [PyData.shown]
  exact line_ge (by omega)
def fairB (d : PyData) : Bool := d.canLay0 && (decide (d.depth ≤ 10) && (d.showable && (!d.hasDict && decide (d.shown.length ≤ 400))))
theorem fair_of {d : PyData} (h : fairB d = true) : Fair1 d := by
  unfold fairB at h
  simp only [Bool.and_eq_true, Bool.not_eq_true', decide_eq_true_eq] at h
  exact ⟨h.1, h.2.1, h.2.2.1, h.2.2.2.1, h.2.2.2.2⟩
theorem ne_lst {H : Hp} {b kp : Addr} {o : HO} {L : List V} (h : H b = some o) (hk : H kp = some (.lst L)) (n : o ≠ .lst L) : b ≠ kp := fun e => n (by rw [e, hk] at h; exact (Option.some.inj h).symm)
theorem pool_lst {H : Hp} {p : Addr} {c : Nat} (h : Pool H p c) : ∃ L, H p = some (.lst L) := by
  obtain ⟨g, m, k, e, _⟩ := h
  exact ⟨_, e⟩
theorem bool_ok (b : Bool) : ShownOk (.bool b) := by
  cases b <;> exact (fair_of (by decide +kernel)).ok
theorem eqv_self {d : PyData} (h : SeqAt.shaped d = true) : PyData.eqv d d = true := by
  unfold SeqAt.shaped at h
  exact SeqAt.eqv_refl d (Bool.and_eq_true_iff.mp h).1
section
variable {P : Program} {w : World} {K : PySem.W.Frag} {mg : Str → Option Value} {base : Heap}
end
end K5

/-! len(set(xs)), xs a list or a tuple of texts -/
namespace K2S
open PySem PySem.Spec PyProof.Rows
/-- one more, if it is not there -/
def put1 (l : List Str) (x : Str) : List Str := if x ∈ l then l else l ++ [x]
/-- each once -/
def once (xs : List Str) : List Str := xs.foldl put1 []
theorem once_snoc (xs : List Str) (x : Str) : once (xs ++ [x]) = put1 (once xs) x := by
  unfold once
  rw [List.foldl_append]
  rfl
theorem mem_put1 {l : List Str} {x y : Str} : y ∈ put1 l x ↔ y ∈ l ∨ y = x := by
  unfold put1
  split
  · rename_i h
    exact ⟨.inl, fun z => z.elim id fun e => e ▸ h⟩
  · simp
theorem mem_fold {y : Str} : ∀ (xs l : List Str), y ∈ xs.foldl put1 l ↔ y ∈ l ∨ y ∈ xs
  | [], l => by simp
  | x :: xs, l => by
    rw [List.foldl_cons, mem_fold xs (put1 l x), mem_put1, List.mem_cons]
    exact or_assoc
theorem mem_once {y : Str} (xs : List Str) : y ∈ once xs ↔ y ∈ xs := by
  unfold once
  rw [mem_fold]
  simp
theorem take_succ_at {xs : List Str} {i : Nat} (h : i < xs.length) : xs.take (i + 1) = xs.take i ++ [xs.getD i Str.empty] := by
  rw [List.take_succ, List.getElem?_eq_getElem h]
  simp [List.getD_eq_getElem?_getD, List.getElem?_eq_getElem h]
theorem len_put1 (l : List Str) (x : Str) : (put1 l x).length = if x ∈ l then l.length else l.length + 1 := by
  unfold put1
  split
  · rfl
  · simp
theorem once_le (xs : List Str) : (once xs).length ≤ xs.length := by
  have key : ∀ (xs l : List Str), (xs.foldl put1 l).length ≤ l.length + xs.length := by
    intro xs
    induction xs with
    | nil => intro l; simp
    | cons x xs ih =>
      intro l
      have h1 := ih (put1 l x)
      have h2 : (put1 l x).length ≤ l.length + 1 := by
        rw [len_put1]
        split <;> omega
      rw [List.foldl_cons, List.length_cons]
      omega
  have h := key xs []
  simpa [once] using h
theorem fold_nodup : ∀ (xs l : List Str), l.Nodup → ((xs.foldl put1 l).length = l.length + xs.length ↔ (l ++ xs).Nodup)
  | [], l, hl => by simp [hl]
  | x :: xs, l, hl => by
    rw [List.foldl_cons]
    by_cases hx : x ∈ l
    · have e : put1 l x = l := if_pos hx
      rw [e]
      have hle : (xs.foldl put1 l).length ≤ l.length + xs.length := by
        have key : ∀ (xs l : List Str), (xs.foldl put1 l).length ≤ l.length + xs.length := by
          intro xs
          induction xs with
          | nil => intro l; simp
          | cons x xs ih =>
            intro l
            have h1 := ih (put1 l x)
            have h2 : (put1 l x).length ≤ l.length + 1 := by
              rw [len_put1]
              split <;> omega
            rw [List.foldl_cons, List.length_cons]
            omega
        exact key xs l
      constructor
      · intro h
        rw [List.length_cons] at h
        omega
      · intro h
        exact absurd rfl ((List.nodup_append.mp h).2.2 x hx x List.mem_cons_self)
    · have e : put1 l x = l ++ [x] := if_neg hx
      rw [e]
      have hn : (l ++ [x]).Nodup := by
        rw [List.nodup_append]
        refine ⟨hl, by simp, fun a ha b hb => ?_⟩
        rw [List.mem_singleton] at hb
        rintro rfl
        exact hx (hb ▸ ha)
      have ih := fold_nodup xs (l ++ [x]) hn
      rw [List.append_assoc, List.singleton_append, List.length_append, List.length_singleton] at ih
      rw [List.length_cons, show l.length + (xs.length + 1) = l.length + 1 + xs.length by omega]
      exact ih
theorem once_nodup (xs : List Str) : (once xs).length = xs.length ↔ xs.Nodup := by
  have h := fold_nodup xs [] List.nodup_nil
  simpa [once] using h
section
variable {prog : Program} {w : World} {A : Around} {R : Result → Shared → Prop} {I : Addr} {fp wr : List Addr} {G : Array GenState → Array GenState → Prop} {n : Nat} {P : Nat → Value → Prop} {St : Nat → Shared → Prop}
theorem loop_in (W : WalksS prog w A.in1 I fp wr G n P St) (S : Addr) (far : S ∉ fp) (xs : List Str) (hn : xs.length = n) (few : n + 1 < scanBound) (hval : ∀ i v, P i v → ∃ t, v = .str (xs.getD i Str.empty) t) :
    ∀ (k i : Nat) (s : Shared), n - i = k → i ≤ n → St i s → s.heap.SetOf (strKind prog w) S (fun y => decide (y ∈ xs.take i)) (once (xs.take i)).length →
      (∀ s', Moved (S :: wr) G s s' → s'.heap.SetOf (strKind prog w) S (fun y => decide (y ∈ xs)) (once xs).length → R (.ok (.ret .none)) s') → codeAny (model prog w) A (.builtin "set.update.loop" ⟨[.ref S, .ref I], []⟩) R s := by
  have off : S ∉ wr := fun z => far (W.sub _ z)
  have up : ∀ b ∈ wr, b ∈ S :: wr := fun b z => List.mem_cons_of_mem _ z
  intro k
  induction k with
  | zero =>
    intro i s hk hi hst hS done
    obtain rfl : i = n := by omega
    refine codeAny_builtin F.entry_set_update_loop ?_
    rw [Around.under_plainId F.plain_set_update_loop _]
    refine (wpAny_bind (W.done s _ _ hst fun s' hm => ?_) : wpAny _ A.in1 (pyNext (.ref I) >>= _) _ _ s)
    have e : xs.take i = xs := by rw [← hn, List.take_length]
    rw [e] at hS
    obtain ⟨o, es, ep, t, ho, more⟩ := hS
    show wpAny (model prog w) A.in1 (ret .none) _ _ s'
    exact wpAny_pure (done s' (hm.mono up) ⟨o, es, ep, t, hm.heap S _ off ho, more⟩)
  | succ k ih =>
    intro i s hk hi hst hS done
    have lt : i < n := by omega
    refine codeAny_builtin F.entry_set_update_loop ?_
    rw [Around.under_plainId F.plain_set_update_loop _]
    refine (wpAny_bind (W.item i s _ _ lt hst fun v s' hP hst' hm => ?_) : wpAny _ A.in1 (pyNext (.ref I) >>= _) _ _ s)
    obtain ⟨t, rfl⟩ := hval i v hP
    have here : s'.heap.SetOf (strKind prog w) S (fun y => decide (y ∈ xs.take i)) (once (xs.take i)).length := by
      obtain ⟨o, es, ep, tb, ho, more⟩ := hS
      exact ⟨o, es, ep, tb, hm.heap S _ off ho, more⟩
    refine (wpAny_bind (wpAny_holding ?_) : wpAny _ A.in1 (holding [Value.str (xs.getD i Str.empty) t] (setAdd S (.str (xs.getD i Str.empty) t)) >>= _) _ _ s')
    unfold setAdd
    have small : (once (xs.take i)).length + 1 < scanBound := by
      have h1 := once_le (xs.take i)
      have h2 : (xs.take i).length ≤ i := by rw [List.length_take]; omega
      omega
    refine wpAny_holding (wpAny_bind ((strKind prog w).pyHash (k := xs.getD i Str.empty) (strKind_is _ _ _ _) ?_))
    refine wpAny_setAddHashed_of (knd := strKind prog w) (s := { s' with toks := s'.toks + 1 }) (strKind_is _ _ _ _) rfl here small fun h' sb hS2 => ?_
    have hi' : i < xs.length := by omega
    have next : h'.SetOf (strKind prog w) S (fun y => decide (y ∈ xs.take (i + 1))) (once (xs.take (i + 1))).length := by
      refine SetOf_congr hS2 (fun y => ?_) ?_
      · rw [take_succ_at hi']
        by_cases c1 : y ∈ xs.take i
        · simp [c1]
        · by_cases c2 : y = xs.getD i Str.empty
          · simp [c1, c2]
          · have c3 : y ∉ xs.take i ++ [xs.getD i Str.empty] := by
              rw [List.mem_append, List.mem_singleton]
              rintro (z | z)
              · exact c1 z
              · exact c2 z
            rw [decide_eq_false c1, decide_eq_false c2, decide_eq_false c3]
            rfl
      · rw [take_succ_at hi', once_snoc, len_put1]
        by_cases c1 : xs.getD i Str.empty ∈ xs.take i
        · rw [if_pos ((mem_once _).mpr c1), if_pos (decide_eq_true c1)]
        · rw [if_neg (fun z => c1 ((mem_once _).mp z)), if_neg (fun z => c1 (of_decide_eq_true z))]
    refine wpAny_pure ⟨plainId_quiet F.plain_set_update_loop _, ih (i + 1) _ (by omega) lt (W.frame _ s' _ _ hst' (Nat.le_succ _) fun b hb o e => ?_) next fun s'' hm'' hS'' => ?_⟩
    · exact (sb.2 b fun z : b = S => far (z ▸ hb)).trans e
    · exact done s'' (Moved.trans W.gtrans ((hm.mono up).then_heap (Nat.le_succ _) fun b o hb e => (sb.2 b fun z : b = S => hb (z ▸ List.mem_cons_self)).trans e) hm'') hS''
end
/-- the object of a set without members -/
def emp (led : Bool) : Obj := { cls := .type "set", dict := none, data := .set #[] 0 (.fresh 0 0 led) }
section
variable {prog : Program} {w : World} {A : Around} {E : Value → Shared → Prop} {s : Shared}
/-- set(x), x an object of the built-in type T that is walked as W says -/
theorem set_by {T : String} {cx : Addr} {o it : Obj} {items : Array Value} {m : Nat} {xs : List Str} {St : Addr → Nat → Heap → Prop} {Q : Value → Shared → Prop}
    (hh : A.handled = none) (ho : s.heap.get? cx = some o) (hcls : o.cls = .type T) (hdat : o.data = .seq items m)
    (tA : isSubtype (.type T) (.type "set") = pure false) (tB : isSubtype (.type T) (.type "frozenset") = pure false) (tC : (Value.type T == Value.type "dict") = false)
    (hi : StrsAre items.toList xs) (few : xs.length + 1 < scanBound) (hfr : it.isFreed = false)
    (hit : ∀ (s1 : Shared) (Q' : Value → Shared → Prop) (E' : Value → Shared → Prop) (A' : Around), s1.heap.get? cx = some o → Q' (.ref s1.heap.objs.size) { s1 with heap := s1.heap.push it } → wpAny (model prog w) A' (pyIter (.ref cx)) Q' E' s1)
    (W : ∀ A' : Around, A'.handled = none → ∀ I, cx ≠ I → Walks prog w A' I [I, cx] [I] items.size (fun i v => items[i]? = some v) (St I))
    (hSt : ∀ (h : Heap) I, h.get? I = some it → h.get? cx = some o → St I 0 h)
    (h : ∀ (h' : Heap) (tk : Nat), h'.SetOf (strKind prog w) s.heap.objs.size (fun y => decide (y ∈ xs)) (once xs).length → (∀ b o, b < s.heap.objs.size → s.heap.get? b = some o → h'.get? b = some o) → Q (.ref s.heap.objs.size) { s with heap := h', toks := tk }) :
    wpAny (model prog w) A (call (.type "set") [.ref cx]) Q E s := by
  obtain ⟨cc, tl, mro⟩ := F.called_set.mro
  have made := F.called_set.made
  have sub := F.called_set.sub
  have z1 := F.called_set.notType
  have z2 := F.called_set.canCreate
  have z3 := F.typeCall_set_1 (.ref cx)
  refine wpAny_call (codeAny_of_tree ?_)
  show wpAny (model prog w) _ (callAny (.type "set") _) _ _ _
  refine wpAny_pure ⟨Code.quiet_builtin _ (by decide +kernel), codeAny_builtin (b := Builtin.«type.__call__») F.entry_type_call ?_⟩
  rw [Around.under_plain (weight_type_call_type "set" [.ref cx] []) rfl]
  repeat (any_goals (first | assumption | wp_step))
  have nS : ∀ led, (s.heap.push (emp led)).get? s.heap.objs.size = some (emp led) := fun led => Heap.get?_push_size _ rfl
  have old : ∀ led b q, s.heap.get? b = some q → (s.heap.push (emp led)).get? b = some q := fun led b q z => Heap.get?_push_of_some _ z
  refine codeAny_mono (code_set_new_1 (.ref cx) (E := E) (Q₁ := fun obj s₁ => ∃ led : Bool, obj = .ref s.heap.objs.size ∧ s₁ = { s with heap := s.heap.push (emp led) }) (fun led => ⟨led, rfl, rfl⟩)) fun r s₁ hr => ?_
  cases r
  case error e => exact hr
  case ok fl =>
    cases fl
    case ret obj =>
      obtain ⟨led, rfl, rfl⟩ := hr
      have tS : Shared.TypeIs { s with heap := s.heap.push (emp led) } (.ref s.heap.objs.size) "set" := ⟨_, nS led, rfl⟩
      have y1 := F.called_set.init.lookup
      have y2 := F.called_set.init.bind (.ref s.heap.objs.size)
      repeat (any_goals (first | assumption | wp_step))
      refine codeAny_mono (codeAny_call_builtin (R := wants (fun r s₂ => r = .none ∧ ∃ h' tk, s₂ = { s with heap := h', toks := tk } ∧ h'.SetOf (strKind prog w) s.heap.objs.size (fun y => decide (y ∈ xs)) (once xs).length ∧
        (∀ b o, b < s.heap.objs.size → s.heap.get? b = some o → h'.get? b = some o)) E) F.called_set.init.plain F.entry_set_init (check_set_init_1 tS ?_)) fun r₂ s₂ hr₂ => ?_
      · obtain ⟨ocls, odict, odata, oslots⟩ := o
        simp only at hcls hdat
        subst hcls hdat
        have hoc := old led cx _ ho
        unfold Builtin.«set.__init__» noKeywords Builtin.Frozenset.updateFrom
        generalize hPI : pyIter = PI
        wp_walk
        subst hPI
        refine hit _ _ _ _ hoc ?_
        refine wpAny_bind (wpAny_runValue ?_)
        have lt : cx < s.heap.objs.size := Heap.lt_size ho
        have sz : (s.heap.push (emp led)).objs.size = s.heap.objs.size + 1 := Heap.size_push _ _
        have neI : cx ≠ (s.heap.push (emp led)).objs.size := Nat.ne_of_lt (sz ▸ Nat.lt_succ_of_lt lt)
        have neS : s.heap.objs.size ≠ (s.heap.push (emp led)).objs.size := Nat.ne_of_lt (sz ▸ Nat.lt_succ_self _)
        have far : s.heap.objs.size ∉ [(s.heap.push (emp led)).objs.size, cx] := fun z => (List.mem_cons.mp z).elim neS fun z => Nat.ne_of_gt lt (List.mem_singleton.mp z)
        have hn : xs.length = items.size := (StrsAre.len_eq hi).symm.trans Array.length_toList
        have hh3 : A.in1.in1.in1.handled = none := by simp [hh]
        refine loop_in (W _ hh3 _ neI).toS s.heap.objs.size far xs hn (by omega) (fun i v hv => SS.strs_at hi i v (by rw [Array.getElem?_toList]; exact hv)) (items.size - 0) 0 _ (by omega) (Nat.zero_le _) (hSt _ _ (Heap.get?_push_size _ hfr) (Heap.get?_push_of_some _ hoc)) ?_ fun s' hm hS' => ?_
        · exact SetOf_congr ((setObjOf_fresh (knd := strKind prog w) led).setOf (Heap.get?_push_of_some it (nS led)) (by unfold scanBound; omega)) (fun y => by simp) rfl
        · obtain ⟨h', g', d', tk', os'⟩ := s'
          obtain rfl : g' = s.gens := hm.gens
          obtain rfl : d' = s.drawn := hm.drawn
          obtain rfl : os' = s.os := hm.os
          show wpAny (model prog w) _ _ _ _ _
          refine wpAny_pure ?_
          show wpAny (model prog w) _ (ret .none) _ _ _
          refine wpAny_pure ⟨rfl, h', tk', rfl, hS', fun b o hb e => ?_⟩
          exact hm.heap b o (fun z => (List.mem_cons.mp z).elim (fun z => Nat.ne_of_lt hb z) fun z => Nat.ne_of_lt (sz ▸ Nat.lt_succ_of_lt hb) (List.mem_singleton.mp z)) (Heap.get?_push_of_some _ (old led b o e))
      · cases r₂
        case error e => exact hr₂
        case ok fl₂ =>
          cases fl₂
          case ret r =>
            obtain ⟨rfl, h', tk, rfl, u1, u2⟩ := hr₂
            repeat (any_goals (first | assumption | wp_step))
            exact h _ _ u1 u2
          all_goals exact False.elim hr₂
    all_goals exact False.elim hr
end
end K2S

namespace K2S
open PySem PySem.Spec PyProof.Rows L2
section
variable {X : Cx}
/-- len(set(xs)), xs a list or a tuple of texts: how many there are of them -/
def tMany (K : PySem.W.Frag) (ta : TE) : TE := fun σ H Q => ta σ H fun x H1 => ∃ l, ∃ xs : List Str, x = .ref l ∧ (SqL K H1 l (xs.map V.str) ∨ SqT K H1 l (xs.map V.str)) ∧ xs.length < 64 ∧ Q (.int (once xs).length) H1
theorem pe_many {a : Expr} {ta : TE} {p p2 q pos : Pos} (hc : X.calm = true) (hg : Gl X "len") (hm : X.mg "len" = none) (hg2 : Gl X "set") (hm2 : X.mg "set" = none) (ha : PE X a ta)
    (na : starEach [a] X.env = (false, eval a X.env) :: starEach [] X.env := by rfl) : PE X (.Call (.Name "len" p) [.Call (.Name "set" p2) [a] [] q] [] pos) (tMany X.K ta) := by
  refine ⟨fun pins s σ H Q I h => Call_ (ld_blt I hg hm boot_len (callWith_builtin1 (args_cons (Call_ (ld_blt I hg2 hm2 boot_set (callWith_type1 (args_cons (thn (ha.run pins s σ H _ I h) fun v s1 ⟨x, H1, I1, r1, q1⟩ => args_nil ?_) na) na rfl))) rfl) rfl rfl))⟩
  obtain ⟨l, xs, rfl, hq, few, q1⟩ := q1
  cases r1
  have bound : xs.length + 1 < scanBound := by unfold scanBound; omega
  have fin : ∀ (h' : Heap) (tk : Nat), h'.SetOf (strKind X.prog X.w) s1.heap.objs.size (fun y => decide (y ∈ xs)) (once xs).length → (∀ b o, b < s1.heap.objs.size → s1.heap.get? b = some o → h'.get? b = some o) →
      wpAny (model X.prog X.w) X.A (spliced (backTo pos (starEach [] X.env))) (fun vs s₂ => wpAny (model X.prog X.w) X.A (call (.builtin "len") (Value.ref s1.heap.objs.size :: vs)) (EP X pins σ Q) X.xe s₂) X.xe { s1 with heap := h', toks := tk } := fun h' tk hS hk => by
    obtain ⟨o, es, ep, t, ho, hex, hd, _, _, _, hf, hn⟩ := hS
    have I2 : Inv X pins σ H1 { s1 with heap := h', toks := tk } := I1.kept fun b o e => hk b o (Heap.lt_size e) e
    have le := once_le xs
    exact args_nil (call_len_set ho hex hd hf (by rw [hn]; omega) ⟨.int (once xs).length, H1, I2.tok _, ⟨_, by rw [hn]⟩, q1⟩)
  rcases hq with hq | hq
  · obtain ⟨its, r, pl, hz⟩ := I1.list hq
    obtain ⟨o, ho, hcls, m, hd⟩ := pl.isList
    exact set_by (T := "list") (it := { cls := .type "list_iterator", data := .fields #[.ref l, .int 0 0] }) (St := fun I i h => h.IsListIter I l i ∧ h.IsList l its.toArray) (I1.ok.hd hc) ho hcls hd F.sub_list_set F.sub_list_frozenset (by decide) (by simpa using strsAre_of r) bound rfl
      (fun s1 Q' E' A' e k => wpAny_pyIter_list ⟨o, e, hcls, m, hd⟩ k) (fun A' hh I ne => Walks.list hh I l ne its.toArray) (fun h I e1 e2 => ⟨⟨_, e1, rfl, rfl⟩, ⟨o, e2, hcls, m, hd⟩⟩) fin
  · obtain ⟨its, r, pl, hz⟩ := I1.tuple hq
    obtain ⟨o, ho, hcls, m, hd⟩ := pl
    exact set_by (T := "tuple") (it := { cls := .type "tuple_iterator", data := .fields #[.ref l, .int 0 0] }) (St := fun I i h => h.IsTupleIter I l i ∧ h.IsTuple l its.toArray) (I1.ok.hd hc) ho hcls hd F.sub_tuple_set F.sub_tuple_frozenset (by decide) (by simpa using strsAre_of r) bound rfl
      (fun s1 Q' E' A' e k => wpAny_pyIter_tuple ⟨o, e, hcls, m, hd⟩ k) (fun A' hh I ne => Walks.tuple hh I l ne its.toArray) (fun h I e1 e2 => ⟨⟨_, e1, rfl, rfl⟩, ⟨o, e2, hcls, m, hd⟩⟩) fin
end
end K2S

/-! d.update(e), both dicts with texts or ints as keys -/
namespace K2U
open PySem PySem.Spec PyProof.Rows L2
section
variable {X : Cx} {pins : List (Addr × Obj)} {σ : L2.St} {H : Hp} {s : Shared} {a b : Addr} {A : Around} {E : Value → Shared → Prop}
theorem d_upd {kvs more : List (Key × V)} {Q : Value → Shared → Prop} (I : Inv X pins σ H s) (e : H a = some (.dK kvs)) (e2 : Rd H b (.dK more)) (ne : a ≠ b) (hl : kvs.length + more.length ≤ sizeLine)
    (h : ∀ (w' : Value) (s' : Shared), Inv X pins σ (upd H a (.dK (mergeK kvs more))) s' → w' = .none → Q w' s') : wpAny (model X.prog X.w) A (call (.builtin "dict.update") [.ref a, .ref b]) Q E s := by
  obtain ⟨_, hd, vs, rel, dd⟩ := dk_of I.hok e
  obtain ⟨_, hd2, ws, rel2, dd2⟩ := dk_rd I.hok e2
  refine call_meetsIn F.slot_dict_update dd.typeIs F.entry_dict_update (F.args_dict_update_2 _ _) (meets_dict_update (mixKind X.prog X.w) a b ne hd2) ⟨vs, ws, dd, dd2, by rw [← rel.length, ← rel2.length]; exact hl, fun h' dd' _ hs => ?_⟩
  have he : ∃ q, h'.get? a = some q := let ⟨q, _, _, hq, _⟩ := dd'; ⟨q, hq⟩
  exact h _ _ (d_write (t' := s.toks) I (by rw [e]; exact True.intro) hs he (dk_new (Nat.le_trans (length_mergeK more kvs) hl) hd (rel2.merge rel) dd')) rfl
end
def tDUpd (td ty : TE) : TE := fun σ H Q => td σ H fun x H1 => ∃ a, x = .ref a ∧ IsD H1 a ∧ ty σ H1 fun y H2 => ∃ (b : Addr) (kvs more : List (Key × V)), y = .ref b ∧ H2 a = some (.dK kvs) ∧ Rd H2 b (.dK more) ∧ a ≠ b ∧ kvs.length + more.length ≤ sizeLine ∧
  Q .non (upd H2 a (.dK (mergeK kvs more)))
section
variable {X : Cx} {o e : Expr} {td ty : TE} {apos cpos : Pos}
theorem pe_dupd (ho : PE X o td) (he : PE X e ty) (m : M1 X o "update" apos e cpos) : PE X (.Call (.Attribute o "update" apos) [e] [] cpos) (tDUpd td ty) := by
  refine ⟨fun pins s σ H Q I h => wpAny_Call_method m.base m.few m.line F.plainAttrs_dict F.slot_dict_update F.type_dict_update (thn (ho.run pins s σ H _ I h) fun u s1 ⟨x, H1, I1, rx, a, ex, d, q1⟩ => ?_)⟩
  subst ex
  obtain rfl : u = Value.ref a := rx
  obtain ⟨t1, t2, _⟩ := isD_at I1 d
  refine ⟨t1, t2, ?_⟩
  rw [m.trees]
  refine Calls.callWith_builtin rfl (Calls.evalArgs_plain (Calls.spliced_cons (thn (he.run pins s1 σ H1 _ I1 q1) fun iv s2 ⟨y, H2, I2, ry, b, kvs, more, ey, e1, e2, ne, hl, q2⟩ => Calls.spliced_nil ?_)))
  subst ey
  obtain rfl : iv = Value.ref b := ry
  exact d_upd I2 e1 e2 ne hl fun w' s3 I3 ew => by
    subst ew
    exact ⟨.non, _, I3, rfl, q2⟩
end
end K2U

namespace L2
open PySem PySem.Spec PyProof.Rows
/-- x is True, x is False, whatever x is -/
theorem op_isAny {X : Cx} : OpR X (compareOp .Is) (fun x y H Q => ∃ b : Bool, y = .bl b ∧ Q (.bl (decide (x = .bl b))) H) := by
  intro pins s σ H x y v u Q I rx ry h
  obtain ⟨b, rfl, q⟩ := h
  cases (show u = Value.bool b from ry)
  by_cases e : x = .bl b
  · subst e
    cases (show v = Value.bool b from rx)
    exact wpAny_is_self rfl ⟨.bl true, H, I, rfl, by simpa using q⟩
  · have ne : v ≠ Value.bool b := by
      rintro rfl
      cases x with
      | bl a =>
        have z : Value.bool b = Value.bool a := rx
        exact e (by rw [Value.bool.inj z])
      | int i => obtain ⟨t, z⟩ := rx; cases z
      | str i => obtain ⟨t, z⟩ := rx; cases z
      | byt i => obtain ⟨t, z⟩ := rx; cases z
      | flt i => obtain ⟨t, z⟩ := rx; cases z
      | non => cases rx
      | ref a => cases rx
      | ty n => cases rx
    exact wpAny_is_other (by cases x <;> first | (cases rx; rfl) | (obtain ⟨t, rfl⟩ := rx; rfl)) ne ⟨.bl false, H, I, rfl, by simpa [e] using q⟩
end L2

namespace K5S
open PySem L2 K5
theorem line_ge {n : Nat} (h : n ≤ 1000000) : n ≤ sizeLine := Nat.le_trans h (by decide)
def lt (c : Nat) : Bool := decide (97 ≤ c) && decide (c ≤ 122)
def dg (c : Nat) : Bool := decide (48 ≤ c) && decide (c ≤ 57)
def an (c : Nat) : Bool := lt c || dg c
def sg (c : Nat) : Bool := c == 61 || (c == 59 || (c == 44 || (c == 91 || c == 93)))
def bk (c : Nat) : Bool := c == 32 || c == 10
def S (r : List Nat) : Str := ⟨r.toArray⟩
theorem S_cps (r : List Nat) : (S r).cps.toList = r := by simp [S]
theorem S_len (r : List Nat) : (S r).length = r.length := by simp [S, Str.length]
theorem S_of (z : Str) : S z.cps.toList = z := by simp [S]
theorem S_inj {r t : List Nat} (h : S r = S t) : r = t := by rw [← S_cps r, h, S_cps]
theorem str_zero : ("0" : Str) = S [48] := by decide +kernel
theorem str_blank : (" " : Str) = S [32] := by decide +kernel
def lstS (ts : List (List Nat)) : List V := ts.map fun r => V.str (S r)
theorem lstS_add (ts : List (List Nat)) (r : List Nat) : lstS ts ++ [V.str (S r)] = lstS (ts ++ [r]) := by unfold lstS; rw [List.map_append]; rfl
theorem Same.put {H H1 : Hp} {l : Addr} {o : HO} (a : Same H H1) (hl : H l = none) : Same H (upd H1 l o) := fun b u h => by
  rw [upd_ne (ne_of_none h hl)]
  exact a b u h
theorem eq_strB (x y : Str) : decide (V.str x = V.str y) = decide (x = y) := by
  by_cases h : x = y
  · rw [h]; simp
  · have : ¬ V.str x = V.str y := fun z => h (V.str.inj z)
    rw [decide_eq_false h, decide_eq_false this]
theorem join_none : ∀ ys : List (List Nat), TL.joinL [] ys = ys.flatten
  | [] => rfl
  | [y] => by simp [TL.joinL]
  | y :: z :: r => by
    show y ++ ([] ++ TL.joinL [] (z :: r)) = _
    rw [join_none (z :: r)]
    simp
theorem glue (ys : List (List Nat)) : Txt.join (S []) (ys.map S) = S ys.flatten := by
  rw [← join_none]
  exact SX.join_S [] ys
theorem flat_ones (rs : List Nat) : (rs.map fun c => [c]).flatten = rs := by
  induction rs with
  | nil => rfl
  | cons c rs ih => simp [ih]
def onesV (rs : List Nat) : List V := rs.map fun c => V.str (S [c])
theorem onesV_add (rs : List Nat) (c : Nat) : onesV rs ++ [V.str (S [c])] = onesV (rs ++ [c]) := by unfold onesV; rw [List.map_append]; rfl
theorem onesV_eq (rs : List Nat) : onesV rs = ((rs.map fun c => [c]).map S).map V.str := by unfold onesV; rw [List.map_map, List.map_map]; rfl
theorem ones_sum (rs : List Nat) : (((rs.map fun c => [c]).map S).map (·.length)).sum = rs.length := by
  induction rs with
  | nil => rfl
  | cons c rs ih =>
    rw [List.map_cons, List.map_cons, List.map_cons, List.sum_cons, ih, S_len, List.length_cons]
    simp; omega
theorem at_sign {z : Str} {l : List Nat} (hz : z.cps.toList = l) {p : Nat → Bool} (hp : l.all p = true) {r : Int} (h0 : 0 ≤ r) (h1 : r < (l.length : Int)) : ∃ c, atI z.cps.toList r = some c ∧ p c = true := by
  have hr : r.toNat < l.length := by omega
  refine ⟨l[r.toNat], ?_, List.all_eq_true.mp hp _ (List.getElem_mem hr)⟩
  have e : atI l ((r.toNat : Nat) : Int) = some l[r.toNat] := atI_nat (List.getElem?_eq_getElem hr)
  rw [show ((r.toNat : Nat) : Int) = r by omega] at e
  rw [hz]
  exact e
theorem S_app (a b : List Nat) : S a ++ S b = S (a ++ b) := TL.ext_tl (by rw [TL.tl_append]; simp [S, TL.tl])
theorem str_none : ("" : Str) = S [] := by decide +kernel
theorem all_lt : ([97, 98, 99, 100, 101, 102, 103, 104, 105, 106, 107, 108, 109, 110, 111, 112, 113, 114, 115, 116, 117, 118, 119, 120, 121, 122] : List Nat).all lt = true := by decide
theorem all_dg : ([48, 49, 50, 51, 52, 53, 54, 55, 56, 57] : List Nat).all dg = true := by decide
def Ones (p D : Addr) (H2 : Hp) (c : Nat) (t : Nat → Bool) (i : Nat) (H' : Hp) : Prop := ∃ rs : List Nat, rs.length = i ∧ rs.all t = true ∧ H' D = some (.lst (onesV rs)) ∧ Keep p H2 H' ∧ Pool H' p (c + i)
theorem Ones.next {p D : Addr} {H2 H' H'' : Hp} {c i n : Nat} {t : Nat → Bool} (O : Ones p D H2 c t i H') (hD : H2 D = none) (hDp : D ≠ p) (hk : Keep p H' H'') (hp : Pool H'' p (c + i + 1)) {d : Nat} (hd : t d = true) (hi : i < n) (hn : n ≤ 1000) :
    ∃ acc, H'' D = some (.lst acc) ∧ acc.length < sizeLine ∧ Ones p D H2 c t (i + 1) (upd H'' D (.lst (acc ++ [V.str ⟨#[d]⟩]))) := by
  obtain ⟨rs, h1, h2, h3, h4, h5⟩ := O
  refine ⟨onesV rs, hk _ _ hDp h3, ?_, rs ++ [d], by simp [h1], by simp [h2, hd], ?_, ?_, ?_⟩
  · unfold onesV
    rw [List.length_map, h1]
    exact Nat.lt_of_lt_of_le hi (Nat.le_trans hn (by decide))
  · rw [upd_same]
    exact congrArg (fun x => some (HO.lst x)) (onesV_add rs d)
  · intro b o n e
    rw [upd_ne (ne_of_none e hD)]
    exact hk b o n (h4 b o n e)
  · exact hp.other (Ne.symm hDp)
theorem cps_lits : ("abcdefghijklmnopqrstuvwxyz" : Str).cps.toList = [97, 98, 99, 100, 101, 102, 103, 104, 105, 106, 107, 108, 109, 110, 111, 112, 113, 114, 115, 116, 117, 118, 119, 120, 121, 122] := by decide +kernel
theorem eq_noneB (r : List Nat) : decide (V.str (S r) = V.str ("" : Str)) = decide (r = []) := by
  rw [eq_strB, str_none]
  by_cases h : r = []
  · rw [h]; simp
  · rw [decide_eq_false h]
    exact decide_eq_false fun z => h (S_inj z)
theorem lst_short {ts : List (List Nat)} {n : Nat} (h : ts.length ≤ n) (hn : n ≤ 1000000) : (lstS ts).length < sizeLine := by
  unfold lstS
  rw [List.length_map]
  exact Nat.lt_of_le_of_lt (Nat.le_trans h hn) (by decide)
theorem pool_ne {H' : Hp} {p D : Addr} {n : Nat} (a : Pool H' p n) (h : H' D = none) : D ≠ p := by
  obtain ⟨_, _, _, e, _⟩ := a
  exact Ne.symm (ne_of_none e h)
theorem Keep.free {p D : Addr} {H H1 : Hp} (k : Keep p H H1) (n : D ≠ p) (h : H1 D = none) : H D = none := by
  cases e : H D with
  | none => rfl
  | some o =>
    rw [k D o n e] at h
    cases h
theorem Same.keep {p : Addr} {H H1 : Hp} (s : Same H H1) : Keep p H H1 := fun b o _ e => s b o e
theorem Pool.same {H H1 : Hp} {p : Addr} {c : Nat} (a : Pool H p c) (s : Same H H1) : Pool H1 p c := by
  obtain ⟨g, m, k, h, r⟩ := a
  exact ⟨g, m, k, s _ _ h, r⟩
theorem lst_at {rs : List (List Nat)} {i : Nat} {y : V} (h : (lstS rs)[i]? = some y) : ∃ r, rs[i]? = some r ∧ y = V.str (S r) := by
  unfold lstS at h
  rw [List.getElem?_map] at h
  cases e : rs[i]? with
  | none => rw [e] at h; cases h
  | some r => rw [e] at h; exact ⟨r, rfl, (Option.some.inj h).symm⟩
theorem Same.free {H H1 : Hp} {T' : Addr} (s : Same H H1) (h : H1 T' = none) : H T' = none := by
  cases e : H T' with
  | none => rfl
  | some o =>
    rw [s _ _ e] at h
    cases h
theorem Keep.same {p : Addr} {H H1 H2 : Hp} (k : Keep p H1 H2) (s : Same H H1) (hp : H p = none) : Same H H2 := fun b o e => k b o (ne_of_none e hp) (s b o e)
end K5S

namespace L2
open PySem PySem.Spec PyProof.Rows
/-- one way of walking or another -/
theorem pi_or {X : Cx} {tg l : Expr} {t1 t2 : TI} (h1 : PI X tg l t1) (h2 : PI X tg l t2) : PI X tg l (fun σ H R => t1 σ H R ∨ t2 σ H R) :=
  ⟨fun pins s σ H R I h => h.elim (h1.run pins s σ H R I) (h2.run pins s σ H R I)⟩
end L2
namespace K5
open PySem L2
/-- a def of the program that lets no error out, with all that its call asks -/
abbrev Fn (P : Program) (w : World) (K : PySem.W.Frag) (mg : Str → Option Value) (base : Heap) (n : Nat) (x : Str) (ps : List Str) (sp : Sp) : Prop :=
  ∃ f fd, PySem.W.keepIn K (.ref f) = true ∧ FnOk P w K mg base CX0 n f fd ps sp ∧ Binds K fd ps [] ∧ mg x = some (.ref f)
theorem pe_fn {X : Cx} {n : Nat} {x : Str} {ps : List Str} {sp : Sp} {p pos : Pos} {e : Expr} {es : List Expr} {t : TA} (F : Fn X.prog X.w X.K X.mg X.base n x ps sp) (hr : Room n X.A) (hg : Gl X x) (ha : PA X (e :: es) t)
    (hdb : (x == ("__debug__" : Str)) = false := by decide) (he : starEach (e :: es) X.env = (false, eval e X.env) :: starEach es X.env := by rfl) (hpl : (backTo pos (starEach es X.env)).any (·.1) = false := by rfl) :
    PE X (.Call (.Name x p) (e :: es) [] pos) (tCall sp [] (fun _ _ _ => False) t) := by
  obtain ⟨f, fd, k, G, b, m⟩ := F
  exact pe_call G hr hg m k b .nil pass0 ha hdb he hpl
/-- the text that data are -/
def strD : PyData → Option Str
  | .str z => some z
  | _ => none
def inD (ws : List Str) (d : PyData) : Bool := (strD d).elim false fun z => decide (z ∈ ws)
def isNone : PyData → Bool
  | .none => true
  | _ => false
/-- the members of a list or a tuple -/
def seqD : PyData → Option (List PyData)
  | .list ds => some ds
  | .tuple ds => some ds
  | _ => none
theorem dp_thing {K : PySem.W.Frag} {H : Hp} {v : V} {d : PyData} (h : Dp K H v d) : Thing K H v (strD d) := by
  cases h with
  | str x => exact .inl ⟨x, rfl, rfl⟩
  | non => exact .inr ⟨rfl, _, .base .non, kit_ty (by decide +kernel)⟩
  | bl b => exact .inr ⟨rfl, _, .base (.bl b), kit_ty (by decide +kernel)⟩
  | int i => exact .inr ⟨rfl, _, .base (.int i), kit_ty (by decide +kernel)⟩
  | lst h1 _ =>
    rcases h1 with (h1 | ⟨o, h1⟩) | ⟨o, its, n, h1, h2, _⟩
    · exact .inr ⟨rfl, _, .base (.lst h1), kit_ty (by decide +kernel)⟩
    · exact .inr ⟨rfl, _, .base (.frz h1), kit_ty (by decide +kernel)⟩
    · exact .inr ⟨rfl, _, .kList h1 h2, kit_ty (by decide +kernel)⟩
  | tup h1 _ =>
    rcases h1 with (h1 | ⟨o, h1⟩) | ⟨o, its, n, h1, h2, _⟩
    · exact .inr ⟨rfl, _, .base (.tup h1), kit_ty (by decide +kernel)⟩
    · exact .inr ⟨rfl, _, .fTuple h1, kit_ty (by decide +kernel)⟩
    · exact .inr ⟨rfl, _, .kTuple h1 h2, kit_ty (by decide +kernel)⟩
theorem sql_ty {K : PySem.W.Frag} {H : Hp} {a : Addr} {xs : List V} (h : SqL K H a xs) : TyX K H (.ref a) (.type "list") := by
  rcases h with (h1 | ⟨o, h1⟩) | ⟨o, its, n, h1, h2, _⟩
  · exact .base (.lst h1)
  · exact .base (.frz h1)
  · exact .kList h1 h2
theorem sqt_ty {K : PySem.W.Frag} {H : Hp} {a : Addr} {xs : List V} (h : SqT K H a xs) : TyX K H (.ref a) (.type "tuple") := by
  rcases h with (h1 | ⟨o, h1⟩) | ⟨o, its, n, h1, h2, _⟩
  · exact .base (.tup h1)
  · exact .fTuple h1
  · exact .kTuple h1 h2
/-- the class of data -/
def tyD : PyData → String
  | .none => "NoneType"
  | .bool _ => "bool"
  | .int _ => "int"
  | .str _ => "str"
  | .list _ => "list"
  | .tuple _ => "tuple"
  | .dict _ => "dict"
theorem dp_ty {K : PySem.W.Frag} {H : Hp} {v : V} {d : PyData} (h : Dp K H v d) : TyX K H v (.type (tyD d)) := by
  cases h with
  | str x => exact .base (.str x)
  | non => exact .base .non
  | bl b => exact .base (.bl b)
  | int i => exact .base (.int i)
  | lst h1 _ => exact sql_ty h1
  | tup h1 _ => exact sqt_ty h1
def isStr : PyData → Bool
  | .str _ => true
  | _ => false
def isTup : PyData → Bool
  | .tuple _ => true
  | _ => false
def isI : PyData → Bool
  | .int _ => true
  | .bool _ => true
  | _ => false
def isB : PyData → Bool
  | .bool _ => true
  | _ => false
theorem kit_str {K : PySem.W.Frag} {H : Hp} {v : V} {d : PyData} (h : Dp K H v d) : PySem.W.kitOne K (.type (tyD d)) (.type "str") = some (isStr d) := by
  cases h with
  | str x => exact kit_ty (show kitB "str" "str" = some true by decide +kernel)
  | non => exact kit_ty (show kitB "NoneType" "str" = some false by decide +kernel)
  | bl b => exact kit_ty (show kitB "bool" "str" = some false by decide +kernel)
  | int i => exact kit_ty (show kitB "int" "str" = some false by decide +kernel)
  | lst h1 _ => exact kit_ty (show kitB "list" "str" = some false by decide +kernel)
  | tup h1 _ => exact kit_ty (show kitB "tuple" "str" = some false by decide +kernel)
theorem kit_tup {K : PySem.W.Frag} {H : Hp} {v : V} {d : PyData} (h : Dp K H v d) : PySem.W.kitOne K (.type (tyD d)) (.type "tuple") = some (isTup d) := by
  cases h with
  | str x => exact kit_ty (show kitB "str" "tuple" = some false by decide +kernel)
  | non => exact kit_ty (show kitB "NoneType" "tuple" = some false by decide +kernel)
  | bl b => exact kit_ty (show kitB "bool" "tuple" = some false by decide +kernel)
  | int i => exact kit_ty (show kitB "int" "tuple" = some false by decide +kernel)
  | lst h1 _ => exact kit_ty (show kitB "list" "tuple" = some false by decide +kernel)
  | tup h1 _ => exact kit_ty (show kitB "tuple" "tuple" = some true by decide +kernel)
theorem kit_int {K : PySem.W.Frag} {H : Hp} {v : V} {d : PyData} (h : Dp K H v d) : PySem.W.kitOne K (.type (tyD d)) (.type "int") = some (isI d) := by
  cases h with
  | str x => exact kit_ty (show kitB "str" "int" = some false by decide +kernel)
  | non => exact kit_ty (show kitB "NoneType" "int" = some false by decide +kernel)
  | bl b => exact kit_ty (show kitB "bool" "int" = some true by decide +kernel)
  | int i => exact kit_ty (show kitB "int" "int" = some true by decide +kernel)
  | lst h1 _ => exact kit_ty (show kitB "list" "int" = some false by decide +kernel)
  | tup h1 _ => exact kit_ty (show kitB "tuple" "int" = some false by decide +kernel)
theorem kit_bool {K : PySem.W.Frag} {H : Hp} {v : V} {d : PyData} (h : Dp K H v d) : PySem.W.kitOne K (.type (tyD d)) (.type "bool") = some (isB d) := by
  cases h with
  | str x => exact kit_ty (show kitB "str" "bool" = some false by decide +kernel)
  | non => exact kit_ty (show kitB "NoneType" "bool" = some false by decide +kernel)
  | bl b => exact kit_ty (show kitB "bool" "bool" = some true by decide +kernel)
  | int i => exact kit_ty (show kitB "int" "bool" = some false by decide +kernel)
  | lst h1 _ => exact kit_ty (show kitB "list" "bool" = some false by decide +kernel)
  | tup h1 _ => exact kit_ty (show kitB "tuple" "bool" = some false by decide +kernel)
/-- data of texts alone are texts -/
theorem all_texts {K : PySem.W.Frag} {H : Hp} : ∀ {ds : List PyData} {vs : List V}, DpAll K H vs ds → (∀ d ∈ ds, isStr d = true) → vs = (ds.filterMap strD).map V.str ∧ (ds.filterMap strD).length = ds.length
  | [], _, h, _ => by
    cases h
    exact ⟨rfl, rfl⟩
  | d :: ds, _, h, e => by
    cases h with
    | cons h1 h2 =>
      obtain ⟨i1, i2⟩ := all_texts h2 fun x hx => e x (List.mem_cons_of_mem _ hx)
      have e := e d List.mem_cons_self
      cases h1 with
      | str x =>
        rw [i1]
        exact ⟨rfl, congrArg (· + 1) i2⟩
      | non => cases e
      | bl b => cases e
      | int i => cases e
      | lst _ _ => cases e
      | tup _ _ => cases e
theorem kit_seq {K : PySem.W.Frag} {t : String} {b1 b2 : Bool} (h1 : kitB t "tuple" = some b1) (h2 : kitB t "list" = some b2) : PySem.W.kitAny K (.type t) [.type "tuple", .type "list"] = some (b1 || b2) := by
  refine kitAny_cons (kit_ty h1) (fun e => ?_) (fun e => by rw [e]; rfl)
  rw [e, Bool.false_or]
  refine kitAny_cons (kit_ty h2) (fun e => ?_) (fun e => e)
  rw [e]
  rfl
/-- a list or a tuple, with its data -/
def RowD (K : PySem.W.Frag) (H : Hp) (a : Addr) (xs : List V) (d : PyData) (ds : List PyData) : Prop := (SqL K H a xs ∧ d = .list ds) ∨ (SqT K H a xs ∧ d = .tuple ds)
theorem seq_or {K : PySem.W.Frag} {H : Hp} {v : V} {d : PyData} (h : Dp K H v d) : (∃ a xs ds, v = .ref a ∧ DpAll K H xs ds ∧ RowD K H a xs d ds) ∨ (seqD d = none ∧ ∃ t, (∀ H', TyX K H' v (.type t)) ∧ kitB t "tuple" = some false ∧ kitB t "list" = some false) := by
  cases h with
  | str x => exact .inr ⟨rfl, _, fun _ => .base (.str x), by decide +kernel, by decide +kernel⟩
  | non => exact .inr ⟨rfl, _, fun _ => .base .non, by decide +kernel, by decide +kernel⟩
  | bl b => exact .inr ⟨rfl, _, fun _ => .base (.bl b), by decide +kernel, by decide +kernel⟩
  | int i => exact .inr ⟨rfl, _, fun _ => .base (.int i), by decide +kernel, by decide +kernel⟩
  | lst h1 h2 => exact .inl ⟨_, _, _, rfl, h2, .inl ⟨h1, rfl⟩⟩
  | tup h1 h2 => exact .inl ⟨_, _, _, rfl, h2, .inr ⟨h1, rfl⟩⟩
theorem RowD.seq {K : PySem.W.Frag} {H : Hp} {a : Addr} {xs : List V} {d : PyData} {ds : List PyData} (h : RowD K H a xs d ds) : seqD d = some ds := by
  rcases h with ⟨_, rfl⟩ | ⟨_, rfl⟩ <;> rfl
theorem RowD.ty {K : PySem.W.Frag} {H : Hp} {a : Addr} {xs : List V} {d : PyData} {ds : List PyData} (h : RowD K H a xs d ds) : ∃ t, TyX K H (.ref a) t ∧ PySem.W.kitAny K t [.type "tuple", .type "list"] = some true := by
  rcases h with ⟨h, _⟩ | ⟨h, _⟩
  · exact ⟨_, sql_ty h, kit_seq (b1 := false) (b2 := true) (by decide +kernel) (by decide +kernel)⟩
  · exact ⟨_, sqt_ty h, kit_seq (b1 := true) (b2 := false) (by decide +kernel) (by decide +kernel)⟩
theorem RowD.same {K : PySem.W.Frag} {H H' : Hp} {a : Addr} {xs : List V} {d : PyData} {ds : List PyData} (h : RowD K H a xs d ds) (s : Same H H') : RowD K H' a xs d ds := by
  rcases h with ⟨h, e⟩ | ⟨h, e⟩
  · exact .inl ⟨s.seq h, e⟩
  · exact .inr ⟨SqT.ext h s, e⟩
theorem RowD.len {K : PySem.W.Frag} {H : Hp} {a : Addr} {xs : List V} {d : PyData} {ds : List PyData} (h : RowD K H a xs d ds) : LenV K (.ref a) H xs.length := by
  rcases h with ⟨h, _⟩ | ⟨h, _⟩
  · exact .inl ⟨_, h, rfl⟩
  · exact .inr ⟨_, h, rfl⟩
theorem RowD.or {K : PySem.W.Frag} {H : Hp} {a : Addr} {xs : List V} {d : PyData} {ds : List PyData} (h : RowD K H a xs d ds) : SqL K H a xs ∨ SqT K H a xs := by
  rcases h with ⟨h, _⟩ | ⟨h, _⟩
  · exact .inl h
  · exact .inr h
theorem DpAll.at2 {K : PySem.W.Frag} {H : Hp} : ∀ {ds : List PyData} {vs : List V} {k : Nat} {v : V}, DpAll K H vs ds → vs[k]? = some v → ∃ d, ds[k]? = some d ∧ Dp K H v d
  | [], _, _, _, h, e => by
    cases h
    cases e
  | d :: ds, _, 0, _, h, e => by
    cases h with
    | cons h1 h2 => exact ⟨d, rfl, (Option.some.inj e) ▸ h1⟩
  | d :: ds, _, k + 1, _, h, e => by
    cases h with
    | cons h1 h2 => exact DpAll.at2 (ds := ds) (k := k) h2 e
/-- at a stands a tuple of texts of the written part -/
def TupW (K : PySem.W.Frag) (a : Addr) (ws : List Str) : Prop := ∃ (o : Obj) (its : Array Value) (n : Nat), K.lookup a = some o ∧ o.cls = .type "tuple" ∧ o.data = .seq its n ∧ its.size ≤ sizeLine ∧ Vals (ws.map V.str) its.toList
theorem TupW.sq {K : PySem.W.Frag} {a : Addr} {ws : List Str} (h : TupW K a ws) (H : Hp) : SqT K H a (ws.map V.str) := .inr h
/-! what the program says of data -/
def lenD : PyData → Bool
  | .str z => decide (z.length ≤ 400) && PyData.strOk z
  | _ => true
def fine (d : PyData) : Bool := lenD d && (seqD d).elim true fun ds => decide (ds.length ≤ 400) && ds.all lenD
theorem lenD_len {z : Str} (h : lenD (.str z) = true) : z.length ≤ 400 := of_decide_eq_true (Bool.and_eq_true_iff.mp h).1
theorem lenD_ok {z : Str} (h : lenD (.str z) = true) : PyData.strOk z = true := (Bool.and_eq_true_iff.mp h).2
theorem lenD_of {z : Str} (h : z.length ≤ 400) (k : PyData.strOk z = true) : lenD (.str z) = true := Bool.and_eq_true_iff.mpr ⟨decide_eq_true h, k⟩
theorem strOk_app (a b : Str) : PyData.strOk (a ++ b) = (PyData.strOk a && PyData.strOk b) := by
  unfold PyData.strOk
  rw [← Array.all_toList, ← Array.all_toList, ← Array.all_toList]
  have e : (a ++ b).cps.toList = a.cps.toList ++ b.cps.toList := TL.tl_append a b
  rw [e, List.all_append]
theorem fine_len {d : PyData} (h : fine d = true) : lenD d = true := (Bool.and_eq_true_iff.mp h).1
theorem fine_seq {d : PyData} {ds : List PyData} (h : fine d = true) (e : seqD d = some ds) : ds.length ≤ 400 ∧ ∀ x ∈ ds, lenD x = true := by
  have h := (Bool.and_eq_true_iff.mp h).2
  rw [e] at h
  have h := Bool.and_eq_true_iff.mp h
  exact ⟨of_decide_eq_true h.1, fun x hx => List.all_eq_true.mp h.2 x hx⟩
def cLetters : Str := "abcdefghijklmnopqrstuvwxyz"
def inAll (z cs : Str) : Bool := decide (1 ≤ z.length) && decide (z.length ≤ 12) && z.cps.toList.all fun c => decide (c ∈ cs.cps.toList)
def wordD (d : PyData) : Bool := (strD d).elim false fun z => inAll z cLetters
def pairB (z : Str) : Bool := decide ((Txt.partition z " ").2.1 = " ") && (inAll (Txt.partition z " ").1 cLetters && inAll (Txt.partition z " ").2.2 cLetters)
def pairD (d : PyData) : Bool := (strD d).elim false pairB
def itemD (d : PyData) : Bool := wordD d || pairD d
def intD : PyData → Bool
  | .int _ => true
  | _ => false
def numD : PyData → Bool
  | .int i => decide (0 ≤ i) && decide (i < 1000000000000)
  | _ => false
def listD : PyData → Bool
  | .tuple ds => ds.all itemD
  | _ => false
def valueD (d : PyData) : Bool := isNone d || (wordD d || (numD d || listD d))
def textsD (d : PyData) : List Str := ((seqD d).getD []).filterMap strD
def areW (m : Nat) (d : PyData) : Bool := (seqD d).elim false fun ds => decide (ds.length ≤ m) && (ds.all wordD && decide (ds.filterMap strD).Nodup)
def fitsK (k : Str) (ws : List Str) (d : PyData) : Bool := if k = "choice" then inD ws d else if k = "word" then wordD d else if k = "number" then numD d else listD d
def smallD : PyData → Bool
  | .int i => decide (i < 1000000000)
  | .tuple ds => decide (ds.length ≤ 8) && ds.all wordD
  | _ => true
theorem wordD_str {d : PyData} (h : wordD d = true) : isStr d = true := by
  cases d <;> first | rfl | cases h
def spL (K : PySem.W.Frag) (g : PyData → Bool) : Sp := fun vs H Q _ => ∃ (v : V) (d : PyData), vs = [v] ∧ Dp K H v d ∧ lenD d = true ∧ ∀ H', Same H H' → Q (.bl (g d)) H'
def spF (K : PySem.W.Frag) (g : PyData → Bool) : Sp := fun vs H Q _ => ∃ (v : V) (d : PyData), vs = [v] ∧ Dp K H v d ∧ fine d = true ∧ ∀ H', Same H H' → Q (.bl (g d)) H'
/-- the constants -/
structure Mod (mg : Str → Option Value) : Prop extends K5.Bare mg where
  letters : ∃ t, mg "LETTERS" = some (.str cLetters t)
  longest : ∃ t, mg "LONGEST" = some (.int 12 t)
theorem cps_at {z : Str} {i : Nat} {c : Nat} (h : z.cps[i]? = some c) : z.cps.toList[i]? = some c := by simpa using h
theorem str_len (z : Str) : z.cps.toList.length = z.length := by simp [Str.length]
end K5

namespace K5S
open PySem L2 K5
abbrev sOf : Stmt := top 25
abbrev sLawWord : Stmt := top 26
abbrev sLawWords : Stmt := top 27
def spOf : Sp := fun vs H Q _ => ∃ (p : Addr) (c : Nat) (a : Addr) (xs : List V), vs = [.ref p, .ref a] ∧ Pool H p c ∧ c ≤ 900000 ∧ H a = some (.lst xs) ∧ a ≠ p ∧ xs ≠ [] ∧ xs.length ≤ 1000 ∧
  ∀ (v : V) (H' : Hp), v ∈ xs → Keep p H H' → Pool H' p (c + 1) → Q v H'
theorem at_mem {xs : List V} {r : Int} (h0 : 0 ≤ r) (h1 : r < (xs.length : Int)) : ∃ v, atI xs r = some v ∧ v ∈ xs := by
  have hk : r.toNat < xs.length := by omega
  refine ⟨xs[r.toNat], at_of (j := r.toNat) (by omega) (List.getElem?_eq_getElem hk), List.getElem_mem hk⟩
theorem lstS_eq (ts : List (List Nat)) : lstS ts = (ts.map S).map V.str := by unfold lstS; rw [List.map_map]; rfl
theorem inS (y : List Nat) (ts : List (List Nat)) : inV (.str (S y)) (lstS ts) = decide (y ∈ ts) := by
  rw [lstS_eq, inV_strs]
  have : S y ∈ ts.map S ↔ y ∈ ts := by
    rw [List.mem_map]
    exact ⟨fun ⟨x, hx, e⟩ => S_inj e ▸ hx, fun h => ⟨y, h, rfl⟩⟩
  by_cases h : y ∈ ts
  · rw [decide_eq_true h, decide_eq_true (this.mpr h)]
  · rw [decide_eq_false h, decide_eq_false fun x => h (this.mp x)]
def abc : List Nat := [97, 98, 99, 100, 101, 102, 103, 104, 105, 106, 107, 108, 109, 110, 111, 112, 113, 114, 115, 116, 117, 118, 119, 120, 121, 122]
/-- what may be taken for a word m -/
def cands (m : List Nat) : List (List Nat) := m :: abc.map fun c => m ++ [c]
theorem cands_lt {m : List Nat} (h : m.all lt = true) : ∀ t ∈ cands m, t.all lt = true ∧ t.length ≤ m.length + 1 := by
  intro t ht
  rcases List.mem_cons.mp ht with rfl | ht
  · exact ⟨h, by omega⟩
  · obtain ⟨c, hc, rfl⟩ := List.mem_map.mp ht
    refine ⟨?_, by simp⟩
    rw [List.all_append, h, Bool.true_and]
    have : abc.all lt = true := all_lt
    simp [List.all_eq_true.mp this c hc]
theorem nodup_le {α : Type} [DecidableEq α] : ∀ {l t : List α}, l.Nodup → (∀ x ∈ l, x ∈ t) → l.length ≤ t.length
  | [], _, _, _ => Nat.zero_le _
  | a :: l, t, h, s => by
    obtain ⟨h1, h2⟩ := List.nodup_cons.mp h
    have ha := s a List.mem_cons_self
    have r := nodup_le (l := l) (t := t.erase a) h2 fun x hx => (List.mem_erase_of_ne (show x ≠ a from fun e => h1 (by rw [← e]; exact hx))).mpr (s x (List.mem_cons_of_mem _ hx))
    rw [List.length_erase_of_mem ha] at r
    have := List.length_pos_of_mem ha
    rw [List.length_cons]
    omega
theorem cands_nodup (m : List Nat) : (cands m).Nodup := by
  unfold cands
  refine List.nodup_cons.mpr ⟨fun h => ?_, ?_⟩
  · obtain ⟨c, _, e⟩ := List.mem_map.mp h
    have := congrArg List.length e
    simp at this
  · have n : abc.Nodup := by decide
    exact n.map _ fun a b hab e => hab (by simpa using e)
theorem cands_free {m : List Nat} {tk : List (List Nat)} (h : tk.length ≤ 26) : ((cands m).filter fun t => !decide (t ∈ tk)) ≠ [] := by
  intro e
  have all : ∀ y ∈ cands m, y ∈ tk := fun y hy => by
    apply Classical.byContradiction
    intro n
    have : y ∈ (cands m).filter fun t => !decide (t ∈ tk) := List.mem_filter.mpr ⟨hy, by rw [decide_eq_false n]; rfl⟩
    rw [e] at this
    cases this
  have := nodup_le (cands_nodup m) all
  have l : (cands m).length = 27 := by unfold cands; simp [abc]
  omega
/-- a drawn word that is not taken -/
def Wd (z : Str) : Prop := ∃ r : List Nat, z = S r ∧ r.all lt = true ∧ 1 ≤ r.length ∧ r.length ≤ 12
def spLawWord : Sp := fun vs H Q _ => ∃ (p : Addr) (c : Nat) (a : Addr) (tk : List Str), vs = [.ref p, .ref a] ∧ Pool H p c ∧ c ≤ 800000 ∧ H a = some (.lst (tk.map V.str)) ∧ a ≠ p ∧ tk.length ≤ 26 ∧
  ∀ (z : Str) (H' : Hp), Wd z → z ∉ tk → Keep p H H' → Pool H' p (c + 12) → Q (.str z) H'
theorem lstS_of (tk : List Str) : tk.map V.str = lstS (tk.map fun z => z.cps.toList) := by
  unfold lstS
  rw [List.map_map]
  refine List.map_congr_left fun z _ => ?_
  show V.str z = V.str (S z.cps.toList)
  rw [S_of]
section
variable {P : Program} {w : World} {K : PySem.W.Frag} {mg : Str → Option Value} {base : Heap}
theorem scOf : FnScope ["_law_pool_here", "_law_some"] ["_law_pool_here", "_law_some"] (defScope sOf) := ⟨rfl, rfl, rfl, by decide +kernel, rfl, by decide +kernel, by decide +kernel⟩
theorem ok_of {f fP : Addr} {fd fdP : FuncData} (F : Fun K "_law_of" "_law_of" sOf f fd) (T : Mod mg)
    (kP : PySem.W.keepIn K (.ref fP) = true) (GP : FnOk P w K mg base CX0 1 fP fdP ["_law_pool_here", "_law_many"] spPick) (bP : Binds K fdP ["_law_pool_here", "_law_many"] []) (mP : mg "_law_pick" = some (.ref fP)) :
    FnOk P w K mg base CX0 2 f fd ["_law_pool_here", "_law_some"] spOf := by
  refine F.ok scOf (fun vs H Q E h => ?_) (fun cdv A outer s H vs Q E hr h => ?_)
  · obtain ⟨p, c, a, xs, rfl, _⟩ := h
    rfl
  · obtain ⟨p, c, a, xs, rfl, hp, hc, ha, hap, hn, hl, q⟩ := h
    refine ⟨_, pss_one (ps_ret (pe_ix ix_list (pv 1) (pe_call GP hr rfl mP kP bP .nil pass0 (pa_cons (pv 0) (pa_cons (pe_callB call_len_seq (by rfl) T.len PySem.boot_len (pa_cons (pv 1) pa_nil)) pa_nil))) (fun _ _ => rfl))), ?_⟩
    have := List.length_pos_iff.mpr hn
    refine ⟨_, rfl, _, rfl, _, rfl, a, xs, rfl, .inl (SqL.of ha), p, c, _, rfl, hp, by omega, by omega, by omega, fun r H' r0 r1 hk hp' => ?_⟩
    obtain ⟨v, hv, hm⟩ := at_mem r0 r1
    exact ⟨a, xs, r, v, rfl, rfl, SqL.of (hk _ _ hap ha), hv, q v H' hm hk hp'⟩
abbrev nWord : List Str := ["_law_pool_here", "_law_taken", "_law_letters", "_law_many", "_law_wide", "_law_made", "_law_k", "_law_letter", "_law_one"]
theorem scLawWord : FnScope nWord ["_law_pool_here", "_law_taken"] (defScope sLawWord) := ⟨rfl, rfl, rfl, by decide +kernel, rfl, by decide +kernel, by decide +kernel⟩
theorem at_many {r : Int} (h0 : 0 ≤ r) (h1 : r < 6) : ∃ m : Nat, 1 ≤ m ∧ m ≤ 11 ∧ atI [V.int 1, V.int 1, V.int 1, V.int 2, V.int 3, V.int 11] r = some (V.int m) := by
  rcases (show r = 0 ∨ r = 1 ∨ r = 2 ∨ r = 3 ∨ r = 4 ∨ r = 5 by omega) with h | h | h | h | h | h <;> subst h
  · exact ⟨1, by decide, by decide, rfl⟩
  · exact ⟨1, by decide, by decide, rfl⟩
  · exact ⟨1, by decide, by decide, rfl⟩
  · exact ⟨2, by decide, by decide, rfl⟩
  · exact ⟨3, by decide, by decide, rfl⟩
  · exact ⟨11, by decide, by decide, rfl⟩
theorem cands_ne {ls : List Nat} (h : 1 ≤ ls.length) : ∀ r ∈ cands ls, 1 ≤ r.length := fun r hr => by
  unfold cands at hr
  rcases List.mem_cons.mp hr with rfl | hr
  · exact h
  · obtain ⟨c, _, rfl⟩ := List.mem_map.mp hr
    rw [List.length_append]
    show 1 ≤ ls.length + 1
    omega
theorem ok_lawWord {f fP : Addr} {fd fdP : FuncData} (F : Fun K "_law_word" "_law_word" sLawWord f fd) (T : Mod mg)
    (kP : PySem.W.keepIn K (.ref fP) = true) (GP : FnOk P w K mg base CX0 1 fP fdP ["_law_pool_here", "_law_many"] spPick) (bP : Binds K fdP ["_law_pool_here", "_law_many"] []) (mP : mg "_law_pick" = some (.ref fP)) :
    FnOk P w K mg base CX0 2 f fd ["_law_pool_here", "_law_taken"] spLawWord := by
  refine F.ok scLawWord (fun vs H Q E h => ?_) (fun cdv A outer s H vs Q E hr h => ?_)
  · obtain ⟨p, c, a, tk, rfl, _⟩ := h
    rfl
  · obtain ⟨p, c, a, tkS, rfl, hp, hc, ha, hap, htkS, q⟩ := h
    obtain ⟨tk, etk⟩ : ∃ tk : List (List Nat), tk = tkS.map fun z => z.cps.toList := ⟨_, rfl⟩
    have htk : tk.length ≤ 26 := by rw [etk, List.length_map]; exact htkS
    rw [lstS_of, ← etk] at ha
    refine ⟨_, pss_cons (ps_set (i := 2) scLawWord.nd rfl (.inr rfl) pe_str)
      (C8.pss_cut (ps_set (i := 3) scLawWord.nd rfl (.inl rfl) (pe_ix ix_list (pe_lst (pa_cons pe_int (pa_cons pe_int (pa_cons pe_int (pa_cons pe_int (pa_cons pe_int (pa_cons pe_int pa_nil))))))) (pe_call GP hr rfl mP kP bP .nil pass0 (pa_cons (pv 0) (pa_cons pe_int pa_nil))) (fun _ _ => rfl)))
      (C8.pss_cut (ps_set (i := 4) scLawWord.nd rfl (.inr rfl) (pe_ifExp (pt_cmpR op_eq (pv 3) pe_int (nomark _)) pe_int pe_int))
      (C8.pss_cut (ps_set (i := 5) scLawWord.nd rfl (.inr rfl) (pe_join pe_str (pe_lc (own := [("_law_k", 6)]) (g := gName 6) (tt := tYes) (by rfl) scLawWord.nd (pi_range1 (by rfl) T.range (pa_cons (pv 3) pa_nil))
        (blkOk_by (own := [("_law_k", 6)]) (N := nWord) (sc := defScope sLawWord) (by decide +kernel)) (fun _ _ _ _ _ => pg_name (i := 6) scLawWord.nd rfl (Or.inl rfl))
        (fun _ _ _ _ _ => pts_nil) (fun _ _ _ _ _ => pe_ix ix_str (pv 2) (pe_call GP hr rfl mP kP bP .nil pass0 (pa_cons (pv 0) (pa_cons (pv 4) pa_nil))) (fun _ _ => rfl)))))
      (pss_one (ps_ret (pe_ix ix_list (pe_lc (own := [("_law_one", 8)]) (g := gName 8) (tt := tTest (tOp (rIn K true) (tVar 8) (tVar 1))) (by rfl) scLawWord.nd (pi_list (pe_op op_cat (pe_lst (pa_cons (pv 5) pa_nil)) (pe_lc (own := [("_law_letter", 7)]) (g := gName 7) (tt := tYes) (by rfl) scLawWord.nd (pi_str (pv 2))
            (blkOk_by (own := [("_law_letter", 7)]) (N := nWord) (sc := defScope sLawWord) (by decide +kernel)) (fun _ _ _ _ _ => pg_name (i := 7) scLawWord.nd rfl (Or.inl rfl)) (fun _ _ _ _ _ => pts_nil) (fun _ _ _ _ _ => pe_op op_add_str (pv 5) (pv 7)))))
          (blkOk_by (own := [("_law_one", 8)]) (N := nWord) (sc := defScope sLawWord) (by decide +kernel)) (fun _ _ _ _ _ => pg_name (i := 8) scLawWord.nd rfl (Or.inl rfl)) (fun _ _ _ _ _ => pts_one (pt_cmpR op_notIn_seq (pv 8) (pv 1) (by rfl))) (fun _ _ _ _ _ => pv 8)) pe_int (fun _ _ => rfl))))))), ?_⟩
    refine ⟨fun σ H' => ∃ m : Nat, 1 ≤ m ∧ m ≤ 11 ∧ σ = [some (.ref p), some (.ref a), some (.str "abcdefghijklmnopqrstuvwxyz"), some (.int m), none, none, none, none, none] ∧ Keep p H H' ∧ Pool H' p (c + 1), ?_, ?_⟩
    · refine ⟨by show 6 ≤ sizeLine; decide, fun l hl => ⟨_, rfl, p, c, 6, rfl, hp.new hl, by omega, by decide, by decide, fun r H2 r0 r1 hk hp2 => ?_⟩⟩
      obtain ⟨m, m1, m2, hm⟩ := at_many r0 r1
      exact ⟨l, _, r, _, rfl, rfl, SqL.of (hk _ _ (pool_ne hp hl) upd_same), hm, m, m1, m2, rfl, ((Keep.refl p H).new hl).trans hk, hp2⟩
    rintro σ H1 ⟨m, m1, m2, rfl, k1, p1⟩
    refine ⟨fun σ H' => ∃ x : Nat, 1 ≤ x ∧ x ≤ 26 ∧ σ = [some (.ref p), some (.ref a), some (.str "abcdefghijklmnopqrstuvwxyz"), some (.int m), some (.int x), none, none, none, none] ∧ H' = H1, ?_, ?_⟩
    · refine ⟨_, rfl, rfl, _, rfl, ite2 (fun _ => ⟨4, by decide, by decide, rfl, rfl⟩) (fun _ => ⟨26, by decide, by decide, rfl, rfl⟩)⟩
    rintro σ H1' ⟨x, x1, x2, rfl, rfl⟩
    refine ⟨fun σ H' => ∃ ls : List Nat, ls.length = m ∧ ls.all lt = true ∧ σ = [some (.ref p), some (.ref a), some (.str "abcdefghijklmnopqrstuvwxyz"), some (.int m), some (.int x), some (.str (S ls)), none, none, none] ∧ Keep p H H' ∧ Pool H' p (c + 1 + m), ?_, ?_⟩
    · refine ⟨⟨_, rfl⟩, _, rfl, m, rfl, by omega, by omega, fun D hD => ?_⟩
      have hDp := pool_ne p1 hD
      refine lc_range (lo := 0) (n := m) (Ones p D H1' (c + 1) lt) ⟨[], rfl, rfl, upd_same, (Keep.refl p H1').new hD, p1.new hD⟩ ?_ ?_
      · intro i H' hi O
        obtain ⟨_, _, _, _, _, pi⟩ := id O
        refine ⟨rfl, ?_⟩
        refine ⟨_, rfl, _, rfl, _, rfl, p, c + 1 + i, x, rfl, pi, by omega, by omega, by omega, fun r H'' r0 r1 hk hp' => ?_⟩
        obtain ⟨d, hd, hl⟩ := at_sign cps_lits all_lt r0 (by simp; omega)
        exact ⟨_, r, d, rfl, rfl, by decide +kernel, hd, O.next hD hDp hk hp' hl hi (by omega)⟩
      · rintro H' ⟨rs, h1, h2, h3, h4, h5⟩
        refine ⟨_, D, (rs.map fun c => [c]).map S, rfl, rfl, .inl (SqL.of (by rw [h3, onesV_eq])), ?_, ?_⟩
        · rw [ones_sum, str_none, S_len]
          simp
          omega
        · rw [str_none, glue, flat_ones]
          exact ⟨rs, h1, h2, rfl, k1.trans h4, h5⟩
    rintro σ H2 ⟨ls, l1, l2, rfl, k2, p2⟩
    have pk2 := k2
    refine ⟨_, rfl, by show 1 ≤ sizeLine; decide, fun m1' hm1 => ⟨_, rfl, _, rfl, fun D hD => ?_⟩⟩
    have h1n : H2 m1' = none := hm1
    refine lc_it walk_str (fun i H' => Same H2 H' ∧ H' m1' = some (.lst [V.str (S ls)]) ∧ H' D = some (.lst (((("abcdefghijklmnopqrstuvwxyz" : Str).cps.toList.take i).map fun c => V.str (S (ls ++ [c])))))) ?_ (fun _ _ _ _ => trivial) ?_ ?_
    · exact ⟨Same.new (Same.new (Same.refl H2) hm1) hD, by rw [upd_ne (ne_of_none upd_same hD)]; exact upd_same, upd_same⟩
    · rintro i x0 H3 H4 hi ⟨s3, h3, h4⟩ ⟨rfl, c0, hc0, rfl⟩
      refine ⟨rfl, ?_⟩
      have hi' : i < 26 := hi
      refine ⟨_, rfl, _, rfl, _, _, rfl, rfl, ?_, _, h4, ?_, fun b o e => ?_, ?_, ?_⟩
      · rw [S_len]
        show ls.length + 1 ≤ sizeLine
        exact line_ge (by omega)
      · rw [List.length_map, List.length_take]
        exact Nat.lt_of_lt_of_le (show _ < 1000 by omega) (by decide)
      · rw [upd_ne (ne_of_none ((Same.new (o := .lst [V.str (S ls)]) (Same.refl H2) hm1) _ _ e |> fun z => by
          exact z) hD)]
        exact s3 b o e
      · rw [upd_ne (ne_of_none upd_same hD)]; exact h3
      · have : S ls ++ (⟨#[c0]⟩ : Str) = S (ls ++ [c0]) := S_app ls [c0]
        rw [upd_same, this, ← take_more (fun c => V.str (S (ls ++ [c]))) (cps_at hc0)]
    · rintro H3 ⟨s3, h3, h4⟩
      have e26 : ("abcdefghijklmnopqrstuvwxyz" : Str).cps.toList.take ("abcdefghijklmnopqrstuvwxyz" : Str).cps.size = abc := by
        rw [List.take_of_length_le (by simp), cps_lits]
        rfl
      have key : ([V.str (S ls)] : List V) ++ ((("abcdefghijklmnopqrstuvwxyz" : Str).cps.toList.take ("abcdefghijklmnopqrstuvwxyz" : Str).cps.size).map fun c => V.str (S (ls ++ [c]))) = lstS (cands ls) := by
        rw [e26]
        unfold lstS cands
        rw [List.map_cons, List.map_map]
        rfl
      have hap2 : H2 a = some (.lst (lstS tk)) := k2 _ _ hap ha
      refine ⟨m1', D, _, _, rfl, rfl, h3, h4, ?_, fun L hL => ⟨L, rfl, ⟨_, SqL.of upd_same⟩, fun D2 hD2 => ?_⟩⟩
      · rw [e26]
        show 1 + 26 ≤ sizeLine
        decide
      rw [key] at hD2 ⊢
      have t0 : Same H2 (upd H3 L (.lst (lstS (cands ls)))) := Same.new s3 hL
      have hcl : (lstS (cands ls)).length = 27 := by unfold lstS; rw [List.length_map]; rfl
      refine lc_list (K := K) (a := L) (xs := lstS (cands ls)) (fun i H' => Same (upd H3 L (.lst (lstS (cands ls)))) H' ∧ H' D2 = some (.lst (lstS (((cands ls).take i).filter fun t => !decide (t ∈ tk))))) ⟨Same.new (Same.refl _) hD2, upd_same⟩ (fun i H' _ ⟨s', _⟩ => SqL.of (s' _ _ upd_same)) ?_ ?_
      · rintro i y H5 hi ⟨s5, h5⟩
        obtain ⟨r, hr0, rfl⟩ := lst_at hi
        have hi27 : i < 27 := (List.getElem?_eq_some_iff.mp hr0).1
        refine ⟨rfl, ?_⟩
        refine ⟨_, rfl, _, rfl, a, _, rfl, .inl (SqL.of (s5 _ _ (t0 _ _ hap2))), rfl, (by rw [lstS_eq]; exact K5.flat_strs _), _, rfl, ?_⟩
        show if (!inV (.str (S r)) (lstS tk)) = true then _ else _
        rw [inS]
        have tk1 : (cands ls).take (i + 1) = (cands ls).take i ++ [r] := by rw [List.take_add_one, hr0]; rfl
        by_cases hm : r ∈ tk
        · rw [decide_eq_true hm]
          refine iteF ⟨s5, ?_⟩
          rw [tk1, List.filter_append, List.filter_cons_of_neg (by rw [decide_eq_true hm]; decide), List.filter_nil, List.append_nil]
          exact h5
        · rw [decide_eq_false hm]
          refine iteT ⟨_, rfl, _, h5, ?_, Same.put s5 hD2, ?_⟩
          · refine lst_short (n := 27) ?_ (by decide)
            refine Nat.le_trans (List.length_filter_le _ _) ?_
            rw [List.length_take]; omega
          · rw [upd_same, lstS_add, tk1, List.filter_append, List.filter_cons_of_pos (by rw [decide_eq_false hm]; rfl), List.filter_nil]
      · rintro H5 ⟨s5, h5⟩
        rw [hcl, List.take_of_length_le (show (cands ls).length ≤ 27 from Nat.le_refl _)] at h5
        have hn := cands_free (m := ls) htk
        cases hL2 : (cands ls).filter fun t => !decide (t ∈ tk) with
        | nil => exact absurd hL2 hn
        | cons r rs =>
          rw [hL2] at h5
          have hr0 : r ∈ cands ls := (List.mem_filter.mp (by rw [hL2]; exact List.mem_cons_self ..)).1
          obtain ⟨r1, r2⟩ := cands_lt l2 r hr0
          have hr1 : r ∉ tk := fun z => by
            have := (List.mem_filter.mp (show r ∈ (cands ls).filter fun t => !decide (t ∈ tk) by rw [hL2]; exact List.mem_cons_self ..)).2
            rw [decide_eq_true z] at this
            cases this
          refine ⟨D2, _, 0, _, rfl, rfl, SqL.of h5, atI_nat (j := 0) rfl, q (S r) H5 ⟨r, rfl, r1, cands_ne (by omega) r hr0, by omega⟩ (fun z => hr1 ?_) (k2.trans (Same.keep (t0.trans s5))) ((p2.same (t0.trans s5)).mono (by omega))⟩
          rw [etk]
          exact List.mem_map.mpr ⟨S r, z, S_cps r⟩
end
end K5S

namespace L2
open PySem PySem.Spec PyProof.Rows
/-- a text many times (twice or more) -/
def mulS (a : Str) (n : Nat) : Str := ⟨(List.replicate n a.cps).foldl (· ++ ·) #[]⟩
def rMulS : R2 := fun x y H Q => ∃ (a : Str) (n : Nat), x = .str a ∧ y = .int n ∧ 2 ≤ n ∧ n ≤ 1000 ∧ 1 ≤ a.length ∧ a.length ≤ 1000 ∧ (mulS a n).length ≤ sizeLine ∧ Q (.str (mulS a n)) H
theorem op_mulS {X : Cx} : OpR X (binaryOp .Mult) rMulS := by
  intro pins s σ H x y v u Q I rx ry h
  obtain ⟨a, n, rfl, rfl, h1, h2, h3, h4, h5, q⟩ := h
  obtain ⟨t, rfl⟩ := rx
  obtain ⟨t2, rfl⟩ := ry
  have hn : ((n : Int) == 1 || a.length == 0) = false := by
    rw [Bool.or_eq_false_iff]
    exact ⟨beq_eq_false_iff_ne.mpr (by omega), beq_eq_false_iff_ne.mpr (by omega)⟩
  refine P.mul_str ?_ (fun _ _ => ?_) (fun _ _ => ?_) ?_
  · rw [decide_eq_false (by omega), decide_eq_false (by omega)]
    rfl
  · intro h
    have n0 : (0 : Int) < (n : Int) := Int.natCast_pos.mpr (Nat.lt_of_lt_of_le (by decide) h1)
    have b : a.length * n ≤ 1000 * 1000 := Nat.mul_le_mul h4 h2
    have c : ((a.length : Int)) * (n : Int) ≤ 1000000 := by
      rw [← Int.natCast_mul]
      exact Int.ofNat_le.mpr b
    have d := Int.lt_mul_of_ediv_lt n0 h
    exact absurd (Int.lt_of_lt_of_le d c) (by decide)
  · show decide _ = false
    refine decide_eq_false ?_
    have : a.length * (n : Int).toNat ≤ 1000 * 1000 := Nat.mul_le_mul h4 (by omega)
    have h6 : (1000 * 1000 : Nat) ≤ sizeLine := by decide
    omega
  · rw [if_neg (by omega), if_neg (by rw [hn]; decide), Int.toNat_natCast]
    exact ⟨h5, .str (mulS a n), H, I.tok _, ⟨_, rfl⟩, q⟩
end L2

namespace K5
open PySem L2
open K5S (Wd)
abbrev sWords : Stmt := top 27
/-! the heap but for the pool -/
def hid (a : Addr) (H : Hp) : Hp := fun b => if b = a then none else H b
theorem hid_ne {a b : Addr} {H : Hp} (n : b ≠ a) : hid a H b = H b := if_neg n
theorem hid_at {a b : Addr} {H : Hp} {o : HO} (h : hid a H b = some o) : b ≠ a ∧ H b = some o := by
  unfold hid at h
  by_cases c : b = a
  · rw [if_pos c] at h
    cases h
  · rw [if_neg c] at h
    exact ⟨c, h⟩
theorem hid_sub (a : Addr) (H : Hp) : Same (hid a H) H := fun _ _ h => (hid_at h).2
theorem hid_keep {p : Addr} {H H' : Hp} (k : Keep p H H') : Same (hid p H) (hid p H') := fun b o h => by
  obtain ⟨n, e⟩ := hid_at h
  rw [hid_ne n]
  exact k _ _ n e
theorem hid_same {p : Addr} {H H' : Hp} (s : Same H H') : Same (hid p H) (hid p H') := hid_keep fun b o _ e => s b o e
theorem pool_some {H : Hp} {p : Addr} {c : Nat} (h : Pool H p c) : H p ≠ none := by
  obtain ⟨g, m, k, e, _⟩ := h
  rw [e]
  exact fun q => nomatch q
theorem some_same {p : Addr} {H H' : Hp} (h : H p ≠ none) (s : Same H H') : H' p ≠ none := by
  cases e : H p with
  | none => exact absurd e h
  | some o => rw [s _ _ e]; exact fun q => nomatch q
theorem pe_weak {X : Cx} {e : Expr} {t t' : TE} (h : PE X e t) (w : ∀ σ H Q, t' σ H Q → t σ H Q) : PE X e t' := ⟨fun pins s σ H Q I q => h.run pins s σ H Q I (w σ H Q q)⟩
theorem pa_weak {X : Cx} {es : List Expr} {t t' : TA} (h : PA X es t) (w : ∀ σ H Q, t' σ H Q → t σ H Q) : PA X es t' := ⟨fun p pins s σ H Q I q => h.run p pins s σ H Q I (w σ H Q q)⟩
/-! words -/
theorem wd_all {z : Str} (h : Wd z) : inAll z cLetters = true := by
  obtain ⟨r, rfl, h1, h2, h3⟩ := h
  unfold inAll
  rw [K5S.S_len, K5S.S_cps, decide_eq_true h2, decide_eq_true h3, Bool.true_and, Bool.true_and, List.all_eq_true]
  intro c hc
  have l := List.all_eq_true.mp h1 c hc
  have e : cLetters.cps.toList = K5S.abc := by decide +kernel
  rw [e]
  unfold K5S.lt at l
  rw [Bool.and_eq_true] at l
  have a1 := of_decide_eq_true l.1
  have a2 := of_decide_eq_true l.2
  refine decide_eq_true ?_
  have : c ∈ List.range' 97 26 := List.mem_range'.mpr ⟨c - 97, by omega, by omega⟩
  exact this
theorem wd_len {z : Str} (h : Wd z) : 1 ≤ z.length ∧ z.length ≤ 12 := by
  obtain ⟨r, rfl, h1, h2, h3⟩ := h
  rw [K5S.S_len]
  exact ⟨h2, h3⟩
theorem lt_ok {r : List Nat} (h : r.all K5S.lt = true) : PyData.strOk (K5S.S r) = true := by
  unfold PyData.strOk
  rw [← Array.all_toList, K5S.S_cps, List.all_eq_true]
  intro c hc
  have l := List.all_eq_true.mp h c hc
  unfold K5S.lt at l
  rw [Bool.and_eq_true] at l
  have a2 := of_decide_eq_true l.2
  exact decide_eq_true (by omega)
theorem wd_ok {z : Str} (h : Wd z) : PyData.strOk z = true := by
  obtain ⟨r, rfl, h1, h2, h3⟩ := h
  exact lt_ok h1
theorem wd_lenD {z : Str} (h : Wd z) : lenD (.str z) = true := lenD_of (Nat.le_trans (wd_len h).2 (by decide)) (wd_ok h)
theorem wd_word {z : Str} (h : Wd z) : wordD (.str z) = true := wd_all h
def spWords : Sp := fun vs H Q _ => ∃ (p : Addr) (c : Nat) (a : Addr) (n : Nat) (tk : List Str), vs = [.ref p, .int n, .ref a] ∧ Pool H p c ∧ c ≤ 700000 ∧ H a = some (.lst (tk.map V.str)) ∧ a ≠ p ∧ n ≤ 12 ∧ tk.length ≤ 14 ∧
  ∀ (D : Addr) (ws : List Str) (H' : Hp), H D = none → H' D = some (.lst (ws.map V.str)) → ws.length = n → (∀ z ∈ ws, Wd z ∧ z ∉ tk) → ws.Nodup → Keep p H H' → Pool H' p (c + 12 * n) → Q (.ref D) H'
/-- letters and blanks alone -/
def plainB (z : Str) : Bool := z.cps.toList.all fun c => decide (97 ≤ c ∧ c ≤ 122) || decide (c = 32)
def okS (z : Str) : Bool := PyData.strOk z && plainB z
theorem okS_str {z : Str} (h : okS z = true) : PyData.strOk z = true := (Bool.and_eq_true_iff.mp h).1
theorem okS_plain {z : Str} (h : okS z = true) : plainB z = true := (Bool.and_eq_true_iff.mp h).2
theorem wd_plain {z : Str} (h : Wd z) : plainB z = true := by
  obtain ⟨r, rfl, h1, h2, h3⟩ := h
  unfold plainB
  rw [K5S.S_cps, List.all_eq_true]
  intro c hc
  have l := List.all_eq_true.mp h1 c hc
  unfold K5S.lt at l
  rw [Bool.and_eq_true] at l
  have a1 := of_decide_eq_true l.1
  have a2 := of_decide_eq_true l.2
  rw [Bool.or_eq_true]
  exact .inl (decide_eq_true ⟨by omega, by omega⟩)
theorem wd_okS {z : Str} (h : Wd z) : okS z = true := Bool.and_eq_true_iff.mpr ⟨wd_ok h, wd_plain h⟩
section
variable {P : Program} {w : World} {K : PySem.W.Frag} {mg : Str → Option Value} {base : Heap}
abbrev nWords : List Str := ["_law_pool_here", "_law_many", "_law_taken", "_law_found", "_law_k"]
theorem scWords : FnScope nWords ["_law_pool_here", "_law_many", "_law_taken"] (defScope sWords) := ⟨rfl, rfl, rfl, by decide +kernel, rfl, by decide +kernel, by decide +kernel⟩
theorem ok_words {f : Addr} {fd : FuncData} (F : Fun K "_law_words" "_law_words" sWords f fd) (T : Bare mg) (GW : Fn P w K mg base 2 "_law_word" ["_law_pool_here", "_law_taken"] K5S.spLawWord) :
    FnOk P w K mg base CX0 3 f fd ["_law_pool_here", "_law_many", "_law_taken"] spWords := by
  refine F.ok scWords (fun vs H Q E h => ?_) (fun cdv A outer s H vs Q E hr h => ?_)
  · obtain ⟨p, c, a, n, tk, rfl, _⟩ := h
    rfl
  · obtain ⟨p, c, a, n, tk, rfl, hp, hc, ha, hap, hn, htk, q⟩ := h
    refine ⟨_, pss_cons (ps_set (i := 3) scWords.nd rfl (.inl rfl) (pe_lst pa_nil))
      (pss_cons (ps_for PassesOwn.never rfl (pi_range1 (by rfl) T.range (pa_cons (pv 1) pa_nil)) (pg_name (i := 4) scWords.nd rfl (.inl rfl))
        (pss_one (ps_expr (pe_bm PySem.F.plainAttrs_list PySem.F.slot_list_append PySem.F.type_list_append mt_append (pv 3) (pa_cons (pe_fn GW hr rfl (pa_cons (pv 0) (pa_cons (pe_op op_cat (pv 2) (pv 3)) pa_nil))) pa_nil)))))
      (pss_one (ps_ret (pv 3)))), ?_⟩
    refine ⟨Nat.zero_le _, fun D hD => ⟨_, rfl, n, rfl, by omega, by omega, for_range (lo := 0) (n := n) (fun i σ H' => ∃ (v : Option V) (ws : List Str), σ = [some (.ref p), some (.int n), some (.ref a), some (.ref D), v] ∧ ws.length = i ∧ (∀ z ∈ ws, Wd z ∧ z ∉ tk) ∧ ws.Nodup ∧ H' D = some (.lst (ws.map V.str)) ∧ Keep p H H' ∧ Pool H' p (c + 12 * i))
      ⟨none, [], rfl, rfl, fun _ h => (nomatch h), .nil, upd_same, (Keep.refl p H).new hD, hp.new hD⟩ ?_ ?_⟩⟩
    · rintro i σ H1 hi ⟨v, ws, rfl, ht, hty, hnd, h1, k1, p1⟩
      have hDp : D ≠ p := pool_ne hp hD
      have hDa : a ≠ D := ne_of_none ha hD
      have ha1 := k1 _ _ hap ha
      refine ⟨_, rfl, .inl ⟨rfl, _, SqL.of h1⟩, _, rfl, _, rfl, _, rfl, a, D, _, _, rfl, rfl, ha1, h1, ?_, fun L hL => ?_⟩
      · rw [List.length_map, List.length_map]
        exact line_ge (by omega)
      refine ⟨p, c + 12 * i, L, tk ++ ws, rfl, p1.new hL, by omega, by rw [upd_same, List.map_append], pool_ne p1 hL, by rw [List.length_append]; omega, fun z H2 r1 r2 k2 p2 => ?_⟩
      have h2 : H2 D = some (.lst (ws.map V.str)) := k2 _ _ hDp (by rw [upd_ne (ne_of_none h1 hL)]; exact h1)
      have r3 : z ∉ tk ∧ z ∉ ws := ⟨fun h => r2 (List.mem_append_left _ h), fun h => r2 (List.mem_append_right _ h)⟩
      refine ⟨D, _, _, rfl, rfl, h2, by rw [List.length_map]; exact Nat.lt_of_lt_of_le (show ws.length < 1000 by omega) (by decide), _, ws ++ [z], rfl, by simp [ht], ?_, ?_, by rw [upd_same, List.map_append]; rfl, ?_, (p2.other (Ne.symm hDp)).mono (by omega)⟩
      · intro x hx
        rcases List.mem_append.mp hx with hx | hx
        · exact hty x hx
        · rw [List.mem_singleton.mp hx]; exact ⟨r1, r3.1⟩
      · rw [List.nodup_append]
        exact ⟨hnd, by simp, fun a ha b hb => by rw [List.mem_singleton.mp hb]; exact fun e => r3.2 (e ▸ ha)⟩
      · intro b o n e
        rw [upd_ne (ne_of_none e hD)]
        exact ((k1.new hL).trans k2) b o n e
    · rintro σ H1 ⟨v, ws, rfl, ht, hty, hnd, h1, k1, p1⟩
      exact ⟨_, rfl, q D ws H1 hD h1 ht hty hnd k1 p1⟩
end
end K5

/-! f-strings with a width -/
namespace PySem.W
open PySem PySem.Calls PyProof.Rows Builtin Builtin.Str
theorem strSub_all (x : PySem.Str) : strSub x 0 x.length = x := by
  unfold strSub
  simp [PySem.Str.length]
abbrev fW (W : Nat) : Float.FormatSpec := { align := 60, width := some W }
theorem strField_w (x : PySem.Str) (W : Nat) (nm : String) : strField x (fW W) nm = .ok (if W ≤ x.length then none else some (padded x 0 (W - x.length) 32)) := by
  unfold strField
  have e : strSub x 0 x.length = x := strSub_all x
  by_cases h : W ≤ x.length
  · simp [fW, h, bind, Except.bind, pure, Except.pure]
  · simp [fW, h, bind, Except.bind, pure, Except.pure, e]
theorem str_fmt_meets {x sp : PySem.Str} {t : Tok} {W : Nat} (hne : ¬ (sp.length == 0) = true) (hasc : ¬ ((sp.cps.toList.drop 1).any (· ≥ 128) || (sp.cps.getD 0 0 ≥ 128 && !([60, 62, 61, 94] : List Nat).contains (sp.cps.getD 1 0))) = true)
    (hp : ∀ name, Float.parseFormatSpec sp.cps.toList name 60 = .ok (fW W)) (hb : (sp.cps.back? == some 0) = false) (hw : W ≤ 1000) (hx : x.length ≤ 1000) :
    ∀ u, Meets («str.__format__» ⟨[.str x t, .str sp u], []⟩) (fun _ R s => ∀ t' k, R (.ok (.ret (.str (Txt.ljust x W) t'))) { s with toks := k }) := by
  intro u
  apply KPc.meets_of
  intro prog w A s1 R hh h
  unfold Builtin.«str.__format__»
  refine wpAny_bind (wpAny_of_eq (a := (_, _, _)) rfl ?_)
  refine wpAny_bind (wpAny_of_eq (a := some _) rfl ?_)
  refine wpAny_ite (KPc.ite_no hne ?_)
  refine wpAny_ite (KPc.ite_no hasc ?_)
  refine wpAny_bind (KXf.cut_str ?_)
  have tl : tooLong W = false := by
    unfold tooLong
    exact decide_eq_false (fun z => absurd (show sizeLine < W from z) (Nat.not_lt.mpr (Nat.le_trans hw (by decide))))
  rw [hp]
  dsimp only [bind, Except.bind, fW, Option.isNone, Option.getD]
  have sf := strField_w x W "str"
  simp only [hb, Bool.and_false, Bool.false_eq_true, if_false, tl]
  rw [show strField x { align := 60, width := some W } "str" = _ from sf]
  dsimp only [pure, Except.pure]
  by_cases c : W ≤ x.length
  · rw [if_pos c]
    have e : Txt.ljust x W = x := by unfold Txt.ljust; rw [if_pos (by exact_mod_cast c)]
    rw [e] at h
    exact wpAny_bind (wpAny_rule (KXf.ret_same rfl h))
  · rw [if_neg c]
    have e : Txt.ljust x W = padded x 0 (W - x.length) 32 := by unfold Txt.ljust; rw [if_neg (by exact_mod_cast c), Int.toNat_natCast]
    rw [e] at h
    refine KXf.ret_text rfl ?_ h
    show (padded x 0 (W - x.length) 32).cps.size ≤ sizeLine
    unfold padded
    rw [Array.size_append, Array.size_append, Array.size_replicate, Array.size_replicate]
    have : x.cps.size ≤ 1000 := hx
    exact Nat.le_trans (show _ ≤ 2000 by omega) (by decide)
/-- the spec, its width -/
def SpecW (sp : PySem.Str) (W : Nat) : Prop := (sp = "<8" ∧ W = 8) ∨ (sp = "<13" ∧ W = 13)
theorem field_w {prog : Program} {w : World} {A : Around} {E : Value → Shared → Prop} {s : Shared} {x sp : PySem.Str} {t : Tok} {W : Nat} {Q : Value → Shared → Prop} (h : SpecW sp W) (hx : x.length ≤ 1000) (q : ∀ t' k, Q (.str (Txt.ljust x W) t') { s with toks := k }) : wpAny (model prog w) A (formatField (.str x t) sp) Q E s := by
  rcases h with ⟨rfl, rfl⟩ | ⟨rfl, rfl⟩
  · exact KXf.field_str rfl rfl (by decide +kernel) (by decide +kernel) (str_fmt_meets (by decide +kernel) (by decide +kernel) (fun _ => by rfl) (by decide +kernel) (by decide) hx) q
  · exact KXf.field_str rfl rfl (by decide +kernel) (by decide +kernel) (str_fmt_meets (by decide +kernel) (by decide +kernel) (fun _ => by rfl) (by decide +kernel) (by decide) hx) q
theorem field_i {prog : Program} {w : World} {A : Around} {E : Value → Shared → Prop} {s : Shared} {i : Int} {t : Tok} {Q : Value → Shared → Prop} (h : i = 0 ∨ i = 1 ∨ i = 2) (q : ∀ t' k, Q (.str (Txt.ljust (toString i) 2) t') { s with toks := k }) : wpAny (model prog w) A (formatField (.int i t) ("<2" : PySem.Str)) Q E s := by
  have e0 : Txt.ljust (toString (0 : Int)) 2 = ⟨#[48, 32]⟩ := by decide +kernel
  have e1 : Txt.ljust (toString (1 : Int)) 2 = ⟨#[49, 32]⟩ := by decide +kernel
  have e2 : Txt.ljust (toString (2 : Int)) 2 = ⟨#[50, 32]⟩ := by decide +kernel
  rcases h with rfl | rfl | rfl
  · rw [e0] at q
    exact KXf.field_int rfl (by decide +kernel) (by decide +kernel) (by kxf_run_i) q
  · rw [e1] at q
    exact KXf.field_int rfl (by decide +kernel) (by decide +kernel) (by kxf_run_i) q
  · rw [e2] at q
    exact KXf.field_int rfl (by decide +kernel) (by decide +kernel) (by kxf_run_i) q
end PySem.W
namespace L2
open PySem PySem.Spec PyProof.Rows
section
variable {X : Cx}
/-- {x:<8}, {x:<13} -/
def tFmtW (te ts : TE) : TE := fun σ H Q => te σ H fun x H1 => ts σ H1 fun y H2 => ∃ (z sp : Str) (W : Nat), x = .str z ∧ y = .str sp ∧ PySem.W.SpecW sp W ∧ z.length ≤ 1000 ∧ Q (.str (Txt.ljust z W)) H2
theorem pe_fmtW {e sp : Expr} {te ts : TE} {pos : Pos} (he : PE X e te) (hs : PE X sp ts) : PE X (.FormattedValue e (-1) (some sp) pos) (tFmtW te ts) := by
  refine ⟨fun pins s σ H Q I h => ?_⟩
  refine wpAny_FormattedValue_spec (thn (he.run pins s σ H _ I h) fun v s1 ⟨x, H1, I1, r1, q1⟩ => thn (hs.run pins s1 σ H1 _ I1 q1) fun u s2 ⟨y, H2, I2, r2, z, sp, W, e1, e2, hw, hz, q⟩ => ?_)
  subst e1
  subst e2
  obtain ⟨t1, rfl⟩ := r1
  obtain ⟨t2, rfl⟩ := r2
  exact ⟨sp, t2, rfl, PySem.W.field_w hw hz fun t' k => ⟨.str (Txt.ljust z W), H2, I2.tok k, ⟨t', rfl⟩, q⟩⟩
/-- {x:<2} of a digit -/
def tFmtI (te ts : TE) : TE := fun σ H Q => te σ H fun x H1 => ts σ H1 fun y H2 => ∃ i : Int, x = .int i ∧ y = .str "<2" ∧ (i = 0 ∨ i = 1 ∨ i = 2) ∧ Q (.str (Txt.ljust (toString i) 2)) H2
theorem pe_fmtI {e sp : Expr} {te ts : TE} {pos : Pos} (he : PE X e te) (hs : PE X sp ts) : PE X (.FormattedValue e (-1) (some sp) pos) (tFmtI te ts) := by
  refine ⟨fun pins s σ H Q I h => ?_⟩
  refine wpAny_FormattedValue_spec (thn (he.run pins s σ H _ I h) fun v s1 ⟨x, H1, I1, r1, q1⟩ => thn (hs.run pins s1 σ H1 _ I1 q1) fun u s2 ⟨y, H2, I2, r2, i, e1, e2, hi, q⟩ => ?_)
  subst e1
  subst e2
  obtain ⟨t1, rfl⟩ := r1
  obtain ⟨t2, rfl⟩ := r2
  exact ⟨_, t2, rfl, PySem.W.field_i hi fun t' k => ⟨.str (Txt.ljust (toString i) 2), H2, I2.tok k, ⟨t', rfl⟩, q⟩⟩
end
end L2

/-! pages of fates: mathematics -/
namespace K5
open PySem L2 Builtin Builtin.Str PyProof.Rows
open K5S (S S_cps S_len S_inj)
/-- without the blanks on the right -/
def rs (l : List Nat) : List Nat := (l.reverse.dropWhile (· == 32)).reverse
/-- with blanks on the right up to w -/
def pad (w : Nat) (l : List Nat) : List Nat := l ++ List.replicate (w - l.length) 32
theorem tw_blank (l : List Nat) : l.takeWhile (· == 32) = List.replicate (l.takeWhile (· == 32)).length 32 := by
  induction l with
  | nil => rfl
  | cons c l ih =>
    rw [List.takeWhile_cons]
    split
    · rename_i h
      have e : c = 32 := by simpa using h
      rw [e, List.length_cons, List.replicate_succ, ← ih]
    · rfl
theorem rs_split (l : List Nat) : l = rs l ++ List.replicate (l.length - (rs l).length) 32 := by
  have h1 : l = rs l ++ (l.reverse.takeWhile (· == 32)).reverse := by
    unfold rs
    rw [← List.reverse_append, List.takeWhile_append_dropWhile, List.reverse_reverse]
  have h2 : (l.reverse.takeWhile (· == 32)).length = l.length - (rs l).length := by
    have := congrArg List.length h1
    rw [List.length_append, List.length_reverse] at this
    omega
  have h3 : (l.reverse.takeWhile (· == 32)).reverse = List.replicate (l.length - (rs l).length) 32 := by
    rw [tw_blank l.reverse, List.reverse_replicate, h2]
  rw [h3] at h1
  exact h1
theorem rs_len (l : List Nat) : (rs l).length ≤ l.length := by
  have := congrArg List.length (rs_split l)
  rw [List.length_append] at this
  omega
theorem pad_len {w : Nat} {l : List Nat} (h : l.length ≤ w) : (pad w l).length = w := by
  unfold pad
  rw [List.length_append, List.length_replicate]
  omega
theorem pad_rs {w : Nat} {l : List Nat} (h : l.length ≤ w) : pad w (rs l) = l ↔ l.length = w := by
  constructor
  · intro e
    rw [← e, pad_len (Nat.le_trans (rs_len l) h)]
  · intro e
    rw [← e]
    exact (rs_split l).symm
theorem rs_blanks (l : List Nat) (m : Nat) : rs (l ++ List.replicate m 32) = rs l := by
  unfold rs
  rw [List.reverse_append, List.reverse_replicate]
  congr 1
  induction m with
  | zero => rfl
  | succ m ih => rw [List.replicate_succ, List.cons_append, List.dropWhile_cons]; exact ih
theorem rs_self {l : List Nat} {c : Nat} (h : c ≠ 32) : rs (l ++ [c]) = l ++ [c] := by
  unfold rs
  rw [List.reverse_append, List.reverse_singleton, List.singleton_append, List.dropWhile_cons, if_neg (by simpa using h), List.reverse_cons, List.reverse_reverse]
theorem rs_free {l : List Nat} (h : ∀ c ∈ l, c ≠ 32) : rs l = l := by
  rcases List.eq_nil_or_concat l with rfl | ⟨m, c, rfl⟩
  · rfl
  · rw [List.concat_eq_append] at h ⊢
    exact rs_self (h c (by simp))
theorem rs_pad {w : Nat} {l : List Nat} (h : ∀ c ∈ l, c ≠ 32) : rs (pad w l) = l := by
  unfold pad
  rw [rs_blanks, rs_free h]
theorem rs_take (l : List Nat) : rs l = l.take (l.length - (l.reverse.takeWhile (· == 32)).length) := by
  have h1 : l = rs l ++ (l.reverse.takeWhile (· == 32)).reverse := by
    unfold rs
    rw [← List.reverse_append, List.takeWhile_append_dropWhile, List.reverse_reverse]
  have h2 : (rs l).length = l.length - (l.reverse.takeWhile (· == 32)).length := by
    have := congrArg List.length h1
    rw [List.length_append, List.length_reverse] at this
    omega
  rw [← h2]
  generalize rs l = m at h1
  rw [h1, List.take_left]
theorem rstrip_S (l : List Nat) : Txt.rstripChars (S l) " " = S (rs l) := by
  have hc : (" " : Str).cps.contains = fun c => c == 32 := by
    funext c
    show (#[32] : Array Nat).contains c = _
    simp [Array.contains]
  have e3 : PySem.stripHi (fun c => c == 32) true (S l) 0 = l.length - (l.reverse.takeWhile (· == 32)).length := by
    unfold PySem.stripHi
    rw [if_pos rfl, S_len, S_cps, List.drop_zero]
  have e0 : PySem.stripLo (fun c => c == 32) false (S l) = 0 := rfl
  unfold Txt.rstripChars Txt.stripBy stripSame stripped
  rw [hc, e0, e3, S_len, rs_take]
  split
  · rename_i h
    have : l.length - (l.reverse.takeWhile (· == 32)).length = l.length := by simpa using h
    rw [this, List.take_of_length_le (Nat.le_refl _)]
  · refine TL.ext_tl ?_
    show (strSub (S l) 0 (l.length - (l.reverse.takeWhile (· == 32)).length)).cps.toList = (S (l.take _)).cps.toList
    rw [S_cps]
    unfold strSub
    simp [S]
theorem ljust_S {w : Nat} (l : List Nat) : Txt.ljust (S l) (w : Int) = S (pad w l) := by
  unfold Txt.ljust
  rw [S_len]
  split
  · rename_i h
    have : w - l.length = 0 := by omega
    unfold pad
    rw [this]
    simp
  · rename_i h
    refine TL.ext_tl ?_
    show (Builtin.Str.padded (S l) 0 ((w : Int).toNat - l.length) 32).cps.toList = (S (pad w l)).cps.toList
    rw [S_cps]
    unfold Builtin.Str.padded pad
    simp [S]
theorem strike_S (l : List Nat) : Txt.replace (S l) " " "" = S (l.filter (· != 32)) := by
  refine TL.ext_tl ?_
  have h := PyProof.Rows.replace_strikes (S l) 32
  have e1 : (" " : Str) = ⟨#[32]⟩ := by decide +kernel
  have e2 : ("" : Str) = ⟨#[]⟩ := by decide +kernel
  rw [e1, e2]
  show (Txt.replace (S l) ⟨#[32]⟩ ⟨#[]⟩).cps.toList = (S (l.filter (· != 32))).cps.toList
  rw [S_cps]
  rw [h, S_cps]
/-- slices -/
theorem cut_S {l : List Nat} {a b : Nat} (h : a ≤ b) : cutS (S l) (some (a : Int)) (some (b : Int)) = S ((l.drop a).take (b - a)) := by
  unfold cutS
  rw [HT.sIx_nat, HT.sIx_nat, S_cps, S_len]
  show S _ = S _
  congr 1
  by_cases ha : a ≤ l.length
  · rw [Nat.min_eq_left ha, List.take_eq_take_iff, List.length_drop]
    omega
  · rw [List.drop_eq_nil_of_le (by omega), List.drop_eq_nil_of_le (by omega), List.take_nil, List.take_nil]
theorem cut_to {l : List Nat} {b : Nat} : cutS (S l) none (some (b : Int)) = S (l.take b) := by
  unfold cutS
  rw [HT.sIx_nat, S_cps, S_len]
  show S ((l.drop 0).take (min b l.length - 0)) = _
  rw [List.drop_zero, Nat.sub_zero]
  congr 1
  rw [List.take_eq_take_iff]
  omega
theorem cut_from {l : List Nat} {a : Nat} : cutS (S l) (some (a : Int)) none = S (l.drop a) := by
  unfold cutS
  rw [HT.sIx_nat, S_cps, S_len]
  show S ((l.drop (min a l.length)).take (l.length - min a l.length)) = _
  congr 1
  rw [List.take_of_length_le (by rw [List.length_drop]; omega)]
  by_cases h : a ≤ l.length
  · rw [Nat.min_eq_left h]
  · rw [Nat.min_eq_right (by omega), List.drop_eq_nil_of_le (Nat.le_refl _), List.drop_eq_nil_of_le (by omega)]
theorem cut_last {l : List Nat} : cutS (S l) none (some (-1)) = S (l.take (l.length - 1)) := by
  unfold cutS
  rw [S_cps, S_len]
  show S ((l.drop 0).take ((-1 + (l.length : Int)).toNat - 0)) = _
  rw [List.drop_zero, Nat.sub_zero]
  congr 2
  omega
end K5

/-! pages of fates: lines, right and wrong -/
namespace K5
open PySem L2 Builtin Builtin.Str PyProof.Rows
open K5S (S S_cps S_len S_inj S_app lt)
def kc : List (List Nat) := [[108, 101, 102, 116], [100, 111, 117, 98, 108, 101, 100], [115, 119, 97, 112, 112, 101, 100], [119, 114, 105, 116, 116, 101, 110]]
def lc : List (List Nat) := [[48], [49], [50]]
def rc : List (List Nat) := [[110, 97, 109, 101], [101, 113, 117, 97, 108, 115], [119, 111, 114, 100], [110, 117, 109, 98, 101, 114], [111, 112, 101, 110], [105, 116, 101, 109], [99, 111, 109, 109, 97], [99, 108, 111, 115, 101], [101, 110, 100]]
def fatesS : List Str := ["reader", "schema", "joining", "builder", "same", "more", "less"]
def kindsS : List Str := ["left", "doubled", "swapped", "written"]
def layersS : List Str := ["0", "1", "2"]
def rolesS : List Str := ["name", "equals", "word", "number", "open", "item", "comma", "close", "end"]
theorem kinds_S : kindsS = kc.map S := by decide +kernel
theorem layers_S : layersS = lc.map S := by decide +kernel
theorem roles_S : rolesS = rc.map S := by decide +kernel

def subs {α : Type} : List α → List (List α)
  | [] => [[]]
  | a :: l => subs l ++ (subs l).map (a :: ·)
theorem mem_subs {α : Type} {l m : List α} (h : l.Sublist m) : l ∈ subs m := by
  induction h with
  | slnil => exact List.mem_singleton.mpr rfl
  | cons a _ ih => exact List.mem_append_left _ ih
  | cons_cons a _ ih => exact List.mem_append_right _ (List.mem_map.mpr ⟨_, ih, rfl⟩)
/-- fates as a page has them -/
def FtOk (fs : List Str) : Prop := fs ∈ subs fatesS ∧ fs ≠ []
def goodW (ws : List Str) : Bool := ws.all (fun w => decide (w ∈ fatesS)) && decide (fatesS.filter (fun f => decide (f ∈ ws)) = ws)
def cutW (c : List Nat) : List Str := Txt.split (S c) ", "
def tailF (fs : List Str) : List Nat := (Txt.join ", " fs).cps.toList
theorem tail_S (fs : List Str) : S (tailF fs) = Txt.join ", " fs := K5S.S_of _
theorem all_ft {p : List Str → Bool} (h : (subs fatesS).all (fun fs => fs.isEmpty || p fs) = true) {fs : List Str} (ok : FtOk fs) : p fs = true := by
  have h1 := List.all_eq_true.mp h fs ok.1
  cases fs with
  | nil => exact absurd rfl ok.2
  | cons a l => exact h1
theorem ft_cut {fs : List Str} (ok : FtOk fs) : cutW (tailF fs) = fs := by
  have h := all_ft (p := fun fs => decide (cutW (tailF fs) = fs)) (by decide +kernel) ok
  exact of_decide_eq_true h
theorem ft_good {fs : List Str} (ok : FtOk fs) : goodW fs = true := all_ft (p := goodW) (by decide +kernel) ok
theorem cut_join (c : List Nat) : Str.join ", " (cutW c) = S c := StrLaws.join_split (S c) ", "
theorem cut_ne (c : List Nat) : cutW c = [] → c = [] := fun h => by
  have := cut_join c
  rw [h] at this
  have e : S c = S [] := this.symm.trans K5S.str_none
  exact S_inj e
def joinL (fs : List Str) : List Nat := (Str.join ", " fs).cps.toList
theorem ft_back {c : List Nat} (hc : c ≠ []) (h : goodW (cutW c) = true) : ∃ fs, FtOk fs ∧ c = joinL fs := by
  unfold goodW at h
  rw [Bool.and_eq_true] at h
  refine ⟨cutW c, ⟨?_, fun z => hc (cut_ne c z)⟩, ?_⟩
  · rw [← of_decide_eq_true h.2]
    exact mem_subs List.filter_sublist
  · unfold joinL
    rw [cut_join, S_cps]
theorem ft_never {c : List Nat} (hc : c ≠ []) (h : (subs fatesS).all (fun fs => fs.isEmpty || !decide (joinL fs = c)) = true) : goodW (cutW c) = false := by
  cases e : goodW (cutW c) with
  | false => rfl
  | true =>
    obtain ⟨fs, ok, rfl⟩ := ft_back hc e
    have := all_ft (p := fun fs' => !decide (joinL fs' = joinL fs)) h ok
    simp at this
def lastIn (l : List Nat) : Bool := match l.getLast? with | some c => lt c | none => false
theorem ft_last {c : List Nat} (hc : c ≠ []) (h : lastIn c = false) : goodW (cutW c) = false := by
  cases e : goodW (cutW c) with
  | false => rfl
  | true =>
    obtain ⟨fs, ok, rfl⟩ := ft_back hc e
    have := all_ft (p := fun fs' => lastIn (joinL fs')) (by decide +kernel) ok
    rw [h] at this
    cases this
theorem ft_odd (l : List Nat) {x : List Nat} (hx : x ∈ [[32], [44], [44, 32], [10]]) : goodW (cutW (l ++ x)) = false := by
  refine ft_last (fun z => ?_) ?_
  · have := (List.append_eq_nil_iff.mp z).2
    rw [this] at hx
    exact absurd hx (by decide)
  · have h1 : ∀ x ∈ [[32], [44], [44, 32], [10]], ∃ y ys, x = ys ++ [y] ∧ lt y = false := by
      intro x hx
      simp only [List.mem_cons, List.not_mem_nil, or_false] at hx
      rcases hx with rfl | rfl | rfl | rfl
      · exact ⟨32, [], rfl, by decide⟩
      · exact ⟨44, [], rfl, by decide⟩
      · exact ⟨32, [44], rfl, by decide⟩
      · exact ⟨10, [], rfl, by decide⟩
    obtain ⟨y, ys, rfl, hy⟩ := h1 x hx
    unfold lastIn
    rw [← List.append_assoc, List.getLast?_concat]
    exact hy
theorem ft_none : goodW (cutW []) = false := by decide +kernel
theorem ft_len {fs : List Str} (ok : FtOk fs) : (tailF fs).length ≤ 60 := by
  have h := all_ft (p := fun fs => decide ((tailF fs).length ≤ 60)) (by decide +kernel) ok
  exact of_decide_eq_true h
theorem ft_twice : ∀ f ∈ fatesS, goodW (cutW (f.cps.toList ++ ([44, 32] ++ f.cps.toList))) = false := by
  have h : fatesS.all (fun f => (subs fatesS).all (fun fs => fs.isEmpty || !decide (joinL fs = f.cps.toList ++ ([44, 32] ++ f.cps.toList)))) = true := by decide +kernel
  intro f hf
  refine ft_never (fun z => ?_) (List.all_eq_true.mp h f hf)
  have := (List.append_eq_nil_iff.mp (List.append_eq_nil_iff.mp z).2).1
  cases this
theorem ft_first : ∀ f ∈ fatesS, ∃ c r, f.cps.toList = c :: r ∧ c ≠ 32 := by
  have h : fatesS.all (fun f => match f.cps.toList with | [] => false | c :: _ => c != 32) = true := by decide +kernel
  intro f hf
  have h1 := List.all_eq_true.mp h f hf
  revert h1
  cases f.cps.toList with
  | nil => intro h1; cases h1
  | cons c r => intro h1; exact ⟨c, r, rfl, by simpa using h1⟩
theorem ft_mem {fs : List Str} (ok : FtOk fs) : ∀ f ∈ fs, f ∈ fatesS := by
  intro f hf
  have h := ft_good ok
  unfold goodW at h
  rw [Bool.and_eq_true] at h
  exact of_decide_eq_true (List.all_eq_true.mp h.1 f hf)
/-- a place: kind, layer, role, name -/
abbrev Pl := Nat × Nat × Nat × List Nat
structure PlOk (p : Pl) : Prop where
  k : p.1 < 4
  l : p.2.1 < 3
  r : p.2.2.1 < 9
  n : p.2.2.2 = [] ∨ (p.2.2.2.all lt = true ∧ 1 ≤ p.2.2.2.length ∧ p.2.2.2.length ≤ 12)
theorem PlOk.short {p : Pl} (ok : PlOk p) : p.2.2.2.length ≤ 12 := by
  rcases ok.n with h | h
  · rw [h]; exact Nat.zero_le _
  · exact h.2.2
theorem PlOk.free {p : Pl} (ok : PlOk p) : ∀ c ∈ p.2.2.2, c ≠ 32 := by
  intro c hc
  rcases ok.n with h | h
  · rw [h] at hc; cases hc
  · have := List.all_eq_true.mp h.1 c hc
    intro e
    subst e
    exact absurd this (by decide)
def kcd (k : Nat) : List Nat := kc.getD k []
def rcd (r : Nat) : List Nat := rc.getD r []
def pk (p : Pl) : List Nat := pad 8 (kcd p.1)
def pl (p : Pl) : List Nat := [48 + p.2.1, 32]
def pr (p : Pl) : List Nat := pad 8 (rcd p.2.2.1)
def pn (p : Pl) : List Nat := pad 13 p.2.2.2
def headL (p : Pl) : List Nat := pk p ++ (pl p ++ (pr p ++ pn p))
def lineL (p : Pl) (fs : List Str) : List Nat := headL p ++ tailF fs
theorem pk_len {p : Pl} (ok : PlOk p) : (pk p).length = 8 := by
  have h : ∀ k, k < 4 → (pad 8 (kcd k)).length = 8 := by decide
  exact h _ ok.k
theorem pr_len {p : Pl} (ok : PlOk p) : (pr p).length = 8 := by
  have h : ∀ k, k < 9 → (pad 8 (rcd k)).length = 8 := by decide
  exact h _ ok.r
theorem pn_len {p : Pl} (ok : PlOk p) : (pn p).length = 13 := pad_len (Nat.le_trans ok.short (by decide))
theorem head_len {p : Pl} (ok : PlOk p) : (headL p).length = 31 := by
  unfold headL
  simp only [List.length_append, pk_len ok, pr_len ok, pn_len ok]
  rfl
def kf (c : List Nat) : List Nat := rs (c.take 8)
def lf (c : List Nat) : List Nat := rs ((c.drop 8).take 2)
def rf (c : List Nat) : List Nat := rs ((c.drop 10).take 8)
def nf (c : List Nat) : List Nat := rs ((c.drop 18).take 13)
def wf (c : List Nat) : List Str := cutW (c.drop 31)
def nameB (n : List Nat) : Bool := n.isEmpty || (n.all lt && (decide (1 ≤ n.length) && decide (n.length ≤ 12)))
def readOk (c : List Nat) : Bool := decide (31 ≤ c.length) && (decide (kf c ∈ kc) && (decide (lf c ∈ lc) && (decide (rf c ∈ rc) && (nameB (nf c) && goodW (wf c)))))
theorem bad_len {c : List Nat} (h : c.length < 31) : readOk c = false := by
  unfold readOk
  rw [decide_eq_false (by omega), Bool.false_and]
theorem bad_k {c : List Nat} (h : kf c ∉ kc) : readOk c = false := by
  unfold readOk
  rw [decide_eq_false h, Bool.false_and, Bool.and_false]
theorem bad_l {c : List Nat} (h : lf c ∉ lc) : readOk c = false := by
  unfold readOk
  rw [decide_eq_false h, Bool.false_and, Bool.and_false, Bool.and_false]
theorem bad_r {c : List Nat} (h : rf c ∉ rc) : readOk c = false := by
  unfold readOk
  rw [decide_eq_false h, Bool.false_and, Bool.and_false, Bool.and_false, Bool.and_false]
theorem bad_n {c : List Nat} (h : nameB (nf c) = false) : readOk c = false := by
  unfold readOk
  rw [h, Bool.false_and, Bool.and_false, Bool.and_false, Bool.and_false, Bool.and_false]
theorem bad_w {c : List Nat} (h : goodW (wf c) = false) : readOk c = false := by
  unfold readOk
  rw [h, Bool.and_false, Bool.and_false, Bool.and_false, Bool.and_false, Bool.and_false]
/-- what stands where -/
theorem five {A B C D E : List Nat} (hA : A.length = 8) (hB : B.length = 2) (hC : C.length = 8) (hD : D.length = 13) :
    kf (A ++ (B ++ (C ++ (D ++ E)))) = rs A ∧ lf (A ++ (B ++ (C ++ (D ++ E)))) = rs B ∧ rf (A ++ (B ++ (C ++ (D ++ E)))) = rs C ∧ nf (A ++ (B ++ (C ++ (D ++ E)))) = rs D ∧ (A ++ (B ++ (C ++ (D ++ E)))).drop 31 = E := by
  have d8 : (A ++ (B ++ (C ++ (D ++ E)))).drop 8 = B ++ (C ++ (D ++ E)) := by rw [← hA, List.drop_left]
  have d10 : (A ++ (B ++ (C ++ (D ++ E)))).drop 10 = C ++ (D ++ E) := by
    rw [show (10 : Nat) = 8 + 2 from rfl, ← List.drop_drop, d8, ← hB, List.drop_left]
  have d18 : (A ++ (B ++ (C ++ (D ++ E)))).drop 18 = D ++ E := by
    rw [show (18 : Nat) = 10 + 8 from rfl, ← List.drop_drop, d10, ← hC, List.drop_left]
  have d31 : (A ++ (B ++ (C ++ (D ++ E)))).drop 31 = E := by
    rw [show (31 : Nat) = 18 + 13 from rfl, ← List.drop_drop, d18, ← hD, List.drop_left]
  refine ⟨?_, ?_, ?_, ?_, d31⟩
  · unfold kf
    rw [← hA, List.take_left]
  · unfold lf
    rw [d8, ← hB, List.take_left]
  · unfold rf
    rw [d10, ← hC, List.take_left]
  · unfold nf
    rw [d18, ← hD, List.take_left]
theorem line_assoc (p : Pl) (E : List Nat) : headL p ++ E = pk p ++ (pl p ++ (pr p ++ (pn p ++ E))) := by
  unfold headL
  simp only [List.append_assoc]
theorem rs_pk {p : Pl} (ok : PlOk p) : rs (pk p) = kcd p.1 ∧ kcd p.1 ∈ kc := by
  have h : ∀ k, k < 4 → rs (pad 8 (kcd k)) = kcd k ∧ kcd k ∈ kc := by decide
  exact h _ ok.k
theorem rs_pl {p : Pl} (ok : PlOk p) : rs (pl p) = [48 + p.2.1] ∧ [48 + p.2.1] ∈ lc := by
  have h : ∀ k, k < 3 → rs [48 + k, 32] = [48 + k] ∧ [48 + k] ∈ lc := by decide
  exact h _ ok.l
theorem rs_pr {p : Pl} (ok : PlOk p) : rs (pr p) = rcd p.2.2.1 ∧ rcd p.2.2.1 ∈ rc := by
  have h : ∀ k, k < 9 → rs (pad 8 (rcd k)) = rcd k ∧ rcd k ∈ rc := by decide
  exact h _ ok.r
/-- the parts of a head with anything behind it -/
structure Parts (c : List Nat) (p : Pl) (E : List Nat) : Prop where
  k : kf c = kcd p.1
  l : lf c = [48 + p.2.1]
  r : rf c = rcd p.2.2.1
  n : nf c = p.2.2.2
  e : c.drop 31 = E
theorem parts_of {p : Pl} (ok : PlOk p) (E : List Nat) : Parts (headL p ++ E) p E := by
  rw [line_assoc]
  obtain ⟨h1, h2, h3, h4, h5⟩ := five (E := E) (pk_len ok) (B := pl p) rfl (pr_len ok) (pn_len ok)
  exact ⟨h1.trans (rs_pk ok).1, h2.trans (rs_pl ok).1, h3.trans (rs_pr ok).1, h4.trans (rs_pad ok.free), h5⟩
theorem name_ok {p : Pl} (ok : PlOk p) : nameB p.2.2.2 = true := by
  unfold nameB
  rcases ok.n with h | ⟨h1, h2, h3⟩
  · rw [h]; rfl
  · rw [h1, decide_eq_true h2, decide_eq_true h3, Bool.and_self, Bool.and_self, Bool.or_true]
theorem line_ok {p : Pl} {fs : List Str} (ok : PlOk p) (fo : FtOk fs) : readOk (lineL p fs) = true ∧ wf (lineL p fs) = fs := by
  have P := parts_of ok (tailF fs)
  have w : wf (lineL p fs) = fs := by unfold wf lineL; rw [P.e]; exact ft_cut fo
  refine ⟨?_, w⟩
  unfold readOk
  rw [w, ft_good fo]
  unfold lineL
  rw [P.k, P.l, P.r, P.n, name_ok ok, decide_eq_true (rs_pk ok).2, decide_eq_true (rs_pl ok).2, decide_eq_true (rs_pr ok).2, decide_eq_true (by rw [List.length_append, head_len ok]; omega)]
  rfl
end K5

/-! pages of fates: the lines that the law spoils -/
namespace K5
open PySem L2 Builtin Builtin.Str PyProof.Rows
open K5S (S S_cps S_len S_inj S_app lt)
def odd1 (p : Pl) (fs : List Str) (f : List Nat) : List (List Nat) := [[], [32] ++ lineL p fs, lineL p fs ++ [32], lineL p fs ++ [44], lineL p fs ++ [44, 32], headL p, (headL p).take ((headL p).length - 1) ++ f, (lineL p fs).drop 1, [108, 101, 102, 116, 115] ++ (lineL p fs).drop 5]
def odd2 (p : Pl) (fs : List Str) : List (List Nat) := [((lineL p fs).take 8 ++ [51, 32]) ++ (lineL p fs).drop 10, ((((lineL p fs).take 8 ++ [48]) ++ ((lineL p fs).drop 9).take 1) ++ [110, 97, 109, 101, 115, 32, 32, 32]) ++ (lineL p fs).drop 18, ((lineL p fs).take 18 ++ [82, 111, 119, 115]) ++ (lineL p fs).drop 22]
def odd3 (p : Pl) (f : List Nat) : List (List Nat) := [((headL p ++ f) ++ [44, 32]) ++ f, headL p ++ [109, 111, 114, 101, 44, 32, 115, 97, 109, 101], headL p ++ [115, 97, 109, 101, 44, 109, 111, 114, 101], headL p ++ [115, 97, 109, 101, 32, 109, 111, 114, 101], headL p ++ [83, 97, 109, 101]]
def odd4 (p : Pl) (fs : List Str) : List (List Nat) := [(lineL p fs).filter (· != 32), ((lineL p fs).take 18 ++ [97, 32, 98, 32, 32, 32, 32, 32, 32, 32, 32, 32, 32]) ++ (lineL p fs).drop 31, lineL p fs ++ [10], ((lineL p fs).take 8 ++ [48, 48]) ++ (lineL p fs).drop 10]
def oddL (p : Pl) (fs : List Str) (f : List Nat) : List (List Nat) := ((odd1 p fs f ++ odd2 p fs) ++ odd3 p f) ++ odd4 p fs
theorem oddL_len (p : Pl) (fs : List Str) (f : List Nat) : (oddL p fs f).length = 21 := rfl

theorem line_5 (p : Pl) (fs : List Str) : lineL p fs = pk p ++ (pl p ++ (pr p ++ (pn p ++ tailF fs))) := line_assoc p _
section
variable {p : Pl} {fs : List Str}
theorem take8 (ok : PlOk p) : (lineL p fs).take 8 = pk p := by rw [line_5, ← pk_len ok, List.take_left]
theorem drop8 (ok : PlOk p) : (lineL p fs).drop 8 = pl p ++ (pr p ++ (pn p ++ tailF fs)) := by rw [line_5, ← pk_len ok, List.drop_left]
theorem drop10 (ok : PlOk p) : (lineL p fs).drop 10 = pr p ++ (pn p ++ tailF fs) := by
  rw [show (10 : Nat) = 8 + 2 from rfl, ← List.drop_drop, drop8 ok]
  exact List.drop_left (l₁ := pl p)
theorem drop18 (ok : PlOk p) : (lineL p fs).drop 18 = pn p ++ tailF fs := by
  rw [show (18 : Nat) = 10 + 8 from rfl, ← List.drop_drop, drop10 ok, ← pr_len ok, List.drop_left]
theorem drop31 (ok : PlOk p) : (lineL p fs).drop 31 = tailF fs := by
  rw [show (31 : Nat) = 18 + 13 from rfl, ← List.drop_drop, drop18 ok, ← pn_len ok, List.drop_left]
theorem take18 (ok : PlOk p) : (lineL p fs).take 18 = pk p ++ (pl p ++ pr p) := by
  have e : lineL p fs = (pk p ++ (pl p ++ pr p)) ++ (pn p ++ tailF fs) := by rw [line_5]; simp only [List.append_assoc]
  have l : (pk p ++ (pl p ++ pr p)).length = 18 := by
    simp only [List.length_append, pk_len ok, pr_len ok]
    rfl
  rw [e, ← l, List.take_left]
theorem kf_app {A B : List Nat} (h : A.length = 8) : kf (A ++ B) = rs A := by unfold kf; rw [← h, List.take_left]
theorem drop22 (ok : PlOk p) : (lineL p fs).drop 22 = (pn p).drop 4 ++ tailF fs := by
  rw [show (22 : Nat) = 18 + 4 from rfl, ← List.drop_drop, drop18 ok, List.drop_append_of_le_length (by rw [pn_len ok]; decide)]
theorem odd_1 (ok : PlOk p) : readOk ([32] ++ lineL p fs) = false := by
  refine bad_k ?_
  have h : ∀ k, k < 4 → rs (32 :: (pad 8 (kcd k)).take 7) ∉ kc := by decide
  have e : ([32] ++ lineL p fs).take 8 = 32 :: (pk p).take 7 := by
    have : (lineL p fs).take 7 = (pk p).take 7 := by rw [← take8 (fs := fs) ok, List.take_take]; rfl
    show 32 :: (lineL p fs).take 7 = _
    rw [this]
  unfold kf
  rw [e]
  exact h _ ok.k
theorem odd_t (ok : PlOk p) {x : List Nat} (hx : x ∈ [[32], [44], [44, 32], [10]]) : readOk (lineL p fs ++ x) = false := by
  refine bad_w ?_
  have e : (lineL p fs ++ x).drop 31 = tailF fs ++ x := by
    unfold lineL
    rw [List.append_assoc]
    exact (parts_of ok _).e
  unfold wf
  rw [e]
  exact ft_odd _ hx
theorem odd_h (ok : PlOk p) {x : List Nat} (h : goodW (cutW x) = false) : readOk (headL p ++ x) = false := by
  refine bad_w ?_
  unfold wf
  rw [(parts_of ok x).e]
  exact h
theorem odd_5 (ok : PlOk p) : readOk (headL p) = false := by
  have := odd_h ok (x := []) ft_none
  rwa [List.append_nil] at this
theorem long_name {D : List Nat} (h : D.length = 13) {c : Nat} (hl : ∃ m, D = m ++ [c]) (hc : c ≠ 32) : nameB (rs D) = false := by
  obtain ⟨m, rfl⟩ := hl
  rw [rs_self hc]
  unfold nameB
  rw [h]
  simp
theorem odd_6 (ok : PlOk p) {f : List Nat} (hf : ∃ c r, f = c :: r ∧ c ≠ 32) : readOk ((headL p).take ((headL p).length - 1) ++ f) = false := by
  obtain ⟨c, r, rfl, hc⟩ := hf
  refine bad_n ?_
  have e : (headL p).take ((headL p).length - 1) = pk p ++ (pl p ++ (pr p ++ (pn p).take 12)) := by
    rw [head_len ok]
    have l : (pk p ++ (pl p ++ pr p)).length = 18 := by
      simp only [List.length_append, pk_len ok, pr_len ok]
      rfl
    have e1 : headL p = (pk p ++ (pl p ++ pr p)) ++ pn p := by unfold headL; simp only [List.append_assoc]
    rw [e1, List.take_append, l]
    rw [List.take_of_length_le (by rw [l]; decide)]
    simp only [List.append_assoc]
  rw [e]
  have e2 : (pk p ++ (pl p ++ (pr p ++ (pn p).take 12))) ++ c :: r = pk p ++ (pl p ++ (pr p ++ (((pn p).take 12 ++ [c]) ++ r))) := by simp only [List.append_assoc, List.singleton_append]
  rw [e2]
  have l13 : ((pn p).take 12 ++ [c]).length = 13 := by
    rw [List.length_append, List.length_take, pn_len ok]
    rfl
  rw [(five (pk_len ok) rfl (pr_len ok) l13).2.2.2.1]
  exact long_name l13 ⟨_, rfl⟩ hc
theorem odd_7 (ok : PlOk p) : readOk ((lineL p fs).drop 1) = false := by
  refine bad_k ?_
  have h : ∀ k, k < 4 → ∀ l, l < 3 → rs ((pad 8 (kcd k)).drop 1 ++ [48 + l]) ∉ kc := by decide
  have e : (lineL p fs).drop 1 = ((pk p).drop 1 ++ [48 + p.2.1]) ++ (32 :: (pr p ++ (pn p ++ tailF fs))) := by
    rw [line_5, List.drop_append_of_le_length (by rw [pk_len ok]; decide)]
    simp only [List.append_assoc]
    rfl
  rw [e, kf_app (by rw [List.length_append, List.length_drop, pk_len ok]; rfl)]
  exact h _ ok.k _ ok.l
theorem odd_8 (ok : PlOk p) : readOk ([108, 101, 102, 116, 115] ++ (lineL p fs).drop 5) = false := by
  refine bad_k ?_
  have h : ∀ k, k < 4 → rs ([108, 101, 102, 116, 115] ++ (pad 8 (kcd k)).drop 5) ∉ kc := by decide
  have e : (lineL p fs).drop 5 = (pk p).drop 5 ++ (pl p ++ (pr p ++ (pn p ++ tailF fs))) := by
    rw [line_5, List.drop_append_of_le_length (by rw [pk_len ok]; decide)]
  rw [e, ← List.append_assoc, kf_app (by rw [List.length_append, List.length_drop, pk_len ok]; rfl)]
  exact h _ ok.k
theorem odd_9 (ok : PlOk p) {x : List Nat} (hx : x.length = 2) (hn : rs x ∉ lc) : readOk (((lineL p fs).take 8 ++ x) ++ (lineL p fs).drop 10) = false := by
  refine bad_l ?_
  rw [take8 ok, drop10 ok, List.append_assoc, (five (pk_len ok) hx (pr_len ok) (pn_len ok)).2.1]
  exact hn
theorem odd_10 (ok : PlOk p) : readOk (((((lineL p fs).take 8 ++ [48]) ++ ((lineL p fs).drop 9).take 1) ++ [110, 97, 109, 101, 115, 32, 32, 32]) ++ (lineL p fs).drop 18) = false := by
  refine bad_r ?_
  have e : ((lineL p fs).drop 9).take 1 = [32] := by
    rw [show (9 : Nat) = 8 + 1 from rfl, ← List.drop_drop, drop8 ok]
    rfl
  rw [take8 ok, drop18 ok, e]
  have e2 : (((pk p ++ [48]) ++ [32]) ++ [110, 97, 109, 101, 115, 32, 32, 32]) ++ (pn p ++ tailF fs) = pk p ++ ([48, 32] ++ ([110, 97, 109, 101, 115, 32, 32, 32] ++ (pn p ++ tailF fs))) := by simp only [List.append_assoc]; rfl
  rw [e2, (five (pk_len ok) rfl rfl (pn_len ok)).2.2.1]
  decide
theorem odd_11 (ok : PlOk p) : readOk (((lineL p fs).take 18 ++ [82, 111, 119, 115]) ++ (lineL p fs).drop 22) = false := by
  refine bad_n ?_
  rw [take18 ok, drop22 ok]
  have e2 : ((pk p ++ (pl p ++ pr p)) ++ [82, 111, 119, 115]) ++ ((pn p).drop 4 ++ tailF fs) = pk p ++ (pl p ++ (pr p ++ (([82, 111, 119, 115] ++ (pn p).drop 4) ++ tailF fs))) := by simp only [List.append_assoc]
  rw [e2, (five (pk_len ok) rfl (pr_len ok) (by rw [List.length_append, List.length_drop, pn_len ok]; rfl)).2.2.2.1]
  have hs := rs_split ([82, 111, 119, 115] ++ (pn p).drop 4)
  generalize rs ([82, 111, 119, 115] ++ (pn p).drop 4) = m at hs
  cases m with
  | nil =>
    rw [List.nil_append] at hs
    have : (82 : Nat) ∈ List.replicate (([82, 111, 119, 115] ++ (pn p).drop 4).length - ([] : List Nat).length) 32 := by rw [← hs]; simp
    rw [List.mem_replicate] at this
    exact absurd this.2 (by decide)
  | cons a m =>
    have ea : a = 82 := by
      have := congrArg List.head? hs
      simpa using this.symm
    subst ea
    unfold nameB
    rw [List.all_cons]
    rfl
theorem odd_18 (ok : PlOk p) : readOk (((lineL p fs).take 18 ++ [97, 32, 98, 32, 32, 32, 32, 32, 32, 32, 32, 32, 32]) ++ (lineL p fs).drop 31) = false := by
  refine bad_n ?_
  rw [take18 ok, drop31 ok]
  have e2 : ((pk p ++ (pl p ++ pr p)) ++ [97, 32, 98, 32, 32, 32, 32, 32, 32, 32, 32, 32, 32]) ++ tailF fs = pk p ++ (pl p ++ (pr p ++ ([97, 32, 98, 32, 32, 32, 32, 32, 32, 32, 32, 32, 32] ++ tailF fs))) := by simp only [List.append_assoc]
  rw [e2, (five (pk_len ok) rfl (pr_len ok) rfl).2.2.2.1]
  decide
theorem digit_k {A : List Nat} {d : Nat} (hd : d ∈ A) (h : 48 ≤ d ∧ d ≤ 57) : rs A ∉ kc := fun z => by
  have h1 : d ∈ rs A := by
    rw [rs_split A] at hd
    rcases List.mem_append.mp hd with x | x
    · exact x
    · rw [List.mem_replicate] at x
      omega
  have h2 : ∀ k ∈ kc, ∀ c ∈ k, 97 ≤ c := by decide
  have := h2 _ z _ h1
  omega
theorem odd_17 (ok : PlOk p) : readOk ((lineL p fs).filter (· != 32)) = false := by
  refine bad_k ?_
  have h : ∀ k, k < 4 → ((pad 8 (kcd k)).filter (· != 32)).length ≤ 7 := by decide
  have e : (lineL p fs).filter (· != 32) = ((pk p).filter (· != 32) ++ [48 + p.2.1]) ++ (pr p ++ (pn p ++ tailF fs)).filter (· != 32) := by
    rw [line_5, List.filter_append, List.filter_append]
    have : (pl p).filter (· != 32) = [48 + p.2.1] := by
      have hl := ok.l
      unfold pl
      rw [List.filter_cons, if_pos (by simp; omega)]
      rfl
    rw [this, List.append_assoc]
  rw [e]
  unfold kf
  have hk := h _ ok.k
  have hl := ok.l
  refine digit_k (d := 48 + p.2.1) ?_ (by omega)
  rw [List.take_append]
  refine List.mem_append_left _ ?_
  rw [List.take_of_length_le (by rw [List.length_append]; show _ + 1 ≤ 8; exact Nat.succ_le_succ hk)]
  simp
theorem odd_bad (ok : PlOk p) {f : Str} (hf : f ∈ fatesS) : ∀ z ∈ oddL p fs f.cps.toList, readOk z = false := by
  intro z hz
  simp only [oddL, odd1, odd2, odd3, odd4, List.mem_append, List.mem_cons, List.not_mem_nil, or_false] at hz
  rcases hz with ((((h | h | h | h | h | h | h | h | h) | (h | h | h)) | (h | h | h | h | h)) | (h | h | h | h))
  · rw [h]; exact bad_len (by decide)
  · rw [h]; exact odd_1 ok
  · rw [h]; exact odd_t ok (by decide)
  · rw [h]; exact odd_t ok (by decide)
  · rw [h]; exact odd_t ok (by decide)
  · rw [h]; exact odd_5 ok
  · rw [h]; exact odd_6 ok (ft_first f hf)
  · rw [h]; exact odd_7 ok
  · rw [h]; exact odd_8 ok
  · rw [h]; exact odd_9 ok rfl (by decide)
  · rw [h]; exact odd_10 ok
  · rw [h]; exact odd_11 ok
  · rw [h, List.append_assoc, List.append_assoc]; exact odd_h ok (ft_twice f hf)
  · rw [h]; exact odd_h ok (ft_never (by decide) (by decide +kernel))
  · rw [h]; exact odd_h ok (ft_never (by decide) (by decide +kernel))
  · rw [h]; exact odd_h ok (ft_never (by decide) (by decide +kernel))
  · rw [h]; exact odd_h ok (ft_never (by decide) (by decide +kernel))
  · rw [h]; exact odd_17 ok
  · rw [h]; exact odd_18 ok
  · rw [h]; exact odd_t ok (by decide)
  · rw [h]; exact odd_9 ok rfl (by decide)
end
end K5

/-! sorted(d, key = def), d a dict with tuple keys; sorted of a list of pairs of a tuple and a list -/
namespace L2
open PySem PySem.Spec PyProof.Rows PySem.Calls
abbrev Key5 := Int × Int × Int × Bool × Str
def kv5 (k : Key5) : List V := [.int k.1, .int k.2.1, .int k.2.2.1, .bl k.2.2.2.1, .str k.2.2.2.2]
def d5 (k : Key5) : PyData := .tuple [.int k.1, .int k.2.1, .int k.2.2.1, .bool k.2.2.2.1, .str k.2.2.2.2]
theorem d5_alike (k l : Key5) : PySem.W.alike (d5 k) (d5 l) = true := by
  simp [d5, PySem.W.alike, PySem.W.alikeAll]
theorem rd_tup5 {P : Program} {w : World} {H : Hp} {h : Heap} {t : Addr} {k : Key5} (ok : HOk P w H h) (e : H t = some (.tup (kv5 k))) : Reads h (.ref t) (d5 k) [] := by
  obtain ⟨_, its, rv, it⟩ := (show ObjOk P w H h t (.tup (kv5 k)) from ok t _ e)
  obtain ⟨o, ho, hc, n, hd⟩ := it
  unfold kv5 at rv
  cases rv with
  | cons r1 rv => cases rv with
    | cons r2 rv => cases rv with
      | cons r3 rv => cases rv with
        | cons r4 rv => cases rv with
          | cons r5 rv =>
            cases rv
            obtain ⟨t1, rfl⟩ := r1
            obtain ⟨t2, rfl⟩ := r2
            obtain ⟨t3, rfl⟩ := r3
            obtain rfl := r4
            obtain ⟨t5, rfl⟩ := r5
            refine .tuple ho hc hd ?_
            exact .cons (as := []) (.int _ _) (.cons (as := []) (.int _ _) (.cons (as := []) (.int _ _) (.cons (as := []) (.bool _) (.cons (as := []) (.str _ _) .nil))))
section
variable {X : Cx} {pins : List (Addr × Obj)} {σ : St} {H : Hp} {s : Shared} {h' : Heap}
/-- records of ours have turned, one of them is tracked from here on -/
theorem Inv.adopt {t' : Nat} {ch : List Addr} {T : Addr} {ob : HO} (I : Inv X pins σ H s) (k : ∀ b o, b ∉ ch → s.heap.get? b = some o → h'.get? b = some o) (hf : ∀ b ∈ ch, FpOk X pins H b) (hT : T ∈ ch)
    (new : ObjOk X.prog X.w (upd H T ob) h' T ob) : Inv X pins σ (upd H T ob) { s with heap := h', toks := t' } := by
  have hn : H T = none := (hf T hT).1
  have nit : ∀ b u, H b = some u → b ∉ ch := fun b u e z => by
    have q := (hf b z).1
    rw [q] at e; cases e
  refine I.step (g' := s.gens) (d' := s.drawn) (ch := ch) (fun b hb => ⟨(hf b hb).2.2.2.1, (hf b hb).2.1, (hf b hb).2.2.2.2.1, (hf b hb).2.2.2.2.2⟩) (fun b o _ _ hc e _ => k b o hc e) (fun b o _ _ hc e _ => ⟨o.slots, k b o hc e⟩)
    (fun b o hc e n => ?_) (fun b o hc e => ⟨o, k b o hc e⟩) (fun b xs e => ?_) (fun b o u e => ?_) (fun b ps e => ⟨#[], ?_⟩) (fun m hm => ?_) (fun b u e => ?_) I.bare
  · rw [upd_ne (fun z => hc (by rw [z]; exact hT))]; exact n
  · rw [upd_ne (ne_of_none e hn)]; exact e
  · rw [upd_ne (ne_of_none e hn)]; exact e
  · rw [upd_ne (ne_of_none e hn), e]; simp
  · obtain ⟨o, es, ep, ho, r⟩ := hm
    exact ⟨o, es, ep, k _ o (fun z => (hf _ z).2.1 rfl) ho, r⟩
  · by_cases hb : b = T
    · subst hb
      rw [upd_same] at e
      cases e
      exact new
    · rw [upd_ne hb] at e
      refine (I.hok b u e).stay (fun c v hc q => k c v ?_ q) (fun c q => by rw [upd_ne (ne_of_none q hn)]; exact q) fun c xs q => by rw [upd_ne (ne_of_none q hn)]; exact q
      rcases hc with z | z
      · rw [z]; exact nit b u e
      · exact nit c _ z
theorem gone (h : Heap) (a : Addr) : (h.update a fun o => { o with data := .freed }).get? a = none := by
  cases h with
  | mk objs life =>
    simp [Heap.update, Heap.get?, Array.getElem?_modify]
    cases objs[a]? <;> simp
theorem FpOk.still {H' : Hp} {b : Addr} (f : FpOk X pins H b) (n : H' b = none) : FpOk X pins H' b := ⟨n, f.2⟩
/-- keys made so far -/
def Keys5 (H : Hp) : List Value → List Key5 → Prop := PySem.W.EachIs fun v k => ∃ u, v = Value.ref u ∧ H u = some (.tup (kv5 k))
theorem Keys5.same {H H' : Hp} (h : Same H H') : ∀ {vs : List Value} {ks : List Key5}, Keys5 H vs ks → Keys5 H' vs ks
  | _, _, .nil => .nil
  | _, _, .cons ⟨u, e, q⟩ t => .cons ⟨u, e, h _ _ q⟩ (Keys5.same h t)
theorem each_refs : ∀ rs : List (Addr × Key5), PySem.W.EachIs (fun v (x : Addr × Key5) => v = Value.ref x.1) (rs.map fun x => Value.ref x.1) rs
  | [] => .nil
  | _ :: r => .cons rfl (each_refs r)
theorem vals_each : ∀ {out : List Value} {rs : List (Addr × Key5)}, PySem.W.EachIs (fun v (x : Addr × Key5) => v = Value.ref x.1) out rs → Vals (rs.map fun x => V.ref x.1) out
  | _, _, .nil => .nil
  | _, _, .cons h t => .cons h (vals_each t)
variable {k : Nat} {f : Addr} {fd : FuncData} {ps : List Str} {sp : Sp}
/-- the list at D is sorted by the key f -/
theorem sortK_tree {D : Addr} {n : Nat} {vs : List Value} {rs : List (Addr × Key5)} {P : PySem.Fin → Shared → Prop} {E : Value → Shared → Prop} (F : FnOk X.prog X.w X.K X.mg X.base CX0 k f fd ps sp) (hr : Room k X.A.in1.in1) (hb : Binds X.K fd ps [])
    (I : Inv X pins σ H s) (hD : s.heap.get? D = some (seqObj "list" vs.toArray n)) (fD : FpOk X pins H D) (ev : vs = rs.map fun x => Value.ref x.1) (h100 : rs.length ≤ 100)
    (turn : ∀ x ∈ rs, ∀ H1, Same H H1 → sp [.ref x.1] H1 (fun v H2 => ∃ u, v = .ref u ∧ Same H1 H2 ∧ H2 u = some (.tup (kv5 x.2))) (fun _ _ _ => False))
    (q : ∀ H1 s1, Same H H1 → H1 D = none → Inv X pins σ (upd H1 D (.lst ((rs.mergeSort (PySem.W.dataLe false fun x => d5 x.2)).map fun x => V.ref x.1))) s1 → P (.done (.ret .none)) s1) :
    wpAny (model X.prog X.w) X.A.in1.in1 (ksk_tree D (.ref f) false) P E s := by
  have hln : vs.length = rs.length := by rw [ev, List.length_map]
  have hZ : vs.length ≤ sizeLine := by rw [hln]; exact Nat.le_trans h100 (by decide)
  have hbs : D < s.heap.objs.size := Heap.lt_size hD
  obtain ⟨e1, ho1⟩ : ∃ e1, (s.heap.update D (Obj.mapSeq fun _ => (#[] : Array Value))).get? D = some (seqObj "list" #[] e1) := ⟨_, get?_update_seq hD fun _ => #[]⟩
  have s1 := Heap.SameBut.update s.heap D (Obj.mapSeq fun _ => (#[] : Array Value))
  have I1 : Inv X pins σ H { s with heap := s.heap.update D (Obj.mapSeq fun _ => (#[] : Array Value)) } := I.turned (t' := s.toks) (fun b o hb e => (s1.2 b hb).trans e) fD.1 fD.2.1 fD.2.2.2.1 fD.2.2.2.2.1 fD.2.2.2.2.2
  generalize hA : s.heap.update D (Obj.mapSeq fun _ => (#[] : Array Value)) = hp1 at ho1 I1
  unfold ksk_tree
  refine wpAny_bind (listItems_at hD rfl ?_)
  refine wpAny_bind (listUpdate_at hD rfl ?_ (by rw [List.size_toArray]; exact hZ) (Nat.zero_le _))
  rw [hA]
  refine wpAny_bind (seqEpoch_at ho1 rfl ?_)
  refine wpAny_bind (wpAny_newTuple ?_ (by show vs.length ≤ _; exact hZ))
  refine wpAny_bind (wpAny_newList ?_ (Nat.zero_le _))
  refine wpAny_holding ?_
  have hkS : (hp1.push (seqObj "tuple" vs.toArray 0)).objs.size = hp1.objs.size + 1 := size_push' ..
  have I2 : Inv X pins σ H { s with heap := (hp1.push (seqObj "tuple" vs.toArray 0)).push (seqObj "list" #[] 0) } := I1.kept (t' := s.toks) fun b u e => Heap.get?_push_of_some _ (Heap.get?_push_of_some _ e)
  have ho2 : ({ s with heap := (hp1.push (seqObj "tuple" vs.toArray 0)).push (seqObj "list" #[] 0) } : Shared).heap.get? D = some (seqObj "list" #[] e1) := Heap.get?_push_of_some _ (Heap.get?_push_of_some _ ho1)
  have hk2 : ({ s with heap := (hp1.push (seqObj "tuple" vs.toArray 0)).push (seqObj "list" #[] 0) } : Shared).heap.get? (hp1.push (seqObj "tuple" vs.toArray 0)).objs.size = some (seqObj "list" #[] 0) := Heap.get?_push_size _ rfl
  have fk : FpOk X pins H (hp1.push (seqObj "tuple" vs.toArray 0)).objs.size := I1.fpOk (by rw [hkS]; exact Nat.le_succ _) (I1.hok.fresh (by rw [hkS]; exact Nat.le_succ _))
  have hne : (hp1.push (seqObj "tuple" vs.toArray 0)).objs.size ≠ D := Nat.ne_of_gt (by rw [hkS]; exact Nat.lt_succ_of_lt (Heap.lt_size ho1))
  show wpAny _ _ (ksk_rest D (.ref f) false vs.toArray e1 (.ref (hp1.push (seqObj "tuple" vs.toArray 0)).objs.size)) P E _
  generalize (hp1.push (seqObj "tuple" vs.toArray 0)).objs.size = kS at hk2 fk hne ⊢
  generalize ({ s with heap := (hp1.push (seqObj "tuple" vs.toArray 0)).push (seqObj "list" #[] 0) } : Shared) = sA at I2 ho2 hk2 ⊢
  unfold ksk_rest
  refine wpAny_bind (wpAny_rule ?_)
  first
    | rw [List.forIn_toArray]
    | (rw [← Array.forIn_toList]; simp only [List.toList_toArray])
    | rw [← Array.forIn_toList]
  refine wpAny_bind (ksk_fold (fun i s' => ∃ (H1 : Hp) (kA : Array Value) (e : Nat), Same H H1 ∧ Inv X pins σ H1 s' ∧ FpOk X pins H1 D ∧ FpOk X pins H1 kS ∧ s'.heap.get? D = some (seqObj "list" #[] e1) ∧ s'.heap.get? kS = some (seqObj "list" kA e) ∧ Keys5 H1 kA.toList ((rs.map (·.2)).take i)) vs 0 sA
    ⟨H, #[], 0, Same.refl H, I2, fD, fk, ho2, hk2, by rw [List.take_zero]; exact .nil⟩ ?step ?done)
  case step =>
    rintro j x s' hx ⟨H1, kA, e, sm, J, gD, gk, rD, rk, ks⟩
    simp only [Nat.zero_add] at ks ⊢
    obtain ⟨p, hp, rfl⟩ : ∃ p, rs[j]? = some p ∧ Value.ref p.1 = x := by
      rw [ev, List.getElem?_map] at hx
      cases e9 : rs[j]? with
      | none => rw [e9] at hx; exact nomatch hx
      | some p => rw [e9] at hx; exact ⟨p, rfl, by injection hx⟩
    have hj : j < rs.length := (List.getElem?_eq_some_iff.mp hp).1
    have hz : kA.size = j := by
      have h1 := ks.length
      rw [Array.length_toList, List.length_take, List.length_map] at h1
      omega
    have sp1 := turn p (List.mem_of_getElem? hp) H1 sm
    have r2 : Vals [V.ref p.1] [Value.ref p.1] := .cons rfl .nil
    have hl : [Value.ref p.1].length = ps.length := by rw [← r2.length]; exact F.len _ _ _ _ sp1
    have bb := hb s' [Value.ref p.1] J.kIn (by rw [List.append_nil]; exact hl)
    rw [List.append_nil] at bb
    refine wpAny_bind (wpAny_attempt (wpAny_call (codeAny_mono (F.run X.A.in1.in1 X.stack s' H1 ⟨[.ref p.1], []⟩ [.ref p.1] [V.ref p.1] _ _ hr J.env0.in1.in1 bb r2 sp1) fun r s'' hq => ?_)))
    cases r with
    | error e => exact hq.elim
    | ok fl =>
      cases fl with
      | next => exact hq.elim
      | brk => exact hq.elim
      | cont => exact hq.elim
      | ret u0 =>
        obtain ⟨v, H2, os, bare, un, hok, rv, u, ev2, sm2, hu⟩ := hq
        subst ev2
        cases rv
        have J2 : Inv X pins σ H2 s'' := J.call' (ch := []) os un hok bare (fun b z => absurd z (by simp))
        have nst : ∀ {b : Addr}, FpOk X pins H1 b → b ∉ frs X.stack := fun {b} g z => (List.mem_cons.mp (J.stkSub b z)).elim g.2.1 g.2.2.1
        have rD2 := un.keep D _ rD gD.1 (nst gD) (by simp)
        have rk2 := un.keep kS _ rk gk.1 (nst gk) (by simp)
        have gD2 : FpOk X pins H2 D := gD.still (un.free D _ rD gD.1 (by simp))
        have gk2 : FpOk X pins H2 kS := gk.still (un.free kS _ rk gk.1 (by simp))
        try dsimp only
        have s3 := Heap.SameBut.update s''.heap kS (Obj.mapSeq (·.push (Value.ref u)))
        obtain ⟨c2, hc2⟩ : ∃ c2, (s''.heap.update kS (Obj.mapSeq (·.push (Value.ref u)))).get? kS = some (seqObj "list" (kA.push (Value.ref u)) c2) := ⟨_, get?_update_seq rk2 (·.push (Value.ref u))⟩
        have ek : (rs.map (·.2)).take (j + 1) = (rs.map (·.2)).take j ++ [p.2] := by rw [List.take_add_one, List.getElem?_map, hp]; simp
        have ea : (kA.push (Value.ref u)).toList = kA.toList ++ [Value.ref u] := by simp
        refine wpAny_bind (listUpdate_at rk2 rfl ?_ (by rw [hz, sizeLine_eq]; omega) (Nat.le_trans (Nat.le_of_eq (Array.size_push ..)) (by rw [hz, sizeLine_eq]; omega)))
        refine wpAny_pure ⟨rfl, H2, kA.push (Value.ref u), c2, sm.trans sm2, J2.turned (t' := s''.toks) (fun b o hb e => (s3.2 b hb).trans e) gk2.1 gk2.2.1 gk2.2.2.2.1 gk2.2.2.2.2.1 gk2.2.2.2.2.2, gD2, gk2, (s3.2 D (Ne.symm hne)).trans rD2, hc2, ?_⟩
        rw [ea, ek]
        exact PySem.W.each_snoc ⟨u, rfl, hu⟩ (ks.same sm2)
  case done =>
    rintro s' ⟨H1, kA, e, sm, J, gD, gk, rD, rk, ks⟩
    have e3 : (rs.map (·.2)).take (0 + vs.length) = rs.map (·.2) := List.take_of_length_le (by rw [List.length_map]; omega)
    rw [e3] at ks
    have hsz : kA.size = vs.length := by
      have h1 := ks.length
      rw [Array.length_toList, List.length_map] at h1
      omega
    refine wpAny_bind (listItems_at rk rfl ?_)
    have hk' : PySem.W.EachIs (fun v d => ∃ as, Reads s'.heap v d as) kA.toList (rs.map fun x => d5 x.2) := by
      have e4 : (rs.map fun x => d5 x.2) = (rs.map (·.2)).map d5 := by rw [List.map_map]; rfl
      rw [e4]
      exact PySem.W.each_map (R := fun v d => ∃ as, Reads s'.heap v d as) d5 (ks.mono fun v k0 ⟨u, e5, hu⟩ => ⟨[], by rw [e5]; exact rd_tup5 J.hok hu⟩)
    have hal : PySem.W.AllAlike (rs.map fun x => d5 x.2) := fun d hd d' hd' => by
      obtain ⟨x, _, rfl⟩ := List.mem_map.mp hd
      obtain ⟨y, _, rfl⟩ := List.mem_map.mp hd'
      exact d5_alike _ _
    have hsk : PySem.W.Sortable (rs.map fun x => d5 x.2) := .inl fun d hd => by
      obtain ⟨x, _, rfl⟩ := List.mem_map.mp hd
      exact ⟨_, _, rfl⟩
    have kp : PySem.W.KeepsBut D (s'.heap.update kS fun o => { o with data := .freed }) s'.heap := fun b o hb e9 => by
      by_cases hk : b = kS
      · subst hk
        rw [gone] at e9
        cases e9
      · rw [Heap.get?_update_ne _ _ _ _ hk] at e9
        exact e9
    refine PySem.W.keyH_end (κ := PySem.W.dataKind s'.heap (rs.map fun x => d5 x.2)) (h₁ := s'.heap.update kS fun o => { o with data := .freed }) kp (gone _ _) rk rD hne (PySem.W.SortsAt.data (s := s') hk' hal hsk ?_) hsz hZ fun h3 tk3 c k3 n3 => ?_
    · intro d hd
      obtain ⟨x, _, rfl⟩ := List.mem_map.mp hd
      have := hr.un
      show _ + (d5 x.2).depth < _
      have : (d5 x.2).depth ≤ 3 := by simp [d5, PyData.depth, PyData.depthAll]
      omega
    · have ko : PySem.W.KeyedOut false (rs.map fun x => d5 x.2) vs (PySem.W.sortVals (PySem.W.dataKind s'.heap (rs.map fun x => d5 x.2)) false kA.toList vs) := ⟨s'.heap, kA.toList, hal, rfl, hk'⟩
      have eo := PySem.W.keyedOut_each (R := fun v (x : Addr × Key5) => v = Value.ref x.1) (fun x => d5 x.2) ko (by rw [ev]; exact each_refs rs)
      have k4 : ∀ b o, b ∉ [D, kS] → s'.heap.get? b = some o → h3.get? b = some o := fun b o hb e9 => k3 b o (fun z => hb (by simp [z])) (by rw [Heap.get?_update_ne _ _ _ _ (fun z => hb (by simp [z]))]; exact e9)
      refine q H1 _ sm gD.1 (J.adopt (t' := tk3) (T := D) k4 (fun b hb => ?_) (by simp) ⟨?_, _, c, vals_each eo, n3⟩)
      · rcases List.mem_cons.mp hb with rfl | hb
        · exact gD
        · rw [List.mem_singleton.mp hb]; exact gk
      · rw [List.length_map, List.length_mergeSort]
        exact Nat.le_trans h100 (by decide)
end
end L2
namespace L2
open PySem PySem.Spec PyProof.Rows PySem.Calls
section
variable {X : Cx} {k : Nat} {f : Addr} {fd : FuncData} {ps : List Str} {sp : Sp}
/-- sorted(d, key = f), d with tuple keys -/
def rSortK (f : Addr) (sp : Sp) : List V → List V → Hp → VK → Prop := fun vs zs H Q => ∃ (d : Addr) (kvs : List (List Key × V)) (ky : List Key → Key5), vs = [.ref d] ∧ zs = [.ref f] ∧ Rd H d (.dT kvs) ∧ kvs.length ≤ 100 ∧
  ∀ rs : List (Addr × List Key), rs.map (·.2) = kvs.map (·.1) → (∀ x ∈ rs, H x.1 = some (.tup (x.2.map kV))) → (∀ x ∈ rs, ∀ H1, Same H H1 → sp [.ref x.1] H1 (fun v H2 => ∃ u, v = .ref u ∧ Same H1 H2 ∧ H2 u = some (.tup (kv5 (ky x.2)))) (fun _ _ _ => False)) ∧
    ∀ H1 p, Same H H1 → H1 p = none → Q (.ref p) (upd H1 p (.lst ((rs.mergeSort (PySem.W.dataLe false fun x => d5 (ky x.2))).map fun x => V.ref x.1)))
theorem pairedT {H : Hp} {kvs : List (List Key × V)} {ks : List (List Key × Addr × Value)} (pr : Paired (fun (p : List Key × V) (q : List Key × Addr × Value) => p.1 = q.1 ∧ H q.2.1 = some (.tup (p.1.map kV)) ∧ RelV p.2 q.2.2) kvs ks) :
    ks.map (·.1) = kvs.map (·.1) ∧ ∀ y ∈ ks, H y.2.1 = some (.tup (y.1.map kV)) := by
  induction pr with
  | nil => exact ⟨rfl, fun y h => nomatch h⟩
  | cons h t ih =>
    refine ⟨by rw [List.map_cons, List.map_cons, ih.1, h.1], fun y hy => ?_⟩
    rcases List.mem_cons.mp hy with rfl | hy
    · rw [← h.1]; exact h.2.1
    · exact ih.2 y hy
theorem cr_sortK (hc : X.calm = true) (F : FnOk X.prog X.w X.K X.mg X.base CX0 k f fd ps sp) (hr : Room (k + 2) X.A) (hb : Binds X.K fd ps []) : CallRK X (.builtin "sorted") [Str.ofString "key"] (rSortK f sp) := by
  intro pins s σ H vs zs us ws Q I r rz h
  obtain ⟨d, kvs, ky, rfl, rfl, hd, h100, q⟩ := h
  obtain rfl := Vals.ref1 r
  obtain ⟨w1, rfl, e1⟩ := vals1 rz
  cases e1
  obtain ⟨z, hs, ks, pr, o, es, ep, ho, hx, hdt, he, hn⟩ := (show ObjOk X.prog X.w H s.heap d (.dT kvs) from hd.ok I.hok)
  have l1 : es.size = ks.length := size_of_entries he
  have l2 : kvs.length = ks.length := Paired.length pr
  refine call_function_entry_kw kind_sorted plain_sorted entry_sorted (ksk_s1 _ _) ?_
  unfold Builtin.«sorted»
  refine wpAny_bind (m := checkCount "sorted" 1 1 _) (wpAny_pure ?_)
  refine wpAny_bind (PySem.W.kdu_collect (A := X.A.in1) (kdl_raw hs hx hdt) (I.ok.hd hc) ho (by omega) fun h' tk acc kp it => ?_)
  have ea : acc.toList = ks.map fun x => Value.ref x.2.1 := by
    refine List.ext_getElem? fun j => ?_
    rw [Array.getElem?_toList, List.getElem?_map]
    by_cases hj : j < acc.size
    · obtain ⟨en, hen, hv⟩ := it.2 j acc[j] (Array.getElem?_eq_getElem hj)
      obtain ⟨x, hx2, hx3⟩ := Option.map_eq_some_iff.mp ((entry_at he j).symm.trans hen)
      rw [Array.getElem?_eq_getElem hj, hx2, hv, ← hx3]
      all_goals rfl
    · have h3 := it.1
      rw [Array.getElem?_eq_none (by omega), List.getElem?_eq_none (by omega)]
      all_goals rfl
  obtain ⟨pk1, pk2⟩ := pairedT pr
  have hk : (ks.map fun x => (x.2.1, x.1)).map (·.2) = kvs.map (·.1) := by rw [List.map_map]; exact pk1
  have hH : ∀ x ∈ ks.map (fun x => (x.2.1, x.1)), H x.1 = some (.tup (x.2.map kV)) := by
    intro x hx
    obtain ⟨y, hy, rfl⟩ := List.mem_map.mp hx
    exact pk2 y hy
  obtain ⟨tn, qq⟩ := q _ hk hH
  have hz : acc.toList.length ≤ sizeLine := by rw [ea, List.length_map]; omega
  have I1 : Inv X pins σ H { s with heap := h', toks := tk } := I.kept kp
  refine wpAny_bind (wpAny_newList ?_ hz)
  have hoL : (h'.push (seqObj "list" acc.toList.toArray 0)).get? h'.objs.size = some (seqObj "list" acc.toList.toArray 0) := Heap.get?_push_size _ rfl
  have I2 : Inv X pins σ H { s with heap := h'.push (seqObj "list" acc.toList.toArray 0), toks := tk } := I1.kept (t' := tk) fun b u e => Heap.get?_push_of_some _ e
  show wpAny _ _ _ _ _ { s with heap := h'.push (seqObj "list" acc.toList.toArray 0), toks := tk }
  refine wpAny_bind (wpAny_holding (wpAny_call_entry_kw (s := { s with heap := h'.push (seqObj "list" acc.toList.toArray 0), toks := tk }) slot_list_sort ⟨_, hoL, rfl⟩ entry_list_sort ?_ (ksk_l1 _ _)))
  show wpAny _ X.A.in1.in1 (Builtin.«list.sort» ⟨[.ref h'.objs.size], [(Str.ofString "key", .ref f)]⟩) _ _ _
  rw [ksk_t1]
  refine sortK_tree (rs := (ks.map fun x => (x.2.1, x.1)).map fun x => (x.1, ky x.2)) F hr.in1.in1 hb I2 hoL (I1.fpOk (Nat.le_refl _) (I1.hok.fresh (Nat.le_refl _))) (by rw [ea, List.map_map, List.map_map]; rfl) (by rw [List.length_map, List.length_map]; omega) ?_ ?_
  · intro x hx H1 sm
    obtain ⟨y, hy, rfl⟩ := List.mem_map.mp hx
    exact tn y hy H1 sm
  · intro H1 s1 sm hn1 J
    refine ⟨_, rfl, ?_⟩
    refine wpAny_pure ⟨_, rfl, .ref h'.objs.size, _, J, rfl, ?_⟩
    have em : (((ks.map fun x => (x.2.1, x.1)).map fun x => (x.1, ky x.2)).mergeSort (PySem.W.dataLe false fun x : Addr × Key5 => d5 x.2)).map (fun x => V.ref x.1) = ((ks.map fun x => (x.2.1, x.1)).mergeSort (PySem.W.dataLe false fun x => d5 (ky x.2))).map fun x => V.ref x.1 := by
      rw [← List.map_mergeSort (r := PySem.W.dataLe false fun x : Addr × List Key => d5 (ky x.2)) (f := fun x : Addr × List Key => (x.1, ky x.2)) (fun a _ b _ => rfl), List.map_map]
      rfl
    rw [em]
    exact qq H1 _ sm hn1
end
end L2
namespace L2
open PySem PySem.Spec PyProof.Rows PySem.Calls
abbrev RowP := Addr × Key5 × List Str
def dP (x : RowP) : PyData := .tuple [d5 x.2.1, .list (x.2.2.map PyData.str)]
theorem strs_alike : ∀ xs ys : List Str, PySem.W.alikeAll (xs.map PyData.str) (ys.map PyData.str) = true
  | [], [] => by simp [PySem.W.alikeAll]
  | [], _ :: _ => by simp [PySem.W.alikeAll]
  | _ :: _, [] => by simp [PySem.W.alikeAll]
  | _ :: xs, _ :: ys => by simp [PySem.W.alikeAll, PySem.W.alike, strs_alike xs ys]
theorem dP_alike (x y : RowP) : PySem.W.alike (dP x) (dP y) = true := by
  show (PySem.W.alike (d5 x.2.1) (d5 y.2.1) && (PySem.W.alikeAll (x.2.2.map PyData.str) (y.2.2.map PyData.str) && true)) = true
  rw [d5_alike, strs_alike]
  rfl
theorem strs_reads {h : Heap} : ∀ {xs : List Str} {its : List Value}, Vals (xs.map V.str) its → ReadsAll h its (xs.map PyData.str) []
  | [], _, .nil => .nil
  | _ :: _, _, .cons r t => by
    obtain ⟨tk, rfl⟩ := r
    exact .cons (as := []) (bs := []) (.str _ _) (strs_reads t)
theorem depth_strs : ∀ xs : List Str, PyData.depthAll (xs.map PyData.str) ≤ 2
  | [] => by simp [PyData.depthAll]
  | x :: xs => by
    have := depth_strs xs
    simp only [List.map_cons, PyData.depthAll, PyData.depth]
    omega
def PairP (H : Hp) (x : RowP) : Prop := ∃ t m, H x.1 = some (.tup [.ref t, .ref m]) ∧ H t = some (.tup (kv5 x.2.1)) ∧ H m = some (.lst (x.2.2.map V.str))
theorem rd_pair {P : Program} {w : World} {H : Hp} {h : Heap} {x : RowP} (ok : HOk P w H h) (e : PairP H x) : ∃ as, Reads h (.ref x.1) (dP x) as := by
  obtain ⟨t, m, e1, e2, e3⟩ := e
  obtain ⟨_, its, rv, it⟩ := (show ObjOk P w H h x.1 (.tup [.ref t, .ref m]) from ok _ _ e1)
  obtain ⟨o, ho, hc, n, hd⟩ := it
  obtain ⟨_, its2, c, rv2, ho2⟩ := (show ObjOk P w H h m (.lst (x.2.2.map V.str)) from ok _ _ e3)
  cases rv with
  | cons r1 rv => cases rv with
    | cons r2 rv =>
      cases rv
      cases r1
      cases r2
      have a1 := rd_tup5 ok e2
      have a2 : Reads h (.ref m) (.list (x.2.2.map PyData.str)) [m] := .list ho2 rfl rfl (strs_reads rv2)
      exact ⟨_, .tuple ho hc hd (.cons a1 (.cons a2 .nil))⟩
theorem each_rows : ∀ rs : List RowP, PySem.W.EachIs (fun v (x : RowP) => v = Value.ref x.1) (rs.map fun x => Value.ref x.1) rs
  | [] => .nil
  | _ :: r => .cons rfl (each_rows r)
theorem vals_rows : ∀ {out : List Value} {rs : List RowP}, PySem.W.EachIs (fun v (x : RowP) => v = Value.ref x.1) out rs → Vals (rs.map fun x => V.ref x.1) out
  | _, _, .nil => .nil
  | _, _, .cons h t => .cons h (vals_rows t)
theorem refs_vals : ∀ {rs : List RowP} {its : List Value}, Vals (rs.map fun x => V.ref x.1) its → its = rs.map fun x => Value.ref x.1
  | [], _, .nil => rfl
  | _ :: _, _, .cons h t => by
    rw [List.map_cons, ← refs_vals t]
    cases h
    rfl
/-- sorted(l), l a list of pairs of a tuple of five and a list of texts -/
def rSortP (K : PySem.W.Frag) : List V → Hp → VK → Prop := fun vs H Q => ∃ (l : Addr) (rs : List RowP), vs = [.ref l] ∧ SqL K H l (rs.map fun x => V.ref x.1) ∧ rs.length ≤ 100 ∧ (∀ x ∈ rs, PairP H x) ∧
  ∀ p, H p = none → Q (.ref p) (upd H p (.lst ((rs.mergeSort (PySem.W.dataLe false dP)).map fun x => V.ref x.1)))
theorem cr_sortP {X : Cx} (hu : X.A.units + 64 < cLine) : CallR X (.builtin "sorted") (rSortP X.K) := by
  intro pins s σ H vs us Q I r h
  obtain ⟨l, rs, rfl, hl, h100, hp, q⟩ := h
  obtain rfl := Vals.ref1 r
  obtain ⟨its, rv, hL, hz⟩ := I.list hl
  obtain rfl := refs_vals rv
  have hal : PySem.W.AllAlike (rs.map dP) := fun d hd d' hd' => by
    obtain ⟨x, _, rfl⟩ := List.mem_map.mp hd
    obtain ⟨y, _, rfl⟩ := List.mem_map.mp hd'
    exact dP_alike _ _
  have hsk : PySem.W.Sortable (rs.map dP) := .inl fun d hd => by
    obtain ⟨x, _, rfl⟩ := List.mem_map.mp hd
    exact ⟨_, _, rfl⟩
  have er : PySem.W.EachIs (fun v x => ∃ as, Reads s.heap v (dP x) as) (rs.map fun x => Value.ref x.1) rs := (PySem.W.each_mem (each_rows rs)).mono fun v x ⟨e, hm⟩ => by
    rw [e]
    exact rd_pair I.hok (hp x hm)
  refine PySem.W.sorted_data (R := fun v (x : RowP) => v = Value.ref x.1) hL.isList (each_rows rs) er hal hsk (Nat.le_trans h100 (by decide)) (fun x hx => ?_) fun out ho eo => ?_
  · have h1 : (dP x).depth ≤ 5 := by
      have := depth_strs x.2.2
      simp only [dP, d5, PyData.depth, PyData.depthAll]
      omega
    omega
  · obtain ⟨ep, he'⟩ := PyProof.Rows.sortedAll_at s.heap (rs.map fun x => Value.ref x.1) (List.toArray out)
    have hlen : ((rs.mergeSort (PySem.W.dataLe false dP)).map fun x => V.ref x.1).length ≤ sizeLine := by
      rw [List.length_map, List.length_mergeSort]
      exact Nat.le_trans h100 (by decide)
    exact ⟨.ref _, upd H (s.heap.objs.size + 1) (.lst ((rs.mergeSort (PySem.W.dataLe false dP)).map fun x => V.ref x.1)), I.laid (t' := s.toks) (fun _ _ => PyProof.Rows.sortedAll_old) (Nat.le_succ _) ⟨hlen, _, ep, vals_rows eo, he'⟩, rfl, q _ (I.hok.fresh (Nat.le_succ _))⟩
end L2

/-! pages of fates: the program -/
namespace K5
open PySem L2
open K5S (S S_cps S_len S_inj S_app lt)
abbrev sPL : Stmt := top 12
abbrev sFO : Stmt := top 16
abbrev sFI : Stmt := top 17
abbrev sLR : Stmt := top 20
abbrev sLL : Stmt := top 29
/-- a tuple of the module -/
structure TupG (K : PySem.W.Frag) (mg : Str → Option Value) (x : Str) (a : Addr) (xs : List V) : Prop where
  g : mg x = some (.ref a)
  t : ∃ (o : Obj) (its : Array Value) (n : Nat), K.lookup a = some o ∧ o.cls = .type "tuple" ∧ o.data = .seq its n ∧ its.size ≤ sizeLine ∧ Vals xs its.toList
  d : ∃ o, K.lookup a = some o ∧ o.cls = .type "tuple" ∧ o.dict = none
theorem TupG.sq {K : PySem.W.Frag} {mg : Str → Option Value} {x : Str} {a : Addr} {xs : List V} (T : TupG K mg x a xs) (H : Hp) : SqT K H a xs := .inr T.t
def placeV (p : Pl) : List V := [.str (S (kcd p.1)), .int p.2.1, .str (S (rcd p.2.2.1)), .str (S p.2.2.2)]
theorem kcd_len {p : Pl} (ok : PlOk p) : (kcd p.1).length ≤ 8 := by
  have h : ∀ k, k < 4 → (kcd k).length ≤ 8 := by decide
  exact h _ ok.k
theorem rcd_len {p : Pl} (ok : PlOk p) : (rcd p.2.2.1).length ≤ 8 := by
  have h : ∀ k, k < 9 → (rcd k).length ≤ 8 := by decide
  exact h _ ok.r
theorem digit_S : ∀ l : Nat, l < 3 → Txt.ljust (toString (l : Int)) 2 = S [48 + l, 32] := by decide +kernel
theorem join_S (fs : List Str) : Txt.join (", " : Str) fs = S (tailF fs) := (tail_S fs).symm
theorem join_nil : tailF [] = [] := by decide +kernel
theorem line_sizes {p : Pl} (ok : PlOk p) {E : List Nat} (h : E.length ≤ 1000) : (headL p ++ E).length ≤ 2000 := by
  rw [List.length_append, head_len ok]
  omega
theorem of_lt (l : Nat) (h : l < 3) : (l : Int) = 0 ∨ (l : Int) = 1 ∨ (l : Int) = 2 := by omega
theorem fs_sum {fs : List Str} (h : FtOk fs ∨ fs = []) : (fs.map (·.length)).sum + fs.length * (", " : Str).length ≤ 16777216 ∧ (tailF fs).length ≤ 60 := by
  rcases h with h | rfl
  · exact ⟨of_decide_eq_true (all_ft (p := fun fs => decide ((fs.map (·.length)).sum + fs.length * (", " : Str).length ≤ 16777216)) (by decide +kernel) h), ft_len h⟩
  · decide +kernel
/-- a page's line -/
def spPL (K : PySem.W.Frag) : Sp := fun vs H Q _ => ∃ (a b : Addr) (p : Pl) (fs : List Str), vs = [.ref a, .ref b] ∧ SqT K H a (placeV p) ∧ PlOk p ∧ (SqT K H b (fs.map V.str) ∨ SqL K H b (fs.map V.str)) ∧ (FtOk fs ∨ fs = []) ∧ ∀ H', Same H H' → Q (.str (S (lineL p fs))) H'
section
variable {P : Program} {w : World} {K : PySem.W.Frag} {mg : Str → Option Value} {base : Heap}
theorem scPL : FnScope ["place", "found", "kind", "layer", "role", "name"] ["place", "found"] (defScope sPL) := ⟨rfl, rfl, rfl, by decide +kernel, rfl, by decide +kernel, by decide +kernel⟩
theorem ok_pl {f : Addr} {fd : FuncData} (F : Fun K "page_line" "page_line" sPL f fd) : FnOk P w K mg base CX0 1 f fd ["place", "found"] (spPL K) := by
  refine F.ok scPL (fun vs H Q E h => ?_) (fun cdv A outer s H vs Q E hr h => ?_)
  · obtain ⟨a, b, p, fs, rfl, _⟩ := h
    rfl
  · obtain ⟨a, b, p, fs, rfl, ha, ok, hb, hf, q⟩ := h
    refine ⟨_, (C8.pss_cut (ps_asg (pv 0) (pg_tup (by rfl) (pgs_cons (pg_name (i := 2) scPL.nd rfl (.inl rfl)) (pgs_cons (pg_name (i := 3) scPL.nd rfl (.inl rfl)) (pgs_cons (pg_name (i := 4) scPL.nd rfl (.inl rfl)) (pgs_cons (pg_name (i := 5) scPL.nd rfl (.inl rfl)) pgs_nil))))))
        (pss_one (ps_ret (pe_joined (.cons (pe_fmtW (pv 2) (pe_joined1 pe_str)) (.cons (pe_fmtI (pv 3) (pe_joined1 pe_str)) (.cons (pe_fmtW (pv 4) (pe_joined1 pe_str)) (.cons (pe_fmtW (pv 5) (pe_joined1 pe_str)) (.cons (pe_fmt (pe_join pe_str (pv 1))) .nil))))))))), ?_⟩
    obtain ⟨z1, z2⟩ := fs_sum hf
    refine ⟨fun σ H' => σ = [some (.ref a), some (.ref b), some (.str (S (kcd p.1))), some (.int p.2.1), some (.str (S (rcd p.2.2.1))), some (.str (S p.2.2.2))] ∧ H' = H, ?_, ?_⟩
    · exact ⟨_, rfl, _, _, rfl, ha, rfl, _, _, rfl, _, _, rfl, _, _, rfl, _, _, rfl, rfl, rfl, rfl⟩
    rintro σ H1 ⟨rfl, rfl⟩
    have l1 : ∀ A B : List Nat, S A ++ S B = S (A ++ B) := fun A B => S_app A B
    have em : Str.empty = S [] := rfl
    have j8 : ∀ l : List Nat, Txt.ljust (S l) ((8 : Nat) : Int) = S (pad 8 l) := fun l => ljust_S l
    have j13 : ∀ l : List Nat, Txt.ljust (S l) ((13 : Nat) : Int) = S (pad 13 l) := fun l => ljust_S l
    have sz : ∀ l : List Nat, l.length ≤ 2000 → (S l).length ≤ sizeLine := fun l h => by rw [S_len]; exact Nat.le_trans h (by decide)
    have kl := kcd_len ok
    have rl := rcd_len ok
    have nl := ok.short
    have hpk := pk_len ok
    have hpr := pr_len ok
    have hpn := pn_len ok
    refine ⟨_, rfl, S (kcd p.1), "<8", 8, rfl, rfl, .inl ⟨rfl, rfl⟩, by rw [S_len]; omega, ?_⟩
    rw [j8, em]
    refine ⟨_, rfl, by rw [l1]; exact sz _ (by rw [List.length_append]; show 0 + (pk p).length ≤ _; omega), ?_⟩
    rw [l1, List.nil_append]
    refine ⟨_, rfl, (p.2.1 : Int), rfl, rfl, of_lt _ ok.l, ?_⟩
    rw [digit_S _ ok.l]
    refine ⟨_, rfl, by rw [l1]; exact sz _ (by rw [List.length_append]; show (pk p).length + 2 ≤ _; omega), ?_⟩
    rw [l1]
    refine ⟨_, rfl, S (rcd p.2.2.1), "<8", 8, rfl, rfl, .inl ⟨rfl, rfl⟩, by rw [S_len]; omega, ?_⟩
    rw [j8]
    refine ⟨_, rfl, by rw [l1]; exact sz _ (by rw [List.length_append, List.length_append]; show (pk p).length + 2 + (pr p).length ≤ _; omega), ?_⟩
    rw [l1]
    refine ⟨_, rfl, S p.2.2.2, "<13", 13, rfl, rfl, .inr ⟨rfl, rfl⟩, by rw [S_len]; omega, ?_⟩
    rw [j13]
    refine ⟨_, rfl, by rw [l1]; exact sz _ (by rw [List.length_append, List.length_append, List.length_append]; show (pk p).length + 2 + (pr p).length + (pn p).length ≤ _; omega), ?_⟩
    rw [l1]
    refine ⟨⟨_, rfl⟩, _, rfl, _, b, fs, rfl, rfl, hb.symm, z1, .inl ⟨_, rfl, ?_, ?_⟩⟩
    · rw [join_S]; exact sz _ (by omega)
    rw [join_S]
    refine ⟨_, rfl, by rw [l1]; exact sz _ (by rw [List.length_append, List.length_append, List.length_append, List.length_append]; show (pk p).length + 2 + (pr p).length + (pn p).length + _ ≤ _; omega), ?_⟩
    rw [l1]
    have e : ((((pad 8 (kcd p.1) ++ [48 + p.2.1, 32]) ++ pad 8 (rcd p.2.2.1)) ++ pad 13 p.2.2.2) ++ tailF fs) = lineL p fs := by
      rw [line_5]
      simp only [List.append_assoc]
      rfl
    rw [e]
    exact q _ (Same.refl _)
theorem scLL : FnScope ["_law_place", "_law_some"] ["_law_place", "_law_some"] (defScope sLL) := ⟨rfl, rfl, rfl, by decide +kernel, rfl, by decide +kernel, by decide +kernel⟩
theorem ok_ll {f : Addr} {fd : FuncData} (F : Fun K "_law_line" "_law_line" sLL f fd) (M : Mod mg) : FnOk P w K mg base CX0 1 f fd ["_law_place", "_law_some"] (spPL K) := by
  refine F.ok scLL (fun vs H Q E h => ?_) (fun cdv A outer s H vs Q E hr h => ?_)
  · obtain ⟨a, b, p, fs, rfl, _⟩ := h
    rfl
  · obtain ⟨a, b, p, fs, rfl, ha, ok, hb, hf, q⟩ := h
    refine ⟨_, (pss_one (ps_ret (pe_op op_add_str (pe_op op_add_str (pe_op op_add_str (pe_op op_add_str (pe_bm PySem.F.plainAttrs_str PySem.F.slot_str_ljust PySem.F.type_str_ljust mt_ljust (pe_ix ix_tup (pv 0) pe_int (fun _ _ => rfl)) (pa_cons pe_int pa_nil)) (pe_bm PySem.F.plainAttrs_str PySem.F.slot_str_ljust PySem.F.type_str_ljust mt_ljust (pe_callTy call_str_int (by rfl) M.str (by decide +kernel) (pa_cons (pe_ix ix_tup (pv 0) pe_int (fun _ _ => rfl)) pa_nil)) (pa_cons pe_int pa_nil))) (pe_bm PySem.F.plainAttrs_str PySem.F.slot_str_ljust PySem.F.type_str_ljust mt_ljust (pe_ix ix_tup (pv 0) pe_int (fun _ _ => rfl)) (pa_cons pe_int pa_nil))) (pe_bm PySem.F.plainAttrs_str PySem.F.slot_str_ljust PySem.F.type_str_ljust mt_ljust (pe_ix ix_tup (pv 0) pe_int (fun _ _ => rfl)) (pa_cons pe_int pa_nil))) (pe_join pe_str (pe_callTy call_list_of (by rfl) M.list (by decide +kernel) (pa_cons (pv 1) pa_nil)))))), ?_⟩
    obtain ⟨z1, z2⟩ := fs_sum hf
    have j8 : ∀ l : List Nat, Txt.ljust (S l) ((8 : Nat) : Int) = S (pad 8 l) := fun l => ljust_S l
    have j13 : ∀ l : List Nat, Txt.ljust (S l) ((13 : Nat) : Int) = S (pad 13 l) := fun l => ljust_S l
    have sz : ∀ n, n ≤ 2000 → n ≤ sizeLine := fun n h => Nat.le_trans h (by decide)
    have hpk := pk_len ok
    have hpr := pr_len ok
    have hpn := pn_len ok
    have P8 : PadOk 8 = true := by decide +kernel
    have P2 : PadOk 2 = true := by decide +kernel
    have P13 : PadOk 13 = true := by decide +kernel
    have lg : ((p.2.1 : Int)).natAbs.log2 < 1920 := by
      have h : ∀ l, l < 3 → ((l : Nat) : Int).natAbs.log2 < 1920 := by decide
      exact h _ ok.l
    refine ⟨_, rfl, a, _, 0, _, rfl, rfl, ha, rfl, rfl, _, 8, rfl, rfl, P8, ?_⟩
    rw [show ((8 : Int)) = ((8 : Nat) : Int) from rfl, j8]
    refine ⟨_, rfl, a, _, 1, _, rfl, rfl, ha, rfl, p.2.1, rfl, lg, rfl, _, 2, rfl, rfl, P2, ?_⟩
    rw [digit_S _ ok.l]
    refine ⟨S (pk p), S (pl p), rfl, rfl, by rw [S_len, S_len, hpk]; exact sz (8 + 2) (by decide), ?_⟩
    rw [S_app]
    refine ⟨_, rfl, a, _, 2, _, rfl, rfl, ha, rfl, rfl, _, 8, rfl, rfl, P8, ?_⟩
    rw [show ((8 : Int)) = ((8 : Nat) : Int) from rfl, j8]
    refine ⟨S (pk p ++ pl p), S (pr p), rfl, rfl, by rw [S_len, S_len, List.length_append, hpk, hpr]; exact sz (8 + 2 + 8) (by decide), ?_⟩
    rw [S_app]
    refine ⟨_, rfl, a, _, 3, _, rfl, rfl, ha, rfl, rfl, _, 13, rfl, rfl, P13, ?_⟩
    rw [show ((13 : Int)) = ((13 : Nat) : Int) from rfl, j13]
    refine ⟨S ((pk p ++ pl p) ++ pr p), S (pn p), rfl, rfl, by rw [S_len, S_len, List.length_append, List.length_append, hpk, hpr, hpn]; exact sz (8 + 2 + 8 + 13) (by decide), ?_⟩
    rw [S_app]
    refine ⟨⟨_, rfl⟩, _, rfl, b, _, rfl, hb.symm, fun l hl => ?_⟩
    refine ⟨_, l, fs, rfl, rfl, .inl (SqL.of upd_same), z1, ?_⟩
    rw [join_S]
    refine ⟨_, S (tailF fs), rfl, rfl, by rw [S_len, S_len, List.length_append, List.length_append, List.length_append, hpk, hpr, hpn]; exact sz _ (by show 8 + 2 + 8 + 13 + _ ≤ _; omega), ?_⟩
    rw [S_app]
    have e : (((pk p ++ pl p) ++ pr p) ++ pn p) ++ tailF fs = lineL p fs := by
      rw [line_5]
      simp only [List.append_assoc]
    rw [e]
    exact q _ (Same.new (Same.refl _) hl)
end
/-- how a line is cut -/
def spFO : Sp := fun vs H Q _ => ∃ c : List Nat, vs = [.str (S c)] ∧ c.length ≤ 10000 ∧ (c.length < 31 → ∀ H', Same H H' → Q .non H') ∧
  (31 ≤ c.length → ∀ L H', H L = none → Same H H' → H' L = some (.lst [.str (S (kf c)), .str (S (lf c)), .str (S (rf c)), .str (S (nf c)), .str (S (c.drop 31))]) → Q (.ref L) H')
def widN (i : Nat) : Nat := [8, 2, 8, 13].getD i 0
def offN (i : Nat) : Nat := [0, 8, 10, 18, 31].getD i 0
def prt (c : List Nat) (i : Nat) : List Nat := (c.drop (offN i)).take (widN i)
theorem off_next : ∀ i, i < 4 → offN (i + 1) = offN i + widN i ∧ widN i ≤ 13 ∧ 1 ≤ widN i ∧ offN i + widN i ≤ 31 := by decide
theorem off_mono : ∀ i, i ≤ 4 → offN i ≤ 31 := by decide
def WIDTHS : List V := [.int 8, .int 2, .int 8, .int 13]
theorem wid_at {i : Nat} {v : V} (h : WIDTHS[i]? = some v) : i < 4 ∧ v = .int (widN i) := by
  have hi : i < 4 := (List.getElem?_eq_some_iff.mp h).1
  refine ⟨hi, ?_⟩
  have : ∀ i, i < 4 → WIDTHS[i]? = some (.int (widN i)) := by decide
  rw [this i hi] at h
  exact (Option.some.inj h).symm
theorem prt_fields (c : List Nat) : (List.range 4).map (fun i => V.str (S (rs (prt c i)))) = [.str (S (kf c)), .str (S (lf c)), .str (S (rf c)), .str (S (nf c))] := rfl
section
variable {P : Program} {w : World} {K : PySem.W.Frag} {mg : Str → Option Value} {base : Heap} {aW aF aK aR : Addr}
abbrev nFO : List Str := ["line", "fields", "at", "width", "part", "field"]
theorem scFO : FnScope nFO ["line"] (defScope sFO) := ⟨rfl, rfl, rfl, by decide +kernel, rfl, by decide +kernel, by decide +kernel⟩
theorem ok_fo {f : Addr} {fd : FuncData} (F : Fun K "fields_of" "fields_of" sFO f fd) (TW : TupG K mg "WIDTHS" aW WIDTHS) : FnOk P w K mg base CX0 1 f fd ["line"] spFO := by
  have gW := TW.g
  refine F.ok scFO (fun vs H Q E h => ?_) (fun cdv A outer s H vs Q E hr h => ?_)
  · obtain ⟨c, rfl, _⟩ := h
    rfl
  · obtain ⟨c, rfl, hc, q0, q1⟩ := h
    refine ⟨_, (C8.pss_cut (ps_set (i := 1) scFO.nd rfl (.inl rfl) (pe_lst pa_nil))
        (C8.pss_cut (ps_set (i := 2) scFO.nd rfl (.inl rfl) pe_int)
        (C8.pss_cut (ps_for PassesOwn.never rfl (pi_tup (pe_glob (v := .ref aW) (by rfl) gW rfl)) (pg_name (i := 3) scFO.nd rfl (.inl rfl))
        (C8.pss_cut (ps_set (i := 4) scFO.nd rfl (.inl rfl) (pe_slice sl_str (pv 0) (po_some (pv 2)) (po_some (pe_op op_add (pv 2) (pv 3)))))
        (C8.pss_cut (ps_set (i := 5) scFO.nd rfl (.inl rfl) (pe_bm PySem.F.plainAttrs_str PySem.F.slot_str_rstrip PySem.F.type_str_rstrip mt_rstripChars (pv 4) (pa_cons pe_str pa_nil)))
        (C8.pss_cut (ps_if (pt_cmpR op_ne (pe_bm PySem.F.plainAttrs_str PySem.F.slot_str_ljust PySem.F.type_str_ljust mt_ljust (pv 5) (pa_cons (pv 3) pa_nil)) (pv 4) (nomark _)) (pss_one (ps_ret pe_non)) pss_nil)
        (C8.pss_cut (ps_expr (pe_bm PySem.F.plainAttrs_list PySem.F.slot_list_append PySem.F.type_list_append mt_append (pv 1) (pa_cons (pv 5) pa_nil)))
        (pss_one (ps_aug (i := 2) scFO.nd rfl (.inl rfl) (pv 3) ip_add)))))))
        (pss_one (ps_ret (pe_lst (StX.pa_star (pv 1) (pa_cons (pe_slice sl_str (pv 0) (po_some (pv 2)) po_none) pa_nil)))))))), ?_⟩
    have szc : ∀ l : List Nat, l.length ≤ c.length → (S l).length ≤ sizeLine := fun l h => by rw [S_len]; exact Nat.le_trans h (Nat.le_trans hc (by decide))
    refine ⟨fun σ H' => ∃ l, σ = [some (.str (S c)), some (.ref l), none, none, none, none] ∧ H l = none ∧ Same H H' ∧ H' l = some (.lst []), ⟨Nat.zero_le _, fun l hl => ⟨l, rfl, hl, Same.new (Same.refl H) hl, upd_same⟩⟩, ?_⟩
    rintro σ H1 ⟨l, rfl, hl, s1, h1⟩
    refine ⟨fun σ H' => σ = [some (.str (S c)), some (.ref l), some (.int 0), none, none, none] ∧ H' = H1, ⟨rfl, rfl⟩, ?_⟩
    rintro σ H1' ⟨rfl, rfl⟩
    refine ⟨fun σ H' => ∃ v3 v4 v5, σ = [some (.str (S c)), some (.ref l), some (.int 31), v3, v4, v5] ∧ Same H H' ∧ H' l = some (.lst ((List.range 4).map fun i => V.str (S (rs (prt c i))))) ∧ 31 ≤ c.length, ?_, ?_⟩
    · refine ⟨aW, rfl, ⟨_, TW.sq _⟩, ?_⟩
      refine for_tup (K := K) (a := aW) (xs := WIDTHS) (fun i σ H' => ∃ v3 v4 v5, σ = [some (.str (S c)), some (.ref l), some (.int (offN i)), v3, v4, v5] ∧ Same H H' ∧ H' l = some (.lst ((List.range i).map fun i => V.str (S (rs (prt c i))))) ∧ offN i ≤ c.length) ⟨none, none, none, rfl, s1, h1, Nat.zero_le _⟩ (fun _ _ H' _ _ => TW.sq H') ?_ ?_
      · rintro i x σ H' hx ⟨v3, v4, v5, rfl, s2, h2, ho⟩
        obtain ⟨hi, rfl⟩ := wid_at hx
        obtain ⟨en, w13, w1, w31⟩ := off_next i hi
        have ad : ((offN i : Int) + (widN i : Int)) = ((offN i + widN i : Nat) : Int) := by omega
        refine ⟨fun σ H'' => σ = [some (.str (S c)), some (.ref l), some (.int (offN i)), some (.int (widN i)), some (.str (S (prt c i))), v5] ∧ H'' = H', ?_, ?_⟩
        · refine ⟨_, rfl, _, rfl, _, rfl, _, rfl, _, rfl, _, _, rfl, rfl, _, rfl, S c, rfl, szc c (Nat.le_refl _), ?_⟩
          rw [ad, cut_S (by omega), Nat.add_sub_cancel_left]
          exact ⟨rfl, rfl⟩
        rintro σ H'' ⟨rfl, rfl⟩
        have lp : (prt c i).length ≤ widN i := by unfold prt; rw [List.length_take]; exact Nat.min_le_left _ _
        have lc' : (prt c i).length ≤ c.length := by unfold prt; rw [List.length_take, List.length_drop]; omega
        refine ⟨fun σ H3 => σ = [some (.str (S c)), some (.ref l), some (.int (offN i)), some (.int (widN i)), some (.str (S (prt c i))), some (.str (S (rs (prt c i))))] ∧ H3 = H'', ?_, ?_⟩
        · refine ⟨_, rfl, rfl, _, _, rfl, rfl, szc _ lc', ?_⟩
          rw [rstrip_S]
          exact ⟨rfl, rfl⟩
        rintro σ H3 ⟨rfl, rfl⟩
        have PW : PadOk (widN i : Int) = true := by
          have : ∀ i, i < 4 → PadOk (widN i : Int) = true := by decide +kernel
          exact this i hi
        refine ⟨fun σ H4 => σ = [some (.str (S c)), some (.ref l), some (.int (offN i)), some (.int (widN i)), some (.str (S (prt c i))), some (.str (S (rs (prt c i))))] ∧ H4 = H3 ∧ (prt c i).length = widN i, ?_, ?_⟩
        · refine ⟨_, rfl, rfl, _, rfl, _, _, rfl, rfl, PW, ?_⟩
          rw [ljust_S]
          refine ⟨_, rfl, rfl, _, rfl, ?_⟩
          rw [eq_strB]
          by_cases e : (prt c i).length = widN i
          · rw [decide_eq_true (congrArg S ((pad_rs lp).mpr e))]
            exact iteF ⟨rfl, rfl, e⟩
          · rw [decide_eq_false (fun z => e ((pad_rs lp).mp (S_inj z)))]
            refine iteT (q0 ?_ _ s2)
            have : (prt c i).length = min (widN i) (c.length - offN i) := by unfold prt; rw [List.length_take, List.length_drop]
            omega
        rintro σ H4 ⟨rfl, rfl, el⟩
        refine ⟨fun σ H5 => σ = [some (.str (S c)), some (.ref l), some (.int (offN i)), some (.int (widN i)), some (.str (S (prt c i))), some (.str (S (rs (prt c i))))] ∧ Same H H5 ∧ H5 l = some (.lst ((List.range (i + 1)).map fun i => V.str (S (rs (prt c i))))), ?_, ?_⟩
        · refine ⟨_, rfl, .inl ⟨rfl, _, SqL.of h2⟩, _, rfl, l, _, _, rfl, rfl, h2, ?_, rfl, Same.put s2 hl, ?_⟩
          · rw [List.length_map, List.length_range]
            exact Nat.lt_of_lt_of_le hi (by decide)
          · rw [upd_same, List.range_succ, List.map_append]
            rfl
        rintro σ H5 ⟨rfl, s5, h5⟩
        refine ⟨_, rfl, _, rfl, _, _, rfl, rfl, some (.int (widN i)), some (.str (S (prt c i))), some (.str (S (rs (prt c i)))), ?_, s5, h5, ?_⟩
        · show [some (V.str (S c)), some (V.ref l), some (V.int ((offN i : Int) + (widN i : Int))), some (.int (widN i)), some (.str (S (prt c i))), some (.str (S (rs (prt c i))))] = _
          rw [ad, en]
        · have : (prt c i).length = min (widN i) (c.length - offN i) := by unfold prt; rw [List.length_take, List.length_drop]
          rw [en]
          omega
      · rintro σ H' ⟨v3, v4, v5, rfl, s2, h2, ho⟩
        exact ⟨_, _, _, rfl, s2, h2, ho⟩
    rintro σ H2 ⟨v3, v4, v5, rfl, s2, h2, hl31⟩
    refine ⟨_, rfl, l, _, rfl, .inr (SqL.of h2), _, rfl, _, rfl, _, rfl, S c, rfl, szc c (Nat.le_refl _), ?_⟩
    rw [show (31 : Int) = ((31 : Nat) : Int) from rfl, cut_from]
    refine ⟨by show 5 ≤ sizeLine; decide, fun L hL => ?_⟩
    exact q1 hl31 L _ (s2.free hL) (Same.new s2 hL) upd_same
theorem eqv_strsL : ∀ xs ys : List Str, PyData.eqvAll (xs.map PyData.str) (ys.map PyData.str) = decide (xs = ys)
  | [], [] => by simp [PyData.eqvAll]
  | [], _ :: _ => by simp [PyData.eqvAll]
  | _ :: _, [] => by simp [PyData.eqvAll]
  | x :: xs, y :: ys => by
    simp only [List.map_cons, PyData.eqvAll, PyData.eqv, eqv_strsL xs ys]
    by_cases h : x = y
    · by_cases h2 : xs = ys <;> simp [h, h2]
    · simp [h]
theorem eqv_lists (xs ys : List Str) : PyData.eqv (.list (xs.map PyData.str)) (.list (ys.map PyData.str)) = decide (xs = ys) := by
  simp only [PyData.eqv]
  exact eqv_strsL xs ys
theorem ft_strok : ∀ f ∈ fatesS, PyData.strOk f = true := by decide +kernel
theorem strs_shaped {xs : List Str} (h : ∀ x ∈ xs, x ∈ fatesS) : SeqAt.shaped (.list (xs.map PyData.str)) = true ∧ SeqAt.shaped (.tuple (xs.map PyData.str)) = true := by
  have h1 : PyData.canLayAll0 (xs.map PyData.str) = true := by
    induction xs with
    | nil => rfl
    | cons x xs ih =>
      rw [List.map_cons]
      simp only [PyData.canLayAll0, PyData.canLay0]
      rw [ih fun y hy => h y (List.mem_cons_of_mem _ hy), ft_strok x (h x List.mem_cons_self)]
      rfl
  have h2 := depth_strs xs
  constructor
  · unfold SeqAt.shaped
    rw [Bool.and_eq_true]
    exact ⟨h1, decide_eq_true (by simp only [PyData.depth]; omega)⟩
  · unfold SeqAt.shaped
    rw [Bool.and_eq_true]
    exact ⟨h1, decide_eq_true (by simp only [PyData.depth]; omega)⟩
theorem dpall_strs {K : PySem.W.Frag} {H : Hp} : ∀ xs : List Str, DpAll K H (xs.map V.str) (xs.map PyData.str)
  | [] => .nil
  | _ :: xs => .cons (.str _) (dpall_strs xs)
/-- the fates of a text -/
def spFI (K : PySem.W.Frag) : Sp := fun vs H Q _ => ∃ c : List Nat, vs = [.str (S c)] ∧ c.length ≤ 10000 ∧ (cutW c).length ≤ 20000 ∧ (goodW (cutW c) = false → ∀ H', Same H H' → Q .non H') ∧
  (goodW (cutW c) = true → ∀ t H', H t = none → Same H H' → H' t = some (.tup ((cutW c).map V.str)) → Q (.ref t) H')
abbrev nFI : List Str := ["text", "words", "word", "found", "fate"]
theorem scFI : FnScope nFI ["text"] (defScope sFI) := ⟨rfl, rfl, rfl, by decide +kernel, rfl, by decide +kernel, by decide +kernel⟩
theorem ok_fi {f : Addr} {fd : FuncData} (F : Fun K "fates_in" "fates_in" sFI f fd) (M : Mod mg) (TF : TupG K mg "FATES" aF (fatesS.map V.str)) : FnOk P w K mg base CX0 1 f fd ["text"] (spFI K) := by
  have gF := TF.g
  refine F.ok scFI (fun vs H Q E h => ?_) (fun cdv A outer s H vs Q E hr h => ?_)
  · obtain ⟨c, rfl, _⟩ := h
    rfl
  · obtain ⟨c, rfl, hc, hw, q0, q1⟩ := h
    refine ⟨_, (C8.pss_cut (ps_set (i := 1) scFI.nd rfl (.inr rfl) (pe_split (pv 0) pe_str))
        (C8.pss_cut (ps_if (pt_not (pt_val (pe_callB (cr_all rfl) (by rfl) M.all (by decide +kernel) (pa_cons (pe_lc (own := [("word", 2)]) (g := gName 2) (tt := tYes) (by rfl) scFI.nd (pi_list (pv 1)) (blkOk_by (own := [("word", 2)]) (N := nFI) (sc := defScope sFI) (by decide +kernel)) (fun _ _ _ _ _ => pg_name (i := 2) scFI.nd rfl (Or.inl rfl)) (fun _ _ _ _ _ => pts_nil) (fun _ _ _ _ _ => (pe_cmpR (show OpR _ _ (rIn K false) from op_in_seq) (pv 2) (pe_glob (v := .ref aF) (by rfl) gF rfl) rfl))) pa_nil)))) (pss_one (ps_ret pe_non)) pss_nil)
        (C8.pss_cut (ps_set (i := 3) scFI.nd rfl (.inl rfl) (pe_callTy call_tuple_of (by rfl) M.tuple (by decide +kernel) (pa_cons (pe_lc (own := [("fate", 4)]) (g := gName 4) (by rfl) scFI.nd (pi_tup (pe_glob (v := .ref aF) (by rfl) gF rfl)) (blkOk_by (own := [("fate", 4)]) (N := nFI) (sc := defScope sFI) (by decide +kernel)) (fun _ _ _ _ _ => pg_name (i := 4) scFI.nd rfl (Or.inl rfl)) (fun _ _ _ _ _ => pts_one (pt_cmpR (show OpR _ _ (rIn K false) from op_in_seq) (pv 4) (pv 1) rfl)) (fun _ _ _ _ _ => (pv 4))) pa_nil)))
        (pss_one (ps_ret (pe_ifExp (pt_cmpR (op_eqD hr.units) (pe_callTy call_list_of (by rfl) M.list (by decide +kernel) (pa_cons (pv 3) pa_nil)) (pv 1) (nomark _)) (pv 3) pe_non)))))), ?_⟩
    generalize hws : cutW c = ws at hw q0 q1
    have hlw : ws.length < sizeLine := Nat.lt_of_le_of_lt hw (by decide)
    refine ⟨fun σ H' => ∃ l, σ = [some (.str (S c)), some (.ref l), none, none, none] ∧ Same H H' ∧ H' l = some (.lst (ws.map V.str)), ?_, ?_⟩
    · refine ⟨_, rfl, ⟨_, rfl⟩, S c, ", ", rfl, rfl, by decide +kernel, by rw [S_len]; exact Nat.le_trans (show _ ≤ 10002 by omega) (by decide), fun l hl => ⟨l, rfl, Same.new (Same.refl _) hl, ?_⟩⟩
      rw [upd_same]
      exact congrArg (fun z => some (HO.lst (z.map V.str))) hws
    rintro σ H1 ⟨l, rfl, s1, h1⟩
    -- all are fates
    refine ⟨fun σ H' => σ = [some (.str (S c)), some (.ref l), none, none, none] ∧ Same H1 H' ∧ ws.all (fun w => decide (w ∈ fatesS)) = true, ?_, ?_⟩
    · refine ⟨_, rfl, l, rfl, ⟨_, SqL.of h1⟩, fun D hD => ?_⟩
      refine lc_list (K := K) (a := l) (xs := ws.map V.str) (fun i H' => Same H1 H' ∧ H' D = some (.lst ((ws.take i).map fun w => V.bl (decide (w ∈ fatesS))))) ⟨Same.new (Same.refl _) hD, upd_same⟩ (fun i H' _ h => SqL.of (h.1 _ _ h1)) (fun i u H5 hi h => ?_) (fun H5 h => ?_)
      · obtain ⟨s5, h5⟩ := h
        rw [List.getElem?_map] at hi
        obtain ⟨z, hz, rfl⟩ := Option.map_eq_some_iff.mp hi
        refine ⟨rfl, _, rfl, aF, _, rfl, .inr (TF.sq _), rfl, flat_strs _, _, h5, ?_, Same.put s5 hD, ?_⟩
        · rw [List.length_map]
          exact Nat.lt_of_le_of_lt (List.length_take_le' _ _) hlw
        · rw [upd_same, List.take_add_one, hz, List.map_append]
          show some (HO.lst (_ ++ [V.bl (inV (.str z) (fatesS.map V.str))])) = _
          rw [inV_strs]
          rfl
      · obtain ⟨s5, h5⟩ := h
        rw [List.length_map, List.take_length] at h5
        refine ⟨D, ws.map fun w => decide (w ∈ fatesS), rfl, SqL.of (by rw [h5, List.map_map]; rfl), _, rfl, ?_⟩
        rw [all_id_map]
        cases e : ws.all fun w => decide (w ∈ fatesS) with
        | true => exact iteF ⟨rfl, s5, rfl⟩
        | false =>
          refine iteT (q0 ?_ _ (s1.trans s5))
          unfold goodW
          rw [e, Bool.false_and]
    rintro σ H2 ⟨rfl, s2, hall⟩
    have hin : ∀ x ∈ ws, x ∈ fatesS := fun x hx => of_decide_eq_true (List.all_eq_true.mp hall x hx)
    have h2 := s2 _ _ h1
    -- the fates in order
    refine ⟨fun σ H' => ∃ t, σ = [some (.str (S c)), some (.ref l), none, some (.ref t), none] ∧ H t = none ∧ Same H2 H' ∧ H' t = some (.tup ((fatesS.filter fun f => decide (f ∈ ws)).map V.str)), ?_, ?_⟩
    · refine ⟨aF, rfl, ⟨_, TF.sq _⟩, fun D hD => ?_⟩
      refine lc_tup (K := K) (a := aF) (xs := fatesS.map V.str) (fun i H' => Same H2 H' ∧ H' D = some (.lst (((fatesS.take i).filter fun f => decide (f ∈ ws)).map V.str))) ⟨Same.new (Same.refl _) hD, upd_same⟩ (fun i H' _ h => TF.sq H') (fun i u H5 hi h => ?_) (fun H5 h => ?_)
      · obtain ⟨s5, h5⟩ := h
        rw [List.getElem?_map] at hi
        obtain ⟨z, hz, rfl⟩ := Option.map_eq_some_iff.mp hi
        have es : (fatesS.take (i + 1)).filter (fun f => decide (f ∈ ws)) = (fatesS.take i).filter (fun f => decide (f ∈ ws)) ++ (if decide (z ∈ ws) = true then [z] else []) := by
          rw [List.take_add_one, hz, List.filter_append]
          cases e : decide (z ∈ ws) <;> simp [List.filter, e]
        refine ⟨rfl, _, rfl, _, rfl, l, _, rfl, .inl (SqL.of (s5 _ _ h2)), rfl, flat_strs _, _, rfl, ?_⟩
        show if inV (.str z) (ws.map V.str) = true then _ else _
        rw [inV_strs]
        cases e : decide (z ∈ ws) with
        | true =>
          refine iteT ⟨_, rfl, _, h5, ?_, Same.put s5 hD, ?_⟩
          · rw [List.length_map]
            have h7 : fatesS.length = 7 := rfl
            exact Nat.lt_of_le_of_lt (Nat.le_trans (List.length_filter_le _ _) (Nat.le_trans (List.length_take_le' _ _) (Nat.le_of_eq h7))) (by decide)
          · rw [upd_same, es, e, List.map_append]
            rfl
        | false =>
          refine iteF ⟨s5, ?_⟩
          rw [es, e, h5]
          simp
      · obtain ⟨s5, h5⟩ := h
        rw [List.length_map, List.take_length] at h5
        exact ⟨D, _, rfl, .inl ⟨SqL.of h5, fun t ht => ⟨t, rfl, (s1.trans (s2.trans s5)).free ht, Same.new s5 ht, upd_same⟩⟩⟩
    rintro σ H3 ⟨t, rfl, ht0, s3, h3⟩
    generalize hfs : (fatesS.filter fun f => decide (f ∈ ws)) = fs at h3
    have hfi : ∀ x ∈ fs, x ∈ fatesS := fun x hx => by rw [← hfs] at hx; exact (List.mem_filter.mp hx).1
    have s03 := s1.trans (s2.trans s3)
    refine ⟨_, rfl, t, _, rfl, .inr (SqT.of h3), fun l2 hl2 => ?_⟩
    have s4 := Same.new (o := .lst (fs.map V.str)) (Same.refl H3) hl2
    refine ⟨_, rfl, .list (fs.map PyData.str), .list (ws.map PyData.str), .lst (SqL.of upd_same) (dpall_strs _), .lst (SqL.of (s4 _ _ (s3 _ _ h2))) (dpall_strs _), (strs_shaped hfi).1, (strs_shaped hin).1, _, rfl, ?_⟩
    rw [eqv_lists]
    have gd : goodW ws = decide (fs = ws) := by
      unfold goodW
      rw [hall, Bool.true_and, hfs]
    by_cases e : fs = ws
    · rw [decide_eq_true e]
      refine iteT ⟨_, rfl, q1 (by rw [gd, decide_eq_true e]) t _ ht0 (s03.trans s4) ?_⟩
      rw [← e]
      exact s4 _ _ h3
    · rw [decide_eq_false e]
      exact iteF (q0 (by rw [gd, decide_eq_false e]) _ (s03.trans s4))
end
end K5

namespace K5
open PySem L2
abbrev sConsists : Stmt := top 6
abbrev sIsWord : Stmt := top 7
def spConsists (K : PySem.W.Frag) : Sp := fun vs H Q _ => ∃ (v : V) (d : PyData) (cs : Str), vs = [v, .str cs] ∧ Dp K H v d ∧ lenD d = true ∧ ∀ H', Same H H' → Q (.bl ((strD d).elim false fun z => inAll z cs)) H'
section
variable {P : Program} {w : World} {K : PySem.W.Frag} {mg : Str → Option Value} {base : Heap}
theorem scConsists : FnScope ["thing", "characters", "character"] ["thing", "characters"] (defScope sConsists) := ⟨rfl, rfl, rfl, by decide +kernel, rfl, by decide +kernel, by decide +kernel⟩
theorem ok_consists {f : Addr} {fd : FuncData} (F : Fun K "consists_of" "consists_of" sConsists f fd) (T : Mod mg) : FnOk P w K mg base CX0 1 f fd ["thing", "characters"] (spConsists K) := by
  obtain ⟨t, hL⟩ := T.longest
  refine F.ok scConsists (fun vs H Q E h => ?_) (fun cdv A outer s H vs Q E hr h => ?_)
  · obtain ⟨v, o, cs, rfl, _⟩ := h
    rfl
  · obtain ⟨v, d, cs, rfl, hv, hz, q⟩ := h
    refine ⟨_, C8.pss_cut (ps_if (PW.pt (pw_or (pt_not (pt_val (pe_callB call_isi (by rfl) T.isi (by decide +kernel) (pa_cons (pv 0) (pa_cons (pe_bltn (v := .ty "str") (by rfl) T.str (by decide +kernel) rfl) pa_nil)))))
        (pw_or1 (pt_not (pt_chain op_le op_le pe_int (pe_callB call_len_str (by rfl) T.len PySem.boot_len (pa_cons (pv 0) pa_nil)) (pe_glob (v := .int 12) rfl hL ⟨_, rfl⟩))))))
        (pss_one (ps_ret pe_bl)) pss_nil)
      (pss_one (ps_ret (pe_callB (cr_all rfl) (by rfl) T.all (by decide +kernel) (pa_cons (pe_lc (own := [("character", 2)]) (g := gName 2) (tt := tYes) (by rfl) scConsists.nd (pi_str (pv 0))
        (blkOk_by (own := [("character", 2)]) (N := ["thing", "characters", "character"]) (sc := defScope sConsists) (by decide +kernel)) (fun _ _ _ _ _ => pg_name (i := 2) scConsists.nd rfl (Or.inl rfl))
        (fun _ _ _ _ _ => pts_nil) (fun _ _ _ _ _ => pe_cmpR op_in_sign (pv 2) (pv 1) rfl)) pa_nil)))), ?_⟩
    rcases dp_thing hv with ⟨z, rfl, ed⟩ | ⟨ed, t', ty, kt⟩
    case inr =>
      rw [ed] at q
      exact ⟨fun _ _ => False, ⟨_, rfl, v, .ty "str", t', .type "str", false, rfl, .ty "str", ty, kt, false, rfl, iteT (iteT (q H (Same.refl H)))⟩, fun _ _ z => z.elim⟩
    rw [ed] at q
    have hz : z.length ≤ sizeLine := by
      cases hv
      exact K5.line_ge (Nat.le_trans (lenD_len hz) (by decide))
    replace q : ∀ H', Same H H' → Q (.bl (inAll z cs)) H' := q
    have hi : inAll z cs = (decide (1 ≤ z.length) && (decide (z.length ≤ 12) && z.cps.toList.all fun c => decide (c ∈ cs.cps.toList))) := Bool.and_assoc ..
    refine ⟨fun σ H' => σ = [some (.str z), some (.str cs), none] ∧ H' = H ∧ inAll z cs = z.cps.toList.all fun c => decide (c ∈ cs.cps.toList), ?_, ?_⟩
    · refine ⟨_, rfl, .str z, .ty "str", .type "str", .type "str", true, rfl, .ty "str", .base (.str z), kit_ty (by decide +kernel), true, rfl, ?_⟩
      refine iteF ?_
      refine ⟨_, rfl, z, rfl, hz, _, _, rfl, rfl, _, rfl, ?_⟩
      refine ite2 (fun h1 => ?_) (fun h1 => ?_)
      · have h1' : 1 ≤ z.length := by have := of_decide_eq_true h1; omega
        refine ⟨_, _, rfl, rfl, _, rfl, ?_⟩
        by_cases h2 : (z.length : Int) ≤ 12
        · show if (!decide ((z.length : Int) ≤ 12)) = true then _ else _
          refine iteNS h2 ?_
          have h2' : z.length ≤ 12 := by omega
          exact ⟨rfl, rfl, by rw [hi, decide_eq_true h1', decide_eq_true h2', Bool.true_and, Bool.true_and]⟩
        · show if (!decide ((z.length : Int) ≤ 12)) = true then _ else _
          rw [decide_eq_false h2]
          refine iteT ?_
          have h2' : ¬ z.length ≤ 12 := by omega
          have e := q H (Same.refl H)
          rw [hi, decide_eq_false h2', Bool.false_and, Bool.and_false] at e
          exact e
      · refine ⟨_, rfl, iteT ?_⟩
        have h1' : ¬ 1 ≤ z.length := fun h => h1 (decide_eq_true (by omega))
        have e := q H (Same.refl H)
        rw [hi, decide_eq_false h1', Bool.false_and] at e
        exact e
    · rintro σ H1 ⟨rfl, rfl, e⟩
      refine ⟨_, rfl, z, rfl, fun D hD => ?_⟩
      refine lc_it walk_str (fun i H' => Same H1 H' ∧ H' D = some (.lst ((z.cps.toList.take i).map fun c => V.bl (decide (c ∈ cs.cps.toList))))) ⟨Same.new (Same.refl H1) hD, upd_same⟩ (fun _ _ _ _ => trivial) ?_ ?_
      · rintro i x H2 H3 hi2 ⟨s2, h2⟩ ⟨rfl, c, hc, rfl⟩
        refine ⟨rfl, ?_⟩
        refine ⟨_, rfl, _, rfl, c, cs, rfl, rfl, _, h2, ?_, fun b o hb => ?_, ?_⟩
        · rw [List.length_map, List.length_take, str_len]
          have : i < z.length := hi2
          omega
        · rw [upd_ne (ne_of_none hb hD)]
          exact s2 b o hb
        · rw [upd_same, take_more _ (cps_at hc)]
      · rintro H2 ⟨s2, h2⟩
        refine ⟨D, z.cps.toList.map fun c => decide (c ∈ cs.cps.toList), rfl, SqL.of ?_, ?_⟩
        · rw [h2, List.map_map, List.take_of_length_le (by simp)]
          rfl
        · rw [all_id_map, ← e]
          exact q H2 s2
theorem scWord : FnScope ["thing"] ["thing"] (defScope sIsWord) := ⟨rfl, rfl, rfl, by decide +kernel, rfl, by decide +kernel, by decide +kernel⟩
theorem ok_word {f : Addr} {fd : FuncData} (F : Fun K "is_word" "is_word" sIsWord f fd) (T : Mod mg) (GC : Fn P w K mg base 1 "consists_of" ["thing", "characters"] (spConsists K)) : FnOk P w K mg base CX0 2 f fd ["thing"] (spL K wordD) := by
  obtain ⟨t, hL⟩ := T.letters
  refine F.ok scWord (fun vs H Q E h => ?_) (fun cdv A outer s H vs Q E hr h => ?_)
  · obtain ⟨v, o, rfl, _⟩ := h
    rfl
  · obtain ⟨v, d, rfl, hv, hz, q⟩ := h
    refine ⟨_, pss_one (ps_ret (pe_fn GC hr rfl (pa_cons (pv 0) (pa_cons (pe_glob (v := .str cLetters) rfl hL ⟨_, rfl⟩) pa_nil)))), ?_⟩
    exact ⟨_, rfl, v, d, cLetters, rfl, hv, hz, q⟩
end
end K5

/-! pages of fates: a line read -/
namespace K5
open PySem L2
open K5S (S S_cps S_len S_inj S_app lt)
abbrev sRL : Stmt := top 18
def KINDS : List V := (kc.map S).map V.str
def LAYERS : List V := (lc.map S).map V.str
def ROLES : List V := (rc.map S).map V.str
theorem in_sc (y : List Nat) (l : List (List Nat)) : inV (.str (S y)) ((l.map S).map V.str) = decide (y ∈ l) := by
  rw [inV_strs]
  by_cases h : y ∈ l
  · rw [decide_eq_true h, decide_eq_true (List.mem_map.mpr ⟨y, h, rfl⟩)]
  · rw [decide_eq_false h, decide_eq_false fun z => ?_]
    obtain ⟨a, ha, e⟩ := List.mem_map.mp z
    exact h (S_inj e ▸ ha)
theorem join_parts (sep : Str) : ∀ ws : List Str, (1 ≤ sep.length) → ws.length ≤ (Str.join sep ws).length + 1
  | [], _ => Nat.zero_le _
  | [x], _ => Nat.le_add_left _ _
  | x :: y :: r, h => by
    have ih := join_parts sep (y :: r) h
    have e : (Str.join sep (x :: y :: r)).length = x.length + sep.length + (Str.join sep (y :: r)).length := by
      show (x ++ sep ++ Str.join sep (y :: r)).length = _
      show ((x ++ sep ++ Str.join sep (y :: r)).cps).size = _
      rw [show (x ++ sep ++ Str.join sep (y :: r)).cps = x.cps ++ sep.cps ++ (Str.join sep (y :: r)).cps from rfl, Array.size_append, Array.size_append]
      rfl
    rw [e, List.length_cons]
    omega
theorem cut_len (c : List Nat) : (cutW c).length ≤ c.length + 1 := by
  have h := join_parts ", " (cutW c) (by decide +kernel)
  rw [cut_join, S_len] at h
  exact h
theorem ascii_ok {c : List Nat} (h : ∀ x ∈ c, x < 128) : PyData.strOk (S c) = true := by
  unfold PyData.strOk
  rw [← Array.all_toList, S_cps, List.all_eq_true]
  intro x hx
  exact decide_eq_true (Nat.lt_trans (h x hx) (by decide))
theorem rs_sub {l : List Nat} {x : Nat} (h : x ∈ rs l) : x ∈ l := by
  rw [rs_split l]
  exact List.mem_append_left _ h
theorem nf_sub {c : List Nat} {x : Nat} (h : x ∈ nf c) : x ∈ c := List.mem_of_mem_drop (List.mem_of_mem_take (rs_sub h))
theorem nf_len (c : List Nat) : (nf c).length ≤ 13 := Nat.le_trans (rs_len _) (by rw [List.length_take]; exact Nat.min_le_left _ _)
theorem wordD_S (n : List Nat) : wordD (.str (S n)) = (n.all lt && (decide (1 ≤ n.length) && decide (n.length ≤ 12))) := by
  show inAll (S n) cLetters = _
  unfold inAll
  rw [S_len, S_cps]
  have e : (n.all fun c => decide (c ∈ cLetters.cps.toList)) = n.all lt := by
    congr 1
    funext c
    have e1 : cLetters.cps.toList = K5S.abc := by decide +kernel
    rw [e1]
    unfold lt
    have : c ∈ K5S.abc ↔ 97 ≤ c ∧ c ≤ 122 := by
      have h1 : K5S.abc = List.range' 97 26 := by decide
      rw [h1, List.mem_range']
      constructor
      · rintro ⟨i, hi, e⟩
        omega
      · intro h
        exact ⟨c - 97, by omega, by omega⟩
    by_cases h : 97 ≤ c ∧ c ≤ 122
    · rw [decide_eq_true (this.mpr h), decide_eq_true h.1, decide_eq_true h.2]; rfl
    · rw [decide_eq_false (fun z => h (this.mp z))]
      by_cases h1 : 97 ≤ c
      · rw [decide_eq_true h1, decide_eq_false (fun z => h ⟨h1, z⟩)]; rfl
      · rw [decide_eq_false h1]; rfl
  rw [e, Bool.and_comm]
theorem nameB_S (n : List Nat) : nameB n = (decide (n = []) || wordD (.str (S n))) := by
  rw [wordD_S]
  unfold nameB
  cases n <;> rfl
/-- the order of a page -/
def rankK (p : Pl) : Key5 := ((p.1 : Int), (p.2.1 : Int), (p.2.2.1 : Int), decide (p.2.2.2 = []), S p.2.2.2)
def spRank (K : PySem.W.Frag) : Sp := fun vs H Q _ => ∃ (t : Addr) (p : Pl), vs = [.ref t] ∧ SqT K H t (placeV p) ∧ PlOk p ∧ ∀ u H', H u = none → Same H H' → H' u = some (.tup (kv5 (rankK p))) → Q (.ref u) H'
/-- a line read -/
def lnum (c : List Nat) : Int := ((lf c).headD 48 : Int) - 48
def spRL : Sp := fun vs H Q _ => ∃ c : List Nat, vs = [.str (S c)] ∧ c.length ≤ 10000 ∧ (∀ x ∈ c, x < 128) ∧ (readOk c = false → ∀ H', Same H H' → Q .non H') ∧
  (readOk c = true → ∀ R pA tA H', H R = none → H pA = none → H tA = none → Same H H' → H' R = some (.tup [.ref pA, .ref tA]) → H' pA = some (.tup [.str (S (kf c)), .int (lnum c), .str (S (rf c)), .str (S (nf c))]) → H' tA = some (.tup ((wf c).map V.str)) → Q (.ref R) H')
theorem ix_first (l : List (List Nat)) (hl : l.Nodup) {i : Nat} (hi : i < l.length) : (l.map S)[i]? = some (S (l.getD i [])) ∧ ∀ m, m < i → (l.map S)[m]? ≠ some (S (l.getD i [])) := by
  have e : l[i]? = some l[i] := List.getElem?_eq_getElem hi
  have e2 : l.getD i [] = l[i] := by simp [List.getD, e]
  refine ⟨by rw [List.getElem?_map, e, e2]; rfl, fun m hm h => ?_⟩
  rw [List.getElem?_map, List.getElem?_eq_getElem (by omega), e2] at h
  have h2 : l[m] = l[i] := S_inj (Option.some.inj h)
  have := (List.getElem_inj hl).mp h2
  omega
section
variable {P : Program} {w : World} {K : PySem.W.Frag} {mg : Str → Option Value} {base : Heap} {aW aF aK aR aL : Addr}
theorem scLR : FnScope ["place", "kind", "layer", "role", "name"] ["place"] (defScope sLR) := ⟨rfl, rfl, rfl, by decide +kernel, rfl, by decide +kernel, by decide +kernel⟩
theorem ok_lr {f : Addr} {fd : FuncData} (F : Fun K "line_rank" "line_rank" sLR f fd) (TK : TupG K mg "KINDS" aK KINDS) (TR : TupG K mg "ROLES" aR ROLES) : FnOk P w K mg base CX0 1 f fd ["place"] (spRank K) := by
  have gK := TK.g
  have gR := TR.g
  refine F.ok scLR (fun vs H Q E h => ?_) (fun cdv A outer s H vs Q E hr h => ?_)
  · obtain ⟨t, p, rfl, _⟩ := h
    rfl
  · obtain ⟨t, p, rfl, ht, ok, q⟩ := h
    refine ⟨_, (C8.pss_cut (ps_asg (pv 0) (pg_tup (by rfl) (pgs_cons (pg_name (i := 1) scLR.nd rfl (.inl rfl)) (pgs_cons (pg_name (i := 2) scLR.nd rfl (.inl rfl)) (pgs_cons (pg_name (i := 3) scLR.nd rfl (.inl rfl)) (pgs_cons (pg_name (i := 4) scLR.nd rfl (.inl rfl)) pgs_nil))))))
        (pss_one (ps_ret (pe_tup (pa_cons (pe_bm PySem.F.plainAttrs_tuple PySem.F.slot_tuple_index PySem.F.type_tuple_index mt_tup_index (pe_glob (v := .ref aK) (by rfl) gK rfl) (pa_cons (pv 1) pa_nil)) (pa_cons (pv 2) (pa_cons (pe_bm PySem.F.plainAttrs_tuple PySem.F.slot_tuple_index PySem.F.type_tuple_index mt_tup_index (pe_glob (v := .ref aR) (by rfl) gR rfl) (pa_cons (pv 3) pa_nil)) (pa_cons (pe_cmpR op_eq (pv 4) pe_str (nomark _)) (pa_cons (pv 4) pa_nil))))))))), ?_⟩
    refine ⟨fun σ H' => σ = [some (.ref t), some (.str (S (kcd p.1))), some (.int p.2.1), some (.str (S (rcd p.2.2.1))), some (.str (S p.2.2.2))] ∧ H' = H, ?_, ?_⟩
    · exact ⟨_, rfl, _, _, rfl, ht, rfl, _, _, rfl, _, _, rfl, _, _, rfl, _, _, rfl, rfl, rfl, rfl⟩
    rintro σ H1 ⟨rfl, rfl⟩
    obtain ⟨x1, x2⟩ := ix_first kc (by decide) (i := p.1) ok.k
    obtain ⟨y1, y2⟩ := ix_first rc (by decide) (i := p.2.2.1) ok.r
    refine ⟨.inr (.inl ⟨rfl, TK.d⟩), _, rfl, aK, kc.map S, S (kcd p.1), p.1, rfl, rfl, TK.sq _, x1, x2, ?_⟩
    refine ⟨_, rfl, .inr (.inl ⟨rfl, TR.d⟩), _, rfl, aR, rc.map S, S (rcd p.2.2.1), p.2.2.1, rfl, rfl, TR.sq _, y1, y2, ?_⟩
    refine ⟨_, rfl, rfl, ?_⟩
    rw [K5S.eq_noneB]
    exact ⟨_, rfl, by show 5 ≤ sizeLine; decide, fun u hu => q u _ hu (Same.new (Same.refl _) hu) upd_same⟩
abbrev nRL : List Str := ["line", "fields", "kind", "layer", "role", "name", "rest", "found"]
theorem scRL : FnScope nRL ["line"] (defScope sRL) := ⟨rfl, rfl, rfl, by decide +kernel, rfl, by decide +kernel, by decide +kernel⟩
theorem ok_rl {f : Addr} {fd : FuncData} (F : Fun K "read_line" "read_line" sRL f fd) (M : Mod mg) (TK : TupG K mg "KINDS" aK KINDS) (TL : TupG K mg "LAYERS" aL LAYERS) (TR : TupG K mg "ROLES" aR ROLES)
    (GFO : Fn P w K mg base 1 "fields_of" ["line"] spFO) (GFI : Fn P w K mg base 1 "fates_in" ["text"] (spFI K)) (GW : Fn P w K mg base 2 "is_word" ["thing"] (spL K wordD)) : FnOk P w K mg base CX0 3 f fd ["line"] spRL := by
  have gK := TK.g
  have gL := TL.g
  have gR := TR.g
  refine F.ok scRL (fun vs H Q E h => ?_) (fun cdv A outer s H vs Q E hr h => ?_)
  · obtain ⟨c, rfl, _⟩ := h
    rfl
  · obtain ⟨c, rfl, hc, h128, q0, q1⟩ := h
    have hr1 : Room 1 _ := hr.mono (by decide)
    have hr2 : Room 2 _ := hr
    refine ⟨_, (C8.pss_cut (ps_set (i := 1) scRL.nd rfl (.inl rfl) (pe_fn GFO hr1 rfl (pa_cons (pv 0) pa_nil)))
        (C8.pss_cut (ps_if (pt_cmpR op_isN (pv 1) pe_non (nomark _)) (pss_one (ps_ret pe_non)) pss_nil)
        (C8.pss_cut (ps_asg (pv 1) (pg_lst (by rfl) (pgs_cons (pg_name (i := 2) scRL.nd rfl (.inl rfl)) (pgs_cons (pg_name (i := 3) scRL.nd rfl (.inl rfl)) (pgs_cons (pg_name (i := 4) scRL.nd rfl (.inl rfl)) (pgs_cons (pg_name (i := 5) scRL.nd rfl (.inl rfl)) (pgs_cons (pg_name (i := 6) scRL.nd rfl (.inl rfl)) pgs_nil)))))))
        (C8.pss_cut (ps_if (PW.pt (pw_or (pt_cmpR (show OpR _ _ (rIn K true) from op_notIn_seq) (pv 2) (pe_glob (v := .ref aK) (by rfl) gK rfl) (by rfl)) (pw_or (pt_cmpR (show OpR _ _ (rIn K true) from op_notIn_seq) (pv 3) (pe_glob (v := .ref aL) (by rfl) gL rfl) (by rfl)) (pw_or (pt_cmpR (show OpR _ _ (rIn K true) from op_notIn_seq) (pv 4) (pe_glob (v := .ref aR) (by rfl) gR rfl) (by rfl)) (pw_or1 (pt_not (PW.pt (pw_or (pt_cmpR op_eq (pv 5) pe_str (nomark _)) (pw_or1 (pt_val (pe_fn GW hr2 rfl (pa_cons (pv 5) pa_nil)))))))))))) (pss_one (ps_ret pe_non)) pss_nil)
        (C8.pss_cut (ps_set (i := 7) scRL.nd rfl (.inl rfl) (pe_fn GFI hr1 rfl (pa_cons (pv 6) pa_nil)))
        (pss_one (ps_ret (pe_ifExp (pt_cmpR op_isN (pv 7) pe_non (nomark _)) pe_non (pe_tup (pa_cons (pe_tup (pa_cons (pv 2) (pa_cons (pe_callTy call_int_str (by rfl) M.int (by decide +kernel) (pa_cons (pv 3) pa_nil)) (pa_cons (pv 4) (pa_cons (pv 5) pa_nil))))) (pa_cons (pv 7) pa_nil))))))))))), ?_⟩
    have rd5 : readOk c = (decide (31 ≤ c.length) && (decide (kf c ∈ kc) && (decide (lf c ∈ lc) && (decide (rf c ∈ rc) && (nameB (nf c) && goodW (wf c)))))) := rfl
    -- the fields
    refine ⟨fun σ H' => (∃ H0, σ = [some (.str (S c)), some .non, none, none, none, none, none, none] ∧ H' = H0 ∧ Same H H0 ∧ c.length < 31) ∨ ∃ L, σ = [some (.str (S c)), some (.ref L), none, none, none, none, none, none] ∧ Same H H' ∧ H' L = some (.lst [.str (S (kf c)), .str (S (lf c)), .str (S (rf c)), .str (S (nf c)), .str (S (c.drop 31))]) ∧ 31 ≤ c.length, ?_, ?_⟩
    · exact ⟨_, rfl, c, rfl, hc, fun h H' s' => .inl ⟨_, rfl, rfl, s', h⟩, fun h L H' _ s' hL => .inr ⟨L, rfl, s', hL, h⟩⟩
    rintro σ H1 h1
    refine ⟨fun σ H' => ∃ L, σ = [some (.str (S c)), some (.ref L), none, none, none, none, none, none] ∧ Same H H' ∧ H' L = some (.lst [.str (S (kf c)), .str (S (lf c)), .str (S (rf c)), .str (S (nf c)), .str (S (c.drop 31))]) ∧ 31 ≤ c.length, ?_, ?_⟩
    · rcases h1 with ⟨_, rfl, rfl, s1, hlt⟩ | ⟨L, rfl, s1, hL, hge⟩
      · exact ⟨_, rfl, rfl, _, rfl, iteT (q0 (bad_len hlt) _ s1)⟩
      · exact ⟨_, rfl, rfl, _, rfl, iteF ⟨L, rfl, s1, hL, hge⟩⟩
    rintro σ H2 ⟨L, rfl, s2, hL, hge⟩
    refine ⟨fun σ H' => σ = [some (.str (S c)), some (.ref L), some (.str (S (kf c))), some (.str (S (lf c))), some (.str (S (rf c))), some (.str (S (nf c))), some (.str (S (c.drop 31))), none] ∧ H' = H2, ?_, ?_⟩
    · exact ⟨_, rfl, _, _, rfl, SqL.of hL, rfl, _, _, rfl, _, _, rfl, _, _, rfl, _, _, rfl, _, _, rfl, rfl, rfl, rfl⟩
    rintro σ H2' ⟨rfl, rfl⟩
    have ne1 : decide (31 ≤ c.length) = true := decide_eq_true hge
    -- the checks
    refine ⟨fun σ H' => σ = [some (.str (S c)), some (.ref L), some (.str (S (kf c))), some (.str (S (lf c))), some (.str (S (rf c))), some (.str (S (nf c))), some (.str (S (c.drop 31))), none] ∧ Same H2' H' ∧ kf c ∈ kc ∧ lf c ∈ lc ∧ rf c ∈ rc ∧ nameB (nf c) = true, ?_, ?_⟩
    · refine ⟨_, rfl, aK, _, rfl, .inr (TK.sq _), rfl, flat_strs _, _, rfl, ?_⟩
      show if (!inV (.str (S (kf c))) ((kc.map S).map V.str)) = true then _ else _
      rw [in_sc]
      by_cases k1 : kf c ∈ kc
      · rw [decide_eq_true k1]
        refine iteF ⟨_, rfl, aL, _, rfl, .inr (TL.sq _), rfl, flat_strs _, _, rfl, ?_⟩
        show if (!inV (.str (S (lf c))) ((lc.map S).map V.str)) = true then _ else _
        rw [in_sc]
        by_cases k2 : lf c ∈ lc
        · rw [decide_eq_true k2]
          refine iteF ⟨_, rfl, aR, _, rfl, .inr (TR.sq _), rfl, flat_strs _, _, rfl, ?_⟩
          show if (!inV (.str (S (rf c))) ((rc.map S).map V.str)) = true then _ else _
          rw [in_sc]
          by_cases k3 : rf c ∈ rc
          · rw [decide_eq_true k3]
            refine iteF ⟨_, rfl, rfl, _, rfl, ?_⟩
            rw [K5S.eq_noneB]
            by_cases k4 : nf c = []
            · rw [decide_eq_true k4]
              refine iteT (iteF ⟨rfl, Same.refl _, k1, k2, k3, ?_⟩)
              rw [k4]; rfl
            · rw [decide_eq_false k4]
              refine iteF ⟨_, rfl, .str (S (nf c)), .str (S (nf c)), rfl, .str _, ?_, fun H3 s3 => ⟨_, rfl, ?_⟩⟩
              · show (decide ((S (nf c)).length ≤ 400) && PyData.strOk (S (nf c))) = true
                rw [ascii_ok fun x hx => h128 x (nf_sub hx), S_len, decide_eq_true (Nat.le_trans (nf_len c) (by decide))]
                rfl
              · have en := nameB_S (nf c)
                rw [decide_eq_false k4, Bool.false_or] at en
                rw [← en]
                cases k5 : nameB (nf c) with
                | true => exact iteF ⟨rfl, s3, k1, k2, k3, rfl⟩
                | false => exact iteT (q0 (bad_n k5) _ (s2.trans s3))
          · rw [decide_eq_false k3]
            exact iteT (q0 (bad_r k3) _ s2)
        · rw [decide_eq_false k2]
          exact iteT (q0 (bad_l k2) _ s2)
      · rw [decide_eq_false k1]
        exact iteT (q0 (bad_k k1) _ s2)
    rintro σ H3 ⟨rfl, s3, k1, k2, k3, k5⟩
    have s03 := s2.trans s3
    have rd : readOk c = goodW (wf c) := by
      rw [rd5, ne1, decide_eq_true k1, decide_eq_true k2, decide_eq_true k3, k5]
      rfl
    -- the fates
    refine ⟨fun σ H' => (σ = [some (.str (S c)), some (.ref L), some (.str (S (kf c))), some (.str (S (lf c))), some (.str (S (rf c))), some (.str (S (nf c))), some (.str (S (c.drop 31))), some .non] ∧ Same H3 H' ∧ readOk c = false) ∨ ∃ t, σ = [some (.str (S c)), some (.ref L), some (.str (S (kf c))), some (.str (S (lf c))), some (.str (S (rf c))), some (.str (S (nf c))), some (.str (S (c.drop 31))), some (.ref t)] ∧ H3 t = none ∧ Same H3 H' ∧ H' t = some (.tup ((wf c).map V.str)) ∧ readOk c = true, ?_, ?_⟩
    · refine ⟨_, rfl, c.drop 31, rfl, by rw [List.length_drop]; omega, Nat.le_trans (cut_len _) (by rw [List.length_drop]; omega), fun g H' s' => .inl ⟨rfl, s', rd.trans g⟩, fun g t H' ht s' h' => .inr ⟨t, rfl, ht, s', h', rd.trans g⟩⟩
    rintro σ H4 h4
    rcases h4 with ⟨rfl, s4, g⟩ | ⟨t, rfl, ht, s4, h4, g⟩
    · exact ⟨_, rfl, rfl, _, rfl, iteT (q0 g _ (s03.trans s4))⟩
    · have hn : PySem.intText? (S (lf c)) = some (lnum c) ∧ (S (lf c)).length ≤ 640 := by
        have : ∀ l ∈ lc, PySem.intText? (S l) = some ((l.headD 48 : Int) - 48) ∧ (S l).length ≤ 640 := by decide +kernel
        exact this _ k2
      refine ⟨_, rfl, rfl, _, rfl, iteF ⟨_, rfl, _, rfl, _, _, rfl, hn.1, hn.2, _, rfl, _, rfl, by show 4 ≤ sizeLine; decide, fun pA hpA => ⟨_, rfl, by show 2 ≤ sizeLine; decide, fun R hR => ?_⟩⟩⟩
      have s5 := Same.new (o := .tup [.str (S (kf c)), .int (lnum c), .str (S (rf c)), .str (S (nf c))]) (Same.refl H4) hpA
      have s6 := Same.new (o := .tup [.ref pA, .ref t]) (Same.refl _) hR
      have s04 := s03.trans s4
      exact q1 g R pA t _ ((s04.trans s5).free hR) (s04.free hpA) (s03.free ht) ((s04.trans s5).trans s6) upd_same (s6 _ _ upd_same) (s6 _ _ (s5 _ _ h4))
end
end K5

namespace K15E
open PySem PySem.W PySem.Calls PyProof.Rows PySem.HandSPX
/-! ### BadPage and its __init__, which says super().__init__(..) and stores one field -/
def eA (p1 p2 : Pos) : Arguments := { posonlyargs := [], args := [{ arg := "self", annotation := none, pos := p1 }, { arg := "line", annotation := none, pos := p2 }], vararg := none, kwonlyargs := [], kw_defaults := [], kwarg := none, defaults := [] }
def eB (m : Str) (j : Nat) (o1 o2 o3 o4 o5 o6 q1 q2 q3 q4 : Pos) : List Stmt := [.Expr (.Call (.Attribute (.Call (.Name "super" o1) [] [] o2) "__init__" o3) [.Constant (.str m) j o4] [] o5) o6, .Assign [.Attribute (.Name "self" q1) "line" q2] (.Name "line" q3) q4]
def eS : Scope := { kind := .function, names := [(PySem.Str.ofString "self", .local), (PySem.Str.ofString "line", .local), (PySem.Str.ofString "__class__", .free), (PySem.Str.ofString "super", .globalImplicit)], isGenerator := false, isCoroutine := false, more := [] }
/-- what the written part says of BadPage, at C, of its __init__, at fI, and of that one's cell and code -/
structure ErrTxt (prog : Program) (K : Frag) (mg : Str → Option Value) (C fI : Addr) : Prop where
  gC : mg "BadPage" = some (.ref C)
  cls : ∃ nm q N bs bm sn sub ab col dd k0 k1 k2 k3 k5, K.lookup C = some (excClassObj nm q C N bs bm true sn sub ab col dd k0 k1 k2 k3 k5 "ValueError.__new__") ∧ refsVE bm = true
  sa : findIn K (.ref C) "__setattr__" = some (some (.builtin "object.__setattr__"))
  noN : findIn K (.ref C) "line" = some none
  iC : findIn K (.ref C) "__init__" = some (some (.ref fI))
  tC : typeIn K (.ref fI) = some (.type "function")
  kC : keepIn K (.ref C) = true
  exC : subIn K (.ref C) (.type "BaseException") = some true
  vaC : subIn K (.ref C) (.type "ValueError") = some true
  tyC : typeIn K (.ref C) = some (.type "type")
  te : exmOne K (.ref C) (.ref C) = some true
  sub : mroIn K C (.ref C) = some true
  sup : ks_superIn K C C "__init__" = some (some (.builtin "ValueError.__init__"))
  tp : nsIn K cStatics "thirdparty.any" = some none
  su : mg "super" = none
  top : (prog.main.scope.names.lookup ("super" : Str)).isSome = false
  fn : ∃ (oc : Value) (od : Option Addr) (doc pm : Value) (an : Option Addr) (cda cc : Addr) (ct : Value) (osl : Array (Option Value)) (m : Str) (j : Nat) (p1 p2 o1 o2 o3 o4 o5 o6 q1 q2 q3 q4 : Pos),
    K.lookup fI = some ⟨oc, od, .func (ksFn "__init__" "BadPage.__init__" (eA p1 p2) (eB m j o1 o2 o3 o4 o5 o6 q1 q2 q3 q4) eS .none .none doc pm an (.ref cda) ct cc), osl⟩ ∧ codeIn K (.ref cda) "BadPage.__init__" = true ∧
    (∃ (ccl : Value) (cdd : Option Addr) (vs : Array Value) (ccs : Array (Option Value)) (file : Str) (tf : Tok), K.lookup cda = some ⟨ccl, cdd, .fields vs, ccs⟩ ∧ vs[2]? = some (.str file tf) ∧ ((prog.main.file : Str) == file) = true) ∧
    (∀ env : Env, ∃ pl : Sem Bool, eval (.Call (.Attribute (.Call (.Name "super" o1) [] [] o2) "__init__" o3) [.Constant (.str m) j o4] [] o5) env = (do
      let ov ← attributeBase (.Call (.Name "super" o1) [] [] o2) "__init__" env (eval (.Call (.Name "super" o1) [] [] o2) env)
      standAt o3.atName
      let (f, first) ← holding [ov] (getMethod ov "__init__" pl)
      callWith o5 f first (backTo o5 (starEach [.Constant (.str m) j o4] env)) [])) ∧
    ∃ (cl : Value) (cld : Option Addr) (csl : Array (Option Value)), K.lookup cc = some ⟨cl, cld, .cell (some (.ref C)), csl⟩
theorem one_len (v : Value) : [v].length ≤ sizeLine := by
  show 1 ≤ sizeLine
  rw [sizeLine_eq]
  decide
/-- what __init__ leaves of a fresh exception at x -/
structure Left (h h' : Heap) (x C dx t1 : Addr) (v : Value) : Prop where
  keep : ∀ b o, b ≠ x → h.get? b = some o → h'.get? b = some o
  obj : h'.get? x = some { cls := .ref C, dict := some dx, data := .fields #[.ref t1, .none, .none, .none, .bool false, .none] }
  dbig : h.objs.size ≤ dx
  dne : dx ≠ x
  ns : h'.Ns1 dx (fun y => if y = "line" then some v else none)
section
variable {prog : Program} {w : World} {A : Around} {E : Value → Shared → Prop} {R : Result → Shared → Prop} {K : Frag} {mg : Str → Option Value} {C fI : Addr}
/-- the wrapper of ValueError.__init__, bound to a fresh exception, called -/
theorem wrapped {h : Heap} {g : Array GenState} {d : Drawn} {t : Nat} {os : OsState} {nm q : Str} {N : Addr} {bs bm : List Value} {hdct : Bool} {sn : List Str} {sub : List Value} {ab : Bool} {col : Option Bool} {dd : Option Addr} {k0 k1 k2 k3 k5 : Option Value}
    {u e t0 : Addr} {rest : List Value} {Q : Value → Shared → Prop} (hC : h.get? C = some (excClassObj nm q C N bs bm hdct sn sub ab col dd k0 k1 k2 k3 k5 "ValueError.__new__")) (he : h.get? e = some (excO C t0)) (hu : h.get? u = some (kxs_mw "ValueError.__init__" e)) (hz : rest.length ≤ sizeLine)
    (hq : ∀ h' t1, (∀ b o, b ≠ e → h.get? b = some o → h'.get? b = some o) → h'.get? e = some (excO C t1) → Q .none ⟨h', g, d, t, os⟩) :
    wpAny (model prog w) A (PySem.call (.ref u) rest) Q E ⟨h, g, d, t, os⟩ := by
  refine wpAny_call (codeAny_of_tree ?_)
  show wpAny _ A.in1 (callAny (.ref u) ⟨rest, []⟩) _ _ _
  unfold callAny
  refine wpAny_bind (wpAny_load hu ?_)
  have y1 : (Value.type "method-wrapper" == Value.type "method" || Value.type "method-wrapper" == Value.type "builtin_function_or_method" || Value.type "method-wrapper" == Value.type "method-wrapper") = true := by decide
  simp only [kxs_mw, y1, if_true]
  refine KFB.if_so (by decide) ?_
  refine wpAny_bind (check_bound_init F.excBase_ValueError.toExcCallFacts hC he rfl ?_)
  refine wpAny_bind (wpAny_pure (wpAny_pure ?_))
  refine ⟨plainId_quiet F.excBase_ValueError.init.plain _, codeAny_builtin F.excBase_ValueError.initEntry ?_⟩
  exact exc_init_tree (cls := .ref C) (t0 := t0) (dv := none) (c2 := .none) (c3 := .none) (b4 := .bool false) he hz fun h' k e' _ => hq h' _ k e'
theorem bound_name {env : Env} {s : Shared} {m : Str → Option Value} {y : Str} {pos : Pos} {u : Value} {Q : Value → Shared → Prop} {M : Model} (hn : s.heap.Ns env.locals m) (hv : m y = some u) (h : Q u s)
    (hk : env.scope.kind = .function := by rfl) (hl : env.kindOf y = some .local := by rfl) (hd : (y == ("__debug__" : Str)) = false := by decide) : wpAny M A (eval (.Name y pos) env) Q E s := wpAny_Name (wpAny_loadName_local hk hl hn hv h) hd
theorem err_init (T : ErrTxt prog K mg C fI) {s : Shared} {x t0 : Addr} {v : Value} (X : K.In s.heap) (G : s.heap.Ns mainGlobals mg) (B : ∃ mb, s.heap.Ns builtinsNs mb ∧ mb "super" = bootBuiltins "super") (hlim : s.heap.NoLimit) (hx : s.heap.get? x = some (excO C t0)) (hnx : K.lookup x = none) (hroom : A.depth < recursionLimit)
    (hq : ∀ h' tk dx t1, Left s.heap h' x C dx t1 v → R (.ok (.ret .none)) { s with heap := h', toks := tk }) :
    codeAny (model prog w) A (.call (.ref fI) ⟨[.ref x, v], []⟩) R s := by
  obtain ⟨oc, od, doc, pm, an, cda, cc, ct, osl, msg, j, p1, p2, o1, o2, o3, o4, o5, o6, q1, q2, q3, q4, ho, hcd, ⟨ccl, cdd, vs, ccs, file, tf, hcode, hvs, hfile⟩, hev, cl, cld, csl, hcell⟩ := T.fn
  obtain ⟨nm, q, N, bs, bm, sn, sub, ab, col, dd, k0, k1, k2, k3, k5, hC, hbm⟩ := T.cls
  obtain ⟨mb, hB, hmb⟩ := B
  have hcl : clsIn K C = some { name := nm, bases := bs, mro := .ref C :: bm, ns := N, qualname := q, hasDict := true, slotNames := sn, subclasses := sub, abstract := ab, collection := col, hasDel := false } := by unfold clsIn; rw [hC] <;> rfl
  obtain ⟨hp, g, d, t, os⟩ := s
  refine ks_codeAny_call_defAt (binds := [((PySem.Str.ofString "self"), Value.ref x), ((PySem.Str.ofString "line"), v)]) hroom (X _ _ ho) rfl hlim (codeRec_of X hcd) rfl (BindsTo.of_eq (by first | rfl | with_unfolding_all rfl)) (show ∀ y ∈ eS.names, y.2 ≠ .cell by decide +kernel) (fun y hy => ?_) (fun h₁ hns k₁ => ?_) rfl rfl rfl
  · have hy' : y = ((PySem.Str.ofString "self"), Value.ref x) ∨ y = ((PySem.Str.ofString "line"), v) := by simpa using hy
    rcases hy' with e | e <;> rw [e] <;> rfl
  · have X₁ : K.In h₁ := X.keeps k₁
    have hx₁ : h₁.get? x = some (excO C t0) := k₁ _ _ hx
    obtain ⟨pl, hev⟩ := hev (ksEnv "BadPage.__init__" eS hp.objs.size fI (.ref cda) cc)
    refine ks_wpAt_execs_cons (ks_wpAt_Expr_any (ks_wpAt_MethodCall ?_ hev))
    refine ks_wpAt_super_base rfl rfl (by decide +kernel) rfl (X₁ _ _ ho) rfl rfl rfl (X₁ _ _ hcode) rfl hvs hfile T.top ?_
    refine ks_loadName_global rfl rfl (loadGlobal_builtin (G.keeps k₁) T.su (hB.keeps k₁) (hmb.trans PyProof.Rows.Boot.«super») ⟨rfl, ?_⟩)
    refine wpAny_loadName_free rfl rfl rfl ⟨_, X₁ _ _ hcell, rfl⟩ ?_
    refine wpAny_loadName_local (v := .ref x) rfl rfl hns rfl ?_
    have hC₁ := X₁ _ _ hC
    refine ks_wpAny_isType_cls hC₁ rfl ⟨rfl, ?_⟩
    refine ks_wpAny_call_super hC₁ rfl hx₁ rfl (fun c e => by cases e) (looks_mroIn X₁ T.sub) (fun h₂ e₂ k₂ => ?_)
    have X₂ : K.In h₂ := X₁.keeps k₂
    have hx₂ := k₂ _ _ hx₁
    have I₂ : InstAt h₂ x (excO C t0) C none := ⟨hx₂, rfl, rfl, trivial⟩
    have hxC : x ≠ C := fun z => by rw [z, hC] at hnx; cases hnx
    have hsup : alongIn K "__init__" (((Value.ref C :: bm).dropWhile (· != .ref C)).drop 1) = some (some (.builtin "ValueError.__init__")) := by
      have z := T.sup
      unfold ks_superIn at z
      rw [hcl] at z
      exact z
    refine kxs_getMethod kxs_ValueError e₂ (looks_opaque X₂ T.tp) (l₀ := Value.ref C :: bm) ((looks_clsIn X₂ hcl).andThen .now) rfl X₂ hsup (I₂.type.andThen (looks_subIn X₂ T.vaC)) hxC (by decide +kernel) ?_
    have k₃ : ∀ b o, h₂.get? b = some o → (h₂.push (kxs_mw "ValueError.__init__" x)).get? b = some o := fun b o e => Heap.get?_push_of_some _ e
    have hu₃ : (h₂.push (kxs_mw "ValueError.__init__" x)).get? h₂.objs.size = some (kxs_mw "ValueError.__init__" x) := Heap.get?_push_at rfl rfl
    refine kxs_callWith (i := "ValueError.__init__") (x := x) rfl (evalArgs_plain (spliced_cons (Constant_str (k := j) (pos := o4) (spliced_nil ⟨hu₃, ?_⟩))))
    refine wrapped (k₃ _ _ (X₂ _ _ hC)) (k₃ _ _ hx₂) hu₃ (one_len _) fun h₄ t1 k₄ hx₄ => ?_
    have k14 : ∀ b o, b ≠ x → h₁.get? b = some o → h₄.get? b = some o := fun b o n e => k₄ b o n (k₃ _ _ (k₂ _ _ e))
    have hL : hp.objs.size ≠ x := Nat.ne_of_gt (Heap.lt_size hx)
    have hns₄ : h₄.Ns hp.objs.size (fun y => List.lookup y [((PySem.Str.ofString "self"), Value.ref x), ((PySem.Str.ofString "line"), v)].reverse) := hns.at fun o e => k14 _ _ hL e
    have X₄ : K.In h₄ := fun b o e => k14 b o (fun z => by rw [z, hnx] at e; cases e) (X₁ b o e)
    refine wpAt_of_wpAny (wpAny_execs_cons (plainObj_wpAny_Assign_Attribute ?_))
    refine bound_name (env := ksEnv "BadPage.__init__" eS hp.objs.size fI (.ref cda) cc) hns₄ (u := v) rfl (bound_name (env := ksEnv "BadPage.__init__" eS hp.objs.size fI (.ref cda) cc) hns₄ (u := .ref x) rfl ?_)
    refine set_plain X₄ (ox := excO C t1) (od := none) ⟨hx₄, rfl, rfl, trivial⟩ T.sa ?_
    refine exc_osa X₄ hx₄ hcl (show refsVE (.ref C :: bm) = true from hbm) rfl T.noN (fun h₅ tk₅ dx k₅ dn dne hx₅ hn₅ => ?_)
    show wpAny _ _ (execs _ _) _ _ _
    have hz : hp.objs.size ≤ h₄.objs.size := Nat.le_of_lt hns₄.lt
    exact wpAny_execs_nil (hq h₅ tk₅ dx t1 ⟨fun b o hb e => k₅ b o hb (k14 b o hb (k₁ b o e)), hx₅, Nat.le_trans hz dn, dne, hn₅⟩)
/-- a made BadPage -/
structure Made (h h' : Heap) (e C d : Addr) (v : Value) : Prop where
  keep : ∀ b o, h.get? b = some o → h'.get? b = some o
  new : h.objs.size ≤ e
  obj : ∃ oe vs, h'.get? e = some oe ∧ oe.cls = .ref C ∧ oe.dict = some d ∧ oe.data = .fields vs ∧ vs[1]? = some .none
  dbig : h.objs.size ≤ d
  dne : d ≠ e
  ns : h'.Ns1 d (fun y => if y = "line" then some v else none)
theorem err_made (T : ErrTxt prog K mg C fI) {s : Shared} {v : Value} (X : K.In s.heap) (G : s.heap.Ns mainGlobals mg) (B : ∃ mb, s.heap.Ns builtinsNs mb ∧ mb "super" = bootBuiltins "super") (hlim : s.heap.NoLimit) (hroom : A.depth + 1 < recursionLimit)
    (hq : ∀ h' tk e d, Made s.heap h' e C d v → R (.ok (.ret (.ref e))) { s with heap := h', toks := tk }) : codeAny (model prog w) A (.call (.ref C) ⟨[v], []⟩) R s := by
  obtain ⟨nm, q, N, bs, bm, sn, sub, ab, col, dd, k0, k1, k2, k3, k5, hC, hbm⟩ := T.cls
  obtain ⟨mb, hB, hmb⟩ := B
  obtain ⟨hp, g, dr, tk, os⟩ := s
  have k : ∀ b o, hp.get? b = some o → ((hp.push (kdv_tup [v])).push (excO C hp.objs.size)).get? b = some o := fun b o e => Heap.get?_push_of_some _ (Heap.get?_push_of_some _ e)
  have hget : ((hp.push (kdv_tup [v])).push (excO C hp.objs.size)).get? (hp.objs.size + 1) = some (excO C hp.objs.size) := by heap_get
  have hnx : K.lookup (hp.objs.size + 1) = none := by
    cases e : K.lookup (hp.objs.size + 1) with
    | none => rfl
    | some o => exact absurd (Nat.lt_of_succ_lt (Heap.lt_size (X _ _ e))) (Nat.lt_irrefl _)
  refine call_own F.excBase_ValueError (fun X => refsVE_contains X bm hbm) (X _ _ hC) (looks_findIn X T.iC) (fun self => bind_fn X self T.tC) (one_len v) ?_
  refine err_init (s := ⟨(hp.push (kdv_tup [v])).push (excO C hp.objs.size), g, dr, tk, os⟩) T (X.keeps k) (G.keeps k) ⟨mb, hB.keeps k, hmb⟩ (hlim.keeps k) hget hnx (show A.depth + 1 < recursionLimit from hroom) fun h' tk' dx t1 L => ?_
  have old : ∀ b o, hp.get? b = some o → h'.get? b = some o := fun b o e => L.keep b o (Nat.ne_of_lt (Nat.lt_succ_of_lt (Heap.lt_size e))) (k b o e)
  have big : hp.objs.size ≤ dx := by
    have z := L.dbig
    rw [Heap.size_push, Heap.size_push] at z
    omega
  exact ⟨rfl, hq h' tk' (hp.objs.size + 1) dx ⟨old, Nat.le_succ _, ⟨_, _, L.obj, rfl, rfl, rfl, rfl⟩, big, L.dne, L.ns⟩⟩
end
end K15E
namespace L2
open PySem PySem.Spec PyProof.Rows K15E
theorem relO_at {v : V} {v' : Value} (r : RelV v v') (f : Str) : RelO (List.lookup f [(("line" : Str), v)]) (if f = "line" then some v' else none) := by
  by_cases hw : f = "line"
  · rw [if_pos hw, hw]
    have q : List.lookup ("line" : Str) [(("line" : Str), v)] = some v := by simp [List.lookup]
    rw [q]
    exact r
  · rw [if_neg hw]
    have qw : (f == ("line" : Str)) = false := by simpa using hw
    have q2 : List.lookup f [(("line" : Str), v)] = none := by simp [List.lookup, qw]
    rw [q2]
    trivial
section
variable {X : Cx} {C fI : Addr}
/-- BadPage(e) -/
def tErr (C : Addr) (ta : TA) : St → Hp → XK → Prop := fun σ H Q => ta σ H fun vs H1 => ∃ v, vs = [v] ∧ ∀ d, H1 d = none → Q (.ref C) (some d) (upd H1 d (.xd [(("line" : Str), v)]))
theorem pmk_err {a : Expr} {ta : TA} {p pos : Pos} {k : Nat} (T : ErrTxt X.prog X.K X.mg C fI) (hr : Room k X.A) (ha : PA X [a] ta) (hg : Gl X "BadPage" := by rfl)
    (he : starEach (a :: []) X.env = (false, eval a X.env) :: starEach [] X.env := by rfl) (hpl : (backTo pos (starEach [] X.env)).any (·.1) = false := by rfl) :
    PMk X (.Call (.Name "BadPage" p) [a] [] pos) (tErr C ta) := by
  intro pins s σ H Q I h
  refine wpAny_Call_Name_kw (ld_glob I hg T.gC ?_)
  refine PySem.W.callWith_K (h₀ := X.base) I.ok.mod.kin T.kC (thn (ha.run pos pins s σ H _ I h) fun us s1 hh => ?_) he hpl
  obtain ⟨vs, H1, I1, r1, v, ev, q1⟩ := hh
  subst ev
  refine ⟨I1.kIn, ?_⟩
  cases r1 with
  | cons rv rn =>
    rename_i v' us'
    cases rn
    show wpAny _ _ (PySem.call (.ref C) [v']) _ _ _
    have hlim := I1.nolimit
    obtain ⟨mb, hb1, hb2⟩ := I1.mod.blt
    have G1 : s1.heap.Ns mainGlobals X.mg := I1.mod.glob.keeps I1.bk
    have B1 : ∃ mb, s1.heap.Ns builtinsNs mb ∧ mb "super" = bootBuiltins "super" := ⟨mb, hb1.keeps I1.bk, hb2 _ (by decide +kernel)⟩
    obtain ⟨hp, g, dr, tk, os⟩ := s1
    refine wpAny_call (err_made T I1.kIn G1 B1 hlim (by have := hr.dp; omega) fun h' tk' e d M => ?_)
    show MkP X pins σ Q (.ref e) ⟨h', g, dr, tk', os⟩
    obtain ⟨oe, fv, hoe, hc, hd, hdat, h1⟩ := M.obj
    have hns := M.ns
    obtain ⟨G', g1, g2⟩ := restrict h' fun b => decide (b ≠ e)
    have gk : ∀ b, b ≠ e → G'.get? b = h'.get? b := fun b hb => g1 b (decide_eq_true hb)
    have ge : G'.get? e = none := g2 e (by simp)
    have old : ∀ b o, hp.get? b = some o → G'.get? b = some o := fun b o q => (gk b (Nat.ne_of_lt (Nat.lt_of_lt_of_le (Heap.lt_size q) M.new))).trans (M.keep b o q)
    have ob : ObjOk X.prog X.w (upd H1 d (.xd [(("line" : Str), v)])) G' d (.xd [(("line" : Str), v)]) :=
      ⟨_, hns.at (fun o q => (gk d M.dne).trans q), fun f => relO_at rv f⟩
    have J : Inv X pins σ (upd H1 d (.xd [(("line" : Str), v)])) ⟨G', g, dr, tk', os⟩ := I1.laid (t' := tk') old M.dbig ob
    refine ⟨e, oe, fv, ⟨G', g, dr, tk', os⟩, _, .ref C, some d, rfl, J, fun b o q => ?_, ge, hoe, ⟨hc, hd⟩, hdat, h1, ?_, rfl, I1.bare, raises_own T.exC T.tyC, q1 d (I1.hok.fresh M.dbig)⟩
    · by_cases hb : b = e
      · have q' : G'.get? b = some o := q
        rw [hb, ge] at q'
        cases q'
      · exact (gk b hb).symm.trans q
    · rw [upd_ne (Ne.symm M.dne)]
      exact I1.hok.fresh M.new
/-- raise BadPage(e) -/
theorem ps_raiseErr {a : Expr} {ta : TA} {W : WX} {p pos pos2 : Pos} {k : Nat} (hc : X.calm = true) (T : ErrTxt X.prog X.K X.mg C fI) (hr : Room k X.A) (tk : Takes X W) (ha : PA X [a] ta) (hg : Gl X "BadPage" := by rfl)
    (he : starEach (a :: []) X.env = (false, eval a X.env) :: starEach [] X.env := by rfl) (hpl : (backTo pos (starEach [] X.env)).any (·.1) = false := by rfl) :
    PS X (.Raise (some (.Call (.Name "BadPage" p) [a] [] pos)) none pos2) (fun _ σ H => tErr C ta σ H fun cls d H' => W cls d σ H') := ps_raise hc tk (pmk_err T hr ha hg he hpl)
end
end L2

/-! list(d.items()), d with tuple keys -/
namespace DT
open PySem PySem.W PySem.Calls PyProof.Rows PyProof.V PySem.Spec
section
variable {prog : Program} {w : World} {A : Around} {E : Value → Shared → Prop} {s : Shared} {r d : Addr} {es : Array DictEntry} {ep : Nat}
/-- list(view): what the model's list.__init__ leaves -/
theorem list_view {Q : Value → Shared → Prop} (hh : A.handled = none) (hv : s.heap.IsItemsView r d) (hm : Raw s.heap d es ep) (hn : es.size ≤ sizeLine)
    (hQ : ∀ h' tk acc c as, (∀ b o, s.heap.get? b = some o → h'.get? b = some o) → h'.get? s.heap.objs.size = some { cls := .type "list", dict := none, data := .seq acc c, slots := #[] } → as.length = es.size → Made es s.heap.objs.size h' as →
      acc.toList = as.map Value.ref → Q (.ref s.heap.objs.size) { s with heap := h', toks := tk }) :
    wpAny (model prog w) A (call (.type "list") [.ref r]) Q E s := by
  have rl : r < s.heap.objs.size := hv.elim fun _ z => Heap.lt_size z.1
  refine callType_codes (Q₁ := fun v s₁ => v = .ref s.heap.objs.size ∧ s₁ = { s with heap := s.heap.push { cls := .type "list", data := .seq #[] } }) PySem.F.called_list (PySem.F.typeCall_list_1 _) PySem.F.entry_list_init (code_list_new _ ⟨rfl, rfl⟩) ?_
  rintro v s₁ ⟨e1, e2⟩
  subst e1
  subst e2
  have L0 : (s.heap.push { cls := .type "list", data := .seq #[] }).get? s.heap.objs.size = some { cls := .type "list", data := .seq #[] } := Heap.get?_push_size _ rfl
  have L1 := Heap.get?_update_self (Obj.mapSeq (fun _ => (#[] : Array Value))) L0 rfl
  have low : ∀ b o, s.heap.get? b = some o → b ≠ s.heap.objs.size ∧ ((s.heap.push { cls := .type "list", data := .seq #[] }).update s.heap.objs.size (Obj.mapSeq (fun _ => (#[] : Array Value)))).get? b = some o := fun b o e =>
    have n := Nat.ne_of_lt (Heap.lt_size e)
    ⟨n, (Heap.get?_update_other _ _ (Ne.symm n)).trans (Heap.get?_push_of_some _ e)⟩
  refine ⟨⟨_, L0, rfl⟩, PySem.F.args_list_init_2 _ _, ?_⟩
  show wpAny _ _ (Builtin.List.listItems (.ref s.heap.objs.size) >>= fun old => Builtin.List.listUpdate (.ref s.heap.objs.size) (fun _ => #[]) >>= fun _ => letGo old.toList.reverse >>= fun _ => Builtin.List.listExtendWith (.ref s.heap.objs.size) (.ref r) .none) _ _ _
  refine wpAny_bind (listItems_at L0 rfl (wpAny_bind (listUpdate_at L0 rfl (wpAny_bind (wpAny_letGo ?_)) (Nat.zero_le _) (Nat.zero_le _))))
  refine extI (A := A.in1) (s := { s with heap := (s.heap.push { cls := .type "list", data := .seq #[] }).update s.heap.objs.size (Obj.mapSeq (fun _ => (#[] : Array Value))) }) (es := es) (ep := ep) hh (hv.elim fun o z => ⟨o, (low r o z.1).2, z.2⟩) (hm.at' fun o e => (low d o e).2) s.heap.objs.size (Nat.ne_of_gt rl) (Nat.ne_of_lt hm.lt) .none _ L1 (fun h' tk acc c as k1 k2 k3 k4 k5 => ?_) hn
  exact ⟨rfl, hQ h' tk acc c as (fun b o e => k1 b o (low b o e).1 (low b o e).2) k2 k3 (k4.low (Nat.le_of_lt (Heap.lt_size L1))) k5⟩
end
end DT
namespace L2
open PySem PySem.Spec PyProof.Rows
/-- the tuples tracked at their addresses -/
def putTT : Hp → List Addr → List (Addr × V) → Hp
  | H, a :: as, p :: kvs => putTT (upd H a (.tup [.ref p.1, p.2])) as kvs
  | H, _, _ => H
theorem putTT_off {b : Addr} : ∀ (as : List Addr) (kvs : List (Addr × V)) (H : Hp), b ∉ as → putTT H as kvs b = H b
  | [], _, _, _ => rfl
  | _ :: _, [], _, _ => rfl
  | a :: as, p :: kvs, H, h => by
    show putTT (upd H a (.tup [.ref p.1, p.2])) as kvs b = H b
    rw [putTT_off as kvs _ (fun z => h (List.mem_cons_of_mem _ z)), upd_ne (fun z => h (by rw [z]; exact List.mem_cons_self))]
theorem putTT_at : ∀ (as : List Addr) (kvs : List (Addr × V)) (H : Hp), as.length = kvs.length → as.Nodup → Paired (fun (t : Addr) (p : Addr × V) => putTT H as kvs t = some (.tup [.ref p.1, p.2])) as kvs
  | [], [], _, _, _ => .nil
  | [], _ :: _, _, h, _ => by cases h
  | _ :: _, [], _, h, _ => by cases h
  | a :: as, p :: kvs, H, h, hn => by
    have hn' := List.nodup_cons.mp hn
    have ih := putTT_at as kvs (upd H a (.tup [.ref p.1, p.2])) (Nat.succ.inj h) hn'.2
    refine .cons ?_ ih
    show putTT (upd H a (.tup [.ref p.1, p.2])) as kvs a = some (.tup [.ref p.1, p.2])
    rw [putTT_off as kvs _ hn'.1, upd_same]
/-- addresses of keys and the values, of a dict with tuple keys -/
def KAt (H : Hp) (kvs : List (List Key × V)) (ps : List (Addr × V)) : Prop := Paired (fun (q : List Key × V) (p : Addr × V) => H p.1 = some (.tup (q.1.map kV)) ∧ p.2 = q.2) kvs ps
/-- list(view), the view of d's items -/
def rListIt : List V → Hp → VK → Prop := fun xs H Q => ∃ (r d : Addr) (kvs : List (List Key × V)), xs = [.ref r] ∧ H r = some (DX.itemsO r d) ∧ H d = some (.dT kvs) ∧
  ∀ (H' : Hp) (p : Addr) (ts : List Addr) (ps : List (Addr × V)), Same H H' → H p = none → H' p = some (.lst (ts.map V.ref)) → KAt H kvs ps → Paired (fun (t : Addr) (q : Addr × V) => H' t = some (.tup [.ref q.1, q.2])) ts ps → Q (.ref p) H'
theorem kat_of {P : Program} {w : World} {H : Hp} : ∀ {kvs : List (List Key × V)} {xs : List (List Key × Addr × Value)}, Paired (fun (p : List Key × V) (q : List Key × Addr × Value) => p.1 = q.1 ∧ H q.2.1 = some (.tup (p.1.map kV)) ∧ RelV p.2 q.2.2) kvs xs →
    ∃ ps : List (Addr × V), KAt H kvs ps ∧ Paired (fun (p : Addr × V) (x : List Key × Addr × Value) => p.1 = x.2.1 ∧ RelV p.2 x.2.2) ps xs
  | _, _, .nil => ⟨[], .nil, .nil⟩
  | _, _, .cons (a := a) (b := b) h t => by
    obtain ⟨ps, h1, h2⟩ := kat_of (P := P) (w := w) t
    exact ⟨(b.2.1, a.2) :: ps, .cons ⟨h.2.1, rfl⟩ h1, .cons ⟨rfl, h.2.2⟩ h2⟩
theorem call_listIt {X : Cx} (hc : X.calm = true) : CallR X (.type "list") rListIt := by
  intro pins s σ H xs us Q I r h
  obtain ⟨rv, d, kvs, rfl, hr, hd, q⟩ := h
  obtain ⟨u, rfl, rx⟩ := r.one
  cases rx
  obtain ⟨z, hs, ks, pr, o, es, ep, ho, hx, hdt, he, hn⟩ := (show ObjOk X.prog X.w H s.heap d (.dT kvs) from I.hok _ _ hd)
  obtain ⟨hv, _⟩ := (show ObjOk X.prog X.w H s.heap rv (DX.itemsO rv d) from I.hok _ _ hr)
  have l1 : es.size = ks.length := size_of_entries he
  have l2 : kvs.length = ks.length := Paired.length pr
  obtain ⟨ps, kat, pr2⟩ := kat_of (P := X.prog) (w := X.w) pr
  have l3 : ps.length = ks.length := Paired.length pr2
  refine DT.list_view (es := es) (ep := ep) (I.ok.hd hc) hv ⟨o, ho, hx, hdt⟩ (by omega) fun h' tk acc c as hk hS hl hG hacc => ?_
  have hSn : s.heap.objs.size ∉ as := fun z => Nat.lt_irrefl _ (hG.above _ z)
  have nd : as.Nodup := List.Pairwise.imp (fun {a b} (h : a < b) => Nat.ne_of_lt h) hG.rise
  have new : ∀ t ∈ as, H t = none := fun t ht => I.hok.fresh (Nat.le_of_lt (hG.above t ht))
  have newS : H s.heap.objs.size = none := I.hok.fresh (Nat.le_refl _)
  have atP := putTT_at as ps (upd H s.heap.objs.size (.lst (as.map V.ref))) (by omega) nd
  have off : ∀ b, b ∉ as → b ≠ s.heap.objs.size → putTT (upd H s.heap.objs.size (.lst (as.map V.ref))) as ps b = H b := fun b h1 h2 => by rw [putTT_off as ps _ h1, upd_ne h2]
  have low : ∀ b o, s.heap.get? b = some o → b ∉ as ∧ b ≠ s.heap.objs.size := fun b o e => ⟨fun z => absurd (Heap.lt_size e) (Nat.not_lt.mpr (Nat.le_of_lt (hG.above b z))), Nat.ne_of_lt (Heap.lt_size e)⟩
  have kp : ∀ b u, H b = some u → (putTT (upd H s.heap.objs.size (.lst (as.map V.ref))) as ps) b = some u := fun b u e => by
    rw [off b (fun z => by rw [new b z] at e; cases e) (fun z => by rw [z, newS] at e; cases e)]
    exact e
  have eS : putTT (upd H s.heap.objs.size (.lst (as.map V.ref))) as ps s.heap.objs.size = some (.lst (as.map V.ref)) := by rw [putTT_off as ps _ hSn, upd_same]
  refine ⟨.ref s.heap.objs.size, putTT (upd H s.heap.objs.size (.lst (as.map V.ref))) as ps, ?_, rfl, q _ _ as ps kp newS eS kat atP⟩
  refine I.call' (ch := []) rfl ⟨fun b o q _ _ _ => hk b o q, fun b o q _ _ _ => ⟨o.slots, hk b o q⟩, fun b o q n _ => ?_, fun b o q _ => ⟨o, hk b o q⟩, fun b xs q => kp b _ q, fun b o u q => kp b _ q, fun b ps q => ⟨#[], by rw [kp b _ q]; simp⟩⟩ (fun b u q => ?_) I.bare fun b z => by simp at z
  · obtain ⟨z1, z2⟩ := low b o q
    rw [off b z1 z2]
    exact n
  · by_cases hb : b ∈ as
    · obtain ⟨j, pk, e1, e2, e3⟩ := LiI.paired_ix atP hb
      rw [e3] at q
      cases q
      obtain ⟨en, f1, f3⟩ := hG.pairs j b e1
      obtain ⟨x, g1, g2, g3⟩ := LiI.paired_get pr2 e2
      have qe := entry_at he j
      rw [f1, g1] at qe
      have e5 : en = entryOfKey (tupleKind (mixKind X.prog X.w)) x := Option.some.inj qe
      refine ⟨by show 2 ≤ sizeLine; decide, [en.key, en.val], .cons ?_ (.cons ?_ .nil), ⟨_, f3, rfl, _, rfl⟩⟩
      · rw [e5, g2]; all_goals rfl
      · rw [e5]; exact g3
    · by_cases hb2 : b = s.heap.objs.size
      · rw [hb2] at q ⊢
        rw [eS] at q
        cases q
        refine ⟨by rw [List.length_map]; omega, acc.toList, c, by rw [hacc]; exact LiI.vals_refs as, ?_⟩
        rw [Array.toArray_toList]
        exact hS
      · rw [off b hb hb2] at q
        exact (I.hok b u q).stay (fun d v _ y => hk d v y) (fun d y => kp d _ y) fun d xs y => kp d _ y
/-- d.clear() -/
def rClearT : V → List V → Hp → VK → Prop := fun x xs H Q => ∃ (a : Addr) (kvs : List (List Key × V)), x = .ref a ∧ xs = [] ∧ H a = some (.dT kvs) ∧ Q .non (upd H a (.dT []))
theorem mt_clearT {X : Cx} : MtR X "dict.clear" rClearT := by
  intro pins s σ H x xs v us Q I rx rxs h
  obtain ⟨a, kvs, rfl, rfl, ha, q⟩ := h
  cases rx
  cases rxs
  obtain ⟨z, hd, xs', rel, o, es, ep, ho, hx, hdat, hes, _, _⟩ := dt_of I.hok ha
  have l1 : es.size = xs'.length := size_of_entries hes
  have l2 : kvs.length = xs'.length := Paired.length rel
  refine call_meetsIn PySem.F.slot_dict_clear ⟨o, ho, hx.1⟩ PySem.F.entry_dict_clear (PySem.F.args_dict_clear_1 _) (PySem.meets_dict_clear_raw a) ⟨es, ep, ⟨o, ho, hx, hdat⟩, by omega, fun h' hr' hs => ?_⟩
  obtain ⟨o', ho', hx', hd'⟩ := hr'
  exact ⟨.non, upd H a (.dT []), d_write (t' := s.toks) I (by rw [ha]; exact True.intro) hs ⟨o', ho'⟩ ⟨Nat.zero_le _, hd, [], .nil, o', #[], ep + 1, ho', hx', hd', rfl, List.nodup_nil⟩, rfl, q⟩
end L2
namespace L2
open PySem PySem.Spec PyProof.Rows PySem.Calls
section
variable {prog : Program} {w : World} {K : Type} [DecidableEq K] {knd : HeapKind prog w K} {A : Around} {E : Value → Shared → Prop} {s : Shared} {a b : Addr} {xs ys : List (K × Addr × Value)}
/-- what a dict holds, b holds too -/
def AllIn (A : Around) (s : Shared) (xs ys : List (K × Addr × Value)) : Prop := ∀ x ∈ xs, ∃ y ∈ ys, y.1 = x.1 ∧ SeqAt.EqAt A s x.2.2 y.2.2 true
theorem alike_pairs {nm : String} {Q : Bool → Shared → Prop} (na : (a == sysModules) = false) (nb : (b == sysModules) = false) (da : s.heap.DictOfH knd a xs) (db : s.heap.DictOfH knd b ys) (hu : knd.room A) (hl : xs.length = ys.length)
    (hits : AllIn A s xs ys) (h : Q true s) : wpAny (model prog w) A (Builtin.Dict.samePairs nm a b) Q E s := by
  obtain ⟨oa, ea, pa, ga, _, ta, la, ka, _⟩ := da
  obtain ⟨ob, eb, pb, gb, _, tb, lb, kb, nb'⟩ := db
  have za : ea.size = xs.length := size_of_entries la
  have zb : eb.size = ys.length := size_of_entries lb
  have same : ¬ (ea.size != eb.size) = true := by rw [za, zb, hl]; simp
  unfold Builtin.Dict.samePairs Builtin.Dict.showsAll
  simp only [na, nb, Bool.false_eq_true, if_false]
  refine wpAny_bind (wpAny_pure (wpAny_bind (wpAny_pure (wpAny_bind (wpAny_dictEntries ga ta ?_)))))
  refine wpAny_bind (wpAny_dictEntries gb tb ?_)
  rw [if_neg same]
  refine wpAny_bind (wpAny_dictEpoch ga ta (wpAny_bind ?_))
  rw [Std.Legacy.Range.forIn_eq_forIn_range']
  simp only [Std.Legacy.Range.size, Nat.sub_zero, Nat.add_sub_cancel, Nat.div_one]
  refine wpAny_forIn_list _ (fun rest q s' => s' = s ∧ q = (none, ()) ∧ ∃ i, i + rest.length = ea.size ∧ rest = List.range' i rest.length) _ ?_ ?_ _ _ ⟨rfl, rfl, 0, by simp, by simp⟩
  · rintro j rest q s' ⟨e1, e2, i, e3, e4⟩
    subst e1
    subst e2
    rw [List.length_cons] at e3 e4
    rw [List.range'_succ] at e4
    obtain ⟨e5, e6⟩ := List.cons.inj e4
    subst e5
    have hj : j < ea.size := by omega
    have hx : xs[j]? = some xs[j] := List.getElem?_eq_getElem (by omega)
    have en : ea[j] = entryOfKey knd xs[j] := by
      have := entry_at la j
      rw [hx, Array.getElem?_eq_getElem hj] at this
      exact Option.some.inj this
    obtain ⟨y, hy, ey, eq⟩ := hits xs[j] (List.mem_of_getElem? hx)
    obtain ⟨m, hm⟩ := List.mem_iff_getElem?.mp hy
    have hm' : ys[m]? = some (xs[j].1, y.2) := by rw [hm, ← ey]
    refine wpAny_bind (wpAny_dictEntries ga ta ?_)
    rw [Array.getElem?_eq_getElem hj, en]
    refine wpAny_bind (wpAny_holding (wpAny_bind (wpAny_dictFind_heap (a := xs[j].2.1) (k := xs[j].1) hu (ka _ (List.mem_of_getElem? hx)) gb tb lb kb nb' (fun hn => absurd hm' (hn m _)) fun m2 p hp => ?_)))
    have eqp : (xs[j].1, p) = (xs[j].1, y.2) := by
      have i1 : (ys.map (·.1))[m2]? = some xs[j].1 := by rw [List.getElem?_map, hp]; rfl
      have i2 : (ys.map (·.1))[m]? = some xs[j].1 := by rw [List.getElem?_map, hm']; rfl
      have h1 := (List.getElem?_eq_some_iff.mp i1).1
      have ii : m2 = m := (List.getElem_inj nb').mp ((List.getElem?_eq_some_iff.mp i1).2.trans (List.getElem?_eq_some_iff.mp i2).2.symm)
      rw [ii, hm'] at hp
      exact (Option.some.inj hp).symm
    refine wpAny_bind (wpAny_dictEntries gb tb ?_)
    have eb2 : eb[m2]? = some (entryOfKey knd (xs[j].1, p)) := by rw [entry_at lb m2, hp]; rfl
    rw [eb2]
    have ep : p = y.2 := (Prod.mk.inj eqp).2
    rw [ep]
    refine wpAny_holding (eq prog w _ _ ?_)
    show wpAny _ _ (if (!true) = true then _ else _) _ _ _
    rw [if_neg (by decide)]
    refine wpAny_bind (wpAny_dictEpoch ga ta ?_)
    rw [if_neg (by simp)]
    exact wpAny_pure ⟨rfl, rfl, j + 1, by omega, e6⟩
  · rintro q s' ⟨e1, e2, _⟩
    subst e1
    subst e2
    exact wpAny_pure h
end
end L2
namespace L2
open PySem PySem.Spec PyProof.Rows PySem.Calls
theorem ne_alike {prog : Program} {w : World} {K : Type} [DecidableEq K] {knd : HeapKind prog w K} {A : Around} {E : Value → Shared → Prop} {s : Shared} {a b : Addr} {xs ys : List (K × Addr × Value)} {Q : Value → Shared → Prop} (na : (a == sysModules) = false) (nb : (b == sysModules) = false)
    (da : s.heap.DictOfH knd a xs) (db : s.heap.DictOfH knd b ys) (hu : knd.room A.in1) (hA : A.units < cLine) (hl : xs.length = ys.length) (hits : AllIn A.in1 s xs ys) (h : Q (.bool false) s) : wpAny (model prog w) A (compareOp .NotEq (.ref a) (.ref b)) Q E s := by
  have ty : ∀ {c : Addr} {zs : List (K × Addr × Value)}, s.heap.DictOfH knd c zs → s.TypeIs (.ref c) "dict" := fun ⟨o, _, _, e, x, _⟩ => ⟨o, e, x.1⟩
  refine wpAny_richCompare_same_room (op := .NotEq) (ty da) (ty db) PySem.F.slot_dict_ne ?_ hA
  refine wpAny_call_entry PySem.F.slot_dict_ne (ty da) PySem.F.entry_dict_ne ?_ (PySem.F.args_dict_ne_2 _ _)
  show wpAny _ _ (Builtin.Dict.dictSlotArgs "__ne__" ⟨[.ref a, .ref b], []⟩ >>= _) _ _ s
  unfold Builtin.Dict.dictSlotArgs
  refine wpAny_bind (wpAny_bind (wpAny_notOrdered_dict (ty da) ?_))
  refine wpAny_pure (wpAny_bind (wpAny_isInstance (T := "dict") (ty db) PySem.F.sub_dict_dict ?_))
  simp only [Bool.not_true, Bool.false_eq_true, if_false]
  refine wpAny_bind (wpAny_pure (wpAny_bind (wpAny_pure (wpAny_bind (alike_pairs na nb da db hu hl hits ?_)))))
  exact wpAny_pure ⟨_, rfl, (fun x => nomatch x), h⟩
end L2
namespace L2
open PySem PySem.Spec PyProof.Rows PySem.Calls
theorem readsStrs {h : Heap} : ∀ {xs : List Str} {its : List Value}, Vals (xs.map V.str) its → ReadsAll h its (xs.map PyData.str) []
  | [], _, .nil => .nil
  | _ :: _, _, .cons r t => by
    obtain ⟨tk, rfl⟩ := r
    exact .cons (as := []) (bs := []) (.str _ _) (readsStrs t)
theorem readsT {P : Program} {w : World} {H : Hp} {h : Heap} {t : Addr} {zs : List Str} (ok : HOk P w H h) (e : H t = some (.tup (zs.map V.str))) : Reads h (.ref t) (.tuple (zs.map PyData.str)) [] := by
  obtain ⟨_, its, rv, o, ho, hc, n, hd⟩ := (show ObjOk P w H h t (.tup (zs.map V.str)) from ok _ _ e)
  exact .tuple ho hc hd (readsStrs rv)
/-- a value of a table: a tuple of texts -/
def TV (H : Hp) (v : V) (zs : List Str) : Prop := ∃ t, v = .ref t ∧ H t = some (.tup (zs.map V.str))
def rNeT : V → V → Hp → VK → Prop := fun x y H Q => ∃ (a b : Addr) (ka kb : List (List Key × V)), x = .ref a ∧ y = .ref b ∧ H a = some (.dT ka) ∧ H b = some (.dT kb) ∧ ka.length = kb.length ∧
  (∀ p ∈ ka, ∃ q ∈ kb, q.1 = p.1 ∧ ∃ zs, TV H p.2 zs ∧ TV H q.2 zs ∧ SeqAt.shaped (.tuple (zs.map PyData.str)) = true) ∧ Q (.bl false) H
theorem op_neT {X : Cx} (hu : X.A.units + 65 < cLine) : OpR X (compareOp .NotEq) rNeT := by
  intro pins s σ H x y v u Q I rx ry h
  obtain ⟨a, b, ka, kb, rfl, rfl, ha, hb, hl, al, q⟩ := h
  cases (show v = Value.ref a from rx)
  cases (show u = Value.ref b from ry)
  obtain ⟨_, na, xs, ra, da⟩ := dt_of I.hok ha
  obtain ⟨_, nb, ys, rb, db⟩ := dt_of I.hok hb
  refine ne_alike na nb da db (tupleKind_room_in1 (by omega)) (by omega) (by rw [← Paired.length ra, ← Paired.length rb]; exact hl) (fun x hx => ?_) ⟨.bl false, H, I, rfl, q⟩
  obtain ⟨i, hi⟩ := List.mem_iff_getElem?.mp hx
  obtain ⟨p, hp, r1⟩ := DX.pget ra hi
  obtain ⟨q0, hq, e1, zs, ⟨t, e2, e3⟩, ⟨t', e4, e5⟩, sh⟩ := al p (List.mem_of_getElem? hp)
  obtain ⟨j, hj⟩ := List.mem_iff_getElem?.mp hq
  obtain ⟨y, hy, r2⟩ := LiI.paired_get rb hj
  refine ⟨y, List.mem_of_getElem? hy, by rw [← r2.1, e1, r1.1], ?_⟩
  have v1 : x.2.2 = Value.ref t := by have := r1.2.2; rw [e2] at this; exact this
  have v2 : y.2.2 = Value.ref t' := by have := r2.2.2; rw [e4] at this; exact this
  rw [v1, v2]
  have eq := SeqAt.eqAt_reads _ _ X.A.in1 s (.ref t) (.ref t') [] [] (readsT I.hok e3) (readsT I.hok e5) (SeqAt.canLay_of_shaped sh) (SeqAt.canLay_of_shaped sh) (SeqAt.room_of_shaped sh (by show X.A.units + 1 + 64 < cLine; omega))
  have es : PyData.eqv (.tuple (zs.map PyData.str)) (.tuple (zs.map PyData.str)) = true := by
    have : ∀ l : List Str, PyData.eqvAll (l.map PyData.str) (l.map PyData.str) = true := fun l => by
      induction l with
      | nil => simp [PyData.eqvAll]
      | cons c l ih => simp [PyData.eqvAll, PyData.eqv, ih]
    simp only [PyData.eqv]
    exact this zs
  rw [es] at eq
  exact eq
end L2

/-! pages of fates: pages read and made -/
namespace K5
open PySem L2
open K5S (S S_cps S_len S_inj S_app lt)
open scoped Classical
abbrev sRP : Stmt := top 19
abbrev sPO : Stmt := top 21
theorem hu_of {k : Nat} {A : Around} (r : Room k A) : A.units + 1 < cLine := Nat.lt_of_le_of_lt (Nat.add_le_add_left (by decide) _) r.units
/-- the key of a line's place -/
def keyC (c : List Nat) : List Key := [.inr (S (kf c)), .inl (lnum c), .inr (S (rf c)), .inr (S (nf c))]
theorem keyC_V (c : List Nat) : (keyC c).map kV = [.str (S (kf c)), .int (lnum c), .str (S (rf c)), .str (S (nf c))] := rfl
structure SmallL (zs : List (List Nat)) : Prop where
  n : zs.length ≤ 100
  l : ∀ c ∈ zs, c.length ≤ 10000
  a : ∀ c ∈ zs, ∀ x ∈ c, x < 128
def lnsV (zs : List (List Nat)) : List V := zs.map fun c => V.str (S c)
/-- a table of places: the keys and the fates -/
def TabV (H : Hp) (kvs : List (List Key × V)) (ks : List (List Key)) (fs : List (List Str)) : Prop := kvs.map (·.1) = ks ∧ Paired (fun (p : List Key × V) (f : List Str) => TV H p.2 f) kvs fs
theorem TabV.snoc {H : Hp} {kvs : List (List Key × V)} {ks : List (List Key)} {fs : List (List Str)} {k : List Key} {v : V} {f : List Str} (h : TabV H kvs ks fs) (hv : TV H v f) : TabV H (kvs ++ [(k, v)]) (ks ++ [k]) (fs ++ [f]) := by
  refine ⟨by rw [List.map_append, h.1]; rfl, ?_⟩
  have h2 := h.2
  clear h
  induction h2 with
  | nil => exact .cons hv .nil
  | cons a b ih => exact .cons a ih
theorem tv_to {H H' : Hp} {v : V} {f : List Str} (h : TV H v f) (s : ∀ t xs, H t = some (.tup xs) → H' t = some (.tup xs)) : TV H' v f := by
  obtain ⟨t, e, q⟩ := h
  exact ⟨t, e, s _ _ q⟩
theorem TabV.to {H H' : Hp} {kvs : List (List Key × V)} {ks : List (List Key)} {fs : List (List Str)} (h : TabV H kvs ks fs) (s : ∀ t xs, H t = some (.tup xs) → H' t = some (.tup xs)) : TabV H' kvs ks fs :=
  ⟨h.1, Paired.mapP h.2 fun _ _ q => tv_to q s⟩
/-- a page read, or the first wrong line -/
def spRP (K : PySem.W.Frag) (CB : Addr) : Sp := fun vs H Q E => ∃ (l : Addr) (zs : List (List Nat)), vs = [.ref l] ∧ H l = some (.lst (lnsV zs)) ∧ SmallL zs ∧
  ((∀ c ∈ zs, readOk c = true) → (zs.map keyC).Nodup → ∀ d kvs H', H d = none → Same H H' → H' d = some (.dT kvs) → TabV H' kvs (zs.map keyC) (zs.map wf) → Q (.ref d) H') ∧
  (∀ i c, zs[i]? = some c → (∀ c' ∈ zs.take i, readOk c' = true) → ((zs.take i).map keyC).Nodup → (readOk c = false ∨ keyC c ∈ (zs.take i).map keyC) → ∀ e H', H e = none → Same H H' → H' e = some (.xd [(("line" : Str), .int i)]) → E (.ref CB) (some e) H')
theorem valV_some {kvs : List (List Key × V)} {k : List Key} : (valV kvs k).isSome = decide (k ∈ kvs.map (·.1)) := by
  rw [← valV_any]
  by_cases h : k ∈ kvs.map (·.1)
  · rw [decide_eq_true h, List.any_eq_true]
    obtain ⟨p, hp, e⟩ := List.mem_map.mp h
    exact ⟨p, hp, decide_eq_true e⟩
  · rw [decide_eq_false h]
    rw [List.any_eq_false]
    intro p hp e
    exact h (List.mem_map.mpr ⟨p, hp, of_decide_eq_true e⟩)
theorem putK_new {kvs : List (List Key × V)} {k : List Key} {v : V} (h : k ∉ kvs.map (·.1)) : putK kvs k v = kvs ++ [(k, v)] := by
  unfold putK
  rw [valV_any, valV_some, decide_eq_false h]
  rfl
section
variable {P : Program} {w : World} {K : PySem.W.Frag} {mg : Str → Option Value} {base : Heap}
abbrev nRP : List Str := ["lines", "table", "index", "line", "row"]
theorem scRP : FnScope nRP ["lines"] (defScope sRP) := ⟨rfl, rfl, rfl, by decide +kernel, rfl, by decide +kernel, by decide +kernel⟩
/-- what stands between two turns -/
def RpV (l d : Addr) (H : Hp) (zs : List (List Nat)) : Nat → L2.St → Hp → Prop := fun i σ H' => ∃ v2 v3 v4 kvs, σ = [some (.ref l), some (.ref d), v2, v3, v4] ∧ Same H H' ∧ H' d = some (.dT kvs) ∧ TabV H' kvs ((zs.take i).map keyC) ((zs.take i).map wf) ∧ (∀ c ∈ zs.take i, readOk c = true) ∧ ((zs.take i).map keyC).Nodup
theorem ok_rp {f CB fB : Addr} {fd : FuncData} (F : Fun K "read_page" "read_page" sRP f fd) (TE : K15E.ErrTxt P K mg CB fB) (zE : mg "enumerate" = none) (GRL : Fn P w K mg base 3 "read_line" ["line"] spRL) : FnOk P w K mg base (L2.CX P w) 4 f fd ["lines"] (spRP K CB) := by
  refine F.okX scRP (fun vs H Q E h => ?_) (fun cdv A outer s H vs Q E hr h => ?_)
  · obtain ⟨l, zs, rfl, _⟩ := h
    rfl
  · obtain ⟨l, zs, rfl, hl, sm, q, eb⟩ := h
    have hr3 : Room 3 _ := hr
    refine ⟨_, (C8.pss_cut (ps_set (i := 1) scRP.nd rfl (.inl rfl) pe_dnewT)
        (C8.pss_cut (ps_for (passes_of rfl) rfl (pi_enum (by rfl) zE (pa_cons (pv 0) pa_nil)) (pg_tup (by rfl) (pgs_cons (pg_name (i := 2) scRP.nd rfl (.inl rfl)) (pgs_cons (pg_name (i := 3) scRP.nd rfl (.inl rfl)) pgs_nil)))
        (C8.pss_cut (ps_set (i := 4) scRP.nd rfl (.inl rfl) (pe_fn GRL hr3 rfl (pa_cons (pv 3) pa_nil)))
        (C8.pss_cut (ps_if (PW.pt (pw_or (pt_cmpR op_isN (pv 4) pe_non (nomark _)) (pw_or1 (pt_cmp (pc_din (hu_of hr) (pe_ix ix_tup (pv 4) pe_int (fun _ _ => rfl)) (pv 1)) (by rfl))))) (pss_one (ps_raiseErr rfl TE hr (takes_of rfl rfl rfl rfl) (pa_cons (pv 2) pa_nil))) pss_nil)
        (pss_one (ps_asg (pe_ix ix_tup (pv 4) pe_int (fun _ _ => rfl)) (pg_sub (pv 1) (pe_ix ix_tup (pv 4) pe_int (fun _ _ => rfl)) (set_dict (hu_of hr))))))))
        (pss_one (ps_ret (pv 1))))), ?_⟩
    refine ⟨fun σ H' => ∃ d, σ = [some (.ref l), some (.ref d), none, none, none] ∧ H d = none ∧ Same H H' ∧ H' d = some (.dT []), fun d hd => ⟨d, rfl, hd, Same.new (Same.refl _) hd, upd_same⟩, ?_⟩
    rintro σ H1 ⟨d, rfl, hd, s1, h1⟩
    refine ⟨fun σ H' => RpV l d H zs zs.length σ H', ?_, ?_⟩
    · refine ⟨_, rfl, l, _, rfl, SqL.of (s1 _ _ hl), ?_⟩
      have ln : (lnsV zs).length = zs.length := by unfold lnsV; rw [List.length_map]
      refine for_it (walk_enum (K := K) (a := l) (xs := lnsV zs)) (fun i σ H' => RpV l d H zs i σ H') ⟨none, none, none, [], rfl, s1, h1, (by rw [List.take_zero]; exact ⟨rfl, .nil⟩), (fun c h => by rw [List.take_zero] at h; cases h), (by rw [List.take_zero]; exact List.nodup_nil)⟩ (fun i σ H' _ h => ?_) ?_ (fun σ H' h => by rw [ln] at h; exact h)
      · obtain ⟨_, _, _, _, _, s2, _⟩ := h
        exact SqL.of (s2 _ _ hl)
      rintro i x σ H2 H3 hi ⟨v2, v3, v4, kvs, rfl, s2, hdT, tv, hok, hnd⟩ ⟨T, ix, y, rfl, hT, rfl, ei, ey⟩
      cases ei
      replace ey : (zs.map fun c => V.str (S c))[i]? = some y := ey
      rw [List.getElem?_map] at ey
      obtain ⟨c, hc, rfl⟩ := Option.map_eq_some_iff.mp ey
      have hmem : c ∈ zs := List.mem_of_getElem? hc
      have s3 := Same.new (o := .tup [.int (i : Nat), .str (S c)]) s2 hT
      have hdT3 : (upd H2 T (.tup [.int (i : Nat), .str (S c)])) d = some (.dT kvs) := by rw [upd_ne (ne_of_none hdT hT)]; exact hdT
      have tv3 := tv.to (H' := upd H2 T (.tup [.int (i : Nat), .str (S c)])) fun t xs e => by rw [upd_ne (ne_of_none e hT)]; exact e
      generalize hH3 : upd H2 T (.tup [.int (i : Nat), .str (S c)]) = H3 at s3 hdT3 tv3 ⊢
      refine ⟨T, _, rfl, SqT.of (by rw [← hH3, upd_same]), rfl, _, _, rfl, _, _, rfl, rfl, ?_⟩
      have err : (readOk c = false ∨ keyC c ∈ (zs.take i).map keyC) → ∀ (e : Addr) (H' : Hp), H e = none → Same H H' → H' e = some (.xd [(("line" : Str), .int i)]) → E (.ref CB) (some e) H' := fun h => eb i c hc hok hnd h
      -- the row
      refine ⟨fun σ H' => (σ = [some (.ref l), some (.ref d), some (.int i), some (.str (S c)), some .non] ∧ Same H3 H' ∧ readOk c = false) ∨ ∃ R pA tA, σ = [some (.ref l), some (.ref d), some (.int i), some (.str (S c)), some (.ref R)] ∧ Same H3 H' ∧ H' R = some (.tup [.ref pA, .ref tA]) ∧ H' pA = some (.tup ((keyC c).map kV)) ∧ H' tA = some (.tup ((wf c).map V.str)) ∧ readOk c = true, ?_, ?_⟩
      · exact ⟨_, rfl, c, rfl, sm.l c hmem, sm.a c hmem, fun g H' s' => .inl ⟨rfl, s', g⟩, fun g R pA tA H' _ _ _ s' h1 h2 h3 => .inr ⟨R, pA, tA, rfl, s', h1, h2, h3, g⟩⟩
      rintro σ H4 h4
      refine ⟨fun σ H' => ∃ R pA tA, σ = [some (.ref l), some (.ref d), some (.int i), some (.str (S c)), some (.ref R)] ∧ H' = H4 ∧ Same H3 H4 ∧ H4 R = some (.tup [.ref pA, .ref tA]) ∧ H4 pA = some (.tup ((keyC c).map kV)) ∧ H4 tA = some (.tup ((wf c).map V.str)) ∧ readOk c = true ∧ keyC c ∉ (zs.take i).map keyC, ?_, ?_⟩
      · rcases h4 with ⟨rfl, s4, g⟩ | ⟨R, pA, tA, rfl, s4, hR, hp, ht, g⟩
        · refine ⟨_, rfl, rfl, _, rfl, iteT (iteT ⟨_, rfl, _, rfl, fun e he => ?_⟩)⟩
          have s04 := s3.trans s4
          exact err (.inl g) e _ (s04.free he) (Same.new s04 he) upd_same
        · refine ⟨_, rfl, rfl, _, rfl, iteF ⟨_, rfl, R, _, 0, _, rfl, rfl, SqT.of hR, rfl, _, rfl, d, _, rfl, DGet.t (s4 _ _ hdT3) hp, _, rfl, ?_⟩⟩
          rw [valV_some, tv3.1]
          by_cases hk : keyC c ∈ (zs.take i).map keyC
          · rw [decide_eq_true hk]
            refine iteT ⟨_, rfl, _, rfl, fun e he => ?_⟩
            have s04 := s3.trans s4
            exact err (.inr hk) e _ (s04.free he) (Same.new s04 he) upd_same
          · rw [decide_eq_false hk]
            exact iteF ⟨R, pA, tA, rfl, rfl, s4, hR, hp, ht, g, hk⟩
      rintro σ H5 ⟨R, pA, tA, rfl, rfl, s4, hR, hp, ht, g, hk⟩
      have hd4 := s4 _ _ hdT3
      have lk : kvs.length < sizeLine := by
        have := congrArg List.length tv3.1
        rw [List.length_map, List.length_map, List.length_take] at this
        have h2 := sm.n
        exact Nat.lt_of_le_of_lt (show _ ≤ 100 by omega) (by decide)
      refine ⟨_, rfl, R, _, 1, _, rfl, rfl, SqT.of hR, rfl, _, rfl, _, rfl, R, _, 0, _, rfl, rfl, SqT.of hR, rfl, d, _, rfl, DPut.t hd4 hp lk, ?_⟩
      have e1 : (zs.take (i + 1)) = zs.take i ++ [c] := by rw [List.take_add_one, hc]; rfl
      have up : ∀ t xs, H5 t = some (.tup xs) → (upd H5 d (.dT (putK kvs (keyC c) (.ref tA)))) t = some (.tup xs) := fun t xs e => by
        rw [upd_ne (fun z => by rw [z, hd4] at e; cases e)]
        exact e
      refine ⟨_, _, _, kvs ++ [(keyC c, .ref tA)], rfl, Same.put (s3.trans s4) hd, ?_, ?_, ?_, ?_⟩
      · rw [upd_same, putK_new (by rw [tv3.1]; exact hk)]
      · rw [e1, List.map_append, List.map_append]
        exact ((tv3.to fun t xs e => s4 _ _ e).snoc ⟨tA, rfl, ht⟩).to up
      · rw [e1]
        intro c' hc'
        rcases List.mem_append.mp hc' with h | h
        · exact hok c' h
        · rw [List.mem_singleton.mp h]; exact g
      · rw [e1, List.map_append, List.nodup_append]
        refine ⟨hnd, by simp, fun a ha b hb => ?_⟩
        rw [List.map_singleton, List.mem_singleton] at hb
        rw [hb]
        exact fun z => hk (z ▸ ha)
    rintro σ H2 ⟨v2, v3, v4, kvs, rfl, s2, hdT, tv, hok, hnd⟩
    rw [List.take_length] at tv hok hnd
    exact ⟨_, rfl, q hok hnd d kvs H2 hd s2 hdT tv⟩
end
/-! pages made -/
def keyP (p : Pl) : List Key := [.inr (S (kcd p.1)), .inl p.2.1, .inr (S (rcd p.2.2.1)), .inr (S p.2.2.2)]
theorem keyP_V (p : Pl) : (keyP p).map kV = placeV p := rfl
theorem keyP_inj {p q : Pl} (hp : PlOk p) (hq : PlOk q) (h : keyP p = keyP q) : p = q := by
  unfold keyP at h
  injection h with h1 h
  injection h with h2 h
  injection h with h3 h
  injection h with h4 h
  have e1 : kcd p.1 = kcd q.1 := S_inj (Sum.inr.inj h1)
  have e3 : rcd p.2.2.1 = rcd q.2.2.1 := S_inj (Sum.inr.inj h3)
  have e4 : p.2.2.2 = q.2.2.2 := S_inj (Sum.inr.inj h4)
  have e2 : p.2.1 = q.2.1 := by have := Sum.inl.inj h2; omega
  have k1 : ∀ a, a < 4 → ∀ b, b < 4 → kcd a = kcd b → a = b := by decide
  have k3 : ∀ a, a < 9 → ∀ b, b < 9 → rcd a = rcd b → a = b := by decide
  obtain ⟨a, b, c, d⟩ := p
  obtain ⟨a', b', c', d'⟩ := q
  simp only at e2 e4
  rw [k1 a hp.k a' hq.k e1, e2, k3 c hp.r c' hq.r e3, e4]
abbrev Row := Pl × List Str
structure RowsOk (rows : List Row) : Prop where
  p : ∀ r ∈ rows, PlOk r.1
  f : ∀ r ∈ rows, FtOk r.2
  d : (rows.map (·.1)).Nodup
  n : rows.length ≤ 8
theorem RowsOk.keys {rows : List Row} (h : RowsOk rows) : (rows.map fun r => keyP r.1).Nodup := by
  have e : (rows.map fun r => keyP r.1) = (rows.map (·.1)).map keyP := by rw [List.map_map]; rfl
  rw [e]
  have hp : ∀ p ∈ rows.map (·.1), PlOk p := fun p hp => by
    obtain ⟨r, hr, rfl⟩ := List.mem_map.mp hp
    exact h.p r hr
  have hd := h.d
  clear e
  generalize rows.map (·.1) = l at hp hd
  induction l with
  | nil => exact List.nodup_nil
  | cons a l ih =>
    rw [List.nodup_cons] at hd
    rw [List.map_cons, List.nodup_cons]
    refine ⟨fun z => ?_, ih (fun p hp' => hp p (List.mem_cons_of_mem _ hp')) hd.2⟩
    obtain ⟨b, hb, e⟩ := List.mem_map.mp z
    exact hd.1 ((keyP_inj (hp b (List.mem_cons_of_mem _ hb)) (hp a List.mem_cons_self) e) ▸ hb)
def leR (r s : Row) : Bool := PySem.W.dataLe false (fun r : Row => d5 (rankK r.1)) r s
def sortR (rows : List Row) : List Row := rows.mergeSort leR
noncomputable def kyR (rows : List Row) (k : List Key) : Key5 := match rows.find? (fun r => decide (keyP r.1 = k)) with
  | some r => rankK r.1
  | none => (0, 0, 0, false, "")
theorem kyR_at {rows : List Row} (h : RowsOk rows) {r : Row} (hr : r ∈ rows) : kyR rows (keyP r.1) = rankK r.1 := by
  unfold kyR
  cases e : rows.find? (fun s => decide (keyP s.1 = keyP r.1)) with
  | none =>
    have := List.find?_eq_none.mp e r hr
    simp at this
  | some s =>
    have h0 := List.find?_some (p := fun s : Row => decide (keyP s.1 = keyP r.1)) e
    have h1 := of_decide_eq_true h0
    show rankK s.1 = rankK r.1
    rw [keyP_inj (h.p s (List.mem_of_find?_eq_some e)) (h.p r hr) h1]
theorem valV_rows {H : Hp} : ∀ {kvs : List (List Key × V)} {rows : List Row}, RowsOk rows → TabV H kvs (rows.map fun r => keyP r.1) (rows.map (·.2)) → ∀ r ∈ rows, ∃ v, valV kvs (keyP r.1) = some v ∧ TV H v r.2 := by
  intro kvs rows ok
  have nd := ok.keys
  clear ok
  rintro ⟨h1, h2⟩
  induction rows generalizing kvs with
  | nil => intro r hr; cases hr
  | cons s rows ih =>
    cases kvs with
    | nil => cases h1
    | cons p kvs =>
      rw [List.map_cons] at h1 h2 nd
      rw [List.map_cons] at h1
      obtain ⟨e1, e2⟩ := List.cons.inj h1
      cases h2 with
      | cons a b =>
        rw [List.nodup_cons] at nd
        intro r hr
        rcases List.mem_cons.mp hr with rfl | hr
        · exact ⟨p.2, valV_pos e1, a⟩
        · obtain ⟨v, hv, ht⟩ := ih nd.2 e2 b r hr
          refine ⟨v, ?_, ht⟩
          have ne : ¬ p.1 = keyP r.1 := fun z => nd.1 (by rw [← e1, z]; exact List.mem_map.mpr ⟨r, hr, rfl⟩)
          unfold valV at hv ⊢
          rw [List.find?_cons, decide_eq_false ne]
          exact hv
def linesR (rows : List Row) : List (List Nat) := rows.map fun r => lineL r.1 r.2
/-- the lines of a table -/
def spPO : Sp := fun vs H Q _ => ∃ (d : Addr) (kvs : List (List Key × V)) (rows : List Row), vs = [.ref d] ∧ H d = some (.dT kvs) ∧ RowsOk rows ∧ TabV H kvs (rows.map fun r => keyP r.1) (rows.map (·.2)) ∧
  ∀ L H', H L = none → Same H H' → H' L = some (.lst (lnsV (linesR (sortR rows)))) → Q (.ref L) H'
section
variable {P : Program} {w : World} {K : PySem.W.Frag} {mg : Str → Option Value} {base : Heap}
abbrev nPO : List Str := ["table", "place"]
theorem scPO : FnScope nPO ["table"] (defScope sPO) := ⟨rfl, rfl, rfl, by decide +kernel, rfl, by decide +kernel, by decide +kernel⟩
theorem zip_eq {rs : List (Addr × List Key)} {rows : List Row} (h : rs.map (·.2) = rows.map fun r => keyP r.1) : rs = ((rs.map (·.1)).zip rows).map fun x => (x.1, keyP x.2.1) := by
  induction rs generalizing rows with
  | nil => rfl
  | cons a rs ih =>
    cases rows with
    | nil => cases h
    | cons r rows =>
      rw [List.map_cons, List.map_cons] at h
      obtain ⟨e1, e2⟩ := List.cons.inj h
      rw [List.map_cons, List.zip_cons_cons, List.map_cons, ← ih e2]
      rw [← e1]
theorem ok_po {f : Addr} {fd : FuncData} (F : Fun K "page_of" "page_of" sPO f fd) (zS : mg "sorted" = none) (GPL : Fn P w K mg base 1 "page_line" ["place", "found"] (spPL K)) (GLRk : Fn P w K mg base 1 "line_rank" ["place"] (spRank K)) : FnOk P w K mg base CX0 4 f fd ["table"] spPO := by
  obtain ⟨fR, fdR, kR, GR, bR, gR⟩ := GLRk
  refine F.ok scPO (fun vs H Q E h => ?_) (fun cdv A outer s H vs Q E hr h => ?_)
  · obtain ⟨d, kvs, rows, rfl, _⟩ := h
    rfl
  · obtain ⟨d, kvs, rows, rfl, hd, ok, tv, q⟩ := h
    have hr1 : Room 1 _ := hr.mono (by decide)
    have hr3 : Room 3 _ := hr
    refine ⟨_, (pss_one (ps_ret (pe_lc (own := [("place", 1)]) (g := gName 1) (tt := tYes) (by rfl) scPO.nd (pi_list (pe_callBK (cr_sortK rfl GR hr3 bR) (by rfl) zS (by rfl) (pa_cons (pv 0) pa_nil) (pk_cons (pe_glob (v := .ref fR) (by rfl) gR rfl) pk_nil))) (blkOk_by (own := [("place", 1)]) (N := nPO) (sc := defScope sPO) (by decide +kernel)) (fun _ _ _ _ _ => pg_name (i := 1) scPO.nd rfl (Or.inl rfl)) (fun _ _ _ _ _ => pts_nil) (fun _ _ _ _ _ => (pe_fn GPL hr1 rfl (pa_cons (pv 1) (pa_cons (pe_dget (hu_of hr) (pv 0) (pv 1) (fun _ _ => rfl)) pa_nil))))))), ?_⟩
    have lk : kvs.length = rows.length := by
      have := congrArg List.length tv.1
      rw [List.length_map, List.length_map] at this
      exact this
    have l8 := ok.n
    refine ⟨_, rfl, d, kvs, kyR rows, rfl, rfl, .inl hd, by omega, fun rs h1 h2 => ⟨fun x hx H1 s1 => ?_, fun H1 p s1 hp => ?_⟩⟩
    · have hx2 : x.2 ∈ rows.map fun r => keyP r.1 := by rw [← tv.1, ← h1]; exact List.mem_map.mpr ⟨x, hx, rfl⟩
      obtain ⟨r, hr', e⟩ := List.mem_map.mp hx2
      refine ⟨x.1, r.1, rfl, SqT.of (s1 _ _ ?_), ok.p r hr', fun u H2 _ s2 hu => ⟨u, rfl, s2, ?_⟩⟩
      · rw [h2 x hx, ← e, keyP_V]
      · rw [← e, kyR_at ok hr']
        exact hu
    · have ez := zip_eq (h1.trans tv.1)
      generalize hrr : (rs.map (·.1)).zip rows = rr at ez
      have l1 : (rs.map (·.1)).length = rows.length := by
        have := congrArg List.length (h1.trans tv.1)
        rw [List.length_map, List.length_map] at this
        rw [List.length_map]
        exact this
      have er : rr.map (·.2) = rows := by rw [← hrr]; exact List.map_snd_zip (by omega)
      have hin : ∀ x ∈ rr, x.2 ∈ rows := fun x hx => by rw [← er]; exact List.mem_map.mpr ⟨x, hx, rfl⟩
      -- the sorted pairs
      have es : (rs.mergeSort (PySem.W.dataLe false fun x => d5 (kyR rows x.2))).map (fun x => V.ref x.1) = (rr.mergeSort fun a b => leR a.2 b.2).map fun x => V.ref x.1 := by
        rw [ez, ← List.map_mergeSort (r := fun a b : Addr × Row => leR a.2 b.2) (f := fun x : Addr × Row => (x.1, keyP x.2.1)), List.map_map]
        · rfl
        · intro a ha b hb
          show leR a.2 b.2 = PySem.W.dataLe false (fun x : Addr × List Key => d5 (kyR rows x.2)) (a.1, keyP a.2.1) (b.1, keyP b.2.1)
          unfold leR PySem.W.dataLe PySem.W.sortLe
          simp only [kyR_at ok (hin a ha), kyR_at ok (hin b hb)]
      have eS : (rr.mergeSort fun a b => leR a.2 b.2).map (·.2) = sortR rows := by
        unfold sortR
        rw [← er, List.map_mergeSort (r := fun a b : Addr × Row => leR a.2 b.2) (s := leR) (f := fun x : Addr × Row => x.2) (fun a _ b _ => rfl)]
      rw [es]
      have hmem : ∀ x ∈ rr.mergeSort fun a b => leR a.2 b.2, x ∈ rr := fun x hx => (List.mergeSort_perm _ _).mem_iff.mp hx
      generalize (rr.mergeSort fun a b => leR a.2 b.2) = sr at eS hmem
      have s2 := Same.new (o := .lst (sr.map fun x => V.ref x.1)) s1 hp
      have lS : sr.length ≤ 8 := by
        have := congrArg List.length eS
        unfold sortR at this
        rw [List.length_map, List.length_mergeSort] at this
        omega
      refine ⟨p, rfl, ⟨_, SqL.of upd_same⟩, fun D hD => ?_⟩
      refine lc_list (K := K) (a := p) (xs := sr.map fun x => V.ref x.1) (fun i H' => Same (upd H1 p (.lst (sr.map fun x => V.ref x.1))) H' ∧ H' D = some (.lst (lnsV (linesR ((sr.take i).map (·.2)))))) ⟨Same.new (Same.refl _) hD, upd_same⟩ (fun i H' _ h => SqL.of (h.1 _ _ upd_same)) (fun i u H5 hi h => ?_) (fun H5 h => ?_)
      · obtain ⟨s5, h5⟩ := h
        rw [List.getElem?_map] at hi
        obtain ⟨x, hx, rfl⟩ := Option.map_eq_some_iff.mp hi
        have hxr := hmem x (List.mem_of_getElem? hx)
        have s05 := s2.trans s5
        obtain ⟨v, hv, t, rfl, ht⟩ := valV_rows ok tv x.2 (hin x hxr)
        have hk : H x.1 = some (.tup (placeV x.2.1)) := by
          have : (x.1, keyP x.2.1) ∈ rs := by rw [ez]; exact List.mem_map.mpr ⟨x, hxr, rfl⟩
          exact h2 _ this
        refine ⟨rfl, _, rfl, _, rfl, _, rfl, d, _, rfl, (by rw [← hv]; exact DGet.t (s05 _ _ hd) (k := keyP x.2.1) (s05 _ _ hk)), x.1, t, x.2.1, x.2.2, rfl, SqT.of (s05 _ _ hk), ok.p _ (hin x hxr), .inl (SqT.of (s05 _ _ ht)), .inl (ok.f _ (hin x hxr)), fun H6 s6 => ?_⟩
        refine ⟨_, s6 _ _ h5, ?_, Same.put (s5.trans s6) hD, ?_⟩
        · unfold lnsV linesR
          rw [List.length_map, List.length_map, List.length_map]
          exact Nat.lt_of_le_of_lt (Nat.le_trans (List.length_take_le' _ _) lS) (by decide)
        · rw [upd_same, List.take_add_one, hx, List.map_append]
          unfold lnsV linesR
          rw [List.map_append, List.map_append]
          rfl
      · obtain ⟨s5, h5⟩ := h
        rw [List.length_map, List.take_length, eS] at h5
        exact q D H5 ((s2.trans (Same.refl _)).free hD) (s2.trans s5) h5
end
end K5


/-! pages of fates: the order of rows; the same things in a drawn order -/
namespace K5
open PySem L2
open K5S (S S_cps S_len S_inj S_app lt)
abbrev sTu : Stmt := top 30
/-! the order -/
theorem d5_eqv (k l : Key5) : PyData.eqv (d5 k) (d5 l) = decide (k = l) := by
  obtain ⟨a, b, c, e, z⟩ := k
  obtain ⟨a', b', c', e', z'⟩ := l
  simp only [d5, PyData.eqv, PyData.eqvAll]
  by_cases h1 : a = a' <;> by_cases h2 : b = b' <;> by_cases h3 : c = c' <;> by_cases h4 : e = e' <;> by_cases h5 : z = z' <;> simp [h1, h2, h3, h4, h5]
theorem rank_inj {p q : Pl} (h : rankK p = rankK q) : p = q := by
  unfold rankK at h
  injection h with h1 h
  injection h with h2 h
  injection h with h3 h
  injection h with h4 h5
  obtain ⟨a, b, c, d⟩ := p
  obtain ⟨a', b', c', d'⟩ := q
  simp only at h1 h2 h3 h5
  have e1 : a = a' := by omega
  have e2 : b = b' := by omega
  have e3 : c = c' := by omega
  rw [e1, e2, e3, S_inj h5]
theorem leR_anti {r s : Row} (h1 : leR r s = true) (h2 : leR s r = true) : r.1 = s.1 := by
  have a1 : PySem.W.dataLt (d5 (rankK s.1)) (d5 (rankK r.1)) = false := by
    have : (!PySem.W.dataLt (d5 (rankK s.1)) (d5 (rankK r.1))) = true := h1
    simpa using this
  have a2 : PySem.W.dataLt (d5 (rankK r.1)) (d5 (rankK s.1)) = false := by
    have : (!PySem.W.dataLt (d5 (rankK r.1)) (d5 (rankK s.1))) = true := h2
    simpa using this
  have e := PyProof.Rows.lex_total _ _ a1 a2
  by_cases h : rankK r.1 = rankK s.1
  · exact rank_inj h
  · exfalso
    have ne : PyData.eqv (d5 (rankK s.1)) (d5 (rankK r.1)) = false := by rw [d5_eqv]; exact decide_eq_false fun z => h z.symm
    have := (PySem.W.toks_eqv (d5 (rankK s.1)) (d5 (rankK r.1)) (d5_alike _ _)).2 ne [.inl 0] [.inl 1]
    rw [show PySem.W.keyToks (d5 (rankK s.1)) = PySem.W.keyToks (d5 (rankK r.1)) from e] at this
    rw [PyProof.Rows.lex_irrefl, PySem.W.lex_pre] at this
    exact absurd this (by decide)
theorem leR_total : PySem.W.TotalLe leR := (show PySem.W.TotalLe (PySem.W.dataLe false fun r : Row => d5 (rankK r.1)) from PySem.W.sortLe_total _ _ _)
theorem sortR_perm {rows m : List Row} (hd : (rows.map (·.1)).Nodup) (hs : rows.Pairwise fun a b => leR a b = true) (hp : m.Perm rows) : sortR m = rows := by
  have h1 : (sortR m).Pairwise fun a b => leR a b = true := PySem.W.sort_pairwise leR_total m
  have h2 : (sortR m).Perm rows := (List.mergeSort_perm _ _).trans hp
  refine List.Perm.eq_of_pairwise (le := fun a b => leR a b = true) (fun a b ha hb h3 h4 => ?_) h1 hs h2
  have e := leR_anti h3 h4
  have ha' : a ∈ rows := h2.mem_iff.mp ha
  obtain ⟨i, hi, rfl⟩ := List.mem_iff_getElem.mp ha'
  obtain ⟨j, hj, rfl⟩ := List.mem_iff_getElem.mp hb
  have hi' : i < (rows.map (·.1)).length := by rw [List.length_map]; exact hi
  have hj' : j < (rows.map (·.1)).length := by rw [List.length_map]; exact hj
  have : (rows.map (·.1))[i] = (rows.map (·.1))[j] := by rw [List.getElem_map, List.getElem_map]; exact e
  have ij := (List.getElem_inj hd).mp this
  subst ij
  rfl
/-! drawn order -/
theorem erase_perm {α : Type} : ∀ (l : List α) (i : Nat) (h : i < l.length), (l[i] :: l.eraseIdx i).Perm l
  | _ :: _, 0, _ => List.Perm.refl _
  | a :: l, i + 1, h => by
    have h' : i < l.length := Nat.lt_of_succ_lt_succ h
    show (l[i] :: a :: l.eraseIdx i).Perm (a :: l)
    exact (List.Perm.swap _ _ _).trans (List.Perm.cons a (erase_perm l i (Nat.lt_of_succ_lt_succ h)))
theorem seq_nat {r : Int} {n : Nat} (h0 : 0 ≤ r) (h1 : r < n) : seqIndex? r n = some r.toNat := by
  unfold seqIndex?
  have e : ¬ r < 0 := by omega
  simp only [if_neg e]
  rw [if_pos]
  rw [Bool.and_eq_true]
  exact ⟨decide_eq_true h0, decide_eq_true h1⟩
def spTu : Sp := fun vs H Q _ => ∃ (p : Addr) (c : Nat) (a : Addr) (us : List V), vs = [.ref p, .ref a] ∧ Pool H p c ∧ c ≤ 900000 ∧ H a = some (.lst us) ∧ a ≠ p ∧ us.length ≤ 100 ∧
  ∀ D zs H', zs.Perm us → H D = none → H' D = some (.lst zs) → Keep p H H' → Pool H' p (c + us.length) → Q (.ref D) H'
section
variable {P : Program} {w : World} {K : PySem.W.Frag} {mg : Str → Option Value} {base : Heap}
abbrev nTu : List Str := ["_law_pool_here", "_law_some", "_law_left", "_law_found", "_law_turn"]
theorem scTu : FnScope nTu ["_law_pool_here", "_law_some"] (defScope sTu) := ⟨rfl, rfl, rfl, by decide +kernel, rfl, by decide +kernel, by decide +kernel⟩
theorem ok_tu {f : Addr} {fd : FuncData} (F : Fun K "_law_turned" "_law_turned" sTu f fd) (T : Bare mg) (GP : Fn P w K mg base 1 "_law_pick" ["_law_pool_here", "_law_many"] spPick) : FnOk P w K mg base CX0 2 f fd ["_law_pool_here", "_law_some"] spTu := by
  refine F.ok scTu (fun vs H Q E h => ?_) (fun cdv A outer s H vs Q E hr h => ?_)
  · obtain ⟨p, c, a, us, rfl, _⟩ := h
    rfl
  · obtain ⟨p, c, a, us, rfl, hp, hc, ha, hap, h100, q⟩ := h
    have hr1 : Room 1 _ := hr
    refine ⟨_, (C8.pss_cut (ps_par (i := 2) (j := 3) (by rfl) scTu.nd rfl rfl (by decide) rfl rfl (pa_cons (pe_callTy call_list_of (by rfl) T.list (by decide +kernel) (pa_cons (pv 1) pa_nil)) (pa_cons (pe_lst pa_nil) pa_nil)) (by rfl))
        (C8.pss_cut (ps_for PassesOwn.never rfl (pi_range1 (by rfl) T.range (pa_cons (pe_callB call_len_seq (by rfl) T.len PySem.boot_len (pa_cons (pv 1) pa_nil)) pa_nil)) (pg_name (i := 4) scTu.nd rfl (.inl rfl))
        (pss_one (ps_expr (pe_bm PySem.F.plainAttrs_list PySem.F.slot_list_append PySem.F.type_list_append mt_append (pv 3) (pa_cons (pe_bm PySem.F.plainAttrs_list PySem.F.slot_list_pop PySem.F.type_list_pop mt_popAt (pv 2) (pa_cons (pe_fn GP hr1 rfl (pa_cons (pv 0) (pa_cons (pe_callB call_len_seq (by rfl) T.len PySem.boot_len (pa_cons (pv 2) pa_nil)) pa_nil))) pa_nil)) pa_nil)))))
        (pss_one (ps_ret (pv 3))))), ?_⟩
    refine ⟨fun σ H' => ∃ l D, σ = [some (.ref p), some (.ref a), some (.ref l), some (.ref D), none] ∧ H l = none ∧ H D = none ∧ l ≠ D ∧ H' l = some (.lst us) ∧ H' D = some (.lst []) ∧ Same H H', ?_, ?_⟩
    · refine ⟨_, rfl, a, us, rfl, .inl (SqL.of ha), fun l hl => ⟨Nat.zero_le _, fun D hD => ⟨_, _, rfl, l, D, rfl, hl, ?_⟩⟩⟩
      have s1 := Same.new (o := .lst us) (Same.refl H) hl
      exact ⟨s1.free hD, ne_of_none upd_same hD, by rw [upd_ne (ne_of_none upd_same hD), upd_same], upd_same, Same.new s1 hD⟩
    rintro σ H1 ⟨l, D, rfl, hl, hD, hlD, h1, h2, s1⟩
    have hlp : l ≠ p := pool_ne hp hl
    have hDp : D ≠ p := pool_ne hp hD
    refine ⟨fun σ H' => ∃ v zs, σ = [some (.ref p), some (.ref a), some (.ref l), some (.ref D), v] ∧ zs.Perm us ∧ H' D = some (.lst zs) ∧ Keep p H H' ∧ Pool H' p (c + us.length), ?_, ?_⟩
    · refine ⟨_, rfl, a, us, rfl, .inl (SqL.of (s1 _ _ ha)), us.length, rfl, by omega, by omega, ?_⟩
      refine for_range (lo := 0) (n := us.length) (fun i σ H' => ∃ v xs zs, σ = [some (.ref p), some (.ref a), some (.ref l), some (.ref D), v] ∧ (zs ++ xs).Perm us ∧ xs.length + i = us.length ∧ H' l = some (.lst xs) ∧ H' D = some (.lst zs) ∧ Keep p H H' ∧ Pool H' p (c + i)) ⟨none, us, [], rfl, List.Perm.refl _, rfl, h1, h2, Same.keep s1, hp.same s1⟩ ?_ ?_
      · rintro i σ H2 hi ⟨v, xs, zs, rfl, pm, hx, hl2, hD2, k2, p2⟩
        have lz : zs.length ≤ 100 := by
          have := pm.length_eq
          rw [List.length_append] at this
          omega
        refine ⟨_, rfl, .inl ⟨rfl, _, SqL.of hD2⟩, _, rfl, .inl ⟨rfl, _, SqL.of hl2⟩, _, rfl, _, rfl, l, xs, rfl, .inl (SqL.of hl2), p, c + i, xs.length, rfl, p2, by omega, by omega, by omega, fun r H3 r0 r1 k3 p3 => ?_⟩
        have hl3 := k3 _ _ hlp hl2
        have hD3 := k3 _ _ hDp hD2
        have rl : r.toNat < xs.length := by omega
        refine ⟨l, xs, r, r.toNat, xs[r.toNat], rfl, rfl, hl3, by omega, by omega, ?_, List.getElem?_eq_getElem rl, ?_⟩
        · exact seq_nat r0 r1
        refine ⟨D, _, _, rfl, rfl, by rw [upd_ne (Ne.symm hlD)]; exact hD3, Nat.lt_of_le_of_lt lz (by decide), _, xs.eraseIdx r.toNat, zs ++ [xs[r.toNat]], rfl, ?_, ?_, ?_, upd_same, ?_, ?_⟩
        · refine List.Perm.trans ?_ pm
          rw [List.append_assoc]
          exact List.Perm.append_left zs (erase_perm _ _ rl)
        · rw [List.length_eraseIdx, if_pos rl]; omega
        · rw [upd_ne hlD, upd_same]
        · intro b o nb e
          have e3 := (k2.trans k3) b o nb e
          rw [upd_ne (ne_of_none e hD), upd_ne (ne_of_none e hl)]
          exact e3
        · exact (p3.other (Ne.symm hlp)).other (Ne.symm hDp)
      · rintro σ H2 ⟨v, xs, zs, rfl, pm, hx, hl2, hD2, k2, p2⟩
        have : xs = [] := List.eq_nil_of_length_eq_zero (by omega)
        rw [this, List.append_nil] at pm
        exact ⟨v, zs, rfl, pm, hD2, k2, p2⟩
    rintro σ H2 ⟨v, zs, rfl, pm, hD2, k2, p2⟩
    exact ⟨_, rfl, q D zs H2 pm hD hD2 k2 p2⟩
end
end K5

/-! pages of fates: a table drawn -/
namespace K5
open PySem L2
open K5S (S S_cps S_len S_inj S_app lt Wd)
abbrev sTa : Stmt := top 28
theorem shaped_lt {ds : List PyData} : SeqAt.shaped (.list ds) = SeqAt.shaped (.tuple ds) := by
  unfold SeqAt.shaped
  rw [PyData.canLay0, PyData.canLay0, PyData.depth, PyData.depth]
/-- x not in y: data of any depth in a list -/
def rNinL (K : PySem.W.Frag) : R2 := fun x y H Q => ∃ d ds, Dp K H x d ∧ Dp K H y (.list ds) ∧ SeqAt.shaped d = true ∧ SeqAt.shaped (.tuple ds) = true ∧ Q (.bl (!(ds.any fun z => PyData.eqv z d))) H
section
variable {X : Cx}
open PySem.Spec PyProof.Rows
theorem op_ninA (hu : X.A.units + 65 < cLine) : OpR X (compareOp .NotIn) (rNinL X.K) := by
  intro pins s σ H x y v u Q I rx ry h
  obtain ⟨d, ds, hd, he, sd, se, q⟩ := h
  obtain ⟨as, r1⟩ := Dp.reads I d x v hd rx
  obtain ⟨bs, r2⟩ := Dp.reads I (.list ds) y u he ry
  exact SeqAt.notIn_list_reads r2 r1 (by have z := SeqAt.canLay_of_shaped se; rw [PyData.canLay0] at z; exact z) (SeqAt.canLay_of_shaped sd) (room_in_shaped sd hu) ⟨.bl _, H, I, rfl, q⟩
end
abbrev rTupOf (K : PySem.W.Frag) : List V → Hp → VK → Prop := fun xs H Q => ∃ p ys, xs = [.ref p] ∧ ((SqL K H p ys ∧ ∀ l, H l = none → Q (.ref l) (upd H l (.tup ys))) ∨ (SqT K H p ys ∧ Q (.ref p) H))
theorem hu65 {k : Nat} {A : Around} (r : Room k A) : A.units + 65 < cLine := by have := r.un; omega
section
variable {P : Program} {w : World} {K : PySem.W.Frag} {mg : Str → Option Value} {base : Heap}
abbrev nTa : List Str := ["_law_pool_here", "_law_kinds", "_law_roles_now", "_law_fates", "_law_found", "_law_labels", "_law_turn", "_law_place", "_law_some", "_law_one", "_law_ordered", "_law_kind", "_law_level", "_law_role", "_law_name", "_law_key"]
theorem scTa : FnScope nTa ["_law_pool_here"] (defScope sTa) := ⟨rfl, rfl, rfl, by decide +kernel, rfl, by decide +kernel, by decide +kernel⟩
/-! rows drawn -/
def dplV (p : Pl) : List V := [.int p.1, .int p.2.1, .int p.2.2.1, .str (S p.2.2.2)]
def dplD (p : Pl) : PyData := .tuple [.int p.1, .int p.2.1, .int p.2.2.1, .str (S p.2.2.2)]
def DrwV (av : List Addr) (H : Hp) : List V → List Row → Prop := Paired fun u r => ∃ t pa la, u = V.ref t ∧ t ∉ av ∧ pa ∉ av ∧ la ∉ av ∧ H t = some (.tup [.ref pa, .ref la]) ∧ H pa = some (.tup (dplV r.1)) ∧ H la = some (.lst (r.2.map V.str))
/-- rows in the heap -/
def RwsV (H : Hp) : List V → List Row → Prop := Paired fun u r => ∃ t pa ta, u = V.ref t ∧ H t = some (.tup [.ref pa, .ref ta]) ∧ H pa = some (.tup (placeV r.1)) ∧ H ta = some (.tup (r.2.map V.str))
theorem DrwV.to {av : List Addr} {H H' : Hp} {us : List V} {rows : List Row} (h : DrwV av H us rows) (s : ∀ b o, b ∉ av → H b = some o → H' b = some o) : DrwV av H' us rows :=
  Paired.mapP h fun u r ⟨t, pa, la, e, n1, n2, n3, a, b, c⟩ => ⟨t, pa, la, e, n1, n2, n3, s _ _ n1 a, s _ _ n2 b, s _ _ n3 c⟩
theorem keep_put {p D : Addr} {H H' : Hp} {o : HO} (k : Keep p H H') (hD : H D = none) : Keep p H (upd H' D o) := fun b u nb e => by
  rw [upd_ne (ne_of_none e hD)]
  exact k b u nb e
/-- the lists that stand -/
def Four (p l4 : Addr) (H : Hp) (L : List (Addr × List Str)) : Prop := ∀ x ∈ L, H x.1 = some (.lst (x.2.map V.str)) ∧ x.1 ≠ p ∧ x.1 ≠ l4
theorem Four.to {p l4 : Addr} {H H' : Hp} {L : List (Addr × List Str)} (h : Four p l4 H L) (s : ∀ b o, b ≠ p → b ≠ l4 → H b = some o → H' b = some o) : Four p l4 H' L := fun x hx => by
  obtain ⟨a, b, c⟩ := h x hx
  exact ⟨s _ _ b c a, b, c⟩
def TaV (p l1 l2 l3 l4 l5 : Addr) (H : Hp) (c : Nat) (zs : List Str) (i : Nat) (σ : L2.St) (H' : Hp) : Prop := ∃ v6 v7 v8 us rows, σ = [some (.ref p), some (.ref l1), some (.ref l2), some (.ref l3), some (.ref l4), some (.ref l5), v6, v7, v8, none, none, none, none, none, none, none] ∧ Keep p H H' ∧ Pool H' p (c + 40 + 13 * i) ∧
  Four p l4 H' [(l1, kindsS), (l2, rolesS), (l3, fatesS), (l5, zs)] ∧ H' l4 = some (.lst us) ∧ DrwV [p, l4] H' us rows ∧ RowsOk rows ∧ rows.length ≤ i
theorem notin2 {a p l : Addr} (h1 : a ≠ p) (h2 : a ≠ l) : a ∉ [p, l] := by simp [h1, h2]
theorem in2 {a p l : Addr} (h : a ∉ [p, l]) : a ≠ p ∧ a ≠ l := by simpa using h
theorem RwsV.to {H H' : Hp} {us : List V} {rows : List Row} (h : RwsV H us rows) (s : ∀ b xs, H b = some (.tup xs) → H' b = some (.tup xs)) : RwsV H' us rows :=
  Paired.mapP h fun u r ⟨t, pa, la, e, a, b, c⟩ => ⟨t, pa, la, e, s _ _ a, s _ _ b, s _ _ c⟩
theorem paired_snoc {α β : Type} {F : α → β → Prop} : ∀ {xs : List α} {ys : List β} {x : α} {y : β}, Paired F xs ys → F x y → Paired F (xs ++ [x]) (ys ++ [y])
  | _, _, _, _, .nil, h => .cons h .nil
  | _, _, _, _, .cons a b, h => .cons a (paired_snoc b h)
theorem dpl_eqv (p q : Pl) : PyData.eqv (dplD p) (dplD q) = decide (p = q) := by
  obtain ⟨a, b, c, d⟩ := p
  obtain ⟨a', b', c', d'⟩ := q
  simp only [dplD, PyData.eqv, PyData.eqvAll]
  by_cases h1 : a = a' <;> by_cases h2 : b = b' <;> by_cases h3 : c = c' <;> by_cases h4 : d = d'
  all_goals first
    | (subst h1 h2 h3 h4; simp)
    | (have h1' : ¬ (a : Int) = a' := by omega
       simp [h1, h1'])
    | (have h2' : ¬ (b : Int) = b' := by omega
       simp [h2, h2'])
    | (have h3' : ¬ (c : Int) = c' := by omega
       simp [h3, h3'])
    | (have h4' : ¬ S d = S d' := fun z => h4 (S_inj z)
       simp [h4, h4'])
theorem PlOk.strok {p : Pl} (ok : PlOk p) : PyData.strOk (S p.2.2.2) = true := ascii_ok fun x hx => by
  rcases ok.n with h | h
  · rw [h] at hx; cases hx
  · have := List.all_eq_true.mp h.1 x hx
    unfold lt at this
    rw [Bool.and_eq_true] at this
    have := of_decide_eq_true this.2
    omega
theorem dpl_shaped {p : Pl} (ok : PlOk p) : SeqAt.shaped (dplD p) = true := by
  unfold SeqAt.shaped dplD
  simp [PyData.canLay0, PyData.canLayAll0, PyData.depth, PyData.depthAll, ok.strok]
theorem dpls_shaped : ∀ {ps : List Pl}, (∀ p ∈ ps, PlOk p) → SeqAt.shaped (.tuple (ps.map dplD)) = true := by
  intro ps h
  have h1 : PyData.canLayAll0 (ps.map dplD) = true ∧ PyData.depthAll (ps.map dplD) ≤ 5 := by
    induction ps with
    | nil => exact ⟨rfl, by simp [PyData.depthAll]⟩
    | cons p ps ih =>
      obtain ⟨i1, i2⟩ := ih fun q hq => h q (List.mem_cons_of_mem _ hq)
      have d := dpl_shaped (h p List.mem_cons_self)
      have dd : (dplD p).depth ≤ 4 := by simp [dplD, PyData.depth, PyData.depthAll]
      constructor
      · rw [List.map_cons]
        simp only [PyData.canLayAll0]
        rw [i1, SeqAt.canLay_of_shaped d]
        rfl
      · rw [List.map_cons]
        simp only [PyData.depthAll]
        omega
  unfold SeqAt.shaped
  rw [Bool.and_eq_true]
  exact ⟨h1.1, decide_eq_true (by simp only [PyData.depth]; have := h1.2; omega)⟩
theorem dpl_dp {K : PySem.W.Frag} {H : Hp} {a : Addr} {p : Pl} (h : H a = some (.tup (dplV p))) : Dp K H (.ref a) (dplD p) := .tup (SqT.of h) (.cons (.int _) (.cons (.int _) (.cons (.int _) (.cons (.str _) .nil))))
theorem any_dpl (p : Pl) : ∀ ps : List Pl, ((ps.map dplD).any fun z => PyData.eqv z (dplD p)) = decide (p ∈ ps)
  | [] => rfl
  | q :: ps => by
    rw [List.map_cons, List.any_cons, any_dpl p ps, dpl_eqv]
    by_cases h : p = q
    · subst h; simp
    · have h' : ¬ q = p := fun e => h e.symm
      simp [h, h']
theorem dpall_pl {K : PySem.W.Frag} {H : Hp} : ∀ {as : List Addr} {rows : List Row}, Paired (fun a (r : Row) => H a = some (.tup (dplV r.1))) as rows → DpAll K H (as.map V.ref) ((rows.map (·.1)).map dplD)
  | _, _, .nil => .nil
  | _, _, .cons a b => .cons (dpl_dp a) (dpall_pl b)
def PairX (H3 H : Hp) (x : RowP) : Prop := ∃ t m, H x.1 = some (.tup [.ref t, .ref m]) ∧ H t = some (.tup (kv5 x.2.1)) ∧ H3 m = some (.lst (x.2.2.map V.str))
def xRow (x : RowP) : Key5 × List Str := (x.2.1, x.2.2)
def rRow (r : Row) : Key5 × List Str := (rankK r.1, r.2)
def leX (a b : Key5 × List Str) : Bool := PySem.W.dataLe false (fun z : Key5 × List Str => PyData.tuple [d5 z.1, .list (z.2.map PyData.str)]) a b
/-! the order drawn -/
def leD (r s : Row) : Bool := PySem.W.dataLe false (fun r : Row => PyData.tuple [d5 (rankK r.1), .list (r.2.map PyData.str)]) r s
theorem leD_R {r s : Row} (h : leD r s = true) (hn : r.1 ≠ s.1) : leR r s = true := by
  have h1 : (!PySem.W.dataLt (.tuple [d5 (rankK s.1), .list (s.2.map PyData.str)]) (.tuple [d5 (rankK r.1), .list (r.2.map PyData.str)])) = true := h
  have ne : PyData.eqv (d5 (rankK s.1)) (d5 (rankK r.1)) = false := by rw [d5_eqv]; exact decide_eq_false fun z => hn (rank_inj z).symm
  have e : PySem.W.dataLt (.tuple [d5 (rankK s.1), .list (s.2.map PyData.str)]) (.tuple [d5 (rankK r.1), .list (r.2.map PyData.str)]) = PySem.W.dataLt (d5 (rankK s.1)) (d5 (rankK r.1)) := by
    have := PySem.W.dataLt_cons (d5_alike (rankK s.1) (rankK r.1)) [.list (s.2.map PyData.str)] [.list (r.2.map PyData.str)]
    rw [ne, if_neg Bool.false_ne_true] at this
    exact this
  rw [e] at h1
  exact h1
theorem sortD_ok {rows : List Row} (ok : RowsOk rows) : RowsOk (rows.mergeSort leD) ∧ (rows.mergeSort leD).Pairwise fun a b => leR a b = true := by
  have pm := List.mergeSort_perm rows leD
  have hd : ((rows.mergeSort leD).map (·.1)).Nodup := (pm.map (·.1)).nodup_iff.mpr ok.d
  refine ⟨⟨fun r hr => ok.p r (pm.mem_iff.mp hr), fun r hr => ok.f r (pm.mem_iff.mp hr), hd, by rw [pm.length_eq]; exact ok.n⟩, ?_⟩
  have hp : (rows.mergeSort leD).Pairwise fun a b => leD a b = true := PySem.W.sort_pairwise (show PySem.W.TotalLe (PySem.W.dataLe false fun r : Row => PyData.tuple [d5 (rankK r.1), .list (r.2.map PyData.str)]) from PySem.W.sortLe_total _ _ _) rows
  have hn : (rows.mergeSort leD).Pairwise fun a b => a.1 ≠ b.1 := List.pairwise_map.mp hd
  exact (hp.and hn).imp fun h => leD_R h.1 h.2
def spTab (K : PySem.W.Frag) : Sp := fun vs H Q _ => ∃ (p : Addr) (c : Nat), vs = [.ref p] ∧ Pool H p c ∧ c ≤ 600000 ∧
  ∀ L us rows H', H L = none → H' L = some (.lst us) → RwsV H' us rows → RowsOk rows → (rows.Pairwise fun a b => leR a b = true) → Keep p H H' → Pool H' p (c + 200) → Q (.ref L) H'
theorem ok_ta {f : Addr} {fd : FuncData} (F : Fun K "_law_table" "_law_table" sTa f fd) (T : Bare mg) (zS : mg "sorted" = none) (GP : Fn P w K mg base 1 "_law_pick" ["_law_pool_here", "_law_many"] spPick) (GO : Fn P w K mg base 2 "_law_of" ["_law_pool_here", "_law_some"] K5S.spOf)
    (GWs : Fn P w K mg base 3 "_law_words" ["_law_pool_here", "_law_many", "_law_taken"] spWords) : FnOk P w K mg base CX0 4 f fd ["_law_pool_here"] (spTab K) := by
  refine F.ok scTa (fun vs H Q E h => ?_) (fun cdv A outer s H vs Q E hr h => ?_)
  · obtain ⟨p, c, rfl, _⟩ := h
    rfl
  · obtain ⟨p, c, rfl, hp, hc, q⟩ := h
    have hr1 : Room 1 _ := hr.mono (by decide)
    have hr2 : Room 2 _ := hr.mono (by decide)
    have hr3 : Room 3 _ := hr
    refine ⟨_, (C8.pss_cut (ps_asg (pe_tup (pa_cons (pe_lst (pa_cons pe_str (pa_cons pe_str (pa_cons pe_str (pa_cons pe_str pa_nil))))) (pa_cons (pe_lst (pa_cons pe_str (pa_cons pe_str (pa_cons pe_str (pa_cons pe_str (pa_cons pe_str (pa_cons pe_str (pa_cons pe_str (pa_cons pe_str (pa_cons pe_str pa_nil)))))))))) pa_nil))) (pg_tup (by rfl) (pgs_cons (pg_name (i := 1) scTa.nd rfl (.inr rfl)) (pgs_cons (pg_name (i := 2) scTa.nd rfl (.inr rfl)) pgs_nil))))
        (C8.pss_cut (ps_par3 (i := 3) (j := 4) (l := 5) (by rfl) scTa.nd rfl rfl rfl (by decide) (by decide) (by decide) rfl rfl rfl (pa_cons (pe_lst (pa_cons pe_str (pa_cons pe_str (pa_cons pe_str (pa_cons pe_str (pa_cons pe_str (pa_cons pe_str (pa_cons pe_str pa_nil)))))))) (pa_cons (pe_lst pa_nil) (pa_cons (pe_op op_cat (pe_fn GWs hr3 rfl (pa_cons (pv 0) (pa_cons pe_int (pa_cons (pe_lst pa_nil) pa_nil)))) (pe_lst (pa_cons pe_str pa_nil))) pa_nil))) (by rfl))
        (C8.pss_cut (ps_for PassesOwn.never rfl (pi_range1 (by rfl) T.range (pa_cons (pe_fn GP hr1 rfl (pa_cons (pv 0) (pa_cons pe_int pa_nil))) pa_nil)) (pg_name (i := 6) scTa.nd rfl (.inl rfl))
        (C8.pss_cut (ps_set (i := 7) scTa.nd rfl (.inl rfl) (pe_tup (pa_cons (pe_fn GP hr1 rfl (pa_cons (pv 0) (pa_cons pe_int pa_nil))) (pa_cons (pe_fn GP hr1 rfl (pa_cons (pv 0) (pa_cons pe_int pa_nil))) (pa_cons (pe_fn GP hr1 rfl (pa_cons (pv 0) (pa_cons pe_int pa_nil))) (pa_cons (pe_fn GO hr2 rfl (pa_cons (pv 0) (pa_cons (pv 5) pa_nil))) pa_nil))))))
        (C8.pss_cut (ps_setLc (i := 8) (own := [("_law_one", 9)]) (g := gName 9) (by rfl) scTa.nd rfl rfl (sw_true rfl rfl rfl (by decide +kernel)) (pi_list (pv 3)) (blkOk_by (own := [("_law_one", 9)]) (N := nTa) (sc := defScope sTa) (by decide +kernel)) (fun _ _ _ _ _ => pg_name (i := 9) scTa.nd rfl (Or.inl rfl)) (fun _ _ _ _ _ => pts_one (pt_cmpR op_eq (pe_fn GP hr1 rfl (pa_cons (pv 0) (pa_cons pe_int pa_nil))) pe_int (nomark _))) (fun _ _ _ _ _ => (pv 9)))
        (pss_one (ps_if (pt_cmpR (op_ninA (hu65 hr)) (pv 7) (pe_lc (own := [("_law_one", 9)]) (g := gName 9) (tt := tYes) (by rfl) scTa.nd (pi_list (pv 4)) (blkOk_by (own := [("_law_one", 9)]) (N := nTa) (sc := defScope sTa) (by decide +kernel)) (fun _ _ _ _ _ => pg_name (i := 9) scTa.nd rfl (Or.inl rfl)) (fun _ _ _ _ _ => pts_nil) (fun _ _ _ _ _ => (pe_ix (show IxR _ (rIxT K) from ix_tup) (pv 9) pe_int (fun _ _ => rfl)))) rfl) (pss_one (ps_expr (pe_bm PySem.F.plainAttrs_list PySem.F.slot_list_append PySem.F.type_list_append mt_append (pv 4) (pa_cons (pe_tup (pa_cons (pv 7) (pa_cons (pe_ifExp (pt_cmpR (op_neD hr.units) (pv 8) (pe_lst pa_nil) (nomark _)) (pv 8) (pe_lst (pa_cons (pe_fn GO hr2 rfl (pa_cons (pv 0) (pa_cons (pv 3) pa_nil))) pa_nil))) pa_nil))) pa_nil)))) pss_nil)))))
        (C8.pss_cut (ps_set (i := 10) scTa.nd rfl (.inl rfl) (pe_callB (cr_sortP hr.units) (by rfl) zS (by decide +kernel) (pa_cons (pe_lc (own := [("_law_kind", 11), ("_law_level", 12), ("_law_role", 13), ("_law_name", 14), ("_law_some", 8)]) (g := gTup K 2 (gCons (gTup K 4 (gCons (gName 11) (gCons (gName 12) (gCons (gName 13) (gCons (gName 14) gNil))))) (gCons (gName 8) gNil))) (tt := tYes) (by rfl) scTa.nd (pi_list (pv 4)) (blkOk_by (own := [("_law_kind", 11), ("_law_level", 12), ("_law_role", 13), ("_law_name", 14), ("_law_some", 8)]) (N := nTa) (sc := defScope sTa) (by decide +kernel)) (fun _ _ _ _ _ => (pg_tup (by rfl) (pgs_cons (pg_tup (by rfl) (pgs_cons (pg_name (i := 11) scTa.nd rfl (.inl rfl)) (pgs_cons (pg_name (i := 12) scTa.nd rfl (.inl rfl)) (pgs_cons (pg_name (i := 13) scTa.nd rfl (.inl rfl)) (pgs_cons (pg_name (i := 14) scTa.nd rfl (.inl rfl)) pgs_nil))))) (pgs_cons (pg_name (i := 8) scTa.nd rfl (.inl rfl)) pgs_nil)))) (fun _ _ _ _ _ => pts_nil) (fun _ _ _ _ _ => (pe_tup (pa_cons (pe_tup (pa_cons (pv 11) (pa_cons (pv 12) (pa_cons (pv 13) (pa_cons (pe_cmpR op_eq (pv 14) pe_str (nomark _)) (pa_cons (pv 14) pa_nil)))))) (pa_cons (pv 8) pa_nil))))) pa_nil)))
        (pss_one (ps_ret (pe_lc (own := [("_law_key", 15), ("_law_some", 8)]) (g := gTup K 2 (gCons (gName 15) (gCons (gName 8) gNil))) (tt := tYes) (by rfl) scTa.nd (pi_list (pv 10)) (blkOk_by (own := [("_law_key", 15), ("_law_some", 8)]) (N := nTa) (sc := defScope sTa) (by decide +kernel)) (fun _ _ _ _ _ => (pg_tup (by rfl) (pgs_cons (pg_name (i := 15) scTa.nd rfl (.inl rfl)) (pgs_cons (pg_name (i := 8) scTa.nd rfl (.inl rfl)) pgs_nil)))) (fun _ _ _ _ _ => pts_nil) (fun _ _ _ _ _ => (pe_tup (pa_cons (pe_tup (pa_cons (pe_ix (show IxR _ (rIxL K) from ix_list) (pv 1) (pe_ix (show IxR _ (rIxT K) from ix_tup) (pv 15) pe_int (fun _ _ => rfl)) (fun _ _ => rfl)) (pa_cons (pe_ix (show IxR _ (rIxT K) from ix_tup) (pv 15) pe_int (fun _ _ => rfl)) (pa_cons (pe_ix (show IxR _ (rIxL K) from ix_list) (pv 2) (pe_ix (show IxR _ (rIxT K) from ix_tup) (pv 15) pe_int (fun _ _ => rfl)) (fun _ _ => rfl)) (pa_cons (pe_ix (show IxR _ (rIxT K) from ix_tup) (pv 15) pe_int (fun _ _ => rfl)) pa_nil))))) (pa_cons (pe_callTy (show CallR _ (.type "tuple") (rTupOf K) from call_tuple_of) (by rfl) T.tuple (by decide +kernel) (pa_cons (pv 8) pa_nil)) pa_nil))))))))))), ?_⟩
    -- the kinds and the roles
    refine ⟨fun σ H' => ∃ l1 l2, σ = [some (.ref p), some (.ref l1), some (.ref l2), none, none, none, none, none, none, none, none, none, none, none, none, none] ∧ Same H H' ∧ H l1 = none ∧ H l2 = none ∧ H' l1 = some (.lst (kindsS.map V.str)) ∧ H' l2 = some (.lst (rolesS.map V.str)), ?_, ?_⟩
    · refine ⟨by show 4 ≤ sizeLine; decide, fun l1 hl1 => ⟨by show 9 ≤ sizeLine; decide, fun l2 hl2 => ⟨by show 2 ≤ sizeLine; decide, fun U hU => ?_⟩⟩⟩
      have s1 := Same.new (o := .lst (kindsS.map V.str)) (Same.refl H) hl1
      have s2 := Same.new (o := .lst (rolesS.map V.str)) (Same.refl _) hl2
      have s3 := Same.new (o := .tup [.ref l1, .ref l2]) (Same.refl _) hU
      exact ⟨U, _, rfl, SqT.of upd_same, rfl, _, _, rfl, _, _, rfl, rfl, l1, l2, rfl, s1.trans (s2.trans s3), hl1, s1.free hl2, s3 _ _ (s2 _ _ upd_same), s3 _ _ upd_same⟩
    rintro σ H1 ⟨l1, l2, rfl, s1, n1, n2, h1, h2⟩
    have p1 := hp.same s1
    -- fates, found, labels
    refine ⟨fun σ H' => ∃ l3 l4 l5 zs, σ = [some (.ref p), some (.ref l1), some (.ref l2), some (.ref l3), some (.ref l4), some (.ref l5), none, none, none, none, none, none, none, none, none, none] ∧ Keep p H H' ∧ Pool H' p (c + 36) ∧ Four p l4 H' [(l1, kindsS), (l2, rolesS), (l3, fatesS), (l5, zs)] ∧ H' l4 = some (.lst []) ∧ H l4 = none ∧ zs ≠ [] ∧ zs.length ≤ 10 ∧ ∀ z ∈ zs, z = "" ∨ Wd z, ?_, ?_⟩
    · refine ⟨by show 7 ≤ sizeLine; decide, fun l3 hl3 => ⟨Nat.zero_le _, fun l4 hl4 => ⟨_, rfl, Nat.zero_le _, fun e he => ?_⟩⟩⟩
      have s3 := Same.new (o := .lst (fatesS.map V.str)) (Same.refl H1) hl3
      have s4 := Same.new (o := .lst []) s3 hl4
      have s5 := Same.new (o := .lst []) s4 he
      refine ⟨p, c, e, 3, [], rfl, p1.same s5, by omega, upd_same, pool_ne (p1.same s4) he, by decide, by decide, fun D ws H2 hD hDw lw wd nd k2 pl2 => ⟨by show 1 ≤ sizeLine; decide, fun b hb => ⟨D, b, _, _, rfl, rfl, (Same.new (Same.refl _) hb) _ _ hDw, upd_same, ?_, fun L hL => ?_⟩⟩⟩
      · rw [List.length_map, lw]; decide
      have s6 := Same.new (o := .lst [V.str ""]) (Same.refl H2) hb
      have s7 := Same.new (o := .lst (ws.map V.str ++ [V.str ""])) s6 hL
      have hlp1 : l1 ≠ p := pool_ne hp n1
      have hlp2 : l2 ≠ p := pool_ne hp n2
      have hlp3 : l3 ≠ p := pool_ne p1 hl3
      have hlp4 : l4 ≠ p := pool_ne (p1.same s3) hl4
      have hlp5 : L ≠ p := pool_ne (pl2.same s6) hL
      have d1 : l1 ≠ l4 := ne_of_none (s3 _ _ h1) hl4
      have d2 : l2 ≠ l4 := ne_of_none (s3 _ _ h2) hl4
      have d3 : l3 ≠ l4 := ne_of_none upd_same hl4
      have hl4' : (upd (upd (upd H1 l3 (.lst (fatesS.map V.str))) l4 (.lst [])) e (.lst [])) l4 = some (.lst []) := (Same.new (Same.refl _) he) _ _ upd_same
      have h4 := k2 _ _ hlp4 hl4'
      have d5 : L ≠ l4 := Ne.symm (ne_of_none (s6 _ _ h4) hL)
      have kk := k2
      refine ⟨_, _, _, rfl, l3, l4, L, ws ++ [("" : Str)], rfl, ((Same.keep (s1.trans s5)).trans k2).trans (Same.keep s7), (pl2.same s7).mono (by omega), ?_, s7 _ _ h4, s1.free (s3.free hl4), by simp, by rw [List.length_append, lw]; decide, ?_⟩
      · intro x hx
        simp only [List.mem_cons, List.not_mem_nil, or_false] at hx
        rcases hx with rfl | rfl | rfl | rfl
        · exact ⟨s7 _ _ (k2 _ _ hlp1 (s5 _ _ h1)), hlp1, d1⟩
        · exact ⟨s7 _ _ (k2 _ _ hlp2 (s5 _ _ h2)), hlp2, d2⟩
        · exact ⟨s7 _ _ (k2 _ _ hlp3 ((Same.new (Same.new (Same.refl _) hl4) he) _ _ upd_same)), hlp3, d3⟩
        · refine ⟨?_, hlp5, d5⟩
          rw [upd_same, List.map_append]
          rfl
      · intro z hz
        rcases List.mem_append.mp hz with hz | hz
        · exact .inr (wd z hz).1
        · exact .inl (List.mem_singleton.mp hz)
    rintro σ H2 ⟨l3, l4, l5, zs, rfl, k2, p2, f2, h4, n4, zne, zl, zok⟩
    -- the rows drawn
    refine ⟨fun σ H' => TaV p l1 l2 l3 l4 l5 H c zs 8 σ H', ?_, ?_⟩
    · have h4p : l4 ≠ p := pool_ne hp n4
      refine ⟨_, rfl, p, c + 36, 9, rfl, p2, by omega, by omega, by omega, fun r H3 r0 r1 k3 p3 => ⟨r.toNat, by rw [Int.toNat_of_nonneg r0], by omega, by omega, ?_⟩⟩
      have rn : r.toNat ≤ 8 := by omega
      refine for_range (lo := 0) (n := r.toNat) (fun i σ H' => TaV p l1 l2 l3 l4 l5 H c zs i σ H') ⟨none, none, none, [], [], rfl, k2.trans k3, p3.mono (by omega), f2.to fun b o n1 _ e => k3 b o n1 e, k3 _ _ h4p h4, .nil, ⟨(fun _ h => nomatch h), (fun _ h => nomatch h), List.nodup_nil, Nat.zero_le _⟩, Nat.le_refl _⟩ ?_ ?_
      · rintro i σ H4 hi ⟨v6, v7, v8, us, rows, rfl, k4, p4, f4, hu4, dv, ok, hn⟩
        have cb : c + 40 + 13 * i ≤ 610000 := by omega
        obtain ⟨x1, x2, x3⟩ := f4 _ (List.mem_cons_self)
        obtain ⟨fa, fap, fa4⟩ := f4 (l3, fatesS) (by simp)
        obtain ⟨la, lap, la4⟩ := f4 (l5, zs) (by simp)
        -- the place
        refine ⟨fun σ H' => ∃ pa pl, σ = [some (.ref p), some (.ref l1), some (.ref l2), some (.ref l3), some (.ref l4), some (.ref l5), some (.int (0 + i)), some (.ref pa), v8, none, none, none, none, none, none, none] ∧ Keep p H4 H' ∧ Pool H' p (c + 40 + 13 * i + 4) ∧ H4 pa = none ∧ H' pa = some (.tup (dplV pl)) ∧ PlOk pl, ?_, ?_⟩
        · refine ⟨_, rfl, p, _, 4, rfl, p4, by omega, by omega, by omega, fun a H5 a0 a1 k5 p5 => ⟨_, rfl, p, _, 3, rfl, p5, by omega, by omega, by omega, fun b H6 b0 b1 k6 p6 => ⟨_, rfl, p, _, 9, rfl, p6, by omega, by omega, by omega, fun e H7 e0 e1 k7 p7 => ?_⟩⟩⟩
          have k47 := (k5.trans k6).trans k7
          refine ⟨_, rfl, _, rfl, p, _, l5, zs.map V.str, rfl, p7, by omega, k47 _ _ lap la, lap, by simpa using zne, by rw [List.length_map]; omega, fun v H8 hv k8 p8 => ⟨by show 4 ≤ sizeLine; decide, fun pa hpa => ?_⟩⟩
          obtain ⟨z, hz, rfl⟩ := List.mem_map.mp hv
          obtain ⟨n, hzn, nok⟩ : ∃ n : List Nat, z = S n ∧ (n = [] ∨ (n.all lt = true ∧ 1 ≤ n.length ∧ n.length ≤ 12)) := by
            rcases zok z hz with h | ⟨r, h, a1, a2, a3⟩
            · exact ⟨[], h.trans K5S.str_none, .inl rfl⟩
            · exact ⟨r, h, .inr ⟨a1, a2, a3⟩⟩
          refine ⟨pa, (a.toNat, b.toNat, e.toNat, n), rfl, (k47.trans k8).trans (Same.keep (Same.new (Same.refl _) hpa)), (p8.new hpa).mono (by omega), Keep.free (k47.trans k8) (pool_ne p8 hpa) hpa, ?_, ⟨by show a.toNat < 4; omega, by show b.toNat < 3; omega, by show e.toNat < 9; omega, nok⟩⟩
          rw [upd_same]
          unfold dplV
          simp only [Int.toNat_of_nonneg a0, Int.toNat_of_nonneg b0, Int.toNat_of_nonneg e0, hzn]
        rintro σ H5 ⟨pa, pl, rfl, k5, p5, npa, hpa, plok⟩
        have pap : pa ≠ p := pool_ne p4 npa
        -- the fates
        refine ⟨fun σ H' => ∃ (D : Addr) (gs : List Str), σ = [some (.ref p), some (.ref l1), some (.ref l2), some (.ref l3), some (.ref l4), some (.ref l5), some (.int (0 + i)), some (.ref pa), some (.ref D), none, none, none, none, none, none, none] ∧ Keep p H5 H' ∧ Pool H' p (c + 40 + 13 * i + 11) ∧ H5 D = none ∧ H' D = some (.lst (gs.map V.str)) ∧ gs.Sublist fatesS, ?_, ?_⟩
        · refine ⟨_, rfl, l3, rfl, ⟨_, SqL.of (k5 _ _ fap fa)⟩, fun D hD => ?_⟩
          have hDp : D ≠ p := pool_ne p5 hD
          refine lc_list (K := K) (a := l3) (xs := fatesS.map V.str) (fun j H' => Keep p H5 H' ∧ Pool H' p (c + 40 + 13 * i + 4 + j) ∧ ∃ gs : List Str, H' D = some (.lst (gs.map V.str)) ∧ gs.Sublist (fatesS.take j) ∧ gs.length ≤ j) ⟨(Keep.refl p H5).new hD, p5.new hD, [], upd_same, List.nil_sublist _, Nat.le_refl _⟩ (fun j H' _ h => SqL.of (h.1 _ _ fap (k5 _ _ fap fa))) (fun j u H6 hj h => ?_) (fun H6 h => ?_)
          · obtain ⟨k6, p6, gs, hg, sub, gl⟩ := h
            have j7 : j < 7 := by
              have := (List.getElem?_eq_some_iff.mp hj).1
              rwa [List.length_map] at this
            rw [List.getElem?_map] at hj
            obtain ⟨z, hz, rfl⟩ := Option.map_eq_some_iff.mp hj
            refine ⟨rfl, _, rfl, p, _, 3, rfl, p6, by omega, by omega, by omega, fun r H7 _ _ k7 p7 => ⟨rfl, _, rfl, ?_⟩⟩
            have es : fatesS.take (j + 1) = fatesS.take j ++ [z] := by rw [List.take_add_one, hz]; rfl
            have hg7 := k7 _ _ hDp hg
            refine ite2 (fun _ => ?_) (fun _ => ?_)
            · refine ⟨_, rfl, _, hg7, ?_, keep_put (k6.trans k7) hD, (p7.other (Ne.symm hDp)).mono (by omega), gs ++ [z], ?_, ?_, ?_⟩
              · rw [List.length_map]
                exact Nat.lt_of_le_of_lt (show gs.length ≤ 7 by omega) (by decide)
              · rw [upd_same, List.map_append]; rfl
              · rw [es]; exact List.Sublist.append sub (List.Sublist.refl _)
              · rw [List.length_append, List.length_singleton]; omega
            · refine ⟨k6.trans k7, p7.mono (by omega), gs, hg7, ?_, by omega⟩
              rw [es]
              exact sub.trans (List.sublist_append_left _ _)
          · obtain ⟨k6, p6, gs, hg, sub, gl⟩ := h
            rw [List.length_map] at p6 sub
            exact ⟨D, gs, rfl, k6, p6.mono (by show _ + 7 ≤ _; omega), hD, hg, by rw [List.take_length] at sub; exact sub⟩
        rintro σ H6 ⟨D, gs, rfl, k6, p6, nD, hD, sub⟩
        have k46 := k5.trans k6
        have h4' := k46 _ _ h4p hu4
        have nD4 : H4 D = none := Keep.free k5 (pool_ne p5 nD) nD
        have Dp' : D ≠ p := pool_ne p4 nD4
        have D4 : D ≠ l4 := Ne.symm (ne_of_none hu4 nD4)
        have pa4 : pa ≠ l4 := Ne.symm (ne_of_none hu4 npa)
        have dv6 := dv.to (H' := H6) fun b o nb e => k46 b o (in2 nb).1 e
        have f6 := f4.to (H' := H6) fun b o n1 _ e => k46 b o n1 e
        have hpa6 := k6 _ _ pap hpa
        -- kept or not
        have o6 : ∀ r ∈ rows, PlOk r.1 := ok.p
        have us8 : us.length ≤ 8 := by rw [Paired.length dv]; exact ok.n
        have fin : ∀ H8 t la fs, Keep p H6 H8 → Pool H8 p (c + 40 + 13 * i + 13) → H8 t = some (.tup [.ref pa, .ref la]) → H8 la = some (.lst (fs.map V.str)) → FtOk fs → t ∉ [p, l4] → la ∉ [p, l4] → pl ∉ rows.map (·.1) →
            TaV p l1 l2 l3 l4 l5 H c zs (i + 1) [some (.ref p), some (.ref l1), some (.ref l2), some (.ref l3), some (.ref l4), some (.ref l5), some (.int (0 + i)), some (.ref pa), some (.ref D), none, none, none, none, none, none, none] (upd H8 l4 (.lst (us ++ [.ref t]))) := by
          intro H8 t la fs k8 p8 ht hla fok nt nla nin
          have up : ∀ b o, b ∉ [p, l4] → H6 b = some o → (upd H8 l4 (.lst (us ++ [.ref t]))) b = some o := fun b o nb e => by
            rw [upd_ne (in2 nb).2]
            exact k8 b o (in2 nb).1 e
          have st : ∀ b, b ∉ [p, l4] → (upd H8 l4 (.lst (us ++ [.ref t]))) b = H8 b := fun b nb => upd_ne (in2 nb).2
          refine ⟨_, _, _, us ++ [.ref t], rows ++ [(pl, fs)], rfl, keep_put ((k4.trans k46).trans k8) n4, (p8.other (Ne.symm h4p)).mono (by omega), f6.to fun b o n1 n2 e => up b o (notin2 n1 n2) e, upd_same, paired_snoc (dv6.to up) ⟨t, pa, la, rfl, nt, notin2 pap pa4, nla, by rw [st _ nt]; exact ht, by exact up _ _ (notin2 pap pa4) hpa6, by rw [st _ nla]; exact hla⟩, ⟨?_, ?_, ?_, ?_⟩, ?_⟩
          · intro r hr
            rcases List.mem_append.mp hr with h | h
            · exact ok.p r h
            · rw [List.mem_singleton.mp h]; exact plok
          · intro r hr
            rcases List.mem_append.mp hr with h | h
            · exact ok.f r h
            · rw [List.mem_singleton.mp h]; exact fok
          · rw [List.map_append, List.nodup_append]
            refine ⟨ok.d, by simp, fun a ha b hb => ?_⟩
            rw [List.map_singleton, List.mem_singleton] at hb
            rw [hb]
            exact fun z => nin (by rw [← show a = pl from z]; exact ha)
          · rw [List.length_append, List.length_singleton]; omega
          · rw [List.length_append, List.length_singleton]; omega
        refine ⟨_, rfl, _, rfl, l4, rfl, ⟨us, SqL.of h4'⟩, fun C hC => ?_⟩
        refine lc_list (K := K) (a := l4) (xs := us) (fun j H' => Same H6 H' ∧ ∃ as : List Addr, H' C = some (.lst (as.map V.ref)) ∧ Paired (fun a (r : Row) => H6 a = some (.tup (dplV r.1))) as (rows.take j)) ⟨Same.new (Same.refl _) hC, [], upd_same, by rw [List.take_zero]; exact .nil⟩ (fun j H' _ h => SqL.of (h.1 _ _ h4')) (fun j u H7 hj h => ?_) (fun H7 h => ?_)
        · obtain ⟨s7, as, hC7, pr⟩ := h
          obtain ⟨r, hr', t, pa', la', rfl, _, _, _, e1, e2, e3⟩ := LiI.paired_get dv6 hj
          have la8 : as.length ≤ 8 := by
            have := Paired.length pr
            rw [List.length_take] at this
            have := ok.n
            omega
          refine ⟨rfl, _, rfl, t, _, 0, _, rfl, rfl, SqT.of (s7 _ _ e1), rfl, _, hC7, ?_, Same.put s7 hC, as ++ [pa'], ?_, ?_⟩
          · rw [List.length_map]; exact Nat.lt_of_le_of_lt la8 (by decide)
          · rw [upd_same, List.map_append]; rfl
          · rw [List.take_add_one, hr']
            exact paired_snoc pr e2
        obtain ⟨s7, as, hC7, pr⟩ := h
        have lus : us.length = rows.length := Paired.length dv
        rw [lus, List.take_length] at pr
        have pr7 : Paired (fun a (r : Row) => H7 a = some (.tup (dplV r.1))) as rows := Paired.mapP pr fun a r e => s7 _ _ e
        have k67 : Keep p H6 H7 := Same.keep s7
        have p7 := p6.same s7
        refine ⟨dplD pl, _, dpl_dp (s7 _ _ hpa6), .lst (SqL.of hC7) (dpall_pl pr7), dpl_shaped plok, dpls_shaped (fun q hq => by obtain ⟨r, hr', rfl⟩ := List.mem_map.mp hq; exact ok.p r hr'), _, rfl, ?_⟩
        rw [any_dpl]
        by_cases nin : pl ∈ rows.map (·.1)
        · rw [decide_eq_true nin]
          refine iteF ⟨_, _, _, us, rows, rfl, (k4.trans k46).trans k67, p7.mono (by omega), f6.to fun b o n1 _ e => k67 b o n1 e, k67 _ _ h4p h4', dv6.to fun b o nb e => k67 b o (in2 nb).1 e, ok, by omega⟩
        · rw [decide_eq_false nin]
          refine iteT ⟨_, rfl, .inl ⟨rfl, us, SqL.of (s7 _ _ h4')⟩, _, rfl, _, rfl, Nat.zero_le _, fun e he => ?_⟩
          have s8 := Same.new (o := .lst []) s7 he
          have p8 := p7.new (o := .lst []) he
          have hD8 := s8 _ _ hD
          refine ⟨.list (gs.map PyData.str), .list ([].map PyData.str), .lst (SqL.of hD8) (dpall_strs _), .lst (SqL.of upd_same) .nil, (strs_shaped fun x hx => sub.subset hx).1, (strs_shaped (xs := []) (fun x hx => nomatch hx)).1, _, rfl, ?_⟩
          rw [eqv_lists]
          by_cases ge : gs = []
          · rw [decide_eq_true ge]
            have fa8 := s8 _ _ (k6 _ _ fap (k5 _ _ fap fa))
            refine iteF ⟨_, rfl, _, rfl, p, _, l3, fatesS.map V.str, rfl, p8, by omega, fa8, fap, by decide, by decide, fun v H9 hv k9 p9 => ⟨by show 1 ≤ sizeLine; decide, fun L hL => ⟨by show 2 ≤ sizeLine; decide, fun t ht => ?_⟩⟩⟩
            obtain ⟨z, hz, rfl⟩ := List.mem_map.mp hv
            have s9 := Same.new (o := .lst [.str z]) (Same.refl H9) hL
            have s10 := Same.new (o := .tup [.ref pa, .ref L]) (Same.refl _) ht
            have k610 : Keep p H6 (upd (upd H9 L (.lst [.str z])) t (.tup [.ref pa, .ref L])) := ((Same.keep s8).trans k9).trans (Same.keep (s9.trans s10))
            have h4L := (k9 _ _ h4p (s8 _ _ h4'))
            refine ⟨l4, us, _, rfl, rfl, s10 _ _ (s9 _ _ h4L), Nat.lt_of_le_of_lt us8 (by decide), fin _ t L [z] k610 ((p9.same (s9.trans s10)).mono (by omega)) upd_same (s10 _ _ upd_same) ⟨?_, by simp⟩ (notin2 (pool_ne (p9.same s9) ht) (Ne.symm (ne_of_none (s9 _ _ h4L) ht))) (notin2 (pool_ne p9 hL) (Ne.symm (ne_of_none h4L hL))) nin⟩
            have : ∀ z ∈ fatesS, [z] ∈ subs fatesS := by decide +kernel
            exact this z hz
          · rw [decide_eq_false ge]
            refine iteT ⟨_, rfl, by show 2 ≤ sizeLine; decide, fun t ht => ?_⟩
            have s10 := Same.new (o := .tup [.ref pa, .ref D]) s8 ht
            have h4L := s8 _ _ h4'
            refine ⟨l4, us, _, rfl, rfl, s10 _ _ h4', Nat.lt_of_le_of_lt us8 (by decide), fin _ t D gs (Same.keep s10) ((p8.new ht).mono (by omega)) upd_same (s10 _ _ hD) ⟨mem_subs sub, ge⟩ (notin2 (pool_ne p8 ht) (Ne.symm (ne_of_none h4L ht))) (notin2 Dp' D4) nin⟩
      · rintro σ H4 ⟨v6, v7, v8, us, rows, rfl, k4, p4, f4, hu4, dv, ok, hn⟩
        exact ⟨v6, v7, v8, us, rows, rfl, k4, p4.mono (by omega), f4, hu4, dv, ok, by omega⟩
    rintro σ H3 ⟨v6, v7, v8, us, rows, rfl, k3, p3, f3, hu, dv, ok, hn⟩
    have lus : us.length = rows.length := Paired.length dv
    have n8 := ok.n
    -- sorted
    refine ⟨fun σ H' => ∃ (O : Addr) (sr : List RowP), σ = [some (.ref p), some (.ref l1), some (.ref l2), some (.ref l3), some (.ref l4), some (.ref l5), v6, v7, v8, none, some (.ref O), none, none, none, none, none] ∧ Same H3 H' ∧ H' O = some (.lst (sr.map fun x => V.ref x.1)) ∧ (∀ x ∈ sr, PairX H3 H' x) ∧ sr.map xRow = (rows.mergeSort leD).map rRow, ?_, ?_⟩
    · refine ⟨_, rfl, l4, rfl, ⟨us, SqL.of hu⟩, fun C hC => ?_⟩
      refine lc_list (K := K) (a := l4) (xs := us) (fun j H' => Same H3 H' ∧ ∃ rs : List RowP, H' C = some (.lst (rs.map fun x => V.ref x.1)) ∧ (∀ x ∈ rs, PairX H3 H' x) ∧ rs.map xRow = (rows.take j).map rRow) ⟨Same.new (Same.refl _) hC, [], upd_same, fun _ h => (nomatch h), by rw [List.take_zero]; rfl⟩ (fun j H' _ h => SqL.of (h.1 _ _ hu)) (fun j u H5 hj h => ?_) (fun H5 h => ?_)
      · obtain ⟨s5, rs, hC5, px, em⟩ := h
        obtain ⟨r, hr', t, pa, la, rfl, _, _, _, e1, e2, e3⟩ := LiI.paired_get dv hj
        refine ⟨t, _, rfl, SqT.of (s5 _ _ e1), rfl, _, _, rfl, pa, _, rfl, SqT.of (s5 _ _ e2), rfl, _, _, rfl, _, _, rfl, _, _, rfl, _, _, rfl, rfl, _, _, rfl, rfl, rfl, ?_⟩
        refine ⟨_, rfl, _, rfl, _, rfl, _, rfl, rfl, ?_⟩
        rw [K5S.eq_noneB]
        refine ⟨_, rfl, by show 5 ≤ sizeLine; decide, fun t5 ht5 => ⟨_, rfl, by show 2 ≤ sizeLine; decide, fun t2 ht2 => ?_⟩⟩
        have s6 := Same.new (o := .tup (kv5 (rankK r.1))) (Same.refl H5) ht5
        have s7 := Same.new (o := .tup [.ref t5, .ref la]) (Same.refl _) ht2
        have lr : rs.length ≤ 8 := by
          have := congrArg List.length em
          rw [List.length_map, List.length_map, List.length_take] at this
          omega
        have hC7 := s7 _ _ (s6 _ _ hC5)
        refine ⟨_, hC7, ?_, Same.put (s5.trans (s6.trans s7)) hC, rs ++ [(t2, rankK r.1, r.2)], ?_, ?_, ?_⟩
        · rw [List.length_map]; exact Nat.lt_of_le_of_lt lr (by decide)
        · rw [upd_same, List.map_append]; rfl
        · have up : ∀ b xs, H5 b = some (.tup xs) → (upd (upd (upd H5 t5 (.tup (kv5 (rankK r.1)))) t2 (.tup [.ref t5, .ref la])) C (.lst (rs.map (fun x => V.ref x.1) ++ [V.ref t2]))) b = some (.tup xs) := fun b xs e => by
            rw [upd_ne (fun z => by rw [z, hC5] at e; cases e)]
            exact s7 _ _ (s6 _ _ e)
          intro x hx
          rcases List.mem_append.mp hx with h | h
          · obtain ⟨a, m, q1, q2, q3⟩ := px x h
            exact ⟨a, m, up _ _ q1, up _ _ q2, q3⟩
          · rw [List.mem_singleton.mp h]
            refine ⟨t5, la, ?_, ?_, e3⟩
            · rw [upd_ne (Ne.symm (ne_of_none (s6 _ _ hC5) ht2)), upd_same]
            · rw [upd_ne (Ne.symm (ne_of_none hC5 ht5))]
              exact s7 _ _ upd_same
        · rw [List.map_append, em, List.take_add_one, hr', List.map_append]
          rfl
      · obtain ⟨s5, rs, hC5, px, em⟩ := h
        rw [lus, List.take_length] at em
        have lr : rs.length = rows.length := by
          have := congrArg List.length em
          rwa [List.length_map, List.length_map] at this
        refine ⟨C, rs, rfl, SqL.of hC5, by omega, fun x hx => ?_, fun O hO => ?_⟩
        · obtain ⟨a, m, q1, q2, q3⟩ := px x hx
          exact ⟨a, m, q1, q2, s5 _ _ q3⟩
        have s6 := Same.new (o := .lst ((rs.mergeSort (PySem.W.dataLe false dP)).map fun x => V.ref x.1)) s5 hO
        refine ⟨O, rs.mergeSort (PySem.W.dataLe false dP), rfl, s6, upd_same, fun x hx => ?_, ?_⟩
        · obtain ⟨a, m, q1, q2, q3⟩ := px x ((List.mergeSort_perm _ _).mem_iff.mp hx)
          have s7 := Same.new (o := .lst ((rs.mergeSort (PySem.W.dataLe false dP)).map fun x => V.ref x.1)) (Same.refl H5) hO
          exact ⟨a, m, s7 _ _ q1, s7 _ _ q2, q3⟩
        · rw [List.map_mergeSort (r := PySem.W.dataLe false dP) (s := leX) (f := xRow) (fun a _ b _ => rfl), em, List.map_mergeSort (r := leD) (s := leX) (f := rRow) (fun a _ b _ => rfl)]
    rintro σ H4 ⟨O, sr, rfl, s4, hO, px, em⟩
    obtain ⟨okS, pw⟩ := sortD_ok ok
    generalize rows.mergeSort leD = rw' at em okS pw
    have f4 := f3.to (H' := H4) fun b o _ _ e => s4 b o e
    have hk1 := (f4 (l1, kindsS) (by simp)).1
    have hk2 := (f4 (l2, rolesS) (by simp)).1
    have lsr : sr.length = rw'.length := by
      have := congrArg List.length em
      rwa [List.length_map, List.length_map] at this
    have n8' := okS.n
    refine ⟨_, rfl, O, rfl, ⟨_, SqL.of hO⟩, fun C hC => ?_⟩
    refine lc_list (K := K) (a := O) (xs := sr.map fun x => V.ref x.1) (fun j H' => Same H4 H' ∧ ∃ vs, H' C = some (.lst vs) ∧ RwsV H' vs (rw'.take j)) ⟨Same.new (Same.refl _) hC, [], upd_same, by rw [List.take_zero]; exact .nil⟩ (fun j H' _ h => SqL.of (h.1 _ _ hO)) (fun j u H5 hj h => ?_) (fun H5 h => ?_)
    · obtain ⟨s5, vs, hC5, rv⟩ := h
      rw [List.getElem?_map] at hj
      obtain ⟨x, hx, rfl⟩ := Option.map_eq_some_iff.mp hj
      obtain ⟨t5, m, q1, q2, q3⟩ := px x (List.mem_of_getElem? hx)
      obtain ⟨r, hr', er⟩ : ∃ r, rw'[j]? = some r ∧ xRow x = rRow r := by
        have h1 : (sr.map xRow)[j]? = some (xRow x) := by rw [List.getElem?_map, hx]; rfl
        rw [em, List.getElem?_map] at h1
        obtain ⟨r, a1, a2⟩ := Option.map_eq_some_iff.mp h1
        exact ⟨r, a1, a2.symm⟩
      obtain ⟨ea, eb⟩ := Prod.mk.inj er
      have ea : x.2.1 = rankK r.1 := ea
      have eb : x.2.2 = r.2 := eb
      have pok := okS.p r (List.mem_of_getElem? hr')
      have h5 := s5 _ _ q2
      rw [ea] at h5
      have q35 := s5 _ _ (s4 _ _ q3)
      rw [eb] at q35
      have lv : vs.length ≤ 8 := by
        have := Paired.length rv
        rw [List.length_take] at this
        omega
      have ix1 : atI (kindsS.map V.str) (r.1.1 : Int) = some (.str (S (kcd r.1.1))) := by
        refine atI_nat ?_
        rw [kinds_S, List.getElem?_map, (ix_first kc (by decide) pok.k).1]
        rfl
      have ix2 : atI (rolesS.map V.str) (r.1.2.2.1 : Int) = some (.str (S (rcd r.1.2.2.1))) := by
        refine atI_nat ?_
        rw [roles_S, List.getElem?_map, (ix_first rc (by decide) pok.r).1]
        rfl
      refine ⟨x.1, _, rfl, SqT.of (s5 _ _ q1), rfl, _, _, rfl, _, _, rfl, rfl, rfl, ?_⟩
      refine ⟨_, rfl, _, rfl, t5, _, 0, _, rfl, rfl, SqT.of h5, rfl, l1, _, _, _, rfl, rfl, SqL.of (s5 _ _ hk1), ix1, _, rfl, t5, _, 1, _, rfl, rfl, SqT.of h5, rfl, _, rfl, _, rfl, t5, _, 2, _, rfl, rfl, SqT.of h5, rfl, l2, _, _, _, rfl, rfl, SqL.of (s5 _ _ hk2), ix2, _, rfl, t5, _, 4, _, rfl, rfl, SqT.of h5, rfl, by show 4 ≤ sizeLine; decide, fun pa hpa => ?_⟩
      have s6 := Same.new (o := .tup (placeV r.1)) (Same.refl H5) hpa
      refine ⟨_, rfl, m, _, rfl, .inl ⟨SqL.of (s6 _ _ q35), fun ta hta => ⟨by show 2 ≤ sizeLine; decide, fun T hT => ?_⟩⟩⟩
      have s7 := Same.new (o := .tup (r.2.map V.str)) (Same.refl _) hta
      have s8 := Same.new (o := .tup [.ref pa, .ref ta]) (Same.refl _) hT
      have hC8 := s8 _ _ (s7 _ _ (s6 _ _ hC5))
      refine ⟨_, hC8, Nat.lt_of_le_of_lt lv (by decide), Same.put (s5.trans (s6.trans (s7.trans s8))) hC, _, upd_same, ?_⟩
      have up : ∀ b xs, H5 b = some (.tup xs) → (upd (upd (upd (upd H5 pa (.tup (placeV r.1))) ta (.tup (r.2.map V.str))) T (.tup [.ref pa, .ref ta])) C (.lst (vs ++ [.ref T]))) b = some (.tup xs) := fun b xs e => by
        rw [upd_ne (fun z => by rw [z, hC5] at e; cases e)]
        exact s8 _ _ (s7 _ _ (s6 _ _ e))
      rw [List.take_add_one, hr']
      refine paired_snoc (rv.to up) ⟨T, pa, ta, rfl, ?_, ?_, ?_⟩
      · rw [upd_ne (Ne.symm (ne_of_none (s7 _ _ (s6 _ _ hC5)) hT)), upd_same]
      · rw [upd_ne (Ne.symm (ne_of_none hC5 hpa))]
        exact s8 _ _ (s7 _ _ upd_same)
      · rw [upd_ne (Ne.symm (ne_of_none (s6 _ _ hC5) hta))]
        exact s8 _ _ upd_same
    · obtain ⟨s5, vs, hC5, rv⟩ := h
      rw [List.length_map, lsr, List.take_length] at rv
      exact q C vs rw' H5 (Keep.free (k3.trans (Same.keep s4)) (pool_ne (p3.same s4) hC) hC) hC5 rv okS pw (k3.trans (Same.keep (s4.trans s5))) ((p3.same (s4.trans s5)).mono (by omega))
end
end K5

/-! a written text in a list's first place: behind the statement a token is out -/
namespace L2
open PySem PySem.Spec PyProof.Rows
section
variable {X : Cx} {st : Stmt} {rest : List Stmt} {t u : TS} {es : List Expr} {ta : TA} {lpos : Pos}
/-- after the first sign of a list: a token is out -/
theorem list_out {j : Nat} {c : Str} {cp : Pos} {E : Value → Shared → Prop} {pins : List (Addr × Obj)} {σ : St} {H : Hp} {s : Shared} {Q : VK} {R : Value → Shared → Prop} (ha : PA X (.Constant (.str c) j cp :: es) (tCons (tC (.str c)) ta)) (I : Inv X pins σ H s) (h : tLst (tCons (tC (.str c)) ta) σ H Q) (hp : PA X es ta)
    (fin : ∀ v s', 1 ≤ s'.toks → EP X pins σ Q v s' → R v s') : wpAny (model X.prog X.w) X.A (eval (.List (.Constant (.str c) j cp :: es) lpos) X.env) R X.xe s := by
  refine wpAny_List_spliced ?_
  show wpAny _ _ (spliced ((false, eval (.Constant (.str c) j cp) X.env) :: backTo lpos (starEach es X.env))) _ _ s
  refine Calls.spliced_cons (Calls.Constant_str ?_)
  refine wpAny_mono (PySem.wpAny_toks (hp.run lpos pins _ σ H _ (I.tok (s.toks + 1)) h)) (fun us s1 q => ?_) fun _ _ z => z.2
  obtain ⟨hk, xs, H1, I1, r, z, q⟩ := q
  have hk' : s.toks + 1 ≤ s1.toks := hk
  have r' : Vals (V.str c :: xs) (Value.str c s.toks :: us) := .cons ⟨_, rfl⟩ r
  refine ⟨by rw [← r'.length]; exact z, ?_⟩
  have hf : H1 s1.heap.objs.size = none := I1.hok.fresh (Nat.le_refl _)
  refine fin _ _ (by show 1 ≤ s1.toks; omega) ⟨.ref s1.heap.objs.size, upd H1 s1.heap.objs.size (.lst (V.str c :: xs)), I1.laid (t' := s1.toks) (fun b u e => Heap.get?_push_of_some _ e) (Nat.le_refl _) ?_, rfl, q _ hf⟩
  exact ⟨z, _, 0, r', Heap.get?_push_size _ rfl⟩
/-- name = ['..', ..]: behind it a token is out -/
theorem pss_lstT {i j : Nat} {x c : Str} {cpos pos' pos : Pos} (hN : X.N.Nodup) (hi : X.N[i]? = some x) (hx : Loc X.env.scope x) (hp : PA X es ta) (h2 : PSsT X rest u)
    (hs : swapsWith (.List (.Constant (.str c) j cpos :: es) lpos) (some (.Name x pos')) pos.line X.env = pure false := by rfl) (hf : X.fn x = true ∨ X.env.scope.names.lookup x = some .local := by first | exact .inl rfl | exact .inr rfl | assumption)
    (hst : starEach (.Constant (.str c) j cpos :: es) X.env = (false, eval (.Constant (.str c) j cpos) X.env) :: starEach es X.env := by rfl) :
    PSs X (.Assign [.Name x pos'] (.List (.Constant (.str c) j cpos :: es) lpos) pos :: rest) (C8.tCut (tAsg (tLst (tCons (tC (.str c)) ta)) (gName i)) u) := by
  refine ⟨fun pins s σ H D I h => ?_⟩
  obtain ⟨Mid, hm, hu⟩ := h
  refine wpAny_execs_cons (wpAny_Assign_Name (list_out (E := X.xe) (pa_cons pe_str hp hst) I hm hp fun v s1 hk hv => ?_) hs)
  obtain ⟨y, H1, I1, r1, q1⟩ := hv
  refine wpAny_mono (PySem.wpAny_toks (store_ok (Q := fun _ s2 => Inv X pins (σ.set i (some y)) H1 s2) I1 hN hi hx r1 (fun _ I2 => I2) hf)) (fun _ s2 q => ?_) fun _ _ z => z.2
  exact h2 pins s2 _ H1 D (Nat.le_trans hk q.1) q.2 (hu _ _ q1)
theorem psst_cut (h1 : PST X st t) (h2 : PSsT X rest u) : PSsT X (st :: rest) (C8.tCut t u) := by
  intro pins s σ H D h0 I h
  obtain ⟨Mid, hm, hu⟩ := h
  refine wpAny_execs_cons (wpAny_mono (PySem.wpAny_toks (h1 pins s σ H { D with nx := Mid } h0 I hm)) (fun f s1 q => ?_) fun _ _ x => x.2)
  obtain ⟨hk, q⟩ := q
  cases f with
  | next =>
    obtain ⟨σ', H', I', q⟩ := q
    exact h2 pins s1 σ' H' D (Nat.le_trans h0 hk) I' (hu σ' H' q)
  | ret v => exact q
  | brk => exact q
  | cont => exact q
theorem pst_set {i : Nat} {x : Str} {e : Expr} {te : TE} {pos' pos : Pos} (hN : X.N.Nodup) (hi : X.N[i]? = some x) (hx : Loc X.env.scope x) (he : PET X e te) (hs : swapsWith e (some (.Name x pos')) pos.line X.env = pure false := by rfl) (hf : X.fn x = true ∨ X.env.scope.names.lookup x = some .local := by first | exact .inl rfl | exact .inr rfl | assumption) :
    PST X (.Assign [.Name x pos'] e pos) (tAsg te (gName i)) := by
  intro pins s σ H D h0 I h
  refine wpAny_Assign_Name (thn (he pins s σ H _ h0 I h) fun v s1 ⟨y, H1, I1, r1, q1⟩ => ?_) hs
  exact store_ok I1 hN hi hx r1 (fun s2 I2 => ⟨_, H1, I2, q1⟩) hf
end
end L2

/-! pages of fates: a line spoilt -/
namespace K5
open PySem L2
open K5S (S S_cps S_len S_inj S_app S_of lt Wd)
abbrev sWr : Stmt := top 31
theorem la (a b : Str) : (a ++ b : Str).length = a.length + b.length := by
  show (a.cps ++ b.cps).size = _
  rw [Array.size_append]
  rfl
theorem lit0 : S [32] = (" " : Str) := by decide +kernel
theorem lit1 : S [44] = ("," : Str) := by decide +kernel
theorem lit2 : S [44, 32] = (", " : Str) := by decide +kernel
theorem lit3 : S [108, 101, 102, 116, 115] = ("lefts" : Str) := by decide +kernel
theorem lit4 : S [51, 32] = ("3 " : Str) := by decide +kernel
theorem lit5 : S [48] = ("0" : Str) := by decide +kernel
theorem lit6 : S [110, 97, 109, 101, 115, 32, 32, 32] = ("names   " : Str) := by decide +kernel
theorem lit7 : S [82, 111, 119, 115] = ("Rows" : Str) := by decide +kernel
theorem lit8 : S [109, 111, 114, 101, 44, 32, 115, 97, 109, 101] = ("more, same" : Str) := by decide +kernel
theorem lit9 : S [115, 97, 109, 101, 44, 109, 111, 114, 101] = ("same,more" : Str) := by decide +kernel
theorem lit10 : S [115, 97, 109, 101, 32, 109, 111, 114, 101] = ("same more" : Str) := by decide +kernel
theorem lit11 : S [83, 97, 109, 101] = ("Same" : Str) := by decide +kernel
theorem lit12 : S [97, 32, 98, 32, 32, 32, 32, 32, 32, 32, 32, 32, 32] = ("a b          " : Str) := by decide +kernel
theorem lit13 : S [10] = ("\n" : Str) := by decide +kernel
theorem lit14 : S [48, 48] = ("00" : Str) := by decide +kernel
theorem litN : S [] = ("" : Str) := by decide +kernel
theorem cu1 (l : List Nat) : cutS (S l) (some 1) none = S (l.drop 1) := cut_from (a := 1)
theorem cu5 (l : List Nat) : cutS (S l) (some 5) none = S (l.drop 5) := cut_from (a := 5)
theorem cu10 (l : List Nat) : cutS (S l) (some 10) none = S (l.drop 10) := cut_from (a := 10)
theorem cu18 (l : List Nat) : cutS (S l) (some 18) none = S (l.drop 18) := cut_from (a := 18)
theorem cu22 (l : List Nat) : cutS (S l) (some 22) none = S (l.drop 22) := cut_from (a := 22)
theorem cu31 (l : List Nat) : cutS (S l) (some 31) none = S (l.drop 31) := cut_from (a := 31)
theorem ct8 (l : List Nat) : cutS (S l) none (some 8) = S (l.take 8) := cut_to (b := 8)
theorem ct18 (l : List Nat) : cutS (S l) none (some 18) = S (l.take 18) := cut_to (b := 18)
theorem cm9 (l : List Nat) : cutS (S l) (some 9) (some 10) = S ((l.drop 9).take 1) := cut_S (a := 9) (b := 10) (by decide)
def strsV (l : List (List Nat)) : List V := l.map fun z => V.str (S z)
def spWr (K : PySem.W.Frag) : Sp := fun vs H Q _ => ∃ (p : Addr) (c : Nat) (pa ta : Addr) (pl : Pl) (f : Str) (fs : List Str), vs = [.ref p, .ref pa, .ref ta] ∧ Pool H p c ∧ c ≤ 800000 ∧ H pa = some (.tup (placeV pl)) ∧ PlOk pl ∧ H ta = some (.tup ((f :: fs).map V.str)) ∧ FtOk (f :: fs) ∧
  ∀ z H', z ∈ oddL pl (f :: fs) f.cps.toList → Keep p H H' → Pool H' p (c + 1) → Q (.str (S z)) H'
section
variable {P : Program} {w : World} {K : PySem.W.Frag} {mg : Str → Option Value} {base : Heap}
abbrev nWr : List Str := ["_law_pool_here", "_law_place", "_law_some", "_law_line_here", "_law_first", "_law_odd"]
theorem scWr : FnScope nWr ["_law_pool_here", "_law_place", "_law_some"] (defScope sWr) := ⟨rfl, rfl, rfl, by decide +kernel, rfl, by decide +kernel, by decide +kernel⟩
theorem ok_wr {f0 : Addr} {fd : FuncData} (F : Fun K "_law_wrong" "_law_wrong" sWr f0 fd) (T : Bare mg) (GLL : Fn P w K mg base 1 "_law_line" ["_law_place", "_law_some"] (spPL K)) (GO : Fn P w K mg base 2 "_law_of" ["_law_pool_here", "_law_some"] K5S.spOf) : FnOk P w K mg base CX0 3 f0 fd ["_law_pool_here", "_law_place", "_law_some"] (spWr K) := by
  refine F.ok scWr (fun vs H Q E h => ?_) (fun cdv A outer s H vs Q E hr h => ?_)
  · obtain ⟨p, c, pa, ta, pl, f, fs, rfl, _⟩ := h
    rfl
  · obtain ⟨p, c, pa, ta, pl, f, fs, rfl, hp, hc, hpa, plok, hta, fok, q⟩ := h
    have hr1 : Room 1 _ := hr.mono (by decide)
    have hr2 : Room 2 _ := hr
    refine ⟨_, (C8.pss_cut (ps_par (i := 3) (j := 4) (by rfl) scWr.nd rfl rfl (by decide) rfl rfl (pa_cons (pe_fn GLL hr1 rfl (pa_cons (pv 1) (pa_cons (pv 2) pa_nil))) (pa_cons (pe_fn GLL hr1 rfl (pa_cons (pv 1) (pa_cons (pe_lst pa_nil) pa_nil))) pa_nil)) (by rfl))
  (pss_lstT (i := 5) scWr.nd rfl (.inl rfl) (pa_cons (pe_op op_add_str pe_str (pv 3)) (pa_cons (pe_op op_add_str (pv 3) pe_str) (pa_cons (pe_op op_add_str (pv 3) pe_str) (pa_cons (pe_op op_add_str (pv 3) pe_str) (pa_cons (pv 4) (pa_cons (pe_op op_add_str (pe_slice sl_str (pv 4) po_none (po_some (pe_un un_neg pe_int))) (pe_ix ix_tup (pv 2) pe_int (fun _ _ => rfl))) (pa_cons (pe_slice sl_str (pv 3) (po_some pe_int) po_none) (pa_cons (pe_op op_add_str pe_str (pe_slice sl_str (pv 3) (po_some pe_int) po_none)) pa_nil))))))))
  (psst_cut (PST.of (ps_set (i := 5) scWr.nd rfl (.inl rfl) (pe_op op_cat (pv 5) (pe_lst (pa_cons (pe_op op_add_str (pe_op op_add_str (pe_slice sl_str (pv 3) po_none (po_some pe_int)) pe_str) (pe_slice sl_str (pv 3) (po_some pe_int) po_none)) (pa_cons (pe_op op_add_str (pe_op op_add_str (pe_op op_add_str (pe_op op_add_str (pe_slice sl_str (pv 3) po_none (po_some pe_int)) pe_str) (pe_slice sl_str (pv 3) (po_some pe_int) (po_some pe_int))) pe_str) (pe_slice sl_str (pv 3) (po_some pe_int) po_none)) (pa_cons (pe_op op_add_str (pe_op op_add_str (pe_slice sl_str (pv 3) po_none (po_some pe_int)) pe_str) (pe_slice sl_str (pv 3) (po_some pe_int) po_none)) pa_nil)))))))
  (psst_cut (PST.of (ps_set (i := 5) scWr.nd rfl (.inl rfl) (pe_op op_cat (pv 5) (pe_lst (pa_cons (pe_op op_add_str (pe_op op_add_str (pe_op op_add_str (pv 4) (pe_ix ix_tup (pv 2) pe_int (fun _ _ => rfl))) pe_str) (pe_ix ix_tup (pv 2) pe_int (fun _ _ => rfl))) (pa_cons (pe_op op_add_str (pv 4) pe_str) (pa_cons (pe_op op_add_str (pv 4) pe_str) (pa_cons (pe_op op_add_str (pv 4) pe_str) (pa_cons (pe_op op_add_str (pv 4) pe_str) pa_nil)))))))))
  (psst_cut (pst_set (i := 5) scWr.nd rfl (.inl rfl) (CwR.pet_op op_cat (CwR.PET.of (pv 5)) (pet_lst (pat_cons (CwR.pet_replC (pv 3)) (pat_cons (CwR.PET.of (pe_op op_add_str (pe_op op_add_str (pe_slice sl_str (pv 3) po_none (po_some pe_int)) pe_str) (pe_slice sl_str (pv 3) (po_some pe_int) po_none))) (pat_cons (CwR.PET.of (pe_op op_add_str (pv 3) pe_str)) (pat_cons (CwR.PET.of (pe_op op_add_str (pe_op op_add_str (pe_slice sl_str (pv 3) po_none (po_some pe_int)) pe_str) (pe_slice sl_str (pv 3) (po_some pe_int) po_none))) pat_nil)))))))
  (PSsT.of (pss_one (ps_ret (pe_fn GO hr2 rfl (pa_cons (pv 0) (pa_cons (pv 5) pa_nil))))))))))), ?_⟩
    have bL : (S (lineL pl (f :: fs))).length ≤ 100 := by
      rw [S_len]
      unfold lineL
      rw [List.length_append, head_len plok]
      have := ft_len fok
      omega
    have bF : (S (headL pl)).length ≤ 100 := by rw [S_len, head_len plok]; decide
    have ff : f ∈ fatesS := ft_mem fok f List.mem_cons_self
    have bf : f.length ≤ 100 := by
      have : ∀ f ∈ fatesS, f.length ≤ 100 := by decide +kernel
      exact this f ff
    have big : ∀ n, n ≤ 2000 → n ≤ sizeLine := fun n h => Nat.le_trans h (by decide)
    have cl : ∀ lo hi, (cutS (S (lineL pl (f :: fs))) lo hi).length ≤ 100 := fun lo hi => Nat.le_trans (cutS_length _ _ _) bL
    have cF : ∀ lo hi, (cutS (S (headL pl)) lo hi).length ≤ 100 := fun lo hi => Nat.le_trans (cutS_length _ _ _) bF
    have k1 : (" " : Str).length ≤ 20 := by decide +kernel
    have k2 : ("," : Str).length ≤ 20 := by decide +kernel
    have k3 : (", " : Str).length ≤ 20 := by decide +kernel
    have k4 : ("lefts" : Str).length ≤ 20 := by decide +kernel
    have k5 : ("3 " : Str).length ≤ 20 := by decide +kernel
    have k6 : ("0" : Str).length ≤ 20 := by decide +kernel
    have k7 : ("names   " : Str).length ≤ 20 := by decide +kernel
    have k8 : ("Rows" : Str).length ≤ 20 := by decide +kernel
    have k9 : ("more, same" : Str).length ≤ 20 := by decide +kernel
    have k10 : ("same,more" : Str).length ≤ 20 := by decide +kernel
    have k11 : ("same more" : Str).length ≤ 20 := by decide +kernel
    have k12 : ("Same" : Str).length ≤ 20 := by decide +kernel
    have k13 : ("a b          " : Str).length ≤ 20 := by decide +kernel
    have k14 : ("\n" : Str).length ≤ 20 := by decide +kernel
    have k15 : ("00" : Str).length ≤ 20 := by decide +kernel
    have lL := big _ (Nat.le_trans bL (by decide))
    have lF := big _ (Nat.le_trans bF (by decide))
    have hap : pa ≠ p := fun z => by obtain ⟨_, _, _, e, _⟩ := id hp; rw [z, e] at hpa; cases hpa
    have htp : ta ≠ p := fun z => by obtain ⟨_, _, _, e, _⟩ := id hp; rw [z, e] at hta; cases hta
    -- the lines
    refine ⟨fun σ H' => σ = [some (.ref p), some (.ref pa), some (.ref ta), some (.str (S (lineL pl (f :: fs)))), some (.str (S (headL pl))), none] ∧ Same H H', ?_, ?_⟩
    · refine ⟨_, rfl, _, rfl, pa, ta, pl, f :: fs, rfl, SqT.of hpa, plok, .inl (SqT.of hta), .inl fok, fun H1 s1 => ⟨_, rfl, Nat.zero_le _, fun e he => ?_⟩⟩
      have s2 := Same.new (o := .lst []) s1 he
      refine ⟨pa, e, pl, [], rfl, SqT.of (s2 _ _ hpa), plok, .inr (SqL.of upd_same), .inr rfl, fun H2 s3 => ⟨_, _, rfl, ?_, s2.trans s3⟩⟩
      have : lineL pl [] = headL pl := by unfold lineL; rw [join_nil, List.append_nil]
      rw [this]
      rfl
    rintro σ H1 ⟨rfl, s1⟩
    have hta1 := s1 _ _ hta
    -- the first nine
    refine ⟨fun σ H' => ∃ o, σ = [some (.ref p), some (.ref pa), some (.ref ta), some (.str (S (lineL pl (f :: fs)))), some (.str (S (headL pl))), some (.ref o)] ∧ Same H H' ∧ H o = none ∧ H' o = some (.lst (strsV (odd1 pl (f :: fs) f.cps.toList))), ?_, ?_⟩
    · refine ⟨_, rfl, _, _, rfl, rfl, big _ (by omega), _, rfl, _, _, rfl, rfl, big _ (by omega), _, rfl, _, _, rfl, rfl, big _ (by omega), _, rfl, _, _, rfl, rfl, big _ (by omega), _, rfl, ?_⟩
      refine ⟨_, rfl, 1, rfl, _, rfl, _, rfl, lF, _, rfl, ta, _, 0, V.str f, rfl, rfl, SqT.of hta1, atI_nat (j := 0) rfl, _, f, rfl, rfl, big _ (by have := cF none (some (-1)); omega), ?_⟩
      refine ⟨_, rfl, _, rfl, _, rfl, lL, ?_⟩
      refine ⟨_, rfl, _, rfl, _, rfl, lL, _, _, rfl, rfl, big _ (by have := cl (some 5) none; omega), by show 9 ≤ sizeLine; decide, fun o ho => ⟨o, rfl, Same.new s1 ho, s1.free ho, ?_⟩⟩
      rw [upd_same]
      unfold strsV odd1
      simp only [List.map_cons, List.map_nil, ← S_app, S_of, litN, lit0, lit1, lit2, lit3, lit4, lit5, lit6, lit7, lit8, lit9, lit10, lit11, lit12, lit13, lit14, cut_last, cu1, cu5, cu10, cu18, cu22, cu31, ct8, ct18, cm9]
    rintro σ H2 ⟨o, rfl, s2, no, h2⟩
    -- three more
    refine ⟨fun σ H' => ∃ o, σ = [some (.ref p), some (.ref pa), some (.ref ta), some (.str (S (lineL pl (f :: fs)))), some (.str (S (headL pl))), some (.ref o)] ∧ Same H H' ∧ H o = none ∧ H' o = some (.lst (strsV (odd1 pl (f :: fs) f.cps.toList ++ odd2 pl (f :: fs)))), ?_, ?_⟩
    · refine ⟨_, rfl, ?_⟩
      refine ⟨_, rfl, _, rfl, _, rfl, lL, _, _, rfl, rfl, big _ (by have := cl none (some 8); omega), _, rfl, _, rfl, _, rfl, lL, _, _, rfl, rfl, big _ (by rw [la]; have := cl none (some 8); have := cl (some 10) none; omega), ?_⟩
      refine ⟨_, rfl, _, rfl, _, rfl, lL, _, _, rfl, rfl, big _ (by have := cl none (some 8); omega), _, rfl, _, rfl, _, rfl, _, rfl, lL, _, _, rfl, rfl, big _ (by rw [la]; have := cl none (some 8); have := cl (some 9) (some 10); omega), _, _, rfl, rfl, big _ (by rw [la, la]; have := cl none (some 8); have := cl (some 9) (some 10); omega), _, rfl, _, rfl, _, rfl, lL, _, _, rfl, rfl, big _ (by rw [la, la, la]; have := cl none (some 8); have := cl (some 9) (some 10); have := cl (some 18) none; omega), ?_⟩
      refine ⟨_, rfl, _, rfl, _, rfl, lL, _, _, rfl, rfl, big _ (by have := cl none (some 18); omega), _, rfl, _, rfl, _, rfl, lL, _, _, rfl, rfl, big _ (by rw [la]; have := cl none (some 18); have := cl (some 22) none; omega), by show 3 ≤ sizeLine; decide, fun b hb => ?_⟩
      have s3 := Same.new (o := .lst (strsV (odd2 pl (f :: fs)))) s2 hb
      have eb : ∀ {x : HO}, x = .lst (strsV (odd2 pl (f :: fs))) → upd H2 b x = upd H2 b (.lst (strsV (odd2 pl (f :: fs)))) := fun e => by rw [e]
      rw [eb (by
        refine congrArg HO.lst ?_
        unfold strsV odd2
        simp only [List.map_cons, List.map_nil, ← S_app, S_of, litN, lit0, lit1, lit2, lit3, lit4, lit5, lit6, lit7, lit8, lit9, lit10, lit11, lit12, lit13, lit14, cut_last, cu1, cu5, cu10, cu18, cu22, cu31, ct8, ct18, cm9])] 
      refine ⟨o, b, _, _, rfl, rfl, (Same.new (Same.refl _) hb) _ _ h2, upd_same, by show 9 + 3 ≤ sizeLine; decide, fun o' ho' => ⟨o', rfl, Same.new s3 ho', s3.free ho', ?_⟩⟩
      rw [upd_same]
      unfold strsV
      rw [List.map_append]
    rintro σ H3 ⟨o2, rfl, s3, no2, h3⟩
    have hta3 := s3 _ _ hta
    -- five more
    refine ⟨fun σ H' => ∃ o, σ = [some (.ref p), some (.ref pa), some (.ref ta), some (.str (S (lineL pl (f :: fs)))), some (.str (S (headL pl))), some (.ref o)] ∧ Same H H' ∧ H o = none ∧ H' o = some (.lst (strsV ((odd1 pl (f :: fs) f.cps.toList ++ odd2 pl (f :: fs)) ++ odd3 pl f.cps.toList))), ?_, ?_⟩
    · refine ⟨_, rfl, ?_⟩
      refine ⟨_, rfl, _, rfl, ta, _, 0, V.str f, rfl, rfl, SqT.of hta3, atI_nat (j := 0) rfl, _, f, rfl, rfl, big _ (by omega), _, _, rfl, rfl, big _ (by rw [la]; omega), _, rfl, ta, _, 0, V.str f, rfl, rfl, SqT.of hta3, atI_nat (j := 0) rfl, _, f, rfl, rfl, big _ (by rw [la, la]; omega), ?_⟩
      refine ⟨_, rfl, _, _, rfl, rfl, big _ (by omega), _, rfl, _, _, rfl, rfl, big _ (by omega), _, rfl, _, _, rfl, rfl, big _ (by omega), _, rfl, _, _, rfl, rfl, big _ (by omega), by show 5 ≤ sizeLine; decide, fun b hb => ?_⟩
      have s4 := Same.new (o := .lst (strsV (odd3 pl f.cps.toList))) s3 hb
      have eb : ∀ {x : HO}, x = .lst (strsV (odd3 pl f.cps.toList)) → upd H3 b x = upd H3 b (.lst (strsV (odd3 pl f.cps.toList))) := fun e => by rw [e]
      rw [eb (by
        refine congrArg HO.lst ?_
        unfold strsV odd3
        simp only [List.map_cons, List.map_nil, ← S_app, S_of, litN, lit0, lit1, lit2, lit3, lit4, lit5, lit6, lit7, lit8, lit9, lit10, lit11, lit12, lit13, lit14, cut_last, cu1, cu5, cu10, cu18, cu22, cu31, ct8, ct18, cm9])]
      refine ⟨o2, b, _, _, rfl, rfl, (Same.new (Same.refl _) hb) _ _ h3, upd_same, by show 12 + 5 ≤ sizeLine; decide, fun o' ho' => ⟨o', rfl, Same.new s4 ho', s4.free ho', ?_⟩⟩
      rw [upd_same]
      unfold strsV
      rw [List.map_append (l₂ := odd3 pl f.cps.toList)]
    rintro σ H4 ⟨o3, rfl, s4, no3, h4⟩
    -- the last four
    refine ⟨fun σ H' => ∃ o, σ = [some (.ref p), some (.ref pa), some (.ref ta), some (.str (S (lineL pl (f :: fs)))), some (.str (S (headL pl))), some (.ref o)] ∧ Same H H' ∧ H o = none ∧ H' o = some (.lst (strsV (oddL pl (f :: fs) f.cps.toList))), ?_, ?_⟩
    · refine ⟨_, rfl, ?_⟩
      refine ⟨_, rfl, _, rfl, by have : ("" : Str).length = 0 := rfl; rw [this]; omega, ?_⟩
      rw [strike_S]
      refine ⟨_, rfl, _, rfl, _, rfl, lL, _, _, rfl, rfl, big _ (by have := cl none (some 18); omega), _, rfl, _, rfl, _, rfl, lL, _, _, rfl, rfl, big _ (by rw [la]; have := cl none (some 18); have := cl (some 31) none; omega), ?_⟩
      refine ⟨_, rfl, _, _, rfl, rfl, big _ (by omega), ?_⟩
      refine ⟨_, rfl, _, rfl, _, rfl, lL, _, _, rfl, rfl, big _ (by have := cl none (some 8); omega), _, rfl, _, rfl, _, rfl, lL, _, _, rfl, rfl, big _ (by rw [la]; have := cl none (some 8); have := cl (some 10) none; omega), by show 4 ≤ sizeLine; decide, fun b hb => ?_⟩
      have s5 := Same.new (o := .lst (strsV (odd4 pl (f :: fs)))) s4 hb
      have eb : ∀ {x : HO}, x = .lst (strsV (odd4 pl (f :: fs))) → upd H4 b x = upd H4 b (.lst (strsV (odd4 pl (f :: fs)))) := fun e => by rw [e]
      rw [eb (by
        refine congrArg HO.lst ?_
        unfold strsV odd4
        simp only [List.map_cons, List.map_nil, ← S_app, S_of, litN, lit0, lit1, lit2, lit3, lit4, lit5, lit6, lit7, lit8, lit9, lit10, lit11, lit12, lit13, lit14, cut_last, cu1, cu5, cu10, cu18, cu22, cu31, ct8, ct18, cm9])]
      refine ⟨o3, b, _, _, rfl, rfl, (Same.new (Same.refl _) hb) _ _ h4, upd_same, by show 17 + 4 ≤ sizeLine; decide, fun o' ho' => ⟨o', rfl, Same.new s5 ho', s5.free ho', ?_⟩⟩
      rw [upd_same]
      unfold strsV oddL
      rw [List.map_append (l₂ := odd4 pl (f :: fs))]
    rintro σ H5 ⟨o4, rfl, s5, no4, h5⟩
    refine ⟨_, rfl, _, rfl, p, c, o4, _, rfl, hp.same s5, by omega, h5, pool_ne hp no4, (fun z => nomatch z), by show 21 ≤ 1000; decide, fun v H6 hv k6 p6 => ?_⟩
    obtain ⟨z, hz, rfl⟩ := List.mem_map.mp hv
    exact q z H6 hz ((Same.keep s5).trans k6) p6
end
end K5

/-! pages of fates: a page refused; what the law says of lines -/
namespace K5
open PySem L2
open K5S (S S_cps S_len S_inj S_app S_of lt Wd)
abbrev sRf : Stmt := top 32
def spRf : Sp := fun vs H Q _ => ∃ (l : Addr) (zs : List (List Nat)), vs = [.ref l] ∧ H l = some (.lst (lnsV zs)) ∧ SmallL zs ∧
  ((∀ c ∈ zs, readOk c = true) → (zs.map keyC).Nodup → ∀ H', Same H H' → Q .non H') ∧
  (∀ i c, zs[i]? = some c → (∀ c' ∈ zs.take i, readOk c' = true) → ((zs.take i).map keyC).Nodup → (readOk c = false ∨ keyC c ∈ (zs.take i).map keyC) → ∀ H', Same H H' → Q (.int i) H')
section
variable {P : Program} {w : World} {K : PySem.W.Frag} {mg : Str → Option Value} {base : Heap}
theorem scRf : FnScope ["_law_lines", "e"] ["_law_lines"] (defScope sRf) := ⟨rfl, rfl, rfl, by decide +kernel, rfl, by decide +kernel, by decide +kernel⟩
theorem ok_rf {f fT C fI : Addr} {fd fdT : FuncData} (F : Fun K "_law_refused" "_law_refused" sRf f fd) (TE : K15E.ErrTxt P K mg C fI) (XF : XfC K C)
    (kT : PySem.W.keepIn K (.ref fT) = true) (GT : FnOk P w K mg base (L2.CX P w) 4 fT fdT ["lines"] (spRP K C)) (bT : Binds K fdT ["lines"] []) (mT : mg "read_page" = some (.ref fT)) :
    FnOk P w K mg base CX0 5 f fd ["_law_lines"] spRf := by
  refine F.ok scRf (fun vs H Q E h => ?_) (fun cdv A outer s H vs Q E hr h => ?_)
  · obtain ⟨l, zs, rfl, _⟩ := h
    rfl
  · obtain ⟨l, zs, rfl, hl, sm, q, e⟩ := h
    refine ⟨_, C8.pss_cut (ps_try_as (i := 1) rfl rfl scRf.nd rfl rfl ⟨rfl, by decide, .inl TE.gC⟩ takes0
      (fun W pn xe tk _ => pss_one (ps_expr (pe_callS GT hr rfl mT kT bT (fun σ => passAt tk σ) (pa_cons (pv 0) pa_nil))))
      (fun a oe cls d pn hz hf => pss_one (ps_ret (pe_xf XF TE.noN hz hf (pv 1))))) (pss_one (ps_ret pe_non)), ?_⟩
    refine ⟨fun σ H' => Same H H' ∧ (∀ c ∈ zs, readOk c = true) ∧ (zs.map keyC).Nodup, ?_, fun σ H' h => q h.2.1 h.2.2 H' h.1⟩
    refine ⟨_, rfl, l, zs, rfl, hl, sm, fun a b d kvs H' _ s1 _ _ => ⟨s1, a, b⟩, fun i c h1 h2 h3 h4 d H' hd s1 hx => ?_⟩
    exact ⟨true, TE.te, fun _ a ha => ⟨_, rfl, rfl, rfl, d, _, _, rfl, hx, rfl, e i c h1 h2 h3 h4 H' s1⟩, fun q => nomatch q⟩
end
/-! lines -/
theorem line_ascii {p : Pl} (ok : PlOk p) : (∀ x ∈ headL p, x < 128) := by
  have h1 : ∀ k, k < 4 → ∀ x ∈ pad 8 (kcd k), x < 128 := by decide
  have h2 : ∀ k, k < 9 → ∀ x ∈ pad 8 (rcd k), x < 128 := by decide
  intro x hx
  unfold headL at hx
  rcases List.mem_append.mp hx with h | h
  · exact h1 _ ok.k x h
  rcases List.mem_append.mp h with h | h
  · have hl := ok.l
    unfold pl at h
    simp only [List.mem_cons, List.not_mem_nil, or_false] at h
    omega
  rcases List.mem_append.mp h with h | h
  · exact h2 _ ok.r x h
  · unfold pn pad at h
    rcases List.mem_append.mp h with h | h
    · rcases ok.n with e | e
      · rw [e] at h; cases h
      · have := List.all_eq_true.mp e.1 x h
        unfold lt at this
        rw [Bool.and_eq_true] at this
        have := of_decide_eq_true this.2
        omega
    · rw [List.mem_replicate] at h
      omega
theorem tail_ascii {fs : List Str} (ok : FtOk fs) : ∀ x ∈ tailF fs, x < 128 := by
  have h := all_ft (p := fun fs => (tailF fs).all fun x => decide (x < 128)) (by decide +kernel) ok
  intro x hx
  exact of_decide_eq_true (List.all_eq_true.mp h x hx)
theorem fate_ascii : ∀ f ∈ fatesS, (∀ x ∈ f.cps.toList, x < 128) ∧ f.cps.toList.length ≤ 10 := by decide +kernel
theorem row_ascii {p : Pl} {fs : List Str} (ok : PlOk p) (fo : FtOk fs) : (∀ x ∈ lineL p fs, x < 128) ∧ (lineL p fs).length ≤ 100 := by
  constructor
  · intro x hx
    unfold lineL at hx
    rcases List.mem_append.mp hx with h | h
    · exact line_ascii ok x h
    · exact tail_ascii fo x h
  · unfold lineL
    rw [List.length_append, head_len ok]
    have := ft_len fo
    omega
def SmA (z : List Nat) : Prop := (∀ x ∈ z, x < 128) ∧ z.length ≤ 1000
theorem SmA.app {a b : List Nat} (ha : (∀ x ∈ a, x < 128) ∧ a.length ≤ 600) (hb : (∀ x ∈ b, x < 128) ∧ b.length ≤ 400) : SmA (a ++ b) := by
  refine ⟨fun x hx => ?_, by rw [List.length_append]; have := ha.2; have := hb.2; omega⟩
  rcases List.mem_append.mp hx with h | h
  · exact ha.1 x h
  · exact hb.1 x h
/-- made of small parts -/
inductive Pt : List Nat → Nat → Prop
  | base {z : List Nat} {n : Nat} : (∀ x ∈ z, x < 128) → z.length ≤ n → Pt z n
  | take {z : List Nat} {n k : Nat} : Pt z n → Pt (z.take k) n
  | drop {z : List Nat} {n k : Nat} : Pt z n → Pt (z.drop k) n
  | filt {z : List Nat} {n : Nat} {p : Nat → Bool} : Pt z n → Pt (z.filter p) n
  | app {a b : List Nat} {n m : Nat} : Pt a n → Pt b m → Pt (a ++ b) (n + m)
theorem Pt.ok {z : List Nat} {n : Nat} (h : Pt z n) : (∀ x ∈ z, x < 128) ∧ z.length ≤ n := by
  induction h with
  | base a b => exact ⟨a, b⟩
  | take _ ih => exact ⟨fun x hx => ih.1 x (List.mem_of_mem_take hx), Nat.le_trans (List.length_take_le' _ _) ih.2⟩
  | drop _ ih => exact ⟨fun x hx => ih.1 x (List.mem_of_mem_drop hx), by rw [List.length_drop]; have := ih.2; omega⟩
  | filt _ ih => exact ⟨fun x hx => ih.1 x (List.mem_filter.mp hx).1, Nat.le_trans (List.length_filter_le _ _) ih.2⟩
  | app _ _ i1 i2 =>
    refine ⟨fun x hx => ?_, by rw [List.length_append]; have := i1.2; have := i2.2; omega⟩
    rcases List.mem_append.mp hx with h | h
    · exact i1.1 x h
    · exact i2.1 x h
theorem Pt.lit {z : List Nat} (h : (z.all fun x => decide (x < 128)) = true) (l : z.length ≤ 20) : Pt z 20 := .base (fun x hx => of_decide_eq_true (List.all_eq_true.mp h x hx)) l
theorem odd_small {p : Pl} {fs : List Str} {f : Str} (ok : PlOk p) (fo : FtOk fs) (hf : f ∈ fatesS) : ∀ z ∈ oddL p fs f.cps.toList, (∀ x ∈ z, x < 128) ∧ z.length ≤ 1000 := by
  have L : Pt (lineL p fs) 100 := .base (row_ascii ok fo).1 (row_ascii ok fo).2
  have F : Pt (headL p) 100 := .base (line_ascii ok) (by rw [head_len ok]; decide)
  have f1 : Pt f.cps.toList 20 := .base (fate_ascii f hf).1 (Nat.le_trans (fate_ascii f hf).2 (by decide))
  have c : ∀ {z : List Nat}, (z.all fun x => decide (x < 128)) = true → z.length ≤ 20 → Pt z 20 := fun a b => Pt.lit a b
  have fin : ∀ {z : List Nat} {n : Nat}, Pt z n → n ≤ 1000 → (∀ x ∈ z, x < 128) ∧ z.length ≤ 1000 := fun h l => ⟨h.ok.1, Nat.le_trans h.ok.2 l⟩
  intro z hz
  simp only [oddL, odd1, odd2, odd3, odd4, List.mem_append, List.mem_cons, List.not_mem_nil, or_false] at hz
  rcases hz with ((((h | h | h | h | h | h | h | h | h) | (h | h | h)) | (h | h | h | h | h)) | (h | h | h | h))
  · rw [h]; exact fin (c rfl (by decide)) (by decide)
  · rw [h]; exact fin ((c rfl (by decide)).app L) (by decide)
  · rw [h]; exact fin (L.app (c rfl (by decide))) (by decide)
  · rw [h]; exact fin (L.app (c rfl (by decide))) (by decide)
  · rw [h]; exact fin (L.app (c rfl (by decide))) (by decide)
  · rw [h]; exact fin F (by decide)
  · rw [h]; exact fin (F.take.app f1) (by decide)
  · rw [h]; exact fin L.drop (by decide)
  · rw [h]; exact fin ((c rfl (by decide)).app L.drop) (by decide)
  · rw [h]; exact fin ((L.take.app (c rfl (by decide))).app L.drop) (by decide)
  · rw [h]; exact fin ((((L.take.app (c rfl (by decide))).app L.drop.take).app (c rfl (by decide))).app L.drop) (by decide)
  · rw [h]; exact fin ((L.take.app (c rfl (by decide))).app L.drop) (by decide)
  · rw [h]; exact fin (((F.app f1).app (c rfl (by decide))).app f1) (by decide)
  · rw [h]; exact fin (F.app (c rfl (by decide))) (by decide)
  · rw [h]; exact fin (F.app (c rfl (by decide))) (by decide)
  · rw [h]; exact fin (F.app (c rfl (by decide))) (by decide)
  · rw [h]; exact fin (F.app (c rfl (by decide))) (by decide)
  · rw [h]; exact fin L.filt (by decide)
  · rw [h]; exact fin ((L.take.app (c rfl (by decide))).app L.drop) (by decide)
  · rw [h]; exact fin (L.app (c rfl (by decide))) (by decide)
  · rw [h]; exact fin ((L.take.app (c rfl (by decide))).app L.drop) (by decide)
theorem keyC_line {p : Pl} {fs : List Str} (ok : PlOk p) : keyC (lineL p fs) = keyP p := by
  have P := parts_of ok (tailF fs)
  unfold keyC keyP lnum
  show [Sum.inr (S (kf (headL p ++ tailF fs))), Sum.inl (((lf (headL p ++ tailF fs)).headD 48 : Int) - 48), Sum.inr (S (rf (headL p ++ tailF fs))), Sum.inr (S (nf (headL p ++ tailF fs)))] = _
  rw [P.k, P.l, P.r, P.n]
  have : ((([48 + p.2.1] : List Nat).headD 48 : Nat) : Int) - 48 = (p.2.1 : Int) := by
    show ((48 + p.2.1 : Nat) : Int) - 48 = _
    omega
  rw [this]
end K5

/-! the law of pages: what stands -/
namespace K5
open PySem L2
open K5S (S S_cps S_len S_inj S_app S_of lt Wd)
theorem tup_keep {p : Addr} {c : Nat} {H H' : Hp} (hp : Pool H p c) (k : Keep p H H') : ∀ b xs, H b = some (.tup xs) → H' b = some (.tup xs) := fun b xs e => k b _ (fun z => by
  obtain ⟨_, _, _, q, _⟩ := id hp
  rw [z, q] at e
  cases e) e
theorem upd_old {d : Addr} {kvs : List (List Key × V)} {o o' : HO} {H : Hp} {b : Addr} (hd : H d = some (.dT kvs)) (e : H b = some o') (n : ∀ k, o' ≠ .dT k) : (upd H d o) b = some o' := by
  rw [upd_ne (fun z => by rw [z, hd] at e; exact n kvs (Option.some.inj e).symm)]
  exact e
theorem paired_perm {α β : Type} {F : α → β → Prop} {zs us : List α} (p : zs.Perm us) : ∀ {rows : List β}, Paired F us rows → ∃ rows', rows'.Perm rows ∧ Paired F zs rows' := by
  induction p with
  | nil => intro rows h; cases h; exact ⟨[], List.Perm.refl _, .nil⟩
  | cons x _ ih =>
    intro rows h
    cases h with
    | cons a b =>
      obtain ⟨r, p1, p2⟩ := ih b
      exact ⟨_ :: r, List.Perm.cons _ p1, .cons a p2⟩
  | swap x y l =>
    intro rows h
    cases h with
    | cons a b =>
      cases b with
      | cons c d => exact ⟨_ :: _ :: _, List.Perm.swap _ _ _, .cons c (.cons a d)⟩
  | trans _ _ i1 i2 =>
    intro rows h
    obtain ⟨r, p1, p2⟩ := i2 h
    obtain ⟨r', q1, q2⟩ := i1 p2
    exact ⟨r', q1.trans p1, q2⟩
theorem RowsOk.perm {rows m : List Row} (ok : RowsOk rows) (pm : m.Perm rows) : RowsOk m :=
  ⟨fun r hr => ok.p r (pm.mem_iff.mp hr), fun r hr => ok.f r (pm.mem_iff.mp hr), (pm.map (·.1)).nodup_iff.mpr ok.d, by rw [pm.length_eq]; exact ok.n⟩
theorem small_rows {rows : List Row} (ok : RowsOk rows) : SmallL (linesR rows) := by
  refine ⟨?_, ?_, ?_⟩
  · unfold linesR
    rw [List.length_map]
    exact Nat.le_trans ok.n (by decide)
  · intro c hc
    obtain ⟨r, hr, rfl⟩ := List.mem_map.mp hc
    exact Nat.le_trans (row_ascii (ok.p r hr) (ok.f r hr)).2 (by decide)
  · intro c hc
    obtain ⟨r, hr, rfl⟩ := List.mem_map.mp hc
    exact (row_ascii (ok.p r hr) (ok.f r hr)).1
theorem lines_ok {rows : List Row} (ok : RowsOk rows) : ∀ c ∈ linesR rows, readOk c = true := fun c hc => by
  obtain ⟨r, hr, rfl⟩ := List.mem_map.mp hc
  exact (line_ok (ok.p r hr) (ok.f r hr)).1
theorem lines_key {rows : List Row} (ok : RowsOk rows) : (linesR rows).map keyC = rows.map fun r => keyP r.1 := by
  unfold linesR
  rw [List.map_map]
  exact List.map_congr_left fun r hr => keyC_line (ok.p r hr)
theorem lines_wf {rows : List Row} (ok : RowsOk rows) : (linesR rows).map wf = rows.map (·.2) := by
  unfold linesR
  rw [List.map_map]
  exact List.map_congr_left fun r hr => (line_ok (ok.p r hr) (ok.f r hr)).2
theorem lines_nd {rows : List Row} (ok : RowsOk rows) : ((linesR rows).map keyC).Nodup := by rw [lines_key ok]; exact ok.keys
theorem nd_take {α : Type} {l : List α} {i : Nat} {a : α} (nd : l.Nodup) (h : l[i]? = some a) : a ∉ l.take i := fun z => by
  have e : l = l.take i ++ a :: l.drop (i + 1) := by
    have h1 := List.take_append_drop i l
    have h2 : l.drop i = a :: l.drop (i + 1) := by
      obtain ⟨hi, rfl⟩ := List.getElem?_eq_some_iff.mp h
      exact List.drop_eq_getElem_cons hi
    rw [← h2, h1]
  rw [e, List.nodup_append] at nd
  exact nd.2.2 a z a List.mem_cons_self rfl
theorem no_bad {zs : List (List Nat)} (ok : ∀ c ∈ zs, readOk c = true) (nd : (zs.map keyC).Nodup) {i : Nat} {c : List Nat} (h : zs[i]? = some c) (b : readOk c = false ∨ keyC c ∈ (zs.take i).map keyC) : False := by
  rcases b with b | b
  · rw [ok c (List.mem_of_getElem? h)] at b
    cases b
  · have h1 : (zs.map keyC)[i]? = some (keyC c) := by rw [List.getElem?_map, h]; rfl
    rw [List.map_take] at b
    exact nd_take nd h1 b
/-! data -/
def rowD (r : Row) : PyData := .tuple [.tuple [.str (S (kcd r.1.1)), .int r.1.2.1, .str (S (rcd r.1.2.2.1)), .str (S r.1.2.2.2)], .tuple (r.2.map PyData.str)]
theorem place_dp {K : PySem.W.Frag} {H : Hp} {a : Addr} {p : Pl} (h : H a = some (.tup (placeV p))) : Dp K H (.ref a) (.tuple [.str (S (kcd p.1)), .int p.2.1, .str (S (rcd p.2.2.1)), .str (S p.2.2.2)]) :=
  .tup (SqT.of h) (.cons (.str _) (.cons (.int _) (.cons (.str _) (.cons (.str _) .nil))))
theorem row_dp {K : PySem.W.Frag} {H : Hp} {t pa ta : Addr} {r : Row} (h : H t = some (.tup [.ref pa, .ref ta])) (h1 : H pa = some (.tup (placeV r.1))) (h2 : H ta = some (.tup (r.2.map V.str))) : Dp K H (.ref t) (rowD r) :=
  .tup (SqT.of h) (.cons (place_dp h1) (.cons (.tup (SqT.of h2) (dpall_strs _)) .nil))
theorem rws_dp {K : PySem.W.Frag} {H : Hp} : ∀ {us : List V} {rows : List Row}, RwsV H us rows → DpAll K H us (rows.map rowD)
  | _, _, .nil => .nil
  | _, _, .cons a b => by
    obtain ⟨t, pa, ta, rfl, h1, h2, h3⟩ := a
    exact .cons (row_dp h1 h2 h3) (rws_dp b)
theorem items_dp {K : PySem.W.Frag} {H H' : Hp} (s : Same H H') : ∀ {rows : List Row} {kvs : List (List Key × V)} {ps : List (Addr × V)} {ts : List Addr}, kvs.map (·.1) = (rows.map fun r => keyP r.1) → Paired (fun (p : List Key × V) (f : List Str) => TV H p.2 f) kvs (rows.map (·.2)) → KAt H kvs ps →
    Paired (fun (t : Addr) (q : Addr × V) => H' t = some (.tup [.ref q.1, q.2])) ts ps → DpAll K H' (ts.map V.ref) (rows.map rowD)
  | [], [], _, _, _, _, .nil, .nil => .nil
  | [], _ :: _, _, _, e, _, _, _ => nomatch e
  | _ :: _, [], _, _, e, _, _, _ => nomatch e
  | r :: rows, kv :: kvs, _, _, e, .cons a1 a2, .cons b1 b2, .cons c1 c2 => by
    obtain ⟨e1, e2⟩ := List.cons.inj e
    obtain ⟨ta, h1, h2⟩ := a1
    obtain ⟨k1, k2⟩ := b1
    refine .cons ?_ (items_dp s e2 a2 b2 c2)
    rw [k2, h1] at c1
    refine row_dp c1 (s _ _ ?_) (s _ _ h2)
    rw [k1]
    show some (HO.tup (kv.1.map kV)) = _
    rw [show kv.1 = keyP r.1 from e1, keyP_V]
theorem kcd_ok : ∀ k, PyData.strOk (S (kcd k)) = true := fun k => by
  by_cases h : k < 4
  · have : ∀ k, k < 4 → PyData.strOk (S (kcd k)) = true := by decide +kernel
    exact this k h
  · have : kcd k = [] := by
      unfold kcd
      rw [List.getD_eq_getElem?_getD, List.getElem?_eq_none (by show 4 ≤ k; omega)]
      rfl
    rw [this]; decide +kernel
theorem rcd_ok : ∀ k, PyData.strOk (S (rcd k)) = true := fun k => by
  by_cases h : k < 9
  · have : ∀ k, k < 9 → PyData.strOk (S (rcd k)) = true := by decide +kernel
    exact this k h
  · have : rcd k = [] := by
      unfold rcd
      rw [List.getD_eq_getElem?_getD, List.getElem?_eq_none (by show 9 ≤ k; omega)]
      rfl
    rw [this]; decide +kernel
theorem rows_shaped : ∀ {rows : List Row}, (∀ r ∈ rows, PlOk r.1) → (∀ r ∈ rows, FtOk r.2) → SeqAt.shaped (.list (rows.map rowD)) = true := by
  intro rows hp hf
  have h1 : PyData.canLayAll0 (rows.map rowD) = true ∧ PyData.depthAll (rows.map rowD) ≤ 6 := by
    induction rows with
    | nil => exact ⟨rfl, by simp [PyData.depthAll]⟩
    | cons r rows ih =>
      obtain ⟨i1, i2⟩ := ih (fun q hq => hp q (List.mem_cons_of_mem _ hq)) (fun q hq => hf q (List.mem_cons_of_mem _ hq))
      have ok := hp r List.mem_cons_self
      have t := (strs_shaped (ft_mem (hf r List.mem_cons_self))).2
      have t1 := SeqAt.canLay_of_shaped t
      have dd : (rowD r).depth ≤ 5 := by
        have := depth_strs r.2
        simp only [rowD, PyData.depth, PyData.depthAll]
        omega
      have cc : (rowD r).canLay0 = true := by
        simp only [rowD, PyData.canLay0, PyData.canLayAll0] at t1 ⊢
        rw [kcd_ok, rcd_ok, ok.strok, t1]
        rfl
      constructor
      · rw [List.map_cons]
        simp only [PyData.canLayAll0]
        rw [i1, cc]
        rfl
      · rw [List.map_cons]
        simp only [PyData.depthAll]
        omega
  unfold SeqAt.shaped
  rw [Bool.and_eq_true]
  exact ⟨h1.1, decide_eq_true (by simp only [PyData.depth]; have := h1.2; omega)⟩
theorem lns_shaped {zs : List (List Nat)} (h : ∀ c ∈ zs, ∀ x ∈ c, x < 128) : SeqAt.shaped (.list (zs.map fun c => PyData.str (S c))) = true := by
  have h1 : PyData.canLayAll0 (zs.map fun c => PyData.str (S c)) = true ∧ PyData.depthAll (zs.map fun c => PyData.str (S c)) ≤ 3 := by
    induction zs with
    | nil => exact ⟨rfl, by simp [PyData.depthAll]⟩
    | cons c zs ih =>
      obtain ⟨i1, i2⟩ := ih fun q hq => h q (List.mem_cons_of_mem _ hq)
      constructor
      · rw [List.map_cons]
        simp only [PyData.canLayAll0, PyData.canLay0]
        rw [i1, ascii_ok (h c List.mem_cons_self)]
        rfl
      · rw [List.map_cons]
        simp only [PyData.depthAll, PyData.depth]
        omega
  unfold SeqAt.shaped
  rw [Bool.and_eq_true]
  exact ⟨h1.1, decide_eq_true (by simp only [PyData.depth]; have := h1.2; omega)⟩
theorem lns_dp {K : PySem.W.Frag} {H : Hp} : ∀ zs : List (List Nat), DpAll K H (lnsV zs) (zs.map fun c => PyData.str (S c))
  | [] => .nil
  | _ :: zs => .cons (.str _) (lns_dp zs)
/-- two tables with the same rows -/
theorem tab_in {H : Hp} {kvs kvs2 : List (List Key × V)} {r1 r2 : List Row} (t1 : TabV H kvs (r1.map fun r => keyP r.1) (r1.map (·.2))) (t2 : TabV H kvs2 (r2.map fun r => keyP r.1) (r2.map (·.2))) (ok : RowsOk r2) (pm : r1.Perm r2) :
    kvs.length = kvs2.length ∧ ∀ p ∈ kvs, ∃ q ∈ kvs2, q.1 = p.1 ∧ ∃ zs, TV H p.2 zs ∧ TV H q.2 zs ∧ SeqAt.shaped (.tuple (zs.map PyData.str)) = true := by
  have l1 : kvs.length = r1.length := by have := congrArg List.length t1.1; rwa [List.length_map, List.length_map] at this
  have l2 : kvs2.length = r2.length := by have := congrArg List.length t2.1; rwa [List.length_map, List.length_map] at this
  refine ⟨by rw [l1, l2, pm.length_eq], fun p hp => ?_⟩
  obtain ⟨i, hi⟩ := List.mem_iff_getElem?.mp hp
  obtain ⟨f, hf, tv⟩ := LiI.paired_get t1.2 hi
  rw [List.getElem?_map] at hf
  obtain ⟨r, hr, rfl⟩ := Option.map_eq_some_iff.mp hf
  have k1 : p.1 = keyP r.1 := by
    have a : (kvs.map (·.1))[i]? = some p.1 := by rw [List.getElem?_map, hi]; rfl
    rw [t1.1, List.getElem?_map, hr] at a
    exact (Option.some.inj a).symm
  have hr2 : r ∈ r2 := pm.mem_iff.mp (List.mem_of_getElem? hr)
  obtain ⟨j, hj⟩ := List.mem_iff_getElem?.mp hr2
  have hj2 : (r2.map (·.2))[j]? = some r.2 := by rw [List.getElem?_map, hj]; rfl
  obtain ⟨q, hq, tv2⟩ := DX.pget t2.2 hj2
  refine ⟨q, List.mem_of_getElem? hq, ?_, r.2, tv, tv2, (strs_shaped (ft_mem (ok.f r hr2))).2⟩
  have a : (kvs2.map (·.1))[j]? = some q.1 := by rw [List.getElem?_map, hq]; rfl
  rw [t2.1, List.getElem?_map, hj] at a
  rw [← Option.some.inj a, k1]
/-- the lines made of rows -/
theorem ln_lc {K : PySem.W.Frag} {H : Hp} {l : Addr} {us : List V} {rows : List Row} {σ : L2.St} {i0 : Nat} {Q : VK} {XF : XK} (hσ : σ[i0]? = some (some (.ref l))) (hl : H l = some (.lst us)) (rv : RwsV H us rows) (ok : RowsOk rows)
    (hw : ∀ x y, wipe (((wipe σ [4, 5]).set 4 (some x)).set 5 (some y)) [4, 5] = wipe σ [4, 5]) (h4 : ∀ x y, (((wipe σ [4, 5]).set 4 (some x)).set 5 (some y))[4]? = some (some x)) (h5 : ∀ x y, (((wipe σ [4, 5]).set 4 (some x)).set 5 (some y))[5]? = some (some y))
    (q : ∀ D H', H D = none → Same H H' → H' D = some (.lst (lnsV (linesR rows))) → Q (.ref D) H') :
    tLc (iList K (tVar i0)) (gTup K 2 (gCons (gName 4) (gCons (gName 5) gNil))) tYes (tCall (spPL K) [] XF (tCons (tVar 4) (tCons (tVar 5) tNil))) [4, 5] σ H Q := by
  refine ⟨_, hσ, l, rfl, ⟨us, SqL.of hl⟩, fun D hD => ?_⟩
  have lus : us.length = rows.length := Paired.length rv
  have n8 := ok.n
  refine lc_list (K := K) (a := l) (xs := us) (Qd := fun H' => Q (.ref D) H') (fun i H' => Same H H' ∧ H' D = some (.lst (lnsV (linesR (rows.take i))))) ⟨Same.new (Same.refl _) hD, by rw [List.take_zero]; exact upd_same⟩ (fun i H' _ h => SqL.of (h.1 _ _ hl)) (fun i u H5 hi h => ?_) (fun H5 h => ?_)
  · obtain ⟨s5, hD5⟩ := h
    obtain ⟨r, hr, t, pa, ta, rfl, e1, e2, e3⟩ := LiI.paired_get rv hi
    refine ⟨t, _, rfl, SqT.of (s5 _ _ e1), rfl, _, _, rfl, _, _, rfl, rfl, hw _ _, _, h4 _ _, _, h5 _ _, pa, ta, r.1, r.2, rfl, SqT.of (s5 _ _ e2), ok.p r (List.mem_of_getElem? hr), .inl (SqT.of (s5 _ _ e3)), .inl (ok.f r (List.mem_of_getElem? hr)), fun H6 s6 => ⟨_, s6 _ _ hD5, ?_, Same.put (s5.trans s6) hD, ?_⟩⟩
    · unfold lnsV linesR
      rw [List.length_map, List.length_map, List.length_take]
      exact Nat.lt_of_le_of_lt (show _ ≤ 8 by omega) (by decide)
    · rw [upd_same, List.take_add_one, hr]
      unfold lnsV linesR
      rw [List.map_append, List.map_append]
      rfl
  · obtain ⟨s5, hD5⟩ := h
    rw [lus, List.take_length] at hD5
    exact q D H5 hD s5 hD5
theorem cutV_to (xs : List V) (j : Nat) : cutV xs none (some (j : Int)) = xs.take j := by
  unfold cutV
  rw [HT.sIx_nat]
  show (xs.drop 0).take (min j xs.length - 0) = _
  rw [List.drop_zero, Nat.sub_zero, List.take_eq_take_iff]
  omega
theorem cutV_from (xs : List V) (j : Nat) : cutV xs (some (j : Int)) none = xs.drop j := by
  unfold cutV
  rw [HT.sIx_nat]
  show (xs.drop (min j xs.length)).take (xs.length - min j xs.length) = _
  rw [List.take_of_length_le (by rw [List.length_drop]; omega)]
  by_cases h : j ≤ xs.length
  · rw [Nat.min_eq_left h]
  · rw [Nat.min_eq_right (by omega), List.drop_eq_nil_of_le (Nat.le_refl _), List.drop_eq_nil_of_le (by omega)]
theorem lnsV_app (a b : List (List Nat)) : lnsV (a ++ b) = lnsV a ++ lnsV b := by unfold lnsV; rw [List.map_append]
theorem lnsV_take (a : List (List Nat)) (j : Nat) : (lnsV a).take j = lnsV (a.take j) := by unfold lnsV; rw [List.map_take]
theorem lnsV_drop (a : List (List Nat)) (j : Nat) : (lnsV a).drop j = lnsV (a.drop j) := by unfold lnsV; rw [List.map_drop]
theorem lnsV_len (a : List (List Nat)) : (lnsV a).length = a.length := by unfold lnsV; rw [List.length_map]
/-- good lines, then a wrong one: the first wrong one is there -/
theorem first_bad {good rest : List (List Nat)} {z : List Nat} (ok : ∀ c ∈ good, readOk c = true) (nd : (good.map keyC).Nodup) (bz : readOk z = false ∨ keyC z ∈ good.map keyC) {i : Nat} {c : List Nat} (h : (good ++ z :: rest)[i]? = some c) (ht : ∀ c' ∈ (good ++ z :: rest).take i, readOk c' = true) (hn : (((good ++ z :: rest).take i).map keyC).Nodup)
    (b : readOk c = false ∨ keyC c ∈ ((good ++ z :: rest).take i).map keyC) : i = good.length := by
  rcases Nat.lt_trichotomy i good.length with h1 | h1 | h1
  · exfalso
    rw [List.getElem?_append_left h1] at h
    rw [List.take_append_of_le_length (Nat.le_of_lt h1)] at b
    exact no_bad ok nd h b
  · exact h1
  · exfalso
    have e : (good ++ z :: rest).take i = good ++ z :: rest.take (i - good.length - 1) := by
      rw [List.take_append, List.take_of_length_le (Nat.le_of_lt h1)]
      congr 1
      obtain ⟨k, hk⟩ : ∃ k, i - good.length = k + 1 := ⟨i - good.length - 1, by omega⟩
      rw [hk, List.take_succ_cons]
      rfl
    rw [e] at ht hn
    rcases bz with bz | bz
    · have := ht z (by simp)
      rw [bz] at this
      cases this
    · rw [List.map_append, List.map_cons, List.nodup_append] at hn
      exact hn.2.2 _ bz _ List.mem_cons_self rfl
theorem not_good {good rest : List (List Nat)} {z : List Nat} (bz : readOk z = false ∨ keyC z ∈ good.map keyC) (h : ∀ c ∈ good ++ z :: rest, readOk c = true) (hn : ((good ++ z :: rest).map keyC).Nodup) : False := by
  rcases bz with bz | bz
  · have := h z (by simp)
    rw [bz] at this
    cases this
  · rw [List.map_append, List.map_cons, List.nodup_append] at hn
    exact hn.2.2 _ bz _ List.mem_cons_self rfl
end K5

/-! the law of pages -/
namespace K5
open PySem L2
open K5S (S S_cps S_len S_inj S_app S_of lt Wd)
abbrev sLaw : Stmt := top 33
abbrev nLaw : List Str := ["_law_script", "_law_cell", "_law_pool_here", "_law_rows_now", "_law_place", "_law_some", "_law_due", "_law_table_here", "_law_mixed", "_law_lines", "_law_told", "_law_spot", "_law_wrong_here"]
def spLaw (K : PySem.W.Frag) : Sp := fun vs H Q _ => ∃ (a : Addr) (ns : List Int), vs = [.ref a] ∧ SqL K H a (ns.map V.int) ∧ ns.length ≤ 63 ∧ ∀ H', Q (.bl true) H'
def σL (a : Addr) (k p R v4 v5 D T M Ls d sp wr : Option V) : L2.St := [some (.ref a), k, p, R, v4, v5, D, T, M, Ls, d, sp, wr]
section
variable {P : Program} {w : World} {K : PySem.W.Frag} {mg : Str → Option Value} {base : Heap}
theorem scLaw : FnScope nLaw ["_law_script"] (defScope sLaw) := ⟨rfl, rfl, rfl, by decide +kernel, rfl, by decide +kernel, by decide +kernel⟩
theorem ok_law {f fRP C : Addr} {fd fdRP : FuncData} (F : Fun K "law" "law" sLaw f fd) (T : Mod mg) (zmax : mg "max" = none) (zmin : mg "min" = none) (GPl : Fn P w K mg base 1 "_law_pool" ["_law_script", "_law_place", "_law_salt"] (spPool K)) (GP : Fn P w K mg base 1 "_law_pick" ["_law_pool_here", "_law_many"] spPick)
    (GTa : Fn P w K mg base 4 "_law_table" ["_law_pool_here"] (spTab K)) (GTu : Fn P w K mg base 2 "_law_turned" ["_law_pool_here", "_law_some"] spTu) (GLL : Fn P w K mg base 1 "_law_line" ["_law_place", "_law_some"] (spPL K)) (GPO : Fn P w K mg base 4 "page_of" ["table"] spPO)
    (kRP : PySem.W.keepIn K (.ref fRP) = true) (GRP : FnOk P w K mg base (L2.CX P w) 4 fRP fdRP ["lines"] (spRP K C)) (bRP : Binds K fdRP ["lines"] []) (mRP : mg "read_page" = some (.ref fRP))
    (GWr : Fn P w K mg base 3 "_law_wrong" ["_law_pool_here", "_law_place", "_law_some"] (spWr K)) (GRf : Fn P w K mg base 5 "_law_refused" ["_law_lines"] spRf) : FnG P w K mg base 6 f fd ["_law_script"] (spLaw K) := by
  refine F.okG scLaw (fun vs H Q E h => ?_) (fun cdv A outer s H vs Q hgu hr h => ?_)
  · obtain ⟨a, ns, rfl, _⟩ := h
    rfl
  · obtain ⟨a, ns, rfl, hS, hl, q⟩ := h
    have hr1 : Room 1 _ := hr.mono (by decide)
    have hr2 : Room 2 _ := hr.mono (by decide)
    have hr3 : Room 3 _ := hr.mono (by decide)
    have hr4 : Room 4 _ := hr.mono (by decide)
    refine ⟨_, (C8.pss_cut (ps_for PassesOwn.never rfl (pi_range1 (by rfl) T.range (pa_cons (pe_callB (call_max2 rfl) (by rfl) zmax (by decide +kernel) (pa_cons pe_int (pa_cons (pe_callB (call_min2 rfl) (by rfl) zmin (by decide +kernel) (pa_cons pe_int (pa_cons (pe_callB call_len_seq (by rfl) T.len PySem.boot_len (pa_cons (pv 0) pa_nil)) pa_nil))) pa_nil))) pa_nil)) (pg_name (i := 1) scLaw.nd rfl (.inl rfl))
        (C8.pss_cut (ps_set (i := 2) scLaw.nd rfl (.inl rfl) (pe_fn GPl hr1 rfl (pa_cons (pv 0) (pa_cons (pv 1) (pa_cons pe_int pa_nil)))))
        (C8.pss_cut (ps_set (i := 3) scLaw.nd rfl (.inl rfl) (pe_fn GTa hr4 rfl (pa_cons (pv 2) pa_nil)))
        (C8.pss_cut (ps_par (i := 6) (j := 7) (by rfl) scLaw.nd rfl rfl (by decide) rfl rfl (pa_cons (pe_lc (own := [("_law_place", 4), ("_law_some", 5)]) (g := (gTup K 2 (gCons (gName 4) (gCons (gName 5) gNil)))) (tt := tYes) (by rfl) scLaw.nd (pi_list (pv 3)) (blkOk_by (own := [("_law_place", 4), ("_law_some", 5)]) (N := nLaw) (sc := defScope sLaw) (by decide +kernel)) (fun _ _ _ _ _ => (pg_tup (by rfl) (pgs_cons (pg_name (i := 4) scLaw.nd rfl (.inl rfl)) (pgs_cons (pg_name (i := 5) scLaw.nd rfl (.inl rfl)) pgs_nil)))) (fun _ _ _ _ _ => pts_nil) (fun _ _ _ _ _ => (pe_fn GLL hr1 rfl (pa_cons (pv 4) (pa_cons (pv 5) pa_nil))))) (pa_cons pe_dnewT pa_nil)) (by rfl))
        (C8.pss_cut (ps_for PassesOwn.never rfl (pi_list (pe_fn GTu hr2 rfl (pa_cons (pv 2) (pa_cons (pv 3) pa_nil)))) (pg_tup (by rfl) (pgs_cons (pg_name (i := 4) scLaw.nd rfl (.inl rfl)) (pgs_cons (pg_name (i := 5) scLaw.nd rfl (.inl rfl)) pgs_nil)))
        (pss_one (ps_asg (pv 5) (pg_sub (pv 7) (pv 4) (set_dict (hu_of hr))))))
        (C8.pss_cut (ps_if (PW.pt (pw_or (pt_cmpR (op_neD hr.units) (pe_fn GPO hr4 rfl (pa_cons (pv 7) pa_nil)) (pv 6) (nomark _)) (pw_or1 (pt_cmpR (op_neT (hu65 hr)) (pv 7) (pe_call GRP hr4 rfl mRP kRP bRP .nil passNo (pa_cons (pv 6) pa_nil)) (nomark _))))) (pss_one (ps_ret pe_bl)) pss_nil)
        (C8.pss_cut (ps_set (i := 8) scLaw.nd rfl (.inl rfl) (pe_fn GTu hr2 rfl (pa_cons (pv 2) (pa_cons (pv 3) pa_nil))))
        (C8.pss_cut (ps_setLc (i := 9) (own := [("_law_place", 4), ("_law_some", 5)]) (g := (gTup K 2 (gCons (gName 4) (gCons (gName 5) gNil)))) (tt := tYes) (by rfl) scLaw.nd rfl rfl (sw_true rfl rfl rfl (by decide +kernel)) (pi_list (pv 8)) (blkOk_by (own := [("_law_place", 4), ("_law_some", 5)]) (N := nLaw) (sc := defScope sLaw) (by decide +kernel)) (fun _ _ _ _ _ => (pg_tup (by rfl) (pgs_cons (pg_name (i := 4) scLaw.nd rfl (.inl rfl)) (pgs_cons (pg_name (i := 5) scLaw.nd rfl (.inl rfl)) pgs_nil)))) (fun _ _ _ _ _ => pts_nil) (fun _ _ _ _ _ => (pe_fn GLL hr1 rfl (pa_cons (pv 4) (pa_cons (pv 5) pa_nil)))))
        (C8.pss_cut (ps_set (i := 10) scLaw.nd rfl (.inl rfl) (pe_call GRP hr4 rfl mRP kRP bRP .nil passNo (pa_cons (pv 9) pa_nil)))
        (C8.pss_cut (ps_if (PW.pt (pw_or (pt_cmpR (op_neD hr.units) (pe_callTy (call_listIt rfl) (by rfl) T.list (by decide +kernel) (pa_cons (pe_bm0 PySem.F.plainAttrs_dict PySem.F.slot_dict_items PySem.F.type_dict_items DX.mt_itemsT (pv 10)) pa_nil)) (pv 8) (nomark _)) (pw_or (pt_cmpR (op_neD hr.units) (pe_fn GPO hr4 rfl (pa_cons (pv 10) pa_nil)) (pv 6) (nomark _)) (pw_or1 (pt_cmpR (op_neD hr.units) (pv 9) (pe_lc (own := [("_law_place", 4), ("_law_some", 5)]) (g := (gTup K 2 (gCons (gName 4) (gCons (gName 5) gNil)))) (tt := tYes) (by rfl) scLaw.nd (pi_list (pv 8)) (blkOk_by (own := [("_law_place", 4), ("_law_some", 5)]) (N := nLaw) (sc := defScope sLaw) (by decide +kernel)) (fun _ _ _ _ _ => (pg_tup (by rfl) (pgs_cons (pg_name (i := 4) scLaw.nd rfl (.inl rfl)) (pgs_cons (pg_name (i := 5) scLaw.nd rfl (.inl rfl)) pgs_nil)))) (fun _ _ _ _ _ => pts_nil) (fun _ _ _ _ _ => (pe_fn GLL hr1 rfl (pa_cons (pv 4) (pa_cons (pv 5) pa_nil))))) (nomark _)))))) (pss_one (ps_ret pe_bl)) pss_nil)
        (C8.pss_cut (ps_expr (pe_bm0 PySem.F.plainAttrs_dict PySem.F.slot_dict_clear PySem.F.type_dict_clear mt_clearT (pv 10)))
        (C8.pss_cut (ps_if (pt_cmpR (op_neD hr.units) (pe_callTy (call_listIt rfl) (by rfl) T.list (by decide +kernel) (pa_cons (pe_bm0 PySem.F.plainAttrs_dict PySem.F.slot_dict_items PySem.F.type_dict_items DX.mt_itemsT (pe_call GRP hr4 rfl mRP kRP bRP .nil passNo (pa_cons (pv 9) pa_nil))) pa_nil)) (pv 8) (nomark _)) (pss_one (ps_ret pe_bl)) pss_nil)
        (C8.pss_cut (ps_if (pt_cmpR (op_neD hr.units) (pv 8) (pe_lst pa_nil) (nomark _)) (C8.pss_cut (ps_set (i := 11) scLaw.nd rfl (.inl rfl) (pe_fn GP hr1 rfl (pa_cons (pv 2) (pa_cons (pe_callB call_len_seq (by rfl) T.len PySem.boot_len (pa_cons (pv 8) pa_nil)) pa_nil))))
        (C8.pss_cut (ps_set (i := 12) scLaw.nd rfl (.inl rfl) (pe_fn GWr hr3 rfl (pa_cons (pv 2) (pa_cons (pe_ix ix_tup (pe_ix ix_list (pv 8) (pv 11) (fun _ _ => rfl)) pe_int (fun _ _ => rfl)) (pa_cons (pe_ix ix_tup (pe_ix ix_list (pv 8) (pv 11) (fun _ _ => rfl)) pe_int (fun _ _ => rfl)) pa_nil)))))
        (C8.pss_cut (ps_if (pt_cmpR op_ne (pe_fn GRf hr rfl (pa_cons (pe_op op_cat (pe_op op_cat (pe_op op_cat (pe_slice sl_list (pv 9) po_none (po_some (pv 11))) (pe_lst (pa_cons (pv 12) pa_nil))) (pe_slice sl_list (pv 9) (po_some (pe_op op_add (pv 11) pe_int)) po_none)) (pe_lst (pa_cons pe_str pa_nil))) pa_nil)) (pv 11) (nomark _)) (pss_one (ps_ret pe_bl)) pss_nil)
        (pss_one (ps_if (pt_cmpR op_ne (pe_fn GRf hr rfl (pa_cons (pe_op op_cat (pv 9) (pe_lst (pa_cons (pe_fn GLL hr1 rfl (pa_cons (pe_ix ix_tup (pe_ix ix_list (pv 8) (pv 11) (fun _ _ => rfl)) pe_int (fun _ _ => rfl)) (pa_cons (pe_tup (pa_cons pe_str pa_nil)) pa_nil))) pa_nil))) pa_nil)) (pe_callB call_len_seq (by rfl) T.len PySem.boot_len (pa_cons (pv 9) pa_nil)) (nomark _)) (pss_one (ps_ret pe_bl)) pss_nil))))) pss_nil)
        (pss_one (ps_if (PW.pt (pw_or (pt_cmpR op_notN (pe_fn GRf hr rfl (pa_cons (pe_lst pa_nil) pa_nil)) pe_non (nomark _)) (pw_or1 (pt_cmpR op_ne (pe_fn GRf hr rfl (pa_cons (pe_lst (pa_cons pe_str pa_nil)) pa_nil)) pe_int (nomark _))))) (pss_one (ps_ret pe_bl)) pss_nil)))))))))))))))
        (pss_one (ps_ret pe_bl))), ?_⟩
    refine ⟨fun σ H' => True, ?_, fun σ H' _ => q H'⟩
    have l1 : ((ns.map V.int).length : Int) ≤ 63 := by rw [List.length_map]; omega
    refine ⟨_, rfl, a, ns.map V.int, rfl, .inl hS, _, _, rfl, _, _, rfl, _, rfl, ?_, ?_, ?_⟩
    · split <;> (try split) <;> omega
    · split <;> (try split) <;> omega
    refine for_range (lo := 0) (fun i σ H' => (∃ k p R v4 v5 D T M Ls d sp wr, σ = σL a k p R v4 v5 D T M Ls d sp wr) ∧ Same H H') ⟨⟨_, _, _, _, _, _, _, _, _, _, _, _, rfl⟩, Same.refl H⟩ ?_ (fun _ _ _ => trivial)
    rintro i σ H1 hi ⟨⟨k, v2, R, v4, v5, D, Tt, M, Ls, d, sp, wr, rfl⟩, s1⟩
    have hi4 : i < 4 := by
      refine Nat.lt_of_lt_of_le hi ?_
      split <;> (try split) <;> omega
    -- the pool
    refine ⟨fun σ H' => ∃ p, σ = σL a (some (.int (0 + i))) (some (.ref p)) R v4 v5 D Tt M Ls d sp wr ∧ H1 p = none ∧ Same H1 H' ∧ Pool H' p 0, ?_, ?_⟩
    · exact ⟨_, rfl, _, rfl, a, ns, _, 88, rfl, s1.seq hS, hl, by omega, by omega, by decide, by decide, fun p H2 hp s2 hP => ⟨p, rfl, hp, s2, hP⟩⟩
    rintro σ H2 ⟨p, rfl, np, s2, p2⟩
    -- the rows
    refine ⟨fun σ H' => ∃ (R : Addr) (us : List V) (rows : List Row), σ = σL a (some (.int (0 + i))) (some (.ref p)) (some (.ref R)) v4 v5 D Tt M Ls d sp wr ∧ Same H1 H' ∧ Pool H' p 200 ∧ R ≠ p ∧ H' R = some (.lst us) ∧ RwsV H' us rows ∧ RowsOk rows ∧ (rows.Pairwise fun a b => leR a b = true), ?_, ?_⟩
    · exact ⟨_, rfl, p, 0, rfl, p2, by omega, fun L us rows H3 hL hL3 rv ok pw k3 p3 => ⟨L, us, rows, rfl, k3.same s2 np, p3, pool_ne p2 hL, hL3, rv, ok, pw⟩⟩
    rintro σ H3 ⟨R, us, rows, rfl, s3, p3, Rp, hR, rv, ok, pw⟩
    have n8 := ok.n
    have lus : us.length = rows.length := Paired.length rv
    -- the lines that are due, a table
    refine ⟨fun σ H' => ∃ (D T : Addr), σ = σL a (some (.int (0 + i))) (some (.ref p)) (some (.ref R)) v4 v5 (some (.ref D)) (some (.ref T)) M Ls d sp wr ∧ Same H3 H' ∧ H3 D = none ∧ H3 T = none ∧ H' D = some (.lst (lnsV (linesR rows))) ∧ H' T = some (.dT []), ?_, ?_⟩
    · unfold tPar tCons
      refine ln_lc (K := K) (XF := fun _ _ _ => False) (σ := σL a (some (.int (0 + i))) (some (.ref p)) (some (.ref R)) v4 v5 D Tt M Ls d sp wr) (i0 := 3) rfl hR rv ok (by intros; rfl) (by intros; rfl) (by intros; rfl) ?_
      intro D H4 hD s4 hD4 T hT
      exact ⟨_, _, rfl, D, T, rfl, Same.new s4 hT, hD, s4.free hT, (Same.new (Same.refl _) hT) _ _ hD4, upd_same⟩
    rintro σ H4 ⟨D, T0, rfl, s4, nD, nT, hD, hT⟩
    have p4 := p3.same s4
    have hTp : T0 ≠ p := pool_ne p3 nT
    -- the table filled
    refine ⟨fun σ H' => ∃ (w4 w5 : Option V) (kvs : List (List Key × V)) (rows1 : List Row), σ = σL a (some (.int (0 + i))) (some (.ref p)) (some (.ref R)) w4 w5 (some (.ref D)) (some (.ref T0)) M Ls d sp wr ∧ Same H1 H' ∧ Pool H' p 300 ∧ H' R = some (.lst us) ∧ RwsV H' us rows ∧ H' D = some (.lst (lnsV (linesR rows))) ∧ H' T0 = some (.dT kvs) ∧ TabV H' kvs (rows1.map fun r => keyP r.1) (rows1.map (·.2)) ∧ rows1.Perm rows, ?_, ?_⟩
    · refine ⟨_, rfl, _, rfl, p, 200, R, us, rfl, p4, by omega, s4 _ _ hR, Rp, by omega, fun L zs H5 pm hL hL5 k5 p5 => ?_⟩
      have tk5 := tup_keep p4 k5
      have rv5 := (rv.to fun b xs e => s4 _ _ e).to tk5
      obtain ⟨rows1, pm1, rz⟩ := paired_perm pm rv5
      have ok1 := ok.perm pm1
      have hT5 := k5 _ _ hTp hT
      have hDp : D ≠ p := pool_ne p3 nD
      refine ⟨L, rfl, ⟨_, SqL.of hL5⟩, ?_⟩
      have lz : zs.length = rows1.length := Paired.length rz
      refine for_list (K := K) (a := L) (xs := zs) (fun j σ H' => ∃ w4 w5 kvs, σ = σL a (some (.int (0 + i))) (some (.ref p)) (some (.ref R)) w4 w5 (some (.ref D)) (some (.ref T0)) M Ls d sp wr ∧ (∀ b o, b ≠ T0 → H5 b = some o → H' b = some o) ∧ H' T0 = some (.dT kvs) ∧ TabV H' kvs ((rows1.take j).map fun r => keyP r.1) ((rows1.take j).map (·.2)) ∧ Pool H' p (200 + us.length)) ⟨_, _, [], rfl, fun _ _ _ e => e, hT5, (by rw [List.take_zero]; exact ⟨rfl, .nil⟩), p5⟩ (fun j σ H' _ h => ?_) ?_ ?_
      · obtain ⟨_, _, _, _, st, _⟩ := h
        exact SqL.of (st _ _ (fun z => by rw [z, hT5] at hL5; cases hL5) hL5)
      · rintro j x σ H6 hx ⟨w4, w5, kvs, rfl, st, hT6, tv, p6⟩
        obtain ⟨r, hr', t, pa, ta, rfl, e1, e2, e3⟩ := LiI.paired_get rz hx
        have ne : ∀ {b xs}, H5 b = some (.tup xs) → b ≠ T0 := fun e z => by rw [z, hT5] at e; cases e
        have f1 := st _ _ (ne e1) e1
        have f2 := st _ _ (ne e2) e2
        have f3 := st _ _ (ne e3) e3
        have lk : kvs.length < sizeLine := by
          have := congrArg List.length tv.1
          rw [List.length_map, List.length_map, List.length_take] at this
          have h2 := ok1.n
          exact Nat.lt_of_le_of_lt (show _ ≤ 8 by omega) (by decide)
        have nk : keyP r.1 ∉ (rows1.take j).map fun r => keyP r.1 := by
          have := nd_take ok1.keys (i := j) (a := keyP r.1) (by rw [List.getElem?_map, hr']; rfl)
          rwa [← List.map_take] at this
        refine ⟨t, _, rfl, SqT.of f1, rfl, _, _, rfl, _, _, rfl, rfl, _, rfl, _, rfl, _, rfl, T0, _, rfl, DPut.t hT6 (k := keyP r.1) f2 lk, ?_⟩
        refine ⟨_, _, kvs ++ [(keyP r.1, .ref ta)], rfl, fun b o nb e => by rw [upd_ne nb]; exact st b o nb e, ?_, ?_, p6.other (Ne.symm hTp)⟩
        · rw [upd_same, putK_new (by rw [tv.1]; exact nk)]
        · rw [List.take_add_one, hr', List.map_append, List.map_append]
          exact (tv.snoc ⟨ta, rfl, f3⟩).to fun b xs e => upd_old hT6 e (fun _ z => nomatch z)
      · rintro σ H6 ⟨w4, w5, kvs, rfl, st, hT6, tv, p6⟩
        rw [lz, List.take_length] at tv
        have ntp : ∀ {b o}, H5 b = some o → (∀ k, o ≠ .dT k) → H6 b = some o := fun {b o} e n => st b o (fun z => by rw [z, hT5] at e; exact n _ (Option.some.inj e).symm) e
        refine ⟨_, _, kvs, rows1, rfl, fun b o e => ?_, p6.mono (by omega), ntp (k5 _ _ Rp (s4 _ _ hR)) (fun _ z => nomatch z), rv5.to fun b xs e => ntp e (fun _ z => nomatch z), ntp (k5 _ _ hDp hD) (fun _ z => nomatch z), hT6, tv, pm1⟩
        have bT : b ≠ T0 := ne_of_none (s3 _ _ e) nT
        exact st b o bT (k5 b o (ne_of_none e np) (s4 _ _ (s3 _ _ e)))
    rintro σ H5 ⟨w4, w5, kvs, rows1, rfl, s5, p5, hR5, rv5, hD5, hT5, tv5, pm1⟩
    have ok1 := ok.perm pm1
    have sh : SeqAt.shaped (.list ((linesR rows).map fun c => PyData.str (S c))) = true := lns_shaped (small_rows ok).a
    have sr1 : sortR rows1 = rows := sortR_perm ok.d pw pm1
    -- the page made, the page read
    refine ⟨fun σ H' => σ = σL a (some (.int (0 + i))) (some (.ref p)) (some (.ref R)) w4 w5 (some (.ref D)) (some (.ref T0)) M Ls d sp wr ∧ Same H5 H', ?_, ?_⟩
    · refine ⟨_, rfl, T0, kvs, rows1, rfl, hT5, ok1, tv5, fun L H6 hL s6 hL6 => ?_⟩
      rw [sr1] at hL6
      refine ⟨_, rfl, .list ((linesR rows).map fun c => PyData.str (S c)), .list ((linesR rows).map fun c => PyData.str (S c)), .lst (SqL.of hL6) (lns_dp _), .lst (SqL.of (s6 _ _ hD5)) (lns_dp _), sh, sh, _, rfl, ?_⟩
      rw [eqv_self sh]
      refine iteF ⟨_, rfl, _, rfl, D, linesR rows, rfl, s6 _ _ hD5, small_rows ok, fun _ _ d2 kvs2 H7 _ s7 hd7 tv7 => ?_, fun i c h1 _ _ h4 e H' _ _ _ => no_bad (lines_ok ok) (lines_nd ok) h1 h4⟩
      rw [lines_key ok, lines_wf ok] at tv7
      obtain ⟨g1, g2⟩ := tab_in (tv5.to fun b xs e => s7 _ _ (s6 _ _ e)) tv7 ok pm1
      exact ⟨T0, d2, kvs, kvs2, rfl, rfl, s7 _ _ (s6 _ _ hT5), hd7, g1, g2, _, rfl, iteF ⟨rfl, s6.trans s7⟩⟩
    rintro σ H6 ⟨rfl, s6⟩
    have p6 := p5.same s6
    have hR6 := s6 _ _ hR5
    have rv6 := rv5.to fun b xs e => s6 _ _ e
    -- mixed
    refine ⟨fun σ H' => ∃ (M : Addr) (zs : List V) (rows2 : List Row), σ = σL a (some (.int (0 + i))) (some (.ref p)) (some (.ref R)) w4 w5 (some (.ref D)) (some (.ref T0)) (some (.ref M)) Ls d sp wr ∧ Same H1 H' ∧ Pool H' p 320 ∧ M ≠ p ∧ H' M = some (.lst zs) ∧ RwsV H' zs rows2 ∧ rows2.Perm rows ∧ H' D = some (.lst (lnsV (linesR rows))), ?_, ?_⟩
    · refine ⟨_, rfl, _, rfl, p, 300, R, us, rfl, p6, by omega, hR6, Rp, by omega, fun L zs H7 pm hL hL7 k7 p7 => ?_⟩
      obtain ⟨rows2, pm2, rz⟩ := paired_perm pm (rv6.to (tup_keep p6 k7))
      have hDp : D ≠ p := pool_ne p3 nD
      exact ⟨L, zs, rows2, rfl, fun b o e => k7 b o (ne_of_none e np) (s6 _ _ (s5 _ _ e)), p7.mono (by omega), pool_ne p6 hL, hL7, rz, pm2, k7 _ _ hDp (s6 _ _ hD5)⟩
    rintro σ H7 ⟨M', zs, rows2, rfl, s7, p7, Mp, hM, rz, pm2, hD7⟩
    have ok2 := ok.perm pm2
    have sr2 : sortR rows2 = rows := sortR_perm ok.d pw pm2
    have lz : zs.length = rows2.length := Paired.length rz
    have n82 := ok2.n
    -- its lines
    refine ⟨fun σ H' => ∃ L : Addr, σ = σL a (some (.int (0 + i))) (some (.ref p)) (some (.ref R)) w4 w5 (some (.ref D)) (some (.ref T0)) (some (.ref M')) (some (.ref L)) d sp wr ∧ Same H7 H' ∧ H7 L = none ∧ H' L = some (.lst (lnsV (linesR rows2))), ?_, ?_⟩
    · unfold tAsg
      refine ln_lc (K := K) (XF := fun _ _ _ => False) (σ := σL a (some (.int (0 + i))) (some (.ref p)) (some (.ref R)) w4 w5 (some (.ref D)) (some (.ref T0)) (some (.ref M')) Ls d sp wr) (i0 := 8) rfl hM rz ok2 (by intros; rfl) (by intros; rfl) (by intros; rfl) ?_
      intro L H8 hL s8 hL8
      exact ⟨L, rfl, s8, hL, hL8⟩
    rintro σ H8 ⟨L, rfl, s8, nL, hL8⟩
    have Lp : L ≠ p := pool_ne p7 nL
    -- told
    refine ⟨fun σ H' => ∃ (d : Addr) (kvs2 : List (List Key × V)), σ = σL a (some (.int (0 + i))) (some (.ref p)) (some (.ref R)) w4 w5 (some (.ref D)) (some (.ref T0)) (some (.ref M')) (some (.ref L)) (some (.ref d)) sp wr ∧ Same H8 H' ∧ H8 d = none ∧ H' d = some (.dT kvs2) ∧ TabV H' kvs2 (rows2.map fun r => keyP r.1) (rows2.map (·.2)), ?_, ?_⟩
    · refine ⟨_, rfl, L, linesR rows2, rfl, hL8, small_rows ok2, fun _ _ d2 kvs2 H9 n9 s9 hd9 tv9 => ?_, fun i c h1 _ _ h4 e H' _ _ _ => no_bad (lines_ok ok2) (lines_nd ok2) h1 h4⟩
      rw [lines_key ok2, lines_wf ok2] at tv9
      exact ⟨d2, kvs2, rfl, s9, n9, hd9, tv9⟩
    rintro σ H9 ⟨d, kvs2, rfl, s9, nd, hd9, tv9⟩
    have p9 := p7.same (s8.trans s9)
    have dp : d ≠ p := pool_ne (p7.same s8) nd
    have shr : SeqAt.shaped (.list (rows2.map rowD)) = true := rows_shaped ok2.p ok2.f
    have sh2 : SeqAt.shaped (.list ((linesR rows2).map fun c => PyData.str (S c))) = true := lns_shaped (small_rows ok2).a
    have hM9 := s9 _ _ (s8 _ _ hM)
    have hL9 := s9 _ _ hL8
    have hD9 := s9 _ _ (s8 _ _ hD7)
    have rz9 := rz.to fun b xs e => s9 _ _ (s8 _ _ e)
    -- as it was
    refine ⟨fun σ H' => σ = σL a (some (.int (0 + i))) (some (.ref p)) (some (.ref R)) w4 w5 (some (.ref D)) (some (.ref T0)) (some (.ref M')) (some (.ref L)) (some (.ref d)) sp wr ∧ Same H9 H', ?_, ?_⟩
    · refine ⟨_, rfl, .inr (.inr (.inl ⟨rfl, .inr ⟨_, hd9⟩⟩)), d, kvs2, rfl, rfl, hd9, fun v hv => ⟨v, d, kvs2, rfl, upd_same, (Same.new (Same.refl _) hv) _ _ hd9, fun H10 L2 ts ps s10 _ hL2 kat pr => ?_⟩⟩
      have sv := Same.new (o := DX.itemsO v d) (Same.refl H9) hv
      have s910 := sv.trans s10
      have di := items_dp (K := K) s10 tv9.1 ((tv9.to fun b xs e => sv _ _ e).2) kat pr
      refine ⟨_, rfl, .list (rows2.map rowD), .list (rows2.map rowD), .lst (SqL.of hL2) di, .lst (SqL.of (s910 _ _ hM9)) (rws_dp (rz9.to fun b xs e => s910 _ _ e)), shr, shr, _, rfl, ?_⟩
      rw [eqv_self shr]
      refine iteF ⟨_, rfl, d, kvs2, rows2, rfl, s910 _ _ hd9, ok2, tv9.to fun b xs e => s910 _ _ e, fun L3 H11 _ s11 hL3 => ?_⟩
      rw [sr2] at hL3
      have s911 := s910.trans s11
      refine ⟨_, rfl, .list ((linesR rows).map fun c => PyData.str (S c)), .list ((linesR rows).map fun c => PyData.str (S c)), .lst (SqL.of hL3) (lns_dp _), .lst (SqL.of (s911 _ _ hD9)) (lns_dp _), sh, sh, _, rfl, ?_⟩
      rw [eqv_self sh]
      refine iteF ⟨_, rfl, ?_⟩
      refine ln_lc (K := K) (XF := fun _ _ _ => False) (σ := σL a (some (.int (0 + i))) (some (.ref p)) (some (.ref R)) w4 w5 (some (.ref D)) (some (.ref T0)) (some (.ref M')) (some (.ref L)) (some (.ref d)) sp wr) (i0 := 8) rfl (s911 _ _ hM9) (rz9.to fun b xs e => s911 _ _ e) ok2 (by intros; rfl) (by intros; rfl) (by intros; rfl) ?_
      intro C H12 hC s12 hC12
      refine ⟨.list ((linesR rows2).map fun c => PyData.str (S c)), .list ((linesR rows2).map fun c => PyData.str (S c)), .lst (SqL.of (s12 _ _ (s911 _ _ hL9))) (lns_dp _), .lst (SqL.of hC12) (lns_dp _), sh2, sh2, _, rfl, ?_⟩
      rw [eqv_self sh2]
      exact iteF ⟨rfl, s911.trans s12⟩
    rintro σ H10 ⟨rfl, s10⟩
    have hd10 := s10 _ _ hd9
    -- cleared
    refine ⟨fun σ H' => σ = σL a (some (.int (0 + i))) (some (.ref p)) (some (.ref R)) w4 w5 (some (.ref D)) (some (.ref T0)) (some (.ref M')) (some (.ref L)) (some (.ref d)) sp wr ∧ Same H1 H' ∧ Pool H' p 320 ∧ H' M' = some (.lst zs) ∧ RwsV H' zs rows2 ∧ H' L = some (.lst (lnsV (linesR rows2))), ?_, ?_⟩
    · refine ⟨_, rfl, .inr (.inr (.inl ⟨rfl, .inr ⟨_, hd10⟩⟩)), d, kvs2, rfl, rfl, hd10, rfl, fun b o e => ?_, (p9.same s10).other (Ne.symm dp), upd_old hd10 (s10 _ _ hM9) (fun _ z => nomatch z), rz9.to fun b xs e => upd_old hd10 (s10 _ _ e) (fun _ z => nomatch z), upd_old hd10 (s10 _ _ hL9) (fun _ z => nomatch z)⟩
      rw [upd_ne (ne_of_none (s8 _ _ (s7 _ _ e)) nd)]
      exact s10 _ _ (s9 _ _ (s8 _ _ (s7 _ _ e)))
    rintro σ H11 ⟨rfl, s11, p11, hM11, rz11, hL11⟩
    -- read again
    refine ⟨fun σ H' => σ = σL a (some (.int (0 + i))) (some (.ref p)) (some (.ref R)) w4 w5 (some (.ref D)) (some (.ref T0)) (some (.ref M')) (some (.ref L)) (some (.ref d)) sp wr ∧ Same H11 H', ?_, ?_⟩
    · refine ⟨_, rfl, L, linesR rows2, rfl, hL11, small_rows ok2, fun _ _ d2 kvs3 H12 n12 s12 hd12 tv12 => ?_, fun i c h1 _ _ h4 e H' _ _ _ => no_bad (lines_ok ok2) (lines_nd ok2) h1 h4⟩
      rw [lines_key ok2, lines_wf ok2] at tv12
      refine ⟨.inr (.inr (.inl ⟨rfl, .inr ⟨_, hd12⟩⟩)), d2, kvs3, rfl, rfl, hd12, fun v hv => ⟨v, d2, kvs3, rfl, upd_same, (Same.new (Same.refl _) hv) _ _ hd12, fun H13 L2 ts ps s13 _ hL2 kat pr => ?_⟩⟩
      have sv := Same.new (o := DX.itemsO v d2) (Same.refl H12) hv
      have s1113 := s12.trans (sv.trans s13)
      have di := items_dp (K := K) s13 tv12.1 ((tv12.to fun b xs e => sv _ _ e).2) kat pr
      refine ⟨_, rfl, .list (rows2.map rowD), .list (rows2.map rowD), .lst (SqL.of hL2) di, .lst (SqL.of (s1113 _ _ hM11)) (rws_dp (rz11.to fun b xs e => s1113 _ _ e)), shr, shr, _, rfl, ?_⟩
      rw [eqv_self shr]
      exact iteF ⟨rfl, s1113⟩
    rintro σ H12 ⟨rfl, s12⟩
    have p12 := p11.same s12
    have hM12 := s12 _ _ hM11
    have hL12 := s12 _ _ hL11
    have rz12 := rz11.to fun b xs e => s12 _ _ e
    -- wrong lines
    refine ⟨fun σ H' => (∃ k p R v4 v5 D T M Ls d sp wr, σ = σL a k p R v4 v5 D T M Ls d sp wr) ∧ Same H1 H', ?_, ?_⟩
    · refine ⟨_, rfl, Nat.zero_le _, fun e he => ?_⟩
      have se := Same.new (o := .lst []) (Same.refl H12) he
      have sh0 : SeqAt.shaped (.list (([] : List Row).map rowD)) = true := rows_shaped (fun _ h => nomatch h) (fun _ h => nomatch h)
      refine ⟨.list (rows2.map rowD), .list (([] : List Row).map rowD), .lst (SqL.of (se _ _ hM12)) (rws_dp (rz12.to fun b xs e => se _ _ e)), .lst (SqL.of upd_same) .nil, shr, sh0, _, rfl, ?_⟩
      have eE : PyData.eqv (.list (rows2.map rowD)) (.list (([] : List Row).map rowD)) = rows2.isEmpty := by
        cases rows2 with
        | nil => simp [PyData.eqv, PyData.eqvAll]
        | cons r rs => simp [PyData.eqv, PyData.eqvAll]
      rw [eE]
      cases hE : rows2.isEmpty with
      | true => exact iteF ⟨⟨_, _, _, _, _, _, _, _, _, _, _, _, rfl⟩, (s11.trans s12).trans se⟩
      | false =>
      have pos : 0 < rows2.length := by
        cases rows2 with
        | nil => cases hE
        | cons r rs => exact Nat.succ_pos _
      have pe := p12.same se
      have sE := (s11.trans s12).trans se
      have hMe := se _ _ hM12
      have hLe := se _ _ hL12
      have rze := rz12.to fun b xs e => se _ _ e
      generalize upd H12 e (.lst []) = HE at pe sE hMe hLe rze
      refine iteT ?_
      -- the spot
      refine ⟨fun σ H' => ∃ j : Nat, σ = σL a (some (.int (0 + i))) (some (.ref p)) (some (.ref R)) w4 w5 (some (.ref D)) (some (.ref T0)) (some (.ref M')) (some (.ref L)) (some (.ref d)) (some (.int j)) wr ∧ j < rows2.length ∧ Keep p HE H' ∧ Pool H' p 330, ?_, ?_⟩
      · exact ⟨_, rfl, _, rfl, M', zs, rfl, .inl (SqL.of hMe), p, 320, zs.length, rfl, pe, by omega, by omega, by omega, fun r H13 r0 r1 k13 p13 => ⟨r.toNat, by rw [Int.toNat_of_nonneg r0]; rfl, by omega, k13, p13.mono (by omega)⟩⟩
      rintro σ H13 ⟨j, rfl, hj, k13, p13⟩
      have hM13 := k13 _ _ Mp hMe
      have hL13 := k13 _ _ Lp hLe
      have rz13 := rze.to (tup_keep pe k13)
      obtain ⟨r, hr'⟩ : ∃ r, rows2[j]? = some r := ⟨_, List.getElem?_eq_getElem hj⟩
      obtain ⟨u, hu, t, pa, ta, rfl, e1, e2, e3⟩ := DX.pget rz13 hr'
      have rmem := List.mem_of_getElem? hr'
      have rp := ok2.p r rmem
      have rf := ok2.f r rmem
      obtain ⟨f, fs, hfs⟩ : ∃ f fs, r.2 = f :: fs := by
        cases h : r.2 with
        | nil => exact absurd h rf.2
        | cons f fs => exact ⟨f, fs, rfl⟩
      have ff : f ∈ fatesS := ft_mem rf f (by rw [hfs]; exact List.mem_cons_self)
      -- the wrong line
      refine ⟨fun σ H' => ∃ z : List Nat, σ = σL a (some (.int (0 + i))) (some (.ref p)) (some (.ref R)) w4 w5 (some (.ref D)) (some (.ref T0)) (some (.ref M')) (some (.ref L)) (some (.ref d)) (some (.int j)) (some (.str (S z))) ∧ readOk z = false ∧ ((∀ x ∈ z, x < 128) ∧ z.length ≤ 1000) ∧ Keep p HE H' ∧ Pool H' p 340, ?_, ?_⟩
      · refine ⟨_, rfl, _, rfl, _, rfl, M', zs, _, _, rfl, rfl, SqL.of hM13, atI_nat hu, t, _, 0, _, rfl, rfl, SqT.of e1, rfl, _, rfl, _, rfl, M', zs, _, _, rfl, rfl, SqL.of hM13, atI_nat hu, t, _, 1, _, rfl, rfl, SqT.of e1, rfl, p, 330, pa, ta, r.1, f, fs, rfl, p13, by omega, e2, rp, by rw [← hfs]; exact e3, by rw [← hfs]; exact rf, fun z H14 hz k14 p14 => ?_⟩
        rw [← hfs] at hz
        exact ⟨z, rfl, odd_bad rp ff z hz, odd_small rp rf ff z hz, k13.trans k14, p14.mono (by omega)⟩
      rintro σ H14 ⟨z, rfl, zbad, zsm, k14, p14⟩
      have hM14 := k14 _ _ Mp hMe
      have hL14 := k14 _ _ Lp hLe
      have rz14 := rze.to (tup_keep pe k14)
      have n1 : (linesR rows2).length = rows2.length := by unfold linesR; rw [List.length_map]
      have sm2 := small_rows ok2
      -- refused at the spot
      refine ⟨fun σ H' => σ = σL a (some (.int (0 + i))) (some (.ref p)) (some (.ref R)) w4 w5 (some (.ref D)) (some (.ref T0)) (some (.ref M')) (some (.ref L)) (some (.ref d)) (some (.int j)) (some (.str (S z))) ∧ Same H14 H', ?_, ?_⟩
      · refine ⟨_, rfl, _, rfl, _, rfl, L, _, rfl, SqL.of hL14, fun q1 hq1 => ?_⟩
        rw [cutV_to, lnsV_take]
        refine ⟨_, rfl, by show 1 ≤ sizeLine; decide, fun q2 hq2 => ?_⟩
        have t1 := Same.new (o := .lst (lnsV ((linesR rows2).take j))) (Same.refl H14) hq1
        have t2 := Same.new (o := .lst [V.str (S z)]) (Same.refl _) hq2
        have lA : ((linesR rows2).take j).length ≤ 8 := Nat.le_trans (List.length_take_le' _ _) (by omega)
        refine ⟨q1, q2, lnsV ((linesR rows2).take j), lnsV [z], rfl, rfl, t2 _ _ upd_same, upd_same, ?_, fun q3 hq3 => ?_⟩
        · rw [lnsV_len, lnsV_len]; exact Nat.le_trans (show _ ≤ 100 by simp; omega) (by decide)
        rw [← lnsV_app]
        have t3 := Same.new (o := .lst (lnsV ((linesR rows2).take j ++ [z]))) (Same.refl _) hq3
        refine ⟨_, rfl, _, rfl, _, _, rfl, rfl, _, rfl, L, _, rfl, SqL.of (t3 _ _ (t2 _ _ (t1 _ _ hL14))), fun q4 hq4 => ?_⟩
        rw [show ((j : Int) + 1) = ((j + 1 : Nat) : Int) by omega, cutV_from, lnsV_drop]
        have t4 := Same.new (o := .lst (lnsV ((linesR rows2).drop (j + 1)))) (Same.refl _) hq4
        have lD : ((linesR rows2).drop (j + 1)).length ≤ 8 := by rw [List.length_drop]; omega
        refine ⟨q3, q4, _, _, rfl, rfl, t4 _ _ upd_same, upd_same, ?_, fun q5 hq5 => ?_⟩
        · rw [lnsV_len, lnsV_len, List.length_append]; exact Nat.le_trans (show _ ≤ 100 by simp; omega) (by decide)
        rw [← lnsV_app]
        have t5 := Same.new (o := .lst (lnsV (((linesR rows2).take j ++ [z]) ++ (linesR rows2).drop (j + 1)))) (Same.refl _) hq5
        refine ⟨by show 1 ≤ sizeLine; decide, fun q6 hq6 => ?_⟩
        have e6 : ([V.str ""] : List V) = lnsV [[]] := by unfold lnsV; rw [List.map_singleton, litN]
        rw [e6]
        have t6 := Same.new (o := .lst (lnsV [[]])) (Same.refl _) hq6
        refine ⟨q5, q6, _, _, rfl, rfl, t6 _ _ upd_same, upd_same, ?_, fun q7 hq7 => ?_⟩
        · rw [lnsV_len, lnsV_len, List.length_append, List.length_append]; exact Nat.le_trans (show _ ≤ 100 by simp; omega) (by decide)
        rw [← lnsV_app]
        have eZ : (((linesR rows2).take j ++ [z]) ++ (linesR rows2).drop (j + 1)) ++ [[]] = (linesR rows2).take j ++ z :: ((linesR rows2).drop (j + 1) ++ [[]]) := by simp only [List.append_assoc, List.singleton_append, List.cons_append, List.nil_append]
        rw [eZ]
        have t7 := Same.new (o := .lst (lnsV ((linesR rows2).take j ++ z :: ((linesR rows2).drop (j + 1) ++ [[]])))) (Same.refl _) hq7
        have t17 := t1.trans (t2.trans (t3.trans (t4.trans (t5.trans (t6.trans t7)))))
        have okA : ∀ c ∈ (linesR rows2).take j, readOk c = true := fun c hc => lines_ok ok2 c (List.mem_of_mem_take hc)
        have ndA : (((linesR rows2).take j).map keyC).Nodup := by rw [List.map_take]; exact (lines_nd ok2).sublist (List.take_sublist _ _)
        refine ⟨q7, _, rfl, upd_same, ⟨?_, fun c hc => ?_, fun c hc => ?_⟩, fun h1 h2 => (not_good (.inl zbad) h1 h2).elim, fun i' c h1 h2 h3 h4 H15 s15 => ?_⟩
        · rw [List.length_append, List.length_cons, List.length_append]; exact show _ ≤ 100 by simp; omega
        · rcases List.mem_append.mp hc with h | h
          · exact sm2.l c (List.mem_of_mem_take h)
          · rcases List.mem_cons.mp h with rfl | h
            · exact Nat.le_trans zsm.2 (by decide)
            · rcases List.mem_append.mp h with h | h
              · exact sm2.l c (List.mem_of_mem_drop h)
              · rw [List.mem_singleton.mp h]; decide
        · rcases List.mem_append.mp hc with h | h
          · exact sm2.a c (List.mem_of_mem_take h)
          · rcases List.mem_cons.mp h with rfl | h
            · exact zsm.1
            · rcases List.mem_append.mp h with h | h
              · exact sm2.a c (List.mem_of_mem_drop h)
              · rw [List.mem_singleton.mp h]; intro x hx; cases hx
        · have ij := first_bad okA ndA (.inl zbad) h1 h2 h3 h4
          rw [List.length_take, n1, Nat.min_eq_left (Nat.le_of_lt hj)] at ij
          subst ij
          refine ⟨_, rfl, rfl, _, rfl, ?_⟩
          rw [decide_eq_true rfl]
          exact iteF ⟨rfl, t17.trans s15⟩
      rintro σ H15 ⟨rfl, s15⟩
      have hM15 := s15 _ _ hM14
      have hL15 := s15 _ _ hL14
      have rz15 := rz14.to fun b xs e => s15 _ _ e
      obtain ⟨u2, hu2, t', pa', ta', rfl, g1, g2, g3⟩ := DX.pget rz15 hr'
      -- a place twice
      refine ⟨_, rfl, _, rfl, _, rfl, M', zs, _, _, rfl, rfl, SqL.of hM15, atI_nat hu2, t', _, 0, _, rfl, rfl, SqT.of g1, rfl, by show 1 ≤ sizeLine; decide, fun b hb => ?_⟩
      have t1 := Same.new (o := .tup [V.str "less"]) (Same.refl H15) hb
      have fl : FtOk ["less"] := ⟨by decide +kernel, by simp⟩
      refine ⟨pa', b, r.1, ["less"], rfl, SqT.of (t1 _ _ g2), rp, .inl (SqT.of upd_same), .inl fl, fun H16 s16 => ⟨by show 1 ≤ sizeLine; decide, fun q2 hq2 => ?_⟩⟩
      have t2 := Same.new (o := .lst (lnsV [lineL r.1 ["less"]])) (Same.refl H16) hq2
      refine ⟨L, q2, _, lnsV [lineL r.1 ["less"]], rfl, rfl, t2 _ _ (s16 _ _ (t1 _ _ hL15)), upd_same, ?_, fun q3 hq3 => ?_⟩
      · rw [lnsV_len, lnsV_len, n1]; exact Nat.le_trans (show _ ≤ 100 by simp; omega) (by decide)
      rw [← lnsV_app]
      have t3 := Same.new (o := .lst (lnsV (linesR rows2 ++ [lineL r.1 ["less"]]))) (Same.refl _) hq3
      have t13 := t1.trans (s16.trans (t2.trans t3))
      have twice : keyC (lineL r.1 ["less"]) ∈ (linesR rows2).map keyC := by
        rw [keyC_line rp, lines_key ok2]
        exact List.mem_map.mpr ⟨r, rmem, rfl⟩
      have ra := row_ascii rp fl
      refine ⟨q3, _, rfl, upd_same, ⟨?_, fun c hc => ?_, fun c hc => ?_⟩, fun h1 h2 => (not_good (rest := []) (.inr twice) h1 h2).elim, fun i' c h1 h2 h3 h4 H17 s17 => ?_⟩
      · rw [List.length_append, n1]; exact show _ ≤ 100 by simp; omega
      · rcases List.mem_append.mp hc with h | h
        · exact sm2.l c h
        · rw [List.mem_singleton.mp h]; exact Nat.le_trans ra.2 (by decide)
      · rcases List.mem_append.mp hc with h | h
        · exact sm2.a c h
        · rw [List.mem_singleton.mp h]; exact ra.1
      · have ij := first_bad (rest := []) (lines_ok ok2) (lines_nd ok2) (.inr twice) h1 h2 h3 h4
        refine ⟨_, rfl, L, _, rfl, .inl (SqL.of (s17 _ _ (t13 _ _ hL15))), rfl, _, rfl, ?_⟩
        rw [lnsV_len, ij, decide_eq_true rfl]
        exact iteF ⟨⟨_, _, _, _, _, _, _, _, _, _, _, _, rfl⟩, fun b o e => s17 _ _ (t13 _ _ (s15 _ _ (k14 _ _ (ne_of_none e np) (sE _ _ e))))⟩
    rintro σ H13 ⟨hσ, s13⟩
    -- nothing and a line of nothing
    refine ⟨Nat.zero_le _, fun e he => ⟨e, [], rfl, upd_same, ⟨Nat.zero_le _, fun _ h => (nomatch h), fun _ h => (nomatch h)⟩, fun _ _ H14 s14 => ⟨rfl, _, rfl, iteF ⟨by show 1 ≤ sizeLine; decide, fun e2 he2 => ?_⟩⟩, fun i' c h => nomatch h⟩⟩
    have s1' := Same.new (o := .lst []) (Same.refl H13) he
    have s2' := Same.new (o := .lst [V.str ""]) (Same.refl H14) he2
    refine ⟨e2, [[]], rfl, (by rw [upd_same, ← litN]; rfl), ⟨by decide, fun c h => (by rw [List.mem_singleton.mp h]; decide), fun c h x hx => (by rw [List.mem_singleton.mp h] at hx; cases hx)⟩, fun h _ => ?_, fun i' c h _ _ _ H15 s15 => ?_⟩
    · have := h [] List.mem_cons_self
      rw [bad_len (by decide)] at this
      cases this
    · have i0 : i' = 0 := by
        have := (List.getElem?_eq_some_iff.mp h).1
        have h1 : ([[]] : List (List Nat)).length = 1 := rfl
        omega
      subst i0
      exact ⟨rfl, _, rfl, iteF ⟨hσ, s1.trans (s13.trans (s1'.trans (s14.trans (s2'.trans s15))))⟩⟩
end
end K5

/-! the end of a law row for a promise that asks that no repr is under way -/
namespace L2
open PySem PySem.Spec PyProof.Rows
section
variable {P : Program} {w : World} {K : PySem.W.Frag} {mg mb : Str → Option Value} {k : Nat} {fa a : Addr} {fd : FuncData} {x : Str} {sp : Sp} {s : Shared} {vs : List Value} {ns : List Int}
/-- what the caller asks of the end -/
abbrev AskedK (s : Shared) : Result → Shared → Prop := fun r s' => r = .ok (.ret (.bool true)) ∧ OldK s.heap s'.heap ∧ s'.os = s.os ∧ AllBare s'.gens
theorem endG_of {H : Hp} (KX : K.In s.heap) (hns : s.heap.Ns mainGlobals mg) (hb : s.heap.Ns builtinsNs mb) (hbb : ∀ x : Str, x ≠ "__name__" → mb x = bootBuiltins x) (hlim : s.heap.NoLimit) (hg : s.gens = #[])
    (hobj : s.heap.get? a = some { cls := .type "list", data := .seq vs.toArray }) (hroom : Room k callerA)
    (F : ∀ base : Heap, K.In base → base.Ns mainGlobals mg → FnG P w K mg base k fa fd [x] sp) (hbind : ∀ (s : Shared) (u : Value), BindsTo s fd ⟨[u], []⟩ [(x, u)])
    (hO : Only H) (hok : HOk P w H s.heap) (one : ∀ b, H b ≠ none → b = a) (free : H a ≠ none → K.lookup a = none)
    (hsp : sp [.ref a] H (fun v _ => v = .bl true) E0) : codeAny (model P w) callerA (.call (.ref fa) ⟨[.ref a], []⟩) (AskedK s) s := by
  have base_of : ∀ {b : Addr} {o : Obj}, s.heap.get? b = some o → H b = none → (hidT s.heap H).get? b = some o := fun e n => hidT_get e n
  have apart : ∀ {b : Addr}, b ≠ a → H b = none := fun {b} hba => Classical.byContradiction fun z => hba (one b z)
  have notDict : ∀ {b : Addr} {o : Obj} {es : Array DictEntry} {ep : Nat}, s.heap.get? b = some o → o.data = .dict es ep → H b = none := by
    intro b o es ep e d
    refine apart fun z => ?_
    rw [z, hobj] at e
    cases e
    cases d
  have keepNs : ∀ {b : Addr} {m : Str → Option Value}, s.heap.Ns b m → (hidT s.heap H).Ns b m := by
    rintro b m ⟨o, es, ep, e, d, r⟩
    exact ⟨o, es, ep, base_of e (notDict e d), d, r⟩
  have inBase : K.In (hidT s.heap H) := by
    intro b o e
    refine base_of (KX b o e) (Classical.byContradiction fun z => ?_)
    have hba := one b z
    subst hba
    rw [free z] at e
    cases e
  have md : Mod K mg (hidT s.heap H) := by
    refine ⟨inBase, keepNs hns, ⟨mb, keepNs hb, hbb⟩, ?_⟩
    obtain ⟨mc, h1, h2⟩ := hlim
    exact ⟨mc, keepNs h1, h2⟩
  have env0 : Env0 P w K mg (hidT s.heap H) callerA [] s H := by
    refine ⟨rfl, md, fun b o e => of_hidT e, Nat.le_of_eq (hidT_size _ _), trivial, ?_, hok, .of_eq hg⟩
    intro b hb
    exact absurd (show b ∈ ([] : List Addr) from hb) (by simp)
  refine codeAny_mono ((F _ inBase (keepNs hns)).go callerA [] s H ⟨[.ref a], []⟩ [.ref a] [.ref a] _ rfl hroom env0 (hbind s (.ref a)) (.cons rfl .nil) hsp) ?_
  rintro (er | (_ | _ | _ | u)) s' h
  · exact h.elim
  · exact h.elim
  · exact h.elim
  · exact h.elim
  · obtain ⟨v, H', os, bare, un, hok', rv, q⟩ := h
    have q' : v = .bl true := q
    subst q'
    obtain rfl : u = Value.bool true := rv
    refine ⟨rfl, OldK.of_keep ?_, os, bare⟩
    intro b o e
    rcases hO b with z | ⟨ob, xs, z⟩
    · exact un.keep b o e z (by intro y; exact absurd (show b ∈ ([] : List Addr) from y) (by simp)) (by simp)
    · obtain ⟨e1, _⟩ := hok b _ z
      obtain ⟨e2, _⟩ := hok' b _ (un.frzs b ob _ z)
      rw [e] at e1
      cases e1
      exact e2
theorem law_callG (KX : K.In s.heap) (hns : s.heap.Ns mainGlobals mg) (hb : s.heap.Ns builtinsNs mb) (hbb : ∀ x : Str, x ≠ "__name__" → mb x = bootBuiltins x) (hlim : s.heap.NoLimit) (hg : s.gens = #[])
    (hobj : s.heap.get? a = some { cls := .type "list", data := .seq vs.toArray }) (hi : IntsAre vs ns) (hl : ns.length ≤ sizeLine) (hroom : Room k callerA)
    (F : ∀ base : Heap, K.In base → base.Ns mainGlobals mg → FnG P w K mg base k fa fd [x] sp) (hbind : ∀ (s : Shared) (u : Value), BindsTo s fd ⟨[u], []⟩ [(x, u)])
    (hsp : ∀ H : Hp, Only H → SqL K H a (ns.map V.int) → sp [.ref a] H (fun v _ => v = .bl true) E0) : codeAny (model P w) callerA (.call (.ref fa) ⟨[.ref a], []⟩) (AskedK s) s := by
  have rv := vals_ints hi
  have lenV := hi.length
  cases hk : K.lookup a with
  | some o =>
    have e := KX a o hk
    rw [hobj] at e
    cases e
    have sq : SqL K (fun _ => none) a (ns.map V.int) := .inr ⟨_, vs.toArray, _, hk, rfl, rfl, rfl, by rw [List.size_toArray, lenV]; exact hl, by simpa using rv⟩
    have only : Only (fun _ => none) := fun _ => .inl rfl
    have hok : HOk P w (fun _ => none) s.heap := by
      intro b u z
      have z' : (none : Option HO) = some u := z
      cases z'
    exact endG_of KX hns hb hbb hlim hg hobj hroom F hbind only hok (fun b z => absurd rfl z) (fun z => absurd rfl z) (hsp _ only sq)
  | none =>
    let O : Obj := { cls := .type "list", data := .seq vs.toArray }
    let H : Hp := fun b => if b = a then some (.frz O (.lst (ns.map V.int))) else none
    have atA : H a = some (.frz O (.lst (ns.map V.int))) := if_pos rfl
    have off : ∀ b, b ≠ a → H b = none := fun b n => if_neg n
    have only : Only H := by
      intro b
      by_cases n : b = a
      · exact .inr ⟨O, ns.map V.int, by rw [n]; exact atA⟩
      · exact .inl (off b n)
    have hok : HOk P w H s.heap := by
      intro b u z
      by_cases n : b = a
      · subst n
        rw [atA] at z
        cases z
        exact ⟨hobj, by rw [List.length_map]; exact hl, vs, _, rv, hobj⟩
      · rw [off b n] at z
        cases z
    have one : ∀ b, H b ≠ none → b = a := fun b z => Classical.byContradiction fun n => z (off b n)
    exact endG_of KX hns hb hbb hlim hg hobj hroom F hbind only hok one (fun _ => hk) (hsp _ only (.inl (.inr ⟨O, atA⟩)))
end
/-- the goal that k_head leaves, from the law's promise -/
theorem walk_ofG {l : PySem.W.OpenLaw} {n k : Nat} {q : Program} {loose : List Str} {XP : (Str → Option Value) → Heap → Prop} {YP : World → Heap → Prop} {d : DefRec} {K : Params → PySem.W.Frag} {sp : World → Sp} {x : Str}
    (hn : l.most = some n) (hn2 : n ≤ sizeLine) (hdf : d.params.defaults = []) (hr : Room k callerA) (hY : ∀ (w : World) (h : Heap), YP w h → (K w.params).In h)
    (F : ∀ (w : World) (mg : Str → Option Value) (fa : Addr) (h : Heap), (K w.params).In h → h.Ns mainGlobals mg → mg d.name = some (.ref fa) →
      ∃ fd : FuncData, (∀ (s : Shared) (u : Value), BindsTo s fd ⟨[u], []⟩ [(x, u)]) ∧ ∀ base : Heap, (K w.params).In base → base.Ns mainGlobals mg → FnG l.prog w (K w.params) mg base k fa fd [x] (sp w))
    (hsp : ∀ (w : World) (H : Hp) (a : Addr) (ns : List Int), ns.length ≤ n → Only H → SqL (K w.params) H a (ns.map V.int) → sp w [.ref a] H (fun v _ => v = .bl true) E0) :
    PySem.W.WalkO q loose XP YP l.row.toRowW d [] (fun f vs => PySem.call f vs) := by
  refine Att.attach_call hn hdf ?_
  intro w s₀ s₁ mg mb fa o pm cd doc a vs ns G Y ho hd hcd hmg hobj hints hlen hg
  have KX := hY w _ Y
  obtain ⟨fd, hb, hF⟩ := F w mg fa _ KX G.T.g hmg
  exact law_callG KX G.T.g G.T.b G.T.builtins G.T.nolimit hg hobj hints (Nat.le_trans hlen hn2) hr hF hb (fun H hO hS => hsp w H a ns hlen hO hS)
end L2

namespace K5
open PySem L2
/-- a def that the written part holds under its own name -/
def Held (K : PySem.W.Frag) (mg : Str → Option Value) (x : Str) (st : Stmt) (f : Addr) (fd : FuncData) : Prop := Fun K x x st f fd ∧ mg x = some (.ref f)
structure Rest (P : Program) (K : PySem.W.Frag) (mg : Str → Option Value) (C fI aW aF aK aR aY : Addr) : Prop where
  T : Mod mg
  TE : K15E.ErrTxt P K mg C fI
  XF : XfC K C
  W : TupG K mg "WIDTHS" aW WIDTHS
  F : TupG K mg "FATES" aF (fatesS.map V.str)
  KK : TupG K mg "KINDS" aK KINDS
  RR : TupG K mg "ROLES" aR ROLES
  Y : TupG K mg "LAYERS" aY LAYERS
  zE : mg "enumerate" = none
  zS : mg "sorted" = none
  zmax : mg "max" = none
  zmin : mg "min" = none
theorem all_of {P : Program} {w : World} {K : PySem.W.Frag} {mg : Str → Option Value} {base : Heap} {C fI aW aF aK aR aY : Addr} {fCons fIsW fPL fFO fFI fRL fRP fLR fPO fPool fPick fOf fWord fWords fTa fLL fTu fWr fRf fLaw : Addr} {dCons dIsW dPL dFO dFI dRL dRP dLR dPO dPool dPick dOf dWord dWords dTa dLL dTu dWr dRf dLaw : FuncData} (R : Rest P K mg C fI aW aF aK aR aY)
    (hCons : Held K mg "consists_of" sConsists fCons dCons) (hIsW : Held K mg "is_word" sIsWord fIsW dIsW) (hPL : Held K mg "page_line" sPL fPL dPL) (hFO : Held K mg "fields_of" sFO fFO dFO) (hFI : Held K mg "fates_in" sFI fFI dFI) (hRL : Held K mg "read_line" sRL fRL dRL) (hRP : Held K mg "read_page" sRP fRP dRP) (hLR : Held K mg "line_rank" sLR fLR dLR) (hPO : Held K mg "page_of" sPO fPO dPO) (hPool : Held K mg "_law_pool" sPool fPool dPool) (hPick : Held K mg "_law_pick" sPick fPick dPick) (hOf : Held K mg "_law_of" K5S.sOf fOf dOf) (hWord : Held K mg "_law_word" K5S.sLawWord fWord dWord) (hWords : Held K mg "_law_words" sWords fWords dWords) (hTa : Held K mg "_law_table" sTa fTa dTa) (hLL : Held K mg "_law_line" sLL fLL dLL) (hTu : Held K mg "_law_turned" sTu fTu dTu) (hWr : Held K mg "_law_wrong" sWr fWr dWr) (hRf : Held K mg "_law_refused" sRf fRf dRf) (hLaw : Fun K "law" "law" sLaw fLaw dLaw)
    (bCons : Binds K dCons ["thing", "characters"] []) (bIsW : Binds K dIsW ["thing"] []) (bPL : Binds K dPL ["place", "found"] []) (bFO : Binds K dFO ["line"] []) (bFI : Binds K dFI ["text"] []) (bRL : Binds K dRL ["line"] []) (bRP : Binds K dRP ["lines"] []) (bLR : Binds K dLR ["place"] []) (bPO : Binds K dPO ["table"] []) (bPool : Binds K dPool ["_law_script", "_law_place", "_law_salt"] []) (bPick : Binds K dPick ["_law_pool_here", "_law_many"] []) (bOf : Binds K dOf ["_law_pool_here", "_law_some"] []) (bWord : Binds K dWord ["_law_pool_here", "_law_taken"] []) (bWords : Binds K dWords ["_law_pool_here", "_law_many", "_law_taken"] []) (bTa : Binds K dTa ["_law_pool_here"] []) (bLL : Binds K dLL ["_law_place", "_law_some"] []) (bTu : Binds K dTu ["_law_pool_here", "_law_some"] []) (bWr : Binds K dWr ["_law_pool_here", "_law_place", "_law_some"] []) (bRf : Binds K dRf ["_law_lines"] []) : FnG P w K mg base 6 fLaw dLaw ["_law_script"] (spLaw K) := by
  have T1 : Mod mg := R.T
  have T0 : Bare mg := R.T.toBare
  have GCons : FnOk P w K mg base CX0 1 fCons dCons ["thing", "characters"] (spConsists K) := ok_consists hCons.1 T1
  have GIsW : FnOk P w K mg base CX0 2 fIsW dIsW ["thing"] (spL K wordD) := ok_word hIsW.1 T1 ⟨fCons, dCons, hCons.1.kp, GCons, bCons, hCons.2⟩
  have GPL : FnOk P w K mg base CX0 1 fPL dPL ["place", "found"] (spPL K) := ok_pl hPL.1
  have GFO : FnOk P w K mg base CX0 1 fFO dFO ["line"] spFO := ok_fo hFO.1 R.W
  have GFI : FnOk P w K mg base CX0 1 fFI dFI ["text"] (spFI K) := ok_fi hFI.1 T1 R.F
  have GRL : FnOk P w K mg base CX0 3 fRL dRL ["line"] spRL := ok_rl hRL.1 T1 R.KK R.Y R.RR ⟨fFO, dFO, hFO.1.kp, GFO, bFO, hFO.2⟩ ⟨fFI, dFI, hFI.1.kp, GFI, bFI, hFI.2⟩ ⟨fIsW, dIsW, hIsW.1.kp, GIsW, bIsW, hIsW.2⟩
  have GRP : FnOk P w K mg base (L2.CX P w) 4 fRP dRP ["lines"] (spRP K C) := ok_rp hRP.1 R.TE R.zE ⟨fRL, dRL, hRL.1.kp, GRL, bRL, hRL.2⟩
  have GLR : FnOk P w K mg base CX0 1 fLR dLR ["place"] (spRank K) := ok_lr hLR.1 R.KK R.RR
  have GPO : FnOk P w K mg base CX0 4 fPO dPO ["table"] spPO := ok_po hPO.1 R.zS ⟨fPL, dPL, hPL.1.kp, GPL, bPL, hPL.2⟩ ⟨fLR, dLR, hLR.1.kp, GLR, bLR, hLR.2⟩
  have GPool : FnOk P w K mg base CX0 1 fPool dPool ["_law_script", "_law_place", "_law_salt"] (spPool K) := ok_pool hPool.1 T0
  have GPick : FnOk P w K mg base CX0 1 fPick dPick ["_law_pool_here", "_law_many"] spPick := ok_pick hPick.1 T0
  have GOf : FnOk P w K mg base CX0 2 fOf dOf ["_law_pool_here", "_law_some"] K5S.spOf := K5S.ok_of hOf.1 T1 hPick.1.kp GPick bPick hPick.2
  have GWord : FnOk P w K mg base CX0 2 fWord dWord ["_law_pool_here", "_law_taken"] K5S.spLawWord := K5S.ok_lawWord hWord.1 T1 hPick.1.kp GPick bPick hPick.2
  have GWords : FnOk P w K mg base CX0 3 fWords dWords ["_law_pool_here", "_law_many", "_law_taken"] spWords := ok_words hWords.1 T0 ⟨fWord, dWord, hWord.1.kp, GWord, bWord, hWord.2⟩
  have GTa : FnOk P w K mg base CX0 4 fTa dTa ["_law_pool_here"] (spTab K) := ok_ta hTa.1 T0 R.zS ⟨fPick, dPick, hPick.1.kp, GPick, bPick, hPick.2⟩ ⟨fOf, dOf, hOf.1.kp, GOf, bOf, hOf.2⟩ ⟨fWords, dWords, hWords.1.kp, GWords, bWords, hWords.2⟩
  have GLL : FnOk P w K mg base CX0 1 fLL dLL ["_law_place", "_law_some"] (spPL K) := ok_ll hLL.1 T1
  have GTu : FnOk P w K mg base CX0 2 fTu dTu ["_law_pool_here", "_law_some"] spTu := ok_tu hTu.1 T0 ⟨fPick, dPick, hPick.1.kp, GPick, bPick, hPick.2⟩
  have GWr : FnOk P w K mg base CX0 3 fWr dWr ["_law_pool_here", "_law_place", "_law_some"] (spWr K) := ok_wr hWr.1 T0 ⟨fLL, dLL, hLL.1.kp, GLL, bLL, hLL.2⟩ ⟨fOf, dOf, hOf.1.kp, GOf, bOf, hOf.2⟩
  have GRf : FnOk P w K mg base CX0 5 fRf dRf ["_law_lines"] spRf := ok_rf hRf.1 R.TE R.XF hRP.1.kp GRP bRP hRP.2
  exact ok_law hLaw T1 R.zmax R.zmin ⟨fPool, dPool, hPool.1.kp, GPool, bPool, hPool.2⟩ ⟨fPick, dPick, hPick.1.kp, GPick, bPick, hPick.2⟩ ⟨fTa, dTa, hTa.1.kp, GTa, bTa, hTa.2⟩ ⟨fTu, dTu, hTu.1.kp, GTu, bTu, hTu.2⟩ ⟨fLL, dLL, hLL.1.kp, GLL, bLL, hLL.2⟩ ⟨fPO, dPO, hPO.1.kp, GPO, bPO, hPO.2⟩ hRP.1.kp GRP bRP hRP.2 ⟨fWr, dWr, hWr.1.kp, GWr, bWr, hWr.2⟩ ⟨fRf, dRf, hRf.1.kp, GRf, bRf, hRf.2⟩
end K5

namespace K5
open PySem L2
section
variable {K : PySem.W.Frag} {h : Heap} {mg : Str → Option Value}
/-- a def of the top, read off the written part -/
theorem held {x : Str} {st : Stmt} {f : Addr} {oc : Value} {od an : Option Addr} {osl : Array (Option Value)} {kV doc pm cdv ct : Value} (X : K.In h) (G : h.Ns mainGlobals mg) (a : PySem.W.nsIn K mainGlobals x = some (some (.ref f)))
    (l : K.lookup f = some ⟨oc, od, .func (PySem.W.fnOf x x (defArgs st) (defBody st) (defScope st) .none kV doc pm an cdv ct), osl⟩) (c : PySem.W.codeIn K cdv x = true) (k : PySem.W.keepIn K (.ref f) = true) : Held K mg x st f (PySem.W.fnOf x x (defArgs st) (defBody st) (defScope st) .none kV doc pm an cdv ct) :=
  ⟨fun_mk l c k, PySem.W.mg_of X G a⟩
theorem tupK {a : Addr} {its : Array Value} {n : Nat} {sl : Array (Option Value)} {t0 t1 t2 t3 : Tok} (g : mg "KINDS" = some (.ref a)) (l : K.lookup a = some ⟨.type "tuple", none, .seq its n, sl⟩) (e : its = #[.str "left" t0, .str "doubled" t1, .str "swapped" t2, .str "written" t3]) : TupG K mg "KINDS" a KINDS := by
  subst e
  have ev : KINDS = [V.str "left", V.str "doubled", V.str "swapped", V.str "written"] := by decide +kernel
  rw [ev]
  exact ⟨g, ⟨_, _, n, l, rfl, rfl, by show 4 ≤ sizeLine; decide, (.cons ⟨_, rfl⟩ (.cons ⟨_, rfl⟩ (.cons ⟨_, rfl⟩ (.cons ⟨_, rfl⟩ .nil))))⟩, ⟨_, l, rfl, rfl⟩⟩
theorem tupR {a : Addr} {its : Array Value} {n : Nat} {sl : Array (Option Value)} {t0 t1 t2 t3 t4 t5 t6 t7 t8 : Tok} (g : mg "ROLES" = some (.ref a)) (l : K.lookup a = some ⟨.type "tuple", none, .seq its n, sl⟩) (e : its = #[.str "name" t0, .str "equals" t1, .str "word" t2, .str "number" t3, .str "open" t4, .str "item" t5, .str "comma" t6, .str "close" t7, .str "end" t8]) : TupG K mg "ROLES" a ROLES := by
  subst e
  have ev : ROLES = [V.str "name", V.str "equals", V.str "word", V.str "number", V.str "open", V.str "item", V.str "comma", V.str "close", V.str "end"] := by decide +kernel
  rw [ev]
  exact ⟨g, ⟨_, _, n, l, rfl, rfl, by show 9 ≤ sizeLine; decide, (.cons ⟨_, rfl⟩ (.cons ⟨_, rfl⟩ (.cons ⟨_, rfl⟩ (.cons ⟨_, rfl⟩ (.cons ⟨_, rfl⟩ (.cons ⟨_, rfl⟩ (.cons ⟨_, rfl⟩ (.cons ⟨_, rfl⟩ (.cons ⟨_, rfl⟩ .nil)))))))))⟩, ⟨_, l, rfl, rfl⟩⟩
theorem tupF {a : Addr} {its : Array Value} {n : Nat} {sl : Array (Option Value)} {t0 t1 t2 t3 t4 t5 t6 : Tok} (g : mg "FATES" = some (.ref a)) (l : K.lookup a = some ⟨.type "tuple", none, .seq its n, sl⟩) (e : its = #[.str "reader" t0, .str "schema" t1, .str "joining" t2, .str "builder" t3, .str "same" t4, .str "more" t5, .str "less" t6]) : TupG K mg "FATES" a (fatesS.map V.str) := by
  subst e
  have ev : (fatesS.map V.str) = [V.str "reader", V.str "schema", V.str "joining", V.str "builder", V.str "same", V.str "more", V.str "less"] := by rfl
  rw [ev]
  exact ⟨g, ⟨_, _, n, l, rfl, rfl, by show 7 ≤ sizeLine; decide, (.cons ⟨_, rfl⟩ (.cons ⟨_, rfl⟩ (.cons ⟨_, rfl⟩ (.cons ⟨_, rfl⟩ (.cons ⟨_, rfl⟩ (.cons ⟨_, rfl⟩ (.cons ⟨_, rfl⟩ .nil)))))))⟩, ⟨_, l, rfl, rfl⟩⟩
theorem tupY {a : Addr} {its : Array Value} {n : Nat} {sl : Array (Option Value)} {t0 t1 t2 : Tok} (g : mg "LAYERS" = some (.ref a)) (l : K.lookup a = some ⟨.type "tuple", none, .seq its n, sl⟩) (e : its = #[.str "0" t0, .str "1" t1, .str "2" t2]) : TupG K mg "LAYERS" a LAYERS := by
  subst e
  have ev : LAYERS = [V.str "0", V.str "1", V.str "2"] := by decide +kernel
  rw [ev]
  exact ⟨g, ⟨_, _, n, l, rfl, rfl, by show 3 ≤ sizeLine; decide, (.cons ⟨_, rfl⟩ (.cons ⟨_, rfl⟩ (.cons ⟨_, rfl⟩ .nil)))⟩, ⟨_, l, rfl, rfl⟩⟩
theorem tupW {a : Addr} {its : Array Value} {n : Nat} {sl : Array (Option Value)} {t0 t1 t2 t3 : Tok} (g : mg "WIDTHS" = some (.ref a)) (l : K.lookup a = some ⟨.type "tuple", none, .seq its n, sl⟩) (e : its = #[.int 8 t0, .int 2 t1, .int 8 t2, .int 13 t3]) : TupG K mg "WIDTHS" a WIDTHS := by
  subst e
  have ev : WIDTHS = [V.int 8, V.int 2, V.int 8, V.int 13] := by decide +kernel
  rw [ev]
  exact ⟨g, ⟨_, _, n, l, rfl, rfl, by show 4 ≤ sizeLine; decide, (.cons ⟨_, rfl⟩ (.cons ⟨_, rfl⟩ (.cons ⟨_, rfl⟩ (.cons ⟨_, rfl⟩ .nil))))⟩, ⟨_, l, rfl, rfl⟩⟩
end
theorem all_mk {P : Program} {w : World} {K : PySem.W.Frag} {h : Heap} {mg : Str → Option Value} {fa C CE fI aW aF aK aR aY : Addr} (X : K.In h) (G : h.Ns mainGlobals mg) (hfa : mg "law" = some (.ref fa))
    {nm q : Str} {N : Addr} {bs : List Value} {sn : List Str} {sub : List Value} {ab : Bool} {col : Option Bool} {dd : Option Addr} {m0 m1 m2 m3 m5 : Option Value} {oI pmI ctI : Value} {odI anI : Option Addr} {slI : Array (Option Value)} {docI : Value} {cda cc : Addr}
    {ccl : Value} {cdd : Option Addr} {vs : Array Value} {ccs : Array (Option Value)} {file : Str} {tf : Tok} {cl : Value} {cld : Option Addr} {csl : Array (Option Value)} {tL tM kk0 kk1 kk2 kk3 rk0 rk1 rk2 rk3 rk4 rk5 rk6 rk7 rk8 fk0 fk1 fk2 fk3 fk4 fk5 fk6 yk0 yk1 yk2 wk0 wk1 wk2 wk3 : Tok} {itK itR itF itY itW : Array Value} {nK nR nF nY nW : Nat} {slK slR slF slY slW : Array (Option Value)}
    {fCons fIsW fPL fFO fFI fRL fRP fLR fPO fPool fPick fOf fWord fWords fTa fLL fTu fWr fRf fLaw : Addr} {odCons anCons odIsW anIsW odPL anPL odFO anFO odFI anFI odRL anRL odRP anRP odLR anLR odPO anPO odPool anPool odPick anPick odOf anOf odWord anWord odWords anWords odTa anTa odLL anLL odTu anTu odWr anWr odRf anRf odLaw anLaw : Option Addr} {slCons slIsW slPL slFO slFI slRL slRP slLR slPO slPool slPick slOf slWord slWords slTa slLL slTu slWr slRf slLaw : Array (Option Value)}
    {ocCons kVCons dcCons pmCons cdCons ctCons ocIsW kVIsW dcIsW pmIsW cdIsW ctIsW ocPL kVPL dcPL pmPL cdPL ctPL ocFO kVFO dcFO pmFO cdFO ctFO ocFI kVFI dcFI pmFI cdFI ctFI ocRL kVRL dcRL pmRL cdRL ctRL ocRP kVRP dcRP pmRP cdRP ctRP ocLR kVLR dcLR pmLR cdLR ctLR ocPO kVPO dcPO pmPO cdPO ctPO ocPool kVPool dcPool pmPool cdPool ctPool ocPick kVPick dcPick pmPick cdPick ctPick ocOf kVOf dcOf pmOf cdOf ctOf ocWord kVWord dcWord pmWord cdWord ctWord ocWords kVWords dcWords pmWords cdWords ctWords ocTa kVTa dcTa pmTa cdTa ctTa ocLL kVLL dcLL pmLL cdLL ctLL ocTu kVTu dcTu pmTu cdTu ctTu ocWr kVWr dcWr pmWr cdWr ctWr ocRf kVRf dcRf pmRf cdRf ctRf ocLaw kVLaw dcLaw pmLaw cdLaw ctLaw : Value}
    (aSE : PySem.W.nsIn K mainGlobals "SettingsError" = some (some (.ref CE)))
    (aC : PySem.W.nsIn K mainGlobals "BadPage" = some (some (.ref C)))
    (xL : K.lookup C = some (excClassObj nm q C N bs [.ref CE, .type "ValueError", .type "Exception", .type "BaseException", .type "object"] true sn sub ab col dd m0 m1 m2 m3 m5 "ValueError.__new__"))
    (sa : PySem.W.findIn K (.ref C) "__setattr__" = some (some (.builtin "object.__setattr__")))
    (ga : PySem.W.findIn K (.ref C) "__getattribute__" = some (some (.builtin "BaseException.__getattribute__")))
    (gg : PySem.W.findIn K (.ref C) "__getattr__" = some none)
    (nb : PySem.W.findIn K (.ref C) "line" = some none)
    (iC : PySem.W.findIn K (.ref C) "__init__" = some (some (.ref fI)))
    (tI : PySem.W.typeIn K (.ref fI) = some (.type "function"))
    (kC : PySem.W.keepIn K (.ref C) = true)
    (eC : PySem.W.subIn K (.ref C) (.type "BaseException") = some true)
    (vC : PySem.W.subIn K (.ref C) (.type "ValueError") = some true)
    (tC : PySem.W.typeIn K (.ref C) = some (.type "type"))
    (hC : PySem.W.hasDictIn K C = true)
    (sC : PySem.W.subIn K (.ref C) (.ref C) = some true)
    (mC : PySem.W.mroIn K C (.ref C) = some true)
    (sup : PySem.W.ks_superIn K C C "__init__" = some (some (.builtin "ValueError.__init__")))
    (tp : PySem.W.nsIn K PySem.cStatics "thirdparty.any" = some none)
    (su : PySem.W.nsIn K mainGlobals "super" = some none)
    (topp : (P.main.scope.names.lookup ("super" : Str)).isSome = false)
    (lI : K.lookup fI = some ⟨oI, odI, .func (PySem.W.ksFn "__init__" "BadPage.__init__" (K15E.eA ⟨6, 17, 6, 21⟩ ⟨6, 23, 6, 27⟩) (K15E.eB "a wrong line of a page" 0 ⟨7, 8, 7, 13⟩ ⟨7, 8, 7, 15⟩ ⟨7, 8, 7, 24⟩ ⟨7, 25, 7, 49⟩ ⟨7, 8, 7, 50⟩ ⟨7, 8, 7, 50⟩ ⟨8, 8, 8, 12⟩ ⟨8, 8, 8, 17⟩ ⟨8, 20, 8, 24⟩ ⟨8, 8, 8, 24⟩) K15E.eS .none .none docI pmI anI (.ref cda) ctI cc), slI⟩)
    (cI : PySem.W.codeIn K (.ref cda) "BadPage.__init__" = true)
    (lD : K.lookup cda = some ⟨ccl, cdd, .fields vs, ccs⟩)
    (vf : vs[2]? = some (.str file tf))
    (pf : ((P.main.file : Str) == file) = true)
    (lc : K.lookup cc = some ⟨cl, cld, .cell (some (.ref C)), csl⟩)
    (gL : PySem.W.nsIn K mainGlobals "LETTERS" = some (some (.str cLetters tL)))
    (gM : PySem.W.nsIn K mainGlobals "LONGEST" = some (some (.int 12 tM)))
    (g_K : PySem.W.nsIn K mainGlobals "KINDS" = some (some (.ref aK)))
    (l_K : K.lookup aK = some ⟨.type "tuple", none, .seq itK nK, slK⟩)
    (v_K : itK = #[.str "left" kk0, .str "doubled" kk1, .str "swapped" kk2, .str "written" kk3])
    (g_R : PySem.W.nsIn K mainGlobals "ROLES" = some (some (.ref aR)))
    (l_R : K.lookup aR = some ⟨.type "tuple", none, .seq itR nR, slR⟩)
    (v_R : itR = #[.str "name" rk0, .str "equals" rk1, .str "word" rk2, .str "number" rk3, .str "open" rk4, .str "item" rk5, .str "comma" rk6, .str "close" rk7, .str "end" rk8])
    (g_F : PySem.W.nsIn K mainGlobals "FATES" = some (some (.ref aF)))
    (l_F : K.lookup aF = some ⟨.type "tuple", none, .seq itF nF, slF⟩)
    (v_F : itF = #[.str "reader" fk0, .str "schema" fk1, .str "joining" fk2, .str "builder" fk3, .str "same" fk4, .str "more" fk5, .str "less" fk6])
    (g_Y : PySem.W.nsIn K mainGlobals "LAYERS" = some (some (.ref aY)))
    (l_Y : K.lookup aY = some ⟨.type "tuple", none, .seq itY nY, slY⟩)
    (v_Y : itY = #[.str "0" yk0, .str "1" yk1, .str "2" yk2])
    (g_W : PySem.W.nsIn K mainGlobals "WIDTHS" = some (some (.ref aW)))
    (l_W : K.lookup aW = some ⟨.type "tuple", none, .seq itW nW, slW⟩)
    (v_W : itW = #[.int 8 wk0, .int 2 wk1, .int 8 wk2, .int 13 wk3])
    (zint : PySem.W.nsIn K mainGlobals "int" = some none)
    (zlen : PySem.W.nsIn K mainGlobals "len" = some none)
    (zsum : PySem.W.nsIn K mainGlobals "sum" = some none)
    (zabs : PySem.W.nsIn K mainGlobals "abs" = some none)
    (zrange : PySem.W.nsIn K mainGlobals "range" = some none)
    (zstr : PySem.W.nsIn K mainGlobals "str" = some none)
    (zall : PySem.W.nsIn K mainGlobals "all" = some none)
    (zisi : PySem.W.nsIn K mainGlobals "isinstance" = some none)
    (zrepr : PySem.W.nsIn K mainGlobals "repr" = some none)
    (zlist : PySem.W.nsIn K mainGlobals "list" = some none)
    (ztuple : PySem.W.nsIn K mainGlobals "tuple" = some none)
    (zset : PySem.W.nsIn K mainGlobals "set" = some none)
    (zdict : PySem.W.nsIn K mainGlobals "dict" = some none)
    (zbool : PySem.W.nsIn K mainGlobals "bool" = some none)
    (z_enumerate : PySem.W.nsIn K mainGlobals "enumerate" = some none)
    (z_sorted : PySem.W.nsIn K mainGlobals "sorted" = some none)
    (z_max : PySem.W.nsIn K mainGlobals "max" = some none)
    (z_min : PySem.W.nsIn K mainGlobals "min" = some none)
    (aCons : PySem.W.nsIn K mainGlobals "consists_of" = some (some (.ref fCons)))
    (lCons : K.lookup fCons = some ⟨ocCons, odCons, .func (PySem.W.fnOf "consists_of" "consists_of" (defArgs sConsists) (defBody sConsists) (defScope sConsists) .none kVCons dcCons pmCons anCons cdCons ctCons), slCons⟩)
    (cCons : PySem.W.codeIn K cdCons "consists_of" = true)
    (kCons : PySem.W.keepIn K (.ref fCons) = true)
    (aIsW : PySem.W.nsIn K mainGlobals "is_word" = some (some (.ref fIsW)))
    (lIsW : K.lookup fIsW = some ⟨ocIsW, odIsW, .func (PySem.W.fnOf "is_word" "is_word" (defArgs sIsWord) (defBody sIsWord) (defScope sIsWord) .none kVIsW dcIsW pmIsW anIsW cdIsW ctIsW), slIsW⟩)
    (cIsW : PySem.W.codeIn K cdIsW "is_word" = true)
    (kIsW : PySem.W.keepIn K (.ref fIsW) = true)
    (aPL : PySem.W.nsIn K mainGlobals "page_line" = some (some (.ref fPL)))
    (lPL : K.lookup fPL = some ⟨ocPL, odPL, .func (PySem.W.fnOf "page_line" "page_line" (defArgs sPL) (defBody sPL) (defScope sPL) .none kVPL dcPL pmPL anPL cdPL ctPL), slPL⟩)
    (cPL : PySem.W.codeIn K cdPL "page_line" = true)
    (kPL : PySem.W.keepIn K (.ref fPL) = true)
    (aFO : PySem.W.nsIn K mainGlobals "fields_of" = some (some (.ref fFO)))
    (lFO : K.lookup fFO = some ⟨ocFO, odFO, .func (PySem.W.fnOf "fields_of" "fields_of" (defArgs sFO) (defBody sFO) (defScope sFO) .none kVFO dcFO pmFO anFO cdFO ctFO), slFO⟩)
    (cFO : PySem.W.codeIn K cdFO "fields_of" = true)
    (kFO : PySem.W.keepIn K (.ref fFO) = true)
    (aFI : PySem.W.nsIn K mainGlobals "fates_in" = some (some (.ref fFI)))
    (lFI : K.lookup fFI = some ⟨ocFI, odFI, .func (PySem.W.fnOf "fates_in" "fates_in" (defArgs sFI) (defBody sFI) (defScope sFI) .none kVFI dcFI pmFI anFI cdFI ctFI), slFI⟩)
    (cFI : PySem.W.codeIn K cdFI "fates_in" = true)
    (kFI : PySem.W.keepIn K (.ref fFI) = true)
    (aRL : PySem.W.nsIn K mainGlobals "read_line" = some (some (.ref fRL)))
    (lRL : K.lookup fRL = some ⟨ocRL, odRL, .func (PySem.W.fnOf "read_line" "read_line" (defArgs sRL) (defBody sRL) (defScope sRL) .none kVRL dcRL pmRL anRL cdRL ctRL), slRL⟩)
    (cRL : PySem.W.codeIn K cdRL "read_line" = true)
    (kRL : PySem.W.keepIn K (.ref fRL) = true)
    (aRP : PySem.W.nsIn K mainGlobals "read_page" = some (some (.ref fRP)))
    (lRP : K.lookup fRP = some ⟨ocRP, odRP, .func (PySem.W.fnOf "read_page" "read_page" (defArgs sRP) (defBody sRP) (defScope sRP) .none kVRP dcRP pmRP anRP cdRP ctRP), slRP⟩)
    (cRP : PySem.W.codeIn K cdRP "read_page" = true)
    (kRP : PySem.W.keepIn K (.ref fRP) = true)
    (aLR : PySem.W.nsIn K mainGlobals "line_rank" = some (some (.ref fLR)))
    (lLR : K.lookup fLR = some ⟨ocLR, odLR, .func (PySem.W.fnOf "line_rank" "line_rank" (defArgs sLR) (defBody sLR) (defScope sLR) .none kVLR dcLR pmLR anLR cdLR ctLR), slLR⟩)
    (cLR : PySem.W.codeIn K cdLR "line_rank" = true)
    (kLR : PySem.W.keepIn K (.ref fLR) = true)
    (aPO : PySem.W.nsIn K mainGlobals "page_of" = some (some (.ref fPO)))
    (lPO : K.lookup fPO = some ⟨ocPO, odPO, .func (PySem.W.fnOf "page_of" "page_of" (defArgs sPO) (defBody sPO) (defScope sPO) .none kVPO dcPO pmPO anPO cdPO ctPO), slPO⟩)
    (cPO : PySem.W.codeIn K cdPO "page_of" = true)
    (kPO : PySem.W.keepIn K (.ref fPO) = true)
    (aPool : PySem.W.nsIn K mainGlobals "_law_pool" = some (some (.ref fPool)))
    (lPool : K.lookup fPool = some ⟨ocPool, odPool, .func (PySem.W.fnOf "_law_pool" "_law_pool" (defArgs sPool) (defBody sPool) (defScope sPool) .none kVPool dcPool pmPool anPool cdPool ctPool), slPool⟩)
    (cPool : PySem.W.codeIn K cdPool "_law_pool" = true)
    (kPool : PySem.W.keepIn K (.ref fPool) = true)
    (aPick : PySem.W.nsIn K mainGlobals "_law_pick" = some (some (.ref fPick)))
    (lPick : K.lookup fPick = some ⟨ocPick, odPick, .func (PySem.W.fnOf "_law_pick" "_law_pick" (defArgs sPick) (defBody sPick) (defScope sPick) .none kVPick dcPick pmPick anPick cdPick ctPick), slPick⟩)
    (cPick : PySem.W.codeIn K cdPick "_law_pick" = true)
    (kPick : PySem.W.keepIn K (.ref fPick) = true)
    (aOf : PySem.W.nsIn K mainGlobals "_law_of" = some (some (.ref fOf)))
    (lOf : K.lookup fOf = some ⟨ocOf, odOf, .func (PySem.W.fnOf "_law_of" "_law_of" (defArgs K5S.sOf) (defBody K5S.sOf) (defScope K5S.sOf) .none kVOf dcOf pmOf anOf cdOf ctOf), slOf⟩)
    (cOf : PySem.W.codeIn K cdOf "_law_of" = true)
    (kOf : PySem.W.keepIn K (.ref fOf) = true)
    (aWord : PySem.W.nsIn K mainGlobals "_law_word" = some (some (.ref fWord)))
    (lWord : K.lookup fWord = some ⟨ocWord, odWord, .func (PySem.W.fnOf "_law_word" "_law_word" (defArgs K5S.sLawWord) (defBody K5S.sLawWord) (defScope K5S.sLawWord) .none kVWord dcWord pmWord anWord cdWord ctWord), slWord⟩)
    (cWord : PySem.W.codeIn K cdWord "_law_word" = true)
    (kWord : PySem.W.keepIn K (.ref fWord) = true)
    (aWords : PySem.W.nsIn K mainGlobals "_law_words" = some (some (.ref fWords)))
    (lWords : K.lookup fWords = some ⟨ocWords, odWords, .func (PySem.W.fnOf "_law_words" "_law_words" (defArgs sWords) (defBody sWords) (defScope sWords) .none kVWords dcWords pmWords anWords cdWords ctWords), slWords⟩)
    (cWords : PySem.W.codeIn K cdWords "_law_words" = true)
    (kWords : PySem.W.keepIn K (.ref fWords) = true)
    (aTa : PySem.W.nsIn K mainGlobals "_law_table" = some (some (.ref fTa)))
    (lTa : K.lookup fTa = some ⟨ocTa, odTa, .func (PySem.W.fnOf "_law_table" "_law_table" (defArgs sTa) (defBody sTa) (defScope sTa) .none kVTa dcTa pmTa anTa cdTa ctTa), slTa⟩)
    (cTa : PySem.W.codeIn K cdTa "_law_table" = true)
    (kTa : PySem.W.keepIn K (.ref fTa) = true)
    (aLL : PySem.W.nsIn K mainGlobals "_law_line" = some (some (.ref fLL)))
    (lLL : K.lookup fLL = some ⟨ocLL, odLL, .func (PySem.W.fnOf "_law_line" "_law_line" (defArgs sLL) (defBody sLL) (defScope sLL) .none kVLL dcLL pmLL anLL cdLL ctLL), slLL⟩)
    (cLL : PySem.W.codeIn K cdLL "_law_line" = true)
    (kLL : PySem.W.keepIn K (.ref fLL) = true)
    (aTu : PySem.W.nsIn K mainGlobals "_law_turned" = some (some (.ref fTu)))
    (lTu : K.lookup fTu = some ⟨ocTu, odTu, .func (PySem.W.fnOf "_law_turned" "_law_turned" (defArgs sTu) (defBody sTu) (defScope sTu) .none kVTu dcTu pmTu anTu cdTu ctTu), slTu⟩)
    (cTu : PySem.W.codeIn K cdTu "_law_turned" = true)
    (kTu : PySem.W.keepIn K (.ref fTu) = true)
    (aWr : PySem.W.nsIn K mainGlobals "_law_wrong" = some (some (.ref fWr)))
    (lWr : K.lookup fWr = some ⟨ocWr, odWr, .func (PySem.W.fnOf "_law_wrong" "_law_wrong" (defArgs sWr) (defBody sWr) (defScope sWr) .none kVWr dcWr pmWr anWr cdWr ctWr), slWr⟩)
    (cWr : PySem.W.codeIn K cdWr "_law_wrong" = true)
    (kWr : PySem.W.keepIn K (.ref fWr) = true)
    (aRf : PySem.W.nsIn K mainGlobals "_law_refused" = some (some (.ref fRf)))
    (lRf : K.lookup fRf = some ⟨ocRf, odRf, .func (PySem.W.fnOf "_law_refused" "_law_refused" (defArgs sRf) (defBody sRf) (defScope sRf) .none kVRf dcRf pmRf anRf cdRf ctRf), slRf⟩)
    (cRf : PySem.W.codeIn K cdRf "_law_refused" = true)
    (kRf : PySem.W.keepIn K (.ref fRf) = true)
    (aLaw : PySem.W.nsIn K mainGlobals "law" = some (some (.ref fLaw)))
    (lLaw : K.lookup fLaw = some ⟨ocLaw, odLaw, .func (PySem.W.fnOf "law" "law" (defArgs sLaw) (defBody sLaw) (defScope sLaw) .none kVLaw dcLaw pmLaw anLaw cdLaw ctLaw), slLaw⟩)
    (cLaw : PySem.W.codeIn K cdLaw "law" = true)
    (kLaw : PySem.W.keepIn K (.ref fLaw) = true) :
    ∃ fd : FuncData, (∀ (s : Shared) (v : Value), BindsTo s fd ⟨[v], []⟩ [("_law_script", v)]) ∧ ∀ base : Heap, K.In base → base.Ns mainGlobals mg → FnG P w K mg base 6 fa fd ["_law_script"] (spLaw K) := by
  have e := hfa.symm.trans (PySem.W.mg_of X G aLaw)
  cases e
  have M0 : Bare mg := { int := PySem.W.mg_none_of X G zint, len := PySem.W.mg_none_of X G zlen, sum := PySem.W.mg_none_of X G zsum, abs := PySem.W.mg_none_of X G zabs, range := PySem.W.mg_none_of X G zrange, str := PySem.W.mg_none_of X G zstr, all := PySem.W.mg_none_of X G zall, isi := PySem.W.mg_none_of X G zisi, repr := PySem.W.mg_none_of X G zrepr, list := PySem.W.mg_none_of X G zlist, tuple := PySem.W.mg_none_of X G ztuple, set := PySem.W.mg_none_of X G zset, dict := PySem.W.mg_none_of X G zdict, bool := PySem.W.mg_none_of X G zbool }
  have T1 : Mod mg := { M0 with letters := ⟨_, PySem.W.mg_of X G gL⟩, longest := ⟨_, PySem.W.mg_of X G gM⟩ }
  have TE : K15E.ErrTxt P K mg C fI :=
    { gC := PySem.W.mg_of X G aC, cls := ⟨nm, q, N, bs, _, sn, sub, ab, col, dd, m0, m1, m2, m3, m5, xL, by rfl⟩, sa := sa, noN := nb, iC := iC, tC := tI, kC := kC, exC := eC, vaC := vC, tyC := tC, te := PySem.W.exm_ref eC hC tC sC, sub := mC, sup := sup, tp := tp, su := PySem.W.mg_none_of X G su, top := topp,
      fn := ⟨_, _, _, _, _, cda, cc, _, _, _, _, _, _, _, _, _, _, _, _, _, _, _, _, lI, cI, ⟨_, _, vs, _, file, tf, lD, vf, pf⟩, fun env => ⟨_, rfl⟩, _, _, _, lc⟩ }
  have R : Rest P K mg C fI aW aF aK aR aY := ⟨T1, TE, ⟨ga, gg, eC, hC⟩, tupW (PySem.W.mg_of X G g_W) l_W v_W, tupF (PySem.W.mg_of X G g_F) l_F v_F, tupK (PySem.W.mg_of X G g_K) l_K v_K, tupR (PySem.W.mg_of X G g_R) l_R v_R, tupY (PySem.W.mg_of X G g_Y) l_Y v_Y, PySem.W.mg_none_of X G z_enumerate, PySem.W.mg_none_of X G z_sorted, PySem.W.mg_none_of X G z_max, PySem.W.mg_none_of X G z_min⟩
  have hCons := held (st := sConsists) X G aCons lCons cCons kCons
  have bCons := hCons.1.binds (ps := ["thing", "characters"]) fun _ _ _ _ _ _ us hl => match us, hl with | [_, _], _ => rfl
  have hIsW := held (st := sIsWord) X G aIsW lIsW cIsW kIsW
  have bIsW := hIsW.1.binds (ps := ["thing"]) fun _ _ _ _ _ _ us hl => match us, hl with | [_], _ => rfl
  have hPL := held (st := sPL) X G aPL lPL cPL kPL
  have bPL := hPL.1.binds (ps := ["place", "found"]) fun _ _ _ _ _ _ us hl => match us, hl with | [_, _], _ => rfl
  have hFO := held (st := sFO) X G aFO lFO cFO kFO
  have bFO := hFO.1.binds (ps := ["line"]) fun _ _ _ _ _ _ us hl => match us, hl with | [_], _ => rfl
  have hFI := held (st := sFI) X G aFI lFI cFI kFI
  have bFI := hFI.1.binds (ps := ["text"]) fun _ _ _ _ _ _ us hl => match us, hl with | [_], _ => rfl
  have hRL := held (st := sRL) X G aRL lRL cRL kRL
  have bRL := hRL.1.binds (ps := ["line"]) fun _ _ _ _ _ _ us hl => match us, hl with | [_], _ => rfl
  have hRP := held (st := sRP) X G aRP lRP cRP kRP
  have bRP := hRP.1.binds (ps := ["lines"]) fun _ _ _ _ _ _ us hl => match us, hl with | [_], _ => rfl
  have hLR := held (st := sLR) X G aLR lLR cLR kLR
  have bLR := hLR.1.binds (ps := ["place"]) fun _ _ _ _ _ _ us hl => match us, hl with | [_], _ => rfl
  have hPO := held (st := sPO) X G aPO lPO cPO kPO
  have bPO := hPO.1.binds (ps := ["table"]) fun _ _ _ _ _ _ us hl => match us, hl with | [_], _ => rfl
  have hPool := held (st := sPool) X G aPool lPool cPool kPool
  have bPool := hPool.1.binds (ps := ["_law_script", "_law_place", "_law_salt"]) fun _ _ _ _ _ _ us hl => match us, hl with | [_, _, _], _ => rfl
  have hPick := held (st := sPick) X G aPick lPick cPick kPick
  have bPick := hPick.1.binds (ps := ["_law_pool_here", "_law_many"]) fun _ _ _ _ _ _ us hl => match us, hl with | [_, _], _ => rfl
  have hOf := held (st := K5S.sOf) X G aOf lOf cOf kOf
  have bOf := hOf.1.binds (ps := ["_law_pool_here", "_law_some"]) fun _ _ _ _ _ _ us hl => match us, hl with | [_, _], _ => rfl
  have hWord := held (st := K5S.sLawWord) X G aWord lWord cWord kWord
  have bWord := hWord.1.binds (ps := ["_law_pool_here", "_law_taken"]) fun _ _ _ _ _ _ us hl => match us, hl with | [_, _], _ => rfl
  have hWords := held (st := sWords) X G aWords lWords cWords kWords
  have bWords := hWords.1.binds (ps := ["_law_pool_here", "_law_many", "_law_taken"]) fun _ _ _ _ _ _ us hl => match us, hl with | [_, _, _], _ => rfl
  have hTa := held (st := sTa) X G aTa lTa cTa kTa
  have bTa := hTa.1.binds (ps := ["_law_pool_here"]) fun _ _ _ _ _ _ us hl => match us, hl with | [_], _ => rfl
  have hLL := held (st := sLL) X G aLL lLL cLL kLL
  have bLL := hLL.1.binds (ps := ["_law_place", "_law_some"]) fun _ _ _ _ _ _ us hl => match us, hl with | [_, _], _ => rfl
  have hTu := held (st := sTu) X G aTu lTu cTu kTu
  have bTu := hTu.1.binds (ps := ["_law_pool_here", "_law_some"]) fun _ _ _ _ _ _ us hl => match us, hl with | [_, _], _ => rfl
  have hWr := held (st := sWr) X G aWr lWr cWr kWr
  have bWr := hWr.1.binds (ps := ["_law_pool_here", "_law_place", "_law_some"]) fun _ _ _ _ _ _ us hl => match us, hl with | [_, _, _], _ => rfl
  have hRf := held (st := sRf) X G aRf lRf cRf kRf
  have bRf := hRf.1.binds (ps := ["_law_lines"]) fun _ _ _ _ _ _ us hl => match us, hl with | [_], _ => rfl
  exact ⟨PySem.W.fnOf "law" "law" (defArgs sLaw) (defBody sLaw) (defScope sLaw) .none kVLaw dcLaw pmLaw anLaw cdLaw ctLaw, fun s v => .of_eq rfl, fun base _ _ => all_of R hCons hIsW hPL hFO hFI hRL hRP hLR hPO hPool hPick hOf hWord hWords hTa hLL hTu hWr hRf (fun_mk (st := sLaw) lLaw cLaw kLaw) bCons bIsW bPL bFO bFI bRL bRP bLR bPO bPool bPick bOf bWord bWords bTa bLL bTu bWr bRf⟩
theorem walk {l : PySem.W.OpenLaw} {q : Program} {loose : List Str} {XP : (Str → Option Value) → Heap → Prop} {YP : World → Heap → Prop} {d : DefRec} {K : Params → PySem.W.Frag} (hn : l.most = some 63) (hdf : d.params.defaults = [])
    (hY : ∀ (w : World) (h : Heap), YP w h → (K w.params).In h)
    (F : ∀ (w : World) (mg : Str → Option Value) (fa : Addr) (h : Heap), (K w.params).In h → h.Ns mainGlobals mg → mg d.name = some (.ref fa) →
      ∃ fd : FuncData, (∀ (s : Shared) (u : Value), BindsTo s fd ⟨[u], []⟩ [("_law_script", u)]) ∧ ∀ base : Heap, (K w.params).In base → base.Ns mainGlobals mg → FnG l.prog w (K w.params) mg base 6 fa fd ["_law_script"] (spLaw (K w.params))) :
    PySem.W.WalkO q loose XP YP l.row.toRowW d [] (fun f vs => PySem.call f vs) :=
  L2.walk_ofG (n := 63) (k := 6) (x := "_law_script") (sp := fun w => spLaw (K w.params)) hn (by decide) hdf ⟨rfl, by decide, by decide⟩ hY F fun _ _ a ns hl _ hS => ⟨a, ns, rfl, hS, hl, fun _ => rfl⟩
end K5


open PySem PySem.W PyProof.Rows in
set_option maxRecDepth 100000 in
set_option maxHeartbeats 0 in
theorem PySem.Challenge.cw_slipreach_k15_pages_of_fates_holds : PySem.Challenge.rw_slipreach_k15_pages_of_fates.Holds := by
  w_on
  o_law
  refine HandSHeadRun.head_any (r := (PySem.W.OpenLaw.row PySem.Challenge.rw_slipreach_k15_pages_of_fates)) (H := K5.hk) (ob := K5.obK) (M := 11000) (loose := K5.nms) (q := K5.qv) (kwd := []) K5.obK_eq (by kernel_rfl) (fun s => by kernel_rfl) K5.run_all (by rfl) (by rfl) (by rfl) (by rfl) (by first | assumption | decide +kernel) (by decide +kernel) ⟨rfl, rfl, rfl, rfl, rfl, by decide +kernel⟩ ?hw ?hc
  (case hw => w_witness2)
  k_fill
  refine K5.walk (l := PySem.Challenge.rw_slipreach_k15_pages_of_fates) rfl rfl (fun w h Y => kIn_of Y) ?F
  case F =>
    intro w mg fa h KX G hmg
    refine' K5.all_mk KX G hmg ?aSE ?aC ?xL ?sa ?ga ?gg ?nb ?iC ?tI ?kC ?eC ?vC ?tC ?hC ?sC ?mC ?sup ?tp ?su ?topp ?lI ?cI ?lD ?vf ?pf ?lc ?gL ?gM ?g_K ?l_K ?v_K ?g_R ?l_R ?v_R ?g_F ?l_F ?v_F ?g_Y ?l_Y ?v_Y ?g_W ?l_W ?v_W ?zint ?zlen ?zsum ?zabs ?zrange ?zstr ?zall ?zisi ?zrepr ?zlist ?ztuple ?zset ?zdict ?zbool ?z_enumerate ?z_sorted ?z_max ?z_min ?aCons ?lCons ?cCons ?kCons ?aIsW ?lIsW ?cIsW ?kIsW ?aPL ?lPL ?cPL ?kPL ?aFO ?lFO ?cFO ?kFO ?aFI ?lFI ?cFI ?kFI ?aRL ?lRL ?cRL ?kRL ?aRP ?lRP ?cRP ?kRP ?aLR ?lLR ?cLR ?kLR ?aPO ?lPO ?cPO ?kPO ?aPool ?lPool ?cPool ?kPool ?aPick ?lPick ?cPick ?kPick ?aOf ?lOf ?cOf ?kOf ?aWord ?lWord ?cWord ?kWord ?aWords ?lWords ?cWords ?kWords ?aTa ?lTa ?cTa ?kTa ?aLL ?lLL ?cLL ?kLL ?aTu ?lTu ?cTu ?kTu ?aWr ?lWr ?cWr ?kWr ?aRf ?lRf ?cRf ?kRf ?aLaw ?lLaw ?cLaw ?kLaw
    (case aSE => k_is)
    (case aC => k_is)
    (case xL => k_is)
    (case sa => k_is)
    (case ga => k_is)
    (case gg => k_is)
    (case nb => k_is)
    (case iC => k_is)
    (case tI => k_is)
    (case kC => k_is)
    (case eC => k_is)
    (case vC => k_is)
    (case tC => k_is)
    (case hC => k_is)
    (case sC => first | rfl | k_is)
    (case mC => k_is)
    (case sup => ks_is)
    (case tp => k_is)
    (case su => k_is)
    (case topp => first | rfl | decide +kernel)
    (case lI => k_is)
    (case cI => k_is)
    (case lD => k_is)
    (case vf => first | rfl | decide +kernel)
    (case pf => first | rfl | decide +kernel)
    (case lc => k_is)
    (case gL => k_is)
    (case gM => k_is)
    (case g_K => k_is)
    (case l_K => k_is)
    (case v_K => rfl)
    (case g_R => k_is)
    (case l_R => k_is)
    (case v_R => rfl)
    (case g_F => k_is)
    (case l_F => k_is)
    (case v_F => rfl)
    (case g_Y => k_is)
    (case l_Y => k_is)
    (case v_Y => rfl)
    (case g_W => k_is)
    (case l_W => k_is)
    (case v_W => rfl)
    (case zint => k_is)
    (case zlen => k_is)
    (case zsum => k_is)
    (case zabs => k_is)
    (case zrange => k_is)
    (case zstr => k_is)
    (case zall => k_is)
    (case zisi => k_is)
    (case zrepr => k_is)
    (case zlist => k_is)
    (case ztuple => k_is)
    (case zset => k_is)
    (case zdict => k_is)
    (case zbool => k_is)
    (case z_enumerate => k_is)
    (case z_sorted => k_is)
    (case z_max => k_is)
    (case z_min => k_is)
    (case aCons => k_is)
    (case lCons => k_is)
    (case cCons => k_is)
    (case kCons => k_is)
    (case aIsW => k_is)
    (case lIsW => k_is)
    (case cIsW => k_is)
    (case kIsW => k_is)
    (case aPL => k_is)
    (case lPL => k_is)
    (case cPL => k_is)
    (case kPL => k_is)
    (case aFO => k_is)
    (case lFO => k_is)
    (case cFO => k_is)
    (case kFO => k_is)
    (case aFI => k_is)
    (case lFI => k_is)
    (case cFI => k_is)
    (case kFI => k_is)
    (case aRL => k_is)
    (case lRL => k_is)
    (case cRL => k_is)
    (case kRL => k_is)
    (case aRP => k_is)
    (case lRP => k_is)
    (case cRP => k_is)
    (case kRP => k_is)
    (case aLR => k_is)
    (case lLR => k_is)
    (case cLR => k_is)
    (case kLR => k_is)
    (case aPO => k_is)
    (case lPO => k_is)
    (case cPO => k_is)
    (case kPO => k_is)
    (case aPool => k_is)
    (case lPool => k_is)
    (case cPool => k_is)
    (case kPool => k_is)
    (case aPick => k_is)
    (case lPick => k_is)
    (case cPick => k_is)
    (case kPick => k_is)
    (case aOf => k_is)
    (case lOf => k_is)
    (case cOf => k_is)
    (case kOf => k_is)
    (case aWord => k_is)
    (case lWord => k_is)
    (case cWord => k_is)
    (case kWord => k_is)
    (case aWords => k_is)
    (case lWords => k_is)
    (case cWords => k_is)
    (case kWords => k_is)
    (case aTa => k_is)
    (case lTa => k_is)
    (case cTa => k_is)
    (case kTa => k_is)
    (case aLL => k_is)
    (case lLL => k_is)
    (case cLL => k_is)
    (case kLL => k_is)
    (case aTu => k_is)
    (case lTu => k_is)
    (case cTu => k_is)
    (case kTu => k_is)
    (case aWr => k_is)
    (case lWr => k_is)
    (case cWr => k_is)
    (case kWr => k_is)
    (case aRf => k_is)
    (case lRf => k_is)
    (case cRf => k_is)
    (case kRf => k_is)
    (case aLaw => k_is)
    (case lLaw => k_is)
    (case cLaw => k_is)
    (case kLaw => k_is)


