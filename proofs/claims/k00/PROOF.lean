import PyProof.Rows.All
import Wide.All
import OpenK.AllK
import Wide.FinOn
import HandS.ForMost
import HandS.IsInst
import PySem.Challenge.RW_slipreach_k00_texts_cut_into_tokens
import HandS.Codes
import HandS.Walk
import PyProof.EqAt
import PyProof.EqKinds
import PyProof.TupleCall
import KE.KExcSuper
import HandS.ForExc
import HandS.ExcField
import HandS.ExcIs
import PyProof.Draws
import PyProof.EnumMake
import PyProof.ReprRoads
import PyProof.ReprText
import HandS.StrMore
import HandS.Style
set_option Elab.async false
set_option linter.all false
set_option maxRecDepth 110000
set_option maxHeartbeats 4100000
namespace K0
/-! ### cutting a text (code points) into tokens -/
def lt (c : Nat) : Bool := decide (97 ≤ c) && decide (c ≤ 122)
def dg (c : Nat) : Bool := decide (48 ≤ c) && decide (c ≤ 57)
def an (c : Nat) : Bool := lt c || dg c
def sg (c : Nat) : Bool := c == 61 || (c == 59 || (c == 44 || (c == 91 || c == 93)))
def bk (c : Nat) : Bool := c == 32 || c == 10
theorem sg_an {c : Nat} (h : sg c = true) : an c = false := by
  simp only [sg, Bool.or_eq_true, beq_iff_eq] at h
  rcases h with h | h | h | h | h <;> subst h <;> decide
theorem bk_an {c : Nat} (h : bk c = true) : an c = false := by
  simp only [bk, Bool.or_eq_true, beq_iff_eq] at h
  rcases h with h | h <;> subst h <;> decide
theorem bk_sg {c : Nat} (h : bk c = true) : sg c = false := by
  simp only [bk, Bool.or_eq_true, beq_iff_eq] at h
  rcases h with h | h <;> subst h <;> decide
/-- whether a run of letters and figures is a token -/
def tok (r : List Nat) : Bool :=
  decide (r.length ≤ 12) && (r.all lt || (r.all dg && (r == [48] || r.headD 0 != 48)))
/-- what comes of a text: its tokens, or the least wrong place -/
inductive Res where
  | fine (f : List (List Nat)) | bad (k : Nat)
  deriving DecidableEq
def add (f : List (List Nat)) (r : List Nat) : List (List Nat) := if r = [] then f else f ++ [r]
def cut (f : List (List Nat)) (r : List Nat) (b p : Nat) : List Nat → Res
  | [] => .fine f
  | c :: l =>
    if an c = true then cut f (r ++ [c]) (if r = [] then p else b) (p + 1) l
    else if r ≠ [] ∧ tok r = false then .bad b
    else if sg c = true then cut (add f r ++ [[c]]) [] b (p + 1) l
    else if bk c = true then cut (add f r) [] b (p + 1) l
    else .bad p
theorem cut_cons (f : List (List Nat)) (r : List Nat) (b p c : Nat) (l : List Nat) : cut f r b p (c :: l) =
    if an c = true then cut f (r ++ [c]) (if r = [] then p else b) (p + 1) l
    else if r ≠ [] ∧ tok r = false then .bad b
    else if sg c = true then cut (add f r ++ [[c]]) [] b (p + 1) l
    else if bk c = true then cut (add f r) [] b (p + 1) l
    else .bad p := rfl
theorem cut_begin : ∀ (l : List Nat) (f : List (List Nat)) (b b' p : Nat), cut f [] b p l = cut f [] b' p l
  | [], _, _, _, _ => rfl
  | c :: l, f, b, b', p => by
    unfold cut
    simp only [if_true, ne_eq, not_true_eq_false, false_and, if_false]
    by_cases h : an c = true
    · rw [if_pos h, if_pos h]
    · rw [if_neg h, if_neg h]
      by_cases h2 : sg c = true
      · rw [if_pos h2, if_pos h2]
        exact cut_begin l _ _ _ _
      · rw [if_neg h2, if_neg h2]
        by_cases h3 : bk c = true
        · rw [if_pos h3, if_pos h3]
          exact cut_begin l _ _ _ _
        · rw [if_neg h3, if_neg h3]
/-- over a run -/
theorem cut_run : ∀ (u : List Nat) (r : List Nat) (f : List (List Nat)) (b p : Nat) (l : List Nat), u.all an = true → r ≠ [] →
    cut f r b p (u ++ l) = cut f (r ++ u) b (p + u.length) l
  | [], r, f, b, p, l, _, _ => by simp
  | c :: u, r, f, b, p, l, h, hr => by
    rw [List.all_cons, Bool.and_eq_true] at h
    have ih := cut_run u (r ++ [c]) f b (p + 1) l h.2 (by simp)
    rw [List.cons_append, cut_cons, if_pos h.1, if_neg hr, ih, List.append_assoc, List.length_cons, Nat.add_assoc, Nat.add_comm 1]
    rfl
/-- a whole run, from the state without one -/
theorem cut_word {u : List Nat} (hu : u.all an = true) (hn : u ≠ []) (f : List (List Nat)) (b p : Nat) (l : List Nat) :
    cut f [] b p (u ++ l) = cut f u p (p + u.length) l := by
  cases u with
  | nil => exact absurd rfl hn
  | cons c u =>
    rw [List.all_cons, Bool.and_eq_true] at hu
    have ih := cut_run u [c] f p (p + 1) l hu.2 (by simp)
    rw [List.cons_append, cut_cons, if_pos hu.1, if_pos rfl, List.nil_append, ih, List.length_cons, Nat.add_assoc, Nat.add_comm 1]
    rfl
theorem cut_step {c : Nat} (hc : an c = false) {r : List Nat} (hr : r ≠ []) (ht : tok r = true) (f : List (List Nat)) (b p : Nat) (l : List Nat) :
    cut f r b p (c :: l) = cut (f ++ [r]) [] b p (c :: l) := by
  have e : add f r = f ++ [r] := if_neg hr
  have e2 : add (f ++ [r]) [] = f ++ [r] := if_pos rfl
  have n1 : ¬ (r ≠ [] ∧ tok r = false) := fun z => by rw [ht] at z; cases z.2
  have n2 : ¬ (([] : List Nat) ≠ [] ∧ tok [] = false) := fun z => z.1 rfl
  have n0 : ¬ an c = true := by rw [hc]; exact Bool.false_ne_true
  rw [cut_cons, cut_cons, if_neg n0, if_neg n0, if_neg n1, if_neg n2, e, e2]
theorem cut_stop {c : Nat} (hc : an c = false) {r : List Nat} (hr : r ≠ []) (ht : tok r = false) (f : List (List Nat)) (b p : Nat) (l : List Nat) :
    cut f r b p (c :: l) = .bad b := by
  rw [cut_cons, if_neg (by rw [hc]; exact Bool.false_ne_true), if_pos ⟨hr, ht⟩]
theorem cut_sign {c : Nat} (hc : sg c = true) (f : List (List Nat)) (b p : Nat) (l : List Nat) :
    cut f [] b p (c :: l) = cut (f ++ [[c]]) [] b (p + 1) l := by
  rw [cut_cons, if_neg (by rw [sg_an hc]; exact Bool.false_ne_true), if_neg (by simp), if_pos hc]
  rfl
theorem cut_blank {c : Nat} (hc : bk c = true) (f : List (List Nat)) (b p : Nat) (l : List Nat) :
    cut f [] b p (c :: l) = cut f [] b (p + 1) l := by
  rw [cut_cons, if_neg (by rw [bk_an hc]; exact Bool.false_ne_true), if_neg (by simp), if_neg (by rw [bk_sg hc]; exact Bool.false_ne_true), if_pos hc]
  rfl
theorem cut_odd {c : Nat} (h1 : an c = false) (h2 : sg c = false) (h3 : bk c = false) (f : List (List Nat)) (b p : Nat) (l : List Nat) :
    cut f [] b p (c :: l) = .bad p := by
  rw [cut_cons, if_neg (by rw [h1]; exact Bool.false_ne_true), if_neg (by simp), if_neg (by rw [h2]; exact Bool.false_ne_true), if_neg (by rw [h3]; exact Bool.false_ne_true)]
theorem cut_blanks : ∀ (w : List Nat) (f : List (List Nat)) (b p : Nat) (l : List Nat), w.all bk = true → cut f [] b p (w ++ l) = cut f [] b (p + w.length) l
  | [], _, _, _, _, _ => rfl
  | c :: w, f, b, p, l, h => by
    rw [List.all_cons, Bool.and_eq_true] at h
    show cut f [] b p (c :: (w ++ l)) = _
    rw [cut_blank h.1, cut_blanks w f b (p + 1) l h.2, List.length_cons, Nat.add_assoc, Nat.add_comm 1]
/-- what is due of a text -/
def due (t : List Nat) : Res := cut [] [] 0 0 (t ++ [32])

/-! ### texts made of tokens -/
/-- the text made so far has just these tokens, whatever comes behind (if it ends within a run, no further sign of a run) -/
def Good (m : List Nat) (ts : List (List Nat)) : Prop := ∀ (f : List (List Nat)) (b p : Nat) (l : List Nat),
  ((∃ c, m.getLast? = some c ∧ an c = true) → ∀ c, l.head? = some c → an c = false) → l ≠ [] → cut f [] b p (m ++ l) = cut (f ++ ts) [] b (p + m.length) l
def isTok (r : List Nat) : Prop := (r ≠ [] ∧ r.all an = true ∧ tok r = true) ∨ ∃ c, r = [c] ∧ sg c = true
theorem isTok.ne {r : List Nat} (h : isTok r) : r ≠ [] := by
  rcases h with h | ⟨c, rfl, _⟩
  · exact h.1
  · simp
theorem good_nil : Good [] [] := fun f b p l _ _ => by simp
theorem good_blanks {m : List Nat} {ts : List (List Nat)} (g : Good m ts) {w : List Nat} (hw : w.all bk = true) : Good (m ++ w) ts := fun f b p l hx hl => by
  rw [List.append_assoc]
  cases w with
  | nil =>
    rw [List.append_nil, List.nil_append]
    exact g f b p l (by rwa [List.append_nil] at hx) hl
  | cons c w =>
    have hc : an c = false := bk_an (by rw [List.all_cons, Bool.and_eq_true] at hw; exact hw.1)
    rw [g f b p ((c :: w) ++ l) (fun _ d e => by rw [List.cons_append, List.head?_cons] at e; injection e with e; rw [← e]; exact hc) (by simp), cut_blanks _ _ _ _ _ hw, List.length_append, Nat.add_assoc]
theorem good_tok {m : List Nat} {ts : List (List Nat)} (g : Good m ts) {r : List Nat} (hr : isTok r)
    (hm : (∃ c, m.getLast? = some c ∧ an c = true) → ∀ c, r.head? = some c → an c = false) : Good (m ++ r) (ts ++ [r]) := fun f b p l h hl => by
  rw [List.append_assoc]
  have hrl : r ++ l ≠ [] := by simp [hr.ne]
  have hh : (r ++ l).head? = r.head? := by
    cases r with
    | nil => exact absurd rfl hr.ne
    | cons => rfl
  rw [g f b p (r ++ l) (by rw [hh]; exact hm) hrl]
  rcases hr with ⟨hn, ha, ht⟩ | ⟨c, rfl, hc⟩
  · rw [cut_word ha hn]
    cases l with
    | nil => exact absurd rfl hl
    | cons c l =>
      have hlast : ∃ c, (m ++ r).getLast? = some c ∧ an c = true := by
        refine ⟨r.getLast hn, ?_, ?_⟩
        · rw [List.getLast?_append, List.getLast?_eq_some_getLast hn]; rfl
        · exact List.all_eq_true.mp ha _ (List.getLast_mem hn)
      have hc : an c = false := h hlast c rfl
      rw [cut_step hc hn ht, cut_begin _ _ _ b, List.append_assoc, List.length_append, Nat.add_assoc]
  · show cut (f ++ ts) [] b (p + m.length) (c :: l) = _
    rw [cut_sign hc, List.append_assoc, List.length_append, List.length_singleton, Nat.add_assoc]
theorem good_due {m : List Nat} {ts : List (List Nat)} (g : Good m ts) : due m = .fine ts := by
  unfold due
  rw [g [] 0 0 [32] (fun _ c e => by injection e with e; subst e; rfl) (by simp), cut_blank (by decide)]
  rfl
/-! ### tokens with one blank between two -/
def spaced : List (List Nat) → List Nat
  | [] => []
  | t :: ts => t ++ (ts.map (32 :: ·)).flatten
theorem good_more : ∀ (us : List (List Nat)) (m : List Nat) (ts : List (List Nat)), Good m ts → (∀ r ∈ us, isTok r) → Good (m ++ (us.map (32 :: ·)).flatten) (ts ++ us)
  | [], m, ts, g, _ => by simpa using g
  | r :: us, m, ts, g, h => by
    have g1 := good_tok (good_blanks g (w := [32]) (by decide)) (h r (List.mem_cons_self ..)) (fun ⟨c, e, a⟩ => by
      rw [List.getLast?_append] at e
      have e : some 32 = some c := e
      injection e with e
      rw [← e] at a
      exact absurd a (by decide))
    have g2 := good_more us _ _ g1 fun r hr => h r (List.mem_cons_of_mem _ hr)
    simpa using g2
theorem good_spaced : ∀ (ts : List (List Nat)), (∀ r ∈ ts, isTok r) → Good (spaced ts) ts
  | [], _ => good_nil
  | t :: ts, h => by
    have g := good_tok good_nil (h t (List.mem_cons_self ..)) (fun ⟨c, e, _⟩ => by cases e)
    have g2 := good_more ts _ _ g fun r hr => h r (List.mem_cons_of_mem _ hr)
    simpa [spaced] using g2
theorem due_spaced {ts : List (List Nat)} (h : ∀ r ∈ ts, isTok r) : due (spaced ts) = .fine ts := good_due (good_spaced ts h)
end K0

namespace K0
open PySem L2
def top (i : Nat) : Stmt := PySem.Challenge.pw_slipreach_k00_texts_cut_into_tokens.main.body.getD i (.Pass ⟨0, 0, 0, 0⟩)
abbrev sPool : Stmt := top 18
abbrev sPick : Stmt := top 19
/-- built-in names that the top has left alone -/
structure Bare (mg : Str → Option Value) : Prop where
  int : mg "int" = none
  len : mg "len" = none
  sum : mg "sum" = none
  abs : mg "abs" = none
  range : mg "range" = none
  str : mg "str" = none
  all : mg "all" = none
  max : mg "max" = none
  isi : mg "isinstance" = none
  enum : mg "enumerate" = none
  repr : mg "repr" = none
  list : mg "list" = none
/-- all but the object at p is as it was -/
def Keep (p : Addr) (H H' : Hp) : Prop := ∀ b o, b ≠ p → H b = some o → H' b = some o
theorem Keep.refl (p : Addr) (H : Hp) : Keep p H H := fun _ _ _ h => h
theorem Keep.trans {p : Addr} {H H1 H2 : Hp} (a : Keep p H H1) (b : Keep p H1 H2) : Keep p H H2 := fun c o n h => b c o n (a c o n h)
theorem Keep.new {p l : Addr} {H H1 : Hp} {o : HO} (a : Keep p H H1) (hl : H1 l = none) : Keep p H (upd H1 l o) := fun b u n h => by
  rw [upd_ne (ne_of_none (a b u n h) hl)]
  exact a b u n h
theorem Keep.own {p : Addr} {H H1 : Hp} {o : HO} (a : Keep p H H1) : Keep p H (upd H1 p o) := fun b u n h => by
  rw [upd_ne n]
  exact a b u n h
/-- at p a pool: what is left of a great cell, a start, how many were drawn (at most c) -/
def Pool (H : Hp) (p : Addr) (c : Nat) : Prop := ∃ g m k : Int, H p = some (.lst [.int g, .int m, .int k]) ∧ 0 ≤ g ∧ 0 ≤ m ∧ m ≤ 16140901064500000000 ∧ 0 ≤ k ∧ k ≤ (c : Int)
theorem Pool.new {H : Hp} {p l : Addr} {c : Nat} {o : HO} (a : Pool H p c) (hl : H l = none) : Pool (upd H l o) p c := by
  obtain ⟨g, m, k, h, r⟩ := a
  exact ⟨g, m, k, by rw [upd_ne (ne_of_none h hl)]; exact h, r⟩
theorem Pool.mono {H : Hp} {p : Addr} {c d : Nat} (a : Pool H p c) (h : c ≤ d) : Pool H p d := by
  obtain ⟨g, m, k, h1, h2, h3, h4, h5, h6⟩ := a
  exact ⟨g, m, k, h1, h2, h3, h4, h5, by omega⟩
theorem Pool.other {H : Hp} {p l : Addr} {c : Nat} {o : HO} (a : Pool H p c) (hl : p ≠ l) : Pool (upd H l o) p c := by
  obtain ⟨g, m, k, h, r⟩ := a
  exact ⟨g, m, k, by rw [upd_ne hl]; exact h, r⟩
/-- a number below many is drawn -/
def spPick : Sp := fun vs H Q _ => ∃ (p : Addr) (c : Nat) (n : Int), vs = [.ref p, .int n] ∧ Pool H p c ∧ c ≤ 1000000 ∧ 0 < n ∧ n < 1073741824 ∧
  ∀ (r : Int) (H' : Hp), 0 ≤ r → r < n → Keep p H H' → Pool H' p (c + 1) → Q (.int r) H'
section
variable {P : Program} {w : World} {K : PySem.W.Frag} {mg : Str → Option Value} {base : Heap}
theorem scPick : FnScope ["_law_pool_here", "_law_many", "_law_found", "_law_mixed"] ["_law_pool_here", "_law_many"] (defScope sPick) := ⟨rfl, rfl, rfl, by decide +kernel, rfl, by decide +kernel, by decide +kernel⟩
theorem pow_bound {m k : Int} (h0 : 0 ≤ m) (h1 : m ≤ 16140901064500000000) (h2 : 0 ≤ k) (h3 : k ≤ 1000001) : (m + 1500450271 * k).natAbs < 2 ^ 64 := by omega
theorem pow_bound2 {a k : Int} (h0 : 0 ≤ a) (h1 : a < 2305843009213693921) (h2 : 0 ≤ k) (h3 : k ≤ 1000001) : (a + 28657 * k).natAbs < 2 ^ 64 := by omega
theorem ok_pick {f : Addr} {fd : FuncData} (F : Fun K "_law_pick" "_law_pick" sPick f fd) (T : Bare mg) : FnOk P w K mg base CX0 1 f fd ["_law_pool_here", "_law_many"] spPick := by
  refine F.ok scPick (fun vs H Q E h => ?_) (fun cdv A outer s H vs Q E hr h => ?_)
  · obtain ⟨p, c, n, rfl, _⟩ := h
    rfl
  · obtain ⟨p, c, n, rfl, ⟨g, m, k, hp, hg, hm, hm', hk, hk'⟩, hc, hn, hn', q⟩ := h
    refine ⟨_, pss_cons (ps_if (pt_cmpR op_gt (pe_ix ix_list (pv 0) pe_int (fun _ _ => rfl)) pe_int (nomark _))
        (pss_cons (ps_set (i := 2) scPick.nd rfl (.inl rfl) (pe_op op_mod (pe_callTy call_int1 (by rfl) T.int (by decide +kernel) (pa_cons (pe_ix ix_list (pv 0) pe_int (fun _ _ => rfl)) pa_nil)) (pv 1)))
          (pss_cons (ps_asg (pe_op op_fdiv (pe_ix ix_list (pv 0) pe_int (fun _ _ => rfl)) (pv 1)) (pg_sub (pv 0) pe_int set_list))
            (pss_one (ps_ret (pv 2))))) pss_nil)
      (pss_cons (ps_asg (pe_op op_add (pe_ix ix_list (pv 0) pe_int (fun _ _ => rfl)) pe_int) (pg_sub (pv 0) pe_int set_list))
      (pss_cons (ps_set (i := 3) scPick.nd rfl (.inl rfl) (pe_op op_mod (pe_callTy call_int1 (by rfl) T.int (by decide +kernel) (pa_cons
          (pe_op op_pow (pe_op op_add (pe_ix ix_list (pv 0) pe_int (fun _ _ => rfl)) (pe_op op_mul pe_int (pe_ix ix_list (pv 0) pe_int (fun _ _ => rfl)))) pe_int) pa_nil)) pe_int))
      (pss_cons (ps_set (i := 3) scPick.nd rfl (.inl rfl) (pe_op op_mod (pe_callTy call_int1 (by rfl) T.int (by decide +kernel) (pa_cons
          (pe_op op_pow (pe_op op_add (pv 3) (pe_op op_mul pe_int (pe_ix ix_list (pv 0) pe_int (fun _ _ => rfl)))) pe_int) pa_nil)) pe_int))
      (pss_one (ps_ret (pe_op op_mod (pe_callTy call_int1 (by rfl) T.int (by decide +kernel) (pa_cons (pe_op op_fdiv (pv 3) pe_int) pa_nil)) (pv 1))))))), ?_⟩
    refine ⟨_, rfl, p, _, _, _, rfl, rfl, SqL.of hp, atI_nat rfl, _, _, rfl, rfl, _, rfl, ?_⟩
    refine ite2 (fun h0 => ?_) (fun h0 => ?_)
    · refine ⟨_, rfl, p, _, _, _, rfl, rfl, SqL.of hp, atI_nat rfl, .inl ⟨_, rfl, _, rfl, _, _, rfl, rfl, hn, ?_⟩⟩
      refine ⟨_, rfl, p, _, _, _, rfl, rfl, SqL.of hp, atI_nat rfl, _, rfl, _, _, rfl, rfl, ⟨hn, hn'⟩, _, rfl, p, _, _, _, rfl, rfl, hp, rfl, ?_⟩
      refine ⟨_, rfl, ?_⟩
      refine q _ _ (Int.emod_nonneg _ (by omega)) (Int.emod_lt_of_pos _ hn) (Keep.refl p H).own ⟨g / n, m, k, upd_same, Int.ediv_nonneg hg (by omega), hm, hm', hk, by omega⟩
    · have e1 : ∀ H' : Hp, H' p = some (.lst [.int g, .int m, .int (k + 1)]) → SqL K H' p [.int g, .int m, .int (k + 1)] := fun _ e => SqL.of e
      refine ⟨_, rfl, p, _, _, _, rfl, rfl, SqL.of hp, atI_nat rfl, _, _, rfl, rfl, _, rfl, p, _, _, _, rfl, rfl, hp, rfl, ?_⟩
      refine ⟨_, rfl, p, [.int g, .int m, .int (k + 1)], _, _, rfl, rfl, e1 _ upd_same, atI_nat rfl, _, rfl, p, [.int g, .int m, .int (k + 1)], _, _, rfl, rfl, e1 _ upd_same, atI_nat rfl, _, _, rfl, rfl, .inl (by decide), _, _, rfl, rfl, _, _, rfl, rfl, ⟨by decide, by decide, pow_bound hm hm' (by omega) (by omega)⟩, .inl ⟨_, rfl, _, _, rfl, rfl, (by show (0 : Int) < 2305843009213693921; decide), ?_⟩⟩
      refine ⟨_, rfl, _, rfl, p, [.int g, .int m, .int (k + 1)], _, _, rfl, rfl, e1 _ upd_same, atI_nat rfl, _, _, rfl, rfl, .inl (by decide), _, _, rfl, rfl, _, _, rfl, rfl, ⟨by decide, by decide, pow_bound2 (Int.emod_nonneg _ (by decide)) (Int.emod_lt_of_pos _ (by decide)) (by omega) (by omega)⟩, .inl ⟨_, rfl, _, _, rfl, rfl, (by show (0 : Int) < 2305843009213693951; decide), ?_⟩⟩
      refine ⟨_, rfl, _, _, rfl, rfl, ⟨by decide, by decide⟩, .inl ⟨_, rfl, _, rfl, _, _, rfl, rfl, hn, ?_⟩⟩
      exact q _ _ (Int.emod_nonneg _ (by omega)) (Int.emod_lt_of_pos _ hn) (Keep.refl p H).own ⟨g, m, k + 1, upd_same, hg, hm, hm', by omega, by omega⟩
end
end K0

namespace K0
open PySem L2
/-- a new pool for one place of the script -/
def spPool (K : PySem.W.Frag) : Sp := fun vs H Q _ => ∃ (a : Addr) (ns : List Int) (k : Int), vs = [.ref a, .int k] ∧ SqL K H a (ns.map V.int) ∧ ns.length ≤ 63 ∧ 0 ≤ k ∧ k ≤ 63 ∧
  ∀ (p : Addr) (H' : Hp), H p = none → Same H H' → Pool H' p 0 → Q (.ref p) H'
section
variable {P : Program} {w : World} {K : PySem.W.Frag} {mg : Str → Option Value} {base : Heap}
theorem Same.new {H H1 : Hp} {l : Addr} {o : HO} (a : Same H H1) (hl : H1 l = none) : Same H (upd H1 l o) := fun b u h => by
  rw [upd_ne (ne_of_none (a b u h) hl)]
  exact a b u h
theorem at_int {ns : List Int} {k : Int} (h0 : 0 ≤ k) (h1 : k < (ns.length : Int)) : ∃ z, atI (ns.map V.int) k = some (V.int z) := by
  have hk : k.toNat < ns.length := by omega
  refine ⟨ns[k.toNat], at_of (j := k.toNat) (by omega) ?_⟩
  rw [List.getElem?_map, List.getElem?_eq_getElem hk]
  rfl
theorem scPool : FnScope ["_law_script", "_law_place", "_law_cell", "_law_great"] ["_law_script", "_law_place"] (defScope sPool) := ⟨rfl, rfl, rfl, by decide +kernel, rfl, by decide +kernel, by decide +kernel⟩
theorem ok_pool {f : Addr} {fd : FuncData} (F : Fun K "_law_pool" "_law_pool" sPool f fd) (T : Bare mg) : FnOk P w K mg base CX0 1 f fd ["_law_script", "_law_place"] (spPool K) := by
  refine F.ok scPool (fun vs H Q E h => ?_) (fun cdv A outer s H vs Q E hr h => ?_)
  · obtain ⟨p, c, n, rfl, _⟩ := h
    rfl
  · obtain ⟨a, ns, k, rfl, hS, hl, hk, hk', q⟩ := h
    refine ⟨_, C8.pss_cut (ps_set (i := 2) scPool.nd rfl (.inl rfl) (pe_ifExp (pt_cmpR op_lt (pv 1) (pe_callB call_len_seq (by rfl) T.len PySem.boot_len (pa_cons (pv 0) pa_nil)) (nomark _))
          (pe_ix ix_list (pv 0) (pv 1) (fun _ _ => rfl))
          (pe_op op_mod (pe_callTy call_int1 (by rfl) T.int (by decide +kernel) (pa_cons (pe_callB (cr_sum rfl) (by rfl) T.sum (by decide +kernel) (pa_cons (pe_slice sl_list (pv 0) po_none (po_some pe_int)) pa_nil)) pa_nil)) pe_int)))
      (C8.pss_cut (ps_set (i := 3) scPool.nd rfl (.inl rfl) (pe_ifExp (pt_cmpR op_ge (pe_callB call_abs (by rfl) T.abs (by decide +kernel) (pa_cons (pv 2) pa_nil)) (pe_op op_pow pe_int pe_int) (nomark _))
          (pe_callB call_abs (by rfl) T.abs (by decide +kernel) (pa_cons (pv 2) pa_nil)) pe_int))
      (pss_one (ps_ret (pe_lst (pa_cons (pv 3) (pa_cons
          (pe_op op_add (pe_op op_add (pe_op op_add (pe_op op_mul (pe_op op_mod (pe_callTy call_int1 (by rfl) T.int (by decide +kernel) (pa_cons (pv 2) pa_nil)) pe_int) pe_int) (pe_op op_mul pe_int (pv 1))) (pe_op op_mul pe_int pe_int)) pe_int)
          (pa_cons pe_int pa_nil))))))), ?_⟩
    refine ⟨fun σ H' => ∃ z : Int, σ = [some (.ref a), some (.int k), some (.int z), none] ∧ Same H H', ?_, ?_⟩
    · refine ⟨_, rfl, _, rfl, a, _, rfl, .inl hS, _, _, rfl, rfl, _, rfl, ?_⟩
      refine ite2 (fun h0 => ?_) (fun h0 => ?_)
      · have h0 : k < ((ns.map V.int).length : Int) := of_decide_eq_true h0
        rw [List.length_map] at h0
        obtain ⟨z, hz⟩ := at_int hk h0
        exact ⟨_, rfl, _, rfl, a, _, _, _, rfl, rfl, hS, hz, z, rfl, Same.refl H⟩
      · refine ⟨_, rfl, _, rfl, a, _, rfl, hS, fun l hl => ?_⟩
        refine ⟨l, ns.take 1, rfl, SqL.of ?_, .inl ⟨_, rfl, _, _, rfl, rfl, (by show (0 : Int) < 1000003; decide), _, rfl, Same.new (Same.refl H) hl⟩⟩
        rw [upd_same]
        congr 2
        unfold cutV
        cases ns with
        | nil => rfl
        | cons z ns => simp [HT.sIx]
    · rintro σ H1 ⟨z, rfl, s1⟩
      refine ⟨fun σ H' => ∃ g : Int, 0 ≤ g ∧ σ = [some (.ref a), some (.int k), some (.int z), some (.int g)] ∧ H' = H1, ?_, ?_⟩
      · refine ⟨_, rfl, _, rfl, _, _, rfl, rfl, ⟨by decide, by decide, by decide⟩, _, _, rfl, rfl, _, rfl, ?_⟩
        refine ite2 (fun _ => ?_) (fun _ => ?_)
        · refine ⟨_, rfl, _, rfl, _, ?_, rfl, rfl⟩
          by_cases hz : z < 0
          · rw [if_pos hz]; omega
          · rw [if_neg hz]; omega
        · exact ⟨0, Int.le_refl 0, rfl, rfl⟩
      · rintro σ H2 ⟨g, hg, rfl, rfl⟩
        refine ⟨_, rfl, _, rfl, .inl ⟨_, rfl, _, _, rfl, rfl, (by show (0 : Int) < 2305843009213693951; decide), _, _, rfl, rfl, .inr (by decide), _, rfl, _, _, rfl, rfl, .inl (by decide), _, _, rfl, rfl, _, _, rfl, rfl, .inl (by decide), _, _, rfl, rfl, _, _, rfl, rfl, by show 3 ≤ sizeLine; decide, fun p hp => ?_⟩⟩
        refine q p _ (s1.free hp) (Same.new s1 hp) ⟨g, _, 0, upd_same, hg, ?_, ?_, by decide, by decide⟩
        · have h1 := Int.emod_nonneg z (show (2305843009213693951 : Int) ≠ 0 by decide)
          omega
        · have h1 := Int.emod_lt_of_pos z (show (0 : Int) < 2305843009213693951 by decide)
          omega
end
end K0

namespace K0
open PySem L2
abbrev sOneOf : Stmt := top 8
abbrev sConsists : Stmt := top 9
abbrev sIsWord : Stmt := top 10
abbrev sIsNumeral : Stmt := top 11
abbrev sIsSign : Stmt := top 12
abbrev sSortOf : Stmt := top 13
def cLetters : Str := "abcdefghijklmnopqrstuvwxyz"
def cDigits : Str := "0123456789"
def signs : List Str := ["=", ";", ",", "[", "]"]
/-- the constants of the module -/
structure Mod (K : PySem.W.Frag) (mg : Str → Option Value) (aS : Addr) : Prop extends Bare mg where
  letters : ∃ t, mg "LETTERS" = some (.str cLetters t)
  digits : ∃ t, mg "DIGITS" = some (.str cDigits t)
  longest : ∃ t, mg "LONGEST" = some (.int 12 t)
  sgn : mg "SIGNS" = some (.ref aS)
  tup : ∃ (o : Obj) (its : Array Value) (n : Nat), K.lookup aS = some o ∧ o.cls = .type "tuple" ∧ o.data = .seq its n ∧ its.size ≤ sizeLine ∧ Vals (K0.signs.map V.str) its.toList
theorem Mod.sq {K : PySem.W.Frag} {mg : Str → Option Value} {aS : Addr} (T : Mod K mg aS) (H : Hp) : SqT K H aS (K0.signs.map V.str) := .inr T.tup
theorem inV_strs (z : Str) (ws : List Str) : inV (.str z) (ws.map V.str) = decide (z ∈ ws) := by
  unfold inV
  induction ws with
  | nil => rfl
  | cons y ws ih =>
    rw [List.map_cons, List.any_cons, ih]
    show (y == z || _) = _
    by_cases h : y = z
    · subst h; simp
    · have h' : ¬ z = y := fun e => h e.symm
      have e : (y == z) = false := by simpa using h
      rw [e, Bool.false_or]
      simp [h']
theorem flat_strs (ws : List Str) : (ws.map V.str).all flatV = true := by
  rw [List.all_map]
  exact List.all_eq_true.mpr fun _ _ => rfl
theorem all_id_map {α : Type} (p : α → Bool) (l : List α) : (l.map p).all id = l.all p := by
  induction l with
  | nil => rfl
  | cons a l ih => rw [List.map_cons, List.all_cons, List.all_cons, ih]; rfl
theorem take_more {α β : Type} (f : α → β) {l : List α} {i : Nat} {c : α} (h : l[i]? = some c) : (l.take i).map f ++ [f c] = (l.take (i + 1)).map f := by
  rw [List.take_add_one, h, List.map_append]
  rfl
theorem cps_at {z : Str} {i : Nat} {c : Nat} (h : z.cps[i]? = some c) : z.cps.toList[i]? = some c := by simpa using h
theorem str_len (z : Str) : z.cps.toList.length = z.length := by simp [Str.length]
/-- 1 to 12 of these signs -/
def inAll (z cs : Str) : Bool := decide (1 ≤ z.length) && decide (z.length ≤ 12) && z.cps.toList.all fun c => decide (c ∈ cs.cps.toList)
def spOneOf (K : PySem.W.Frag) : Sp := fun vs H Q _ => ∃ (z : Str) (a : Addr) (ws : List Str), vs = [.str z, .ref a] ∧ SqT K H a (ws.map V.str) ∧ Q (.bl (decide (z ∈ ws))) H
def spConsists : Sp := fun vs H Q _ => ∃ z cs : Str, vs = [.str z, .str cs] ∧ z.length ≤ sizeLine ∧ ∀ H', Same H H' → Q (.bl (inAll z cs)) H'
def spWord : Sp := fun vs H Q _ => ∃ z : Str, vs = [.str z] ∧ z.length ≤ sizeLine ∧ ∀ H', Same H H' → Q (.bl (inAll z cLetters)) H'
/-- a numeral -/
def numOk (z : Str) : Bool := inAll z cDigits && (decide (z = "0") || !decide ((⟨#[z.cps.toList.headD 0]⟩ : Str) = "0"))
def spNum : Sp := fun vs H Q _ => ∃ z : Str, vs = [.str z] ∧ z.length ≤ sizeLine ∧ ∀ H', Same H H' → Q (.bl (numOk z)) H'
def spSign : Sp := fun vs H Q _ => ∃ z : Str, vs = [.str z] ∧ Q (.bl (decide (z ∈ signs))) H
def sortV (z : Str) : V := if z ∈ signs then .str z else if inAll z cLetters = true then .str "word" else if numOk z = true then .str "number" else .non
def spSort : Sp := fun vs H Q _ => ∃ z : Str, vs = [.str z] ∧ z.length ≤ sizeLine ∧ ∀ H', Same H H' → Q (sortV z) H'
section
variable {P : Program} {w : World} {K : PySem.W.Frag} {mg : Str → Option Value} {base : Heap} {aS : Addr}
theorem scOneOf : FnScope ["thing", "words"] ["thing", "words"] (defScope sOneOf) := ⟨rfl, rfl, rfl, by decide +kernel, rfl, by decide +kernel, by decide +kernel⟩
theorem ok_oneOf {f : Addr} {fd : FuncData} (F : Fun K "is_one_of" "is_one_of" sOneOf f fd) (T : Mod K mg aS) : FnOk P w K mg base CX0 1 f fd ["thing", "words"] (spOneOf K) := by
  refine F.ok scOneOf (fun vs H Q E h => ?_) (fun cdv A outer s H vs Q E hr h => ?_)
  · obtain ⟨z, a, ws, rfl, _⟩ := h
    rfl
  · obtain ⟨z, a, ws, rfl, ht, q⟩ := h
    refine ⟨_, pss_one (ps_ret (pe_and (pe_callB call_isi (by rfl) T.isi (by decide +kernel) (pa_cons (pv 0) (pa_cons (pe_bltn (v := .ty "str") (by rfl) T.str (by decide +kernel) rfl) pa_nil)))
      (pe_one (pe_cmpR op_in_seq (pv 0) (pv 1) (by rfl))))), ?_⟩
    refine ⟨_, rfl, .str z, .ty "str", .type "str", .type "str", true, rfl, .ty "str", .base (.str z), kit_ty (by decide +kernel), true, rfl, iteT ⟨_, rfl, _, rfl, a, _, rfl, .inr ht, rfl, flat_strs ws, ?_⟩⟩
    show Q (.bl (inV (.str z) (ws.map V.str))) H
    rw [inV_strs]
    exact q
theorem scConsists : FnScope ["thing", "characters", "character"] ["thing", "characters"] (defScope sConsists) := ⟨rfl, rfl, rfl, by decide +kernel, rfl, by decide +kernel, by decide +kernel⟩
theorem ok_consists {f : Addr} {fd : FuncData} (F : Fun K "consists_of" "consists_of" sConsists f fd) (T : Mod K mg aS) : FnOk P w K mg base CX0 1 f fd ["thing", "characters"] spConsists := by
  obtain ⟨t, hL⟩ := T.longest
  refine F.ok scConsists (fun vs H Q E h => ?_) (fun cdv A outer s H vs Q E hr h => ?_)
  · obtain ⟨z, cs, rfl, _⟩ := h
    rfl
  · obtain ⟨z, cs, rfl, hz, q⟩ := h
    refine ⟨_, C8.pss_cut (ps_if (PW.pt (pw_or (pt_not (pt_val (pe_callB call_isi (by rfl) T.isi (by decide +kernel) (pa_cons (pv 0) (pa_cons (pe_bltn (v := .ty "str") (by rfl) T.str (by decide +kernel) rfl) pa_nil)))))
        (pw_or1 (pt_not (pt_chain op_le op_le pe_int (pe_callB call_len_str (by rfl) T.len PySem.boot_len (pa_cons (pv 0) pa_nil)) (pe_glob (v := .int 12) rfl hL ⟨_, rfl⟩))))))
        (pss_one (ps_ret pe_bl)) pss_nil)
      (pss_one (ps_ret (pe_callB (cr_all rfl) (by rfl) T.all (by decide +kernel) (pa_cons (pe_lc (own := [("character", 2)]) (g := gName 2) (tt := tYes) (by rfl) scConsists.nd (pi_str (pv 0))
        (blkOk_by (own := [("character", 2)]) (N := ["thing", "characters", "character"]) (sc := defScope sConsists) (by decide +kernel)) (fun _ _ _ _ _ => pg_name (i := 2) scConsists.nd rfl (Or.inl rfl))
        (fun _ _ _ _ _ => pts_nil) (fun _ _ _ _ _ => pe_cmpR op_in_sign (pv 2) (pv 1) rfl)) pa_nil)))), ?_⟩
    have hi : inAll z cs = (decide (1 ≤ z.length) && (decide (z.length ≤ 12) && z.cps.toList.all fun c => decide (c ∈ cs.cps.toList))) := Bool.and_assoc ..
    refine ⟨fun σ H' => σ = [some (.str z), some (.str cs), none] ∧ H' = H ∧ inAll z cs = z.cps.toList.all fun c => decide (c ∈ cs.cps.toList), ?_, ?_⟩
    · refine ⟨_, rfl, .str z, .ty "str", .type "str", .type "str", true, rfl, .ty "str", .base (.str z), kit_ty (by decide +kernel), true, rfl, ?_⟩
      refine iteF ?_
      refine ⟨_, rfl, z, rfl, hz, _, _, rfl, rfl, _, rfl, ?_⟩
      refine ite2 (fun h1 => ?_) (fun h1 => ?_)
      · have h1' : 1 ≤ z.length := by have := of_decide_eq_true h1; omega
        refine ⟨_, _, rfl, rfl, _, rfl, ?_⟩
        by_cases h2 : (z.length : Int) ≤ 12
        · show if (!decide ((z.length : Int) ≤ 12)) = true then _ else _
          refine iteNS h2 ?_
          have h2' : z.length ≤ 12 := by omega
          exact ⟨rfl, rfl, by rw [hi, decide_eq_true h1', decide_eq_true h2', Bool.true_and, Bool.true_and]⟩
        · show if (!decide ((z.length : Int) ≤ 12)) = true then _ else _
          rw [decide_eq_false h2]
          refine iteT ?_
          have h2' : ¬ z.length ≤ 12 := by omega
          have e := q H (Same.refl H)
          rw [hi, decide_eq_false h2', Bool.false_and, Bool.and_false] at e
          exact e
      · refine ⟨_, rfl, iteT ?_⟩
        have h1' : ¬ 1 ≤ z.length := fun h => h1 (decide_eq_true (by omega))
        have e := q H (Same.refl H)
        rw [hi, decide_eq_false h1', Bool.false_and] at e
        exact e
    · rintro σ H1 ⟨rfl, rfl, e⟩
      refine ⟨_, rfl, z, rfl, fun D hD => ?_⟩
      refine lc_it walk_str (fun i H' => Same H1 H' ∧ H' D = some (.lst ((z.cps.toList.take i).map fun c => V.bl (decide (c ∈ cs.cps.toList))))) ⟨Same.new (Same.refl H1) hD, upd_same⟩ (fun _ _ _ _ => trivial) ?_ ?_
      · rintro i x H2 H3 hi2 ⟨s2, h2⟩ ⟨rfl, c, hc, rfl⟩
        refine ⟨rfl, ?_⟩
        refine ⟨_, rfl, _, rfl, c, cs, rfl, rfl, _, h2, ?_, fun b o hb => ?_, ?_⟩
        · rw [List.length_map, List.length_take, str_len]
          have : i < z.length := hi2
          omega
        · rw [upd_ne (ne_of_none hb hD)]
          exact s2 b o hb
        · rw [upd_same, take_more _ (cps_at hc)]
      · rintro H2 ⟨s2, h2⟩
        refine ⟨D, z.cps.toList.map fun c => decide (c ∈ cs.cps.toList), rfl, SqL.of ?_, ?_⟩
        · rw [h2, List.map_map, List.take_of_length_le (by simp)]
          rfl
        · rw [all_id_map, ← e]
          exact q H2 s2
theorem scWord : FnScope ["thing"] ["thing"] (defScope sIsWord) := ⟨rfl, rfl, rfl, by decide +kernel, rfl, by decide +kernel, by decide +kernel⟩
theorem ok_word {f fC : Addr} {fd fdC : FuncData} (F : Fun K "is_word" "is_word" sIsWord f fd) (T : Mod K mg aS) (FC : Fun K "consists_of" "consists_of" sConsists fC fdC) (bC : Binds K fdC ["thing", "characters"] []) (mC : mg "consists_of" = some (.ref fC)) : FnOk P w K mg base CX0 2 f fd ["thing"] spWord := by
  have GC : FnOk P w K mg base CX0 1 fC fdC ["thing", "characters"] spConsists := ok_consists FC T
  obtain ⟨t, hL⟩ := T.letters
  refine F.ok scWord (fun vs H Q E h => ?_) (fun cdv A outer s H vs Q E hr h => ?_)
  · obtain ⟨z, rfl, _⟩ := h
    rfl
  · obtain ⟨z, rfl, hz, q⟩ := h
    refine ⟨_, pss_one (ps_ret (pe_call GC hr rfl mC FC.kp bC .nil pass0 (pa_cons (pv 0) (pa_cons (pe_glob (v := .str cLetters) rfl hL ⟨_, rfl⟩) pa_nil)))), ?_⟩
    exact ⟨_, rfl, z, cLetters, rfl, hz, q⟩
theorem scNum : FnScope ["thing"] ["thing"] (defScope sIsNumeral) := ⟨rfl, rfl, rfl, by decide +kernel, rfl, by decide +kernel, by decide +kernel⟩
theorem at_zero {z : Str} (h : 1 ≤ z.length) : atI z.cps.toList 0 = some (z.cps.toList.headD 0) := by
  refine atI_nat (j := 0) ?_
  rw [← str_len] at h
  cases e : z.cps.toList with
  | nil => rw [e] at h; exact absurd h (by decide)
  | cons c l => rfl
theorem ok_num {f fC : Addr} {fd fdC : FuncData} (F : Fun K "is_numeral" "is_numeral" sIsNumeral f fd) (T : Mod K mg aS) (FC : Fun K "consists_of" "consists_of" sConsists fC fdC) (bC : Binds K fdC ["thing", "characters"] []) (mC : mg "consists_of" = some (.ref fC)) : FnOk P w K mg base CX0 2 f fd ["thing"] spNum := by
  have GC : FnOk P w K mg base CX0 1 fC fdC ["thing", "characters"] spConsists := ok_consists FC T
  obtain ⟨t, hL⟩ := T.digits
  refine F.ok scNum (fun vs H Q E h => ?_) (fun cdv A outer s H vs Q E hr h => ?_)
  · obtain ⟨z, rfl, _⟩ := h
    rfl
  · obtain ⟨z, rfl, hz, q⟩ := h
    refine ⟨_, pss_one (ps_ret (pe_and (pe_call GC hr rfl mC FC.kp bC .nil pass0 (pa_cons (pv 0) (pa_cons (pe_glob (v := .str cDigits) rfl hL ⟨_, rfl⟩) pa_nil)))
      (pe_one (pe_or (pe_cmpR op_eq (pv 0) pe_str (nomark _)) (pe_one (pe_cmpR op_ne (pe_ix ix_str (pv 0) pe_int (fun _ _ => rfl)) pe_str (nomark _))))))), ?_⟩
    refine ⟨_, rfl, z, cDigits, rfl, hz, fun H1 s1 => ⟨_, rfl, ?_⟩⟩
    have e := q H1 s1
    unfold numOk at e
    cases ha : inAll z cDigits with
    | false =>
      rw [ha, Bool.false_and] at e
      exact iteF e
    | true =>
      rw [ha, Bool.true_and] at e
      have h1 : 1 ≤ z.length := by
        unfold inAll at ha
        rw [Bool.and_eq_true, Bool.and_eq_true] at ha
        exact of_decide_eq_true ha.1.1
      refine iteT ⟨_, rfl, rfl, _, rfl, ?_⟩
      have ez : decide (V.str z = V.str (("0" : Str))) = decide (z = "0") := by
        by_cases h : z = "0"
        · rw [h]; simp
        · have h' : ¬ V.str z = V.str (("0" : Str)) := fun x => h (V.str.inj x)
          rw [decide_eq_false h, decide_eq_false h']
      show if decide (V.str z = V.str (("0" : Str))) = true then _ else _
      rw [ez]
      cases hz0 : decide (z = "0") with
      | true =>
        rw [hz0, Bool.true_or] at e
        exact iteT e
      | false =>
        rw [hz0, Bool.false_or] at e
        refine iteF ⟨_, rfl, z, _, _, rfl, rfl, hz, at_zero h1, rfl, ?_⟩
        have ey : decide (V.str ⟨#[z.cps.toList.headD 0]⟩ = V.str (("0" : Str))) = decide ((⟨#[z.cps.toList.headD 0]⟩ : Str) = "0") := by
          by_cases h : (⟨#[z.cps.toList.headD 0]⟩ : Str) = "0"
          · rw [h]; simp
          · have h' : ¬ V.str ⟨#[z.cps.toList.headD 0]⟩ = V.str (("0" : Str)) := fun x => h (V.str.inj x)
            rw [decide_eq_false h, decide_eq_false h']
        show Q (V.bl (!decide (V.str ⟨#[z.cps.toList.headD 0]⟩ = V.str (("0" : Str))))) H1
        rw [ey]
        exact e
theorem scSign : FnScope ["thing"] ["thing"] (defScope sIsSign) := ⟨rfl, rfl, rfl, by decide +kernel, rfl, by decide +kernel, by decide +kernel⟩
theorem ok_sign {f fC : Addr} {fd fdC : FuncData} (F : Fun K "is_sign" "is_sign" sIsSign f fd) (T : Mod K mg aS) (FC : Fun K "is_one_of" "is_one_of" sOneOf fC fdC) (bC : Binds K fdC ["thing", "words"] []) (mC : mg "is_one_of" = some (.ref fC)) : FnOk P w K mg base CX0 2 f fd ["thing"] spSign := by
  have GC : FnOk P w K mg base CX0 1 fC fdC ["thing", "words"] (spOneOf K) := ok_oneOf FC T
  refine F.ok scSign (fun vs H Q E h => ?_) (fun cdv A outer s H vs Q E hr h => ?_)
  · obtain ⟨z, rfl, _⟩ := h
    rfl
  · obtain ⟨z, rfl, q⟩ := h
    refine ⟨_, pss_one (ps_ret (pe_call GC hr rfl mC FC.kp bC .nil pass0 (pa_cons (pv 0) (pa_cons (pe_glob (v := .ref aS) rfl T.sgn rfl) pa_nil)))), ?_⟩
    exact ⟨_, rfl, z, aS, signs, rfl, T.sq H, q⟩
theorem scSort : FnScope ["thing"] ["thing"] (defScope sSortOf) := ⟨rfl, rfl, rfl, by decide +kernel, rfl, by decide +kernel, by decide +kernel⟩
theorem ok_sort {f fS fW fN : Addr} {fd fdS fdW fdN : FuncData} (F : Fun K "sort_of" "sort_of" sSortOf f fd)
    (kS : PySem.W.keepIn K (.ref fS) = true) (GS : FnOk P w K mg base CX0 2 fS fdS ["thing"] spSign) (bS : Binds K fdS ["thing"] []) (mS : mg "is_sign" = some (.ref fS))
    (kW : PySem.W.keepIn K (.ref fW) = true) (GW : FnOk P w K mg base CX0 2 fW fdW ["thing"] spWord) (bW : Binds K fdW ["thing"] []) (mW : mg "is_word" = some (.ref fW))
    (kN : PySem.W.keepIn K (.ref fN) = true) (GN : FnOk P w K mg base CX0 2 fN fdN ["thing"] spNum) (bN : Binds K fdN ["thing"] []) (mN : mg "is_numeral" = some (.ref fN)) : FnOk P w K mg base CX0 3 f fd ["thing"] spSort := by
  refine F.ok scSort (fun vs H Q E h => ?_) (fun cdv A outer s H vs Q E hr h => ?_)
  · obtain ⟨z, rfl, _⟩ := h
    rfl
  · obtain ⟨z, rfl, hz, q⟩ := h
    refine ⟨_, pss_cons (ps_if (pt_val (pe_call GS hr rfl mS kS bS .nil pass0 (pa_cons (pv 0) pa_nil))) (pss_one (ps_ret (pv 0))) pss_nil)
      (pss_cons (ps_if (pt_val (pe_call GW hr rfl mW kW bW .nil pass0 (pa_cons (pv 0) pa_nil))) (pss_one (ps_ret pe_str)) pss_nil)
      (pss_cons (ps_if (pt_val (pe_call GN hr rfl mN kN bN .nil pass0 (pa_cons (pv 0) pa_nil))) (pss_one (ps_ret pe_str)) pss_nil)
      (pss_one (ps_ret pe_non)))), ?_⟩
    refine ⟨_, rfl, z, rfl, _, rfl, ite2 (fun h1 => ⟨_, rfl, ?_⟩) (fun h1 => ?_)⟩
    · have e := q H (Same.refl H)
      unfold sortV at e
      rw [if_pos (of_decide_eq_true h1)] at e
      exact e
    · have h1 : ¬ z ∈ signs := fun x => h1 (decide_eq_true x)
      refine ⟨_, rfl, z, rfl, hz, fun H1 s1 => ⟨_, rfl, ite2 (fun h2 => ?_) (fun h2 => ?_)⟩⟩
      · have e := q H1 s1
        unfold sortV at e
        rw [if_neg h1, if_pos h2] at e
        exact e
      · refine ⟨_, rfl, z, rfl, hz, fun H2 s2 => ⟨_, rfl, ite2 (fun h3 => ?_) (fun h3 => ?_)⟩⟩
        all_goals
          have e := q H2 (s1.trans s2)
          unfold sortV at e
          rw [if_neg h1, if_neg h2] at e
        · rw [if_pos h3] at e
          exact e
        · rw [if_neg h3] at e
          exact e
end
end K0

namespace K0E
open PySem PySem.W PySem.Calls PyProof.Rows PySem.HandSPX
/-! ### BadText and its __init__, which says super().__init__(..) and stores one field -/
def eA (p1 p2 : Pos) : Arguments := { posonlyargs := [], args := [{ arg := "self", annotation := none, pos := p1 }, { arg := "at", annotation := none, pos := p2 }], vararg := none, kwonlyargs := [], kw_defaults := [], kwarg := none, defaults := [] }
def eB (m : Str) (j : Nat) (o1 o2 o3 o4 o5 o6 q1 q2 q3 q4 : Pos) : List Stmt := [.Expr (.Call (.Attribute (.Call (.Name "super" o1) [] [] o2) "__init__" o3) [.Constant (.str m) j o4] [] o5) o6, .Assign [.Attribute (.Name "self" q1) "at" q2] (.Name "at" q3) q4]
def eS : Scope := { kind := .function, names := [(PySem.Str.ofString "self", .local), (PySem.Str.ofString "at", .local), (PySem.Str.ofString "__class__", .free), (PySem.Str.ofString "super", .globalImplicit)], isGenerator := false, isCoroutine := false, more := [] }
/-- what the written part says of BadText, at C, of its __init__, at fI, and of that one's cell and code -/
structure ErrTxt (prog : Program) (K : Frag) (mg : Str → Option Value) (C fI : Addr) : Prop where
  gC : mg "BadText" = some (.ref C)
  cls : ∃ nm q N bs bm sn sub ab col dd k0 k1 k2 k3 k5, K.lookup C = some (excClassObj nm q C N bs bm true sn sub ab col dd k0 k1 k2 k3 k5 "ValueError.__new__") ∧ refsVE bm = true
  sa : findIn K (.ref C) "__setattr__" = some (some (.builtin "object.__setattr__"))
  noN : findIn K (.ref C) "at" = some none
  iC : findIn K (.ref C) "__init__" = some (some (.ref fI))
  tC : typeIn K (.ref fI) = some (.type "function")
  kC : keepIn K (.ref C) = true
  exC : subIn K (.ref C) (.type "BaseException") = some true
  vaC : subIn K (.ref C) (.type "ValueError") = some true
  tyC : typeIn K (.ref C) = some (.type "type")
  te : exmOne K (.ref C) (.ref C) = some true
  sub : mroIn K C (.ref C) = some true
  sup : ks_superIn K C C "__init__" = some (some (.builtin "ValueError.__init__"))
  tp : nsIn K cStatics "thirdparty.any" = some none
  su : mg "super" = none
  top : (prog.main.scope.names.lookup ("super" : Str)).isSome = false
  fn : ∃ (oc : Value) (od : Option Addr) (doc pm : Value) (an : Option Addr) (cda cc : Addr) (ct : Value) (osl : Array (Option Value)) (m : Str) (j : Nat) (p1 p2 o1 o2 o3 o4 o5 o6 q1 q2 q3 q4 : Pos),
    K.lookup fI = some ⟨oc, od, .func (ksFn "__init__" "BadText.__init__" (eA p1 p2) (eB m j o1 o2 o3 o4 o5 o6 q1 q2 q3 q4) eS .none .none doc pm an (.ref cda) ct cc), osl⟩ ∧ codeIn K (.ref cda) "BadText.__init__" = true ∧
    (∃ (ccl : Value) (cdd : Option Addr) (vs : Array Value) (ccs : Array (Option Value)) (file : Str) (tf : Tok), K.lookup cda = some ⟨ccl, cdd, .fields vs, ccs⟩ ∧ vs[2]? = some (.str file tf) ∧ ((prog.main.file : Str) == file) = true) ∧
    (∀ env : Env, ∃ pl : Sem Bool, eval (.Call (.Attribute (.Call (.Name "super" o1) [] [] o2) "__init__" o3) [.Constant (.str m) j o4] [] o5) env = (do
      let ov ← attributeBase (.Call (.Name "super" o1) [] [] o2) "__init__" env (eval (.Call (.Name "super" o1) [] [] o2) env)
      standAt o3.atName
      let (f, first) ← holding [ov] (getMethod ov "__init__" pl)
      callWith o5 f first (backTo o5 (starEach [.Constant (.str m) j o4] env)) [])) ∧
    ∃ (cl : Value) (cld : Option Addr) (csl : Array (Option Value)), K.lookup cc = some ⟨cl, cld, .cell (some (.ref C)), csl⟩
theorem one_len (v : Value) : [v].length ≤ sizeLine := by
  show 1 ≤ sizeLine
  rw [sizeLine_eq]
  decide
/-- what __init__ leaves of a fresh exception at x -/
structure Left (h h' : Heap) (x C dx t1 : Addr) (v : Value) : Prop where
  keep : ∀ b o, b ≠ x → h.get? b = some o → h'.get? b = some o
  obj : h'.get? x = some { cls := .ref C, dict := some dx, data := .fields #[.ref t1, .none, .none, .none, .bool false, .none] }
  dbig : h.objs.size ≤ dx
  dne : dx ≠ x
  ns : h'.Ns1 dx (fun y => if y = "at" then some v else none)
section
variable {prog : Program} {w : World} {A : Around} {E : Value → Shared → Prop} {R : Result → Shared → Prop} {K : Frag} {mg : Str → Option Value} {C fI : Addr}
/-- the wrapper of ValueError.__init__, bound to a fresh exception, called -/
theorem wrapped {h : Heap} {g : Array GenState} {d : Drawn} {t : Nat} {os : OsState} {nm q : Str} {N : Addr} {bs bm : List Value} {hdct : Bool} {sn : List Str} {sub : List Value} {ab : Bool} {col : Option Bool} {dd : Option Addr} {k0 k1 k2 k3 k5 : Option Value}
    {u e t0 : Addr} {rest : List Value} {Q : Value → Shared → Prop} (hC : h.get? C = some (excClassObj nm q C N bs bm hdct sn sub ab col dd k0 k1 k2 k3 k5 "ValueError.__new__")) (he : h.get? e = some (excO C t0)) (hu : h.get? u = some (kxs_mw "ValueError.__init__" e)) (hz : rest.length ≤ sizeLine)
    (hq : ∀ h' t1, (∀ b o, b ≠ e → h.get? b = some o → h'.get? b = some o) → h'.get? e = some (excO C t1) → Q .none ⟨h', g, d, t, os⟩) :
    wpAny (model prog w) A (PySem.call (.ref u) rest) Q E ⟨h, g, d, t, os⟩ := by
  refine wpAny_call (codeAny_of_tree ?_)
  show wpAny _ A.in1 (callAny (.ref u) ⟨rest, []⟩) _ _ _
  unfold callAny
  refine wpAny_bind (wpAny_load hu ?_)
  have y1 : (Value.type "method-wrapper" == Value.type "method" || Value.type "method-wrapper" == Value.type "builtin_function_or_method" || Value.type "method-wrapper" == Value.type "method-wrapper") = true := by decide
  simp only [kxs_mw, y1, if_true]
  refine KFB.if_so (by decide) ?_
  refine wpAny_bind (check_bound_init F.excBase_ValueError.toExcCallFacts hC he rfl ?_)
  refine wpAny_bind (wpAny_pure (wpAny_pure ?_))
  refine ⟨plainId_quiet F.excBase_ValueError.init.plain _, codeAny_builtin F.excBase_ValueError.initEntry ?_⟩
  exact exc_init_tree (cls := .ref C) (t0 := t0) (dv := none) (c2 := .none) (c3 := .none) (b4 := .bool false) he hz fun h' k e' _ => hq h' _ k e'
theorem bound_name {env : Env} {s : Shared} {m : Str → Option Value} {y : Str} {pos : Pos} {u : Value} {Q : Value → Shared → Prop} {M : Model} (hn : s.heap.Ns env.locals m) (hv : m y = some u) (h : Q u s)
    (hk : env.scope.kind = .function := by rfl) (hl : env.kindOf y = some .local := by rfl) (hd : (y == ("__debug__" : Str)) = false := by decide) : wpAny M A (eval (.Name y pos) env) Q E s := wpAny_Name (wpAny_loadName_local hk hl hn hv h) hd
theorem err_init (T : ErrTxt prog K mg C fI) {s : Shared} {x t0 : Addr} {v : Value} (X : K.In s.heap) (G : s.heap.Ns mainGlobals mg) (B : ∃ mb, s.heap.Ns builtinsNs mb ∧ mb "super" = bootBuiltins "super") (hlim : s.heap.NoLimit) (hx : s.heap.get? x = some (excO C t0)) (hnx : K.lookup x = none) (hroom : A.depth < recursionLimit)
    (hq : ∀ h' tk dx t1, Left s.heap h' x C dx t1 v → R (.ok (.ret .none)) { s with heap := h', toks := tk }) :
    codeAny (model prog w) A (.call (.ref fI) ⟨[.ref x, v], []⟩) R s := by
  obtain ⟨oc, od, doc, pm, an, cda, cc, ct, osl, msg, j, p1, p2, o1, o2, o3, o4, o5, o6, q1, q2, q3, q4, ho, hcd, ⟨ccl, cdd, vs, ccs, file, tf, hcode, hvs, hfile⟩, hev, cl, cld, csl, hcell⟩ := T.fn
  obtain ⟨nm, q, N, bs, bm, sn, sub, ab, col, dd, k0, k1, k2, k3, k5, hC, hbm⟩ := T.cls
  obtain ⟨mb, hB, hmb⟩ := B
  have hcl : clsIn K C = some { name := nm, bases := bs, mro := .ref C :: bm, ns := N, qualname := q, hasDict := true, slotNames := sn, subclasses := sub, abstract := ab, collection := col, hasDel := false } := by unfold clsIn; rw [hC] <;> rfl
  obtain ⟨hp, g, d, t, os⟩ := s
  refine ks_codeAny_call_defAt (binds := [((PySem.Str.ofString "self"), Value.ref x), ((PySem.Str.ofString "at"), v)]) hroom (X _ _ ho) rfl hlim (codeRec_of X hcd) rfl (BindsTo.of_eq (by first | rfl | with_unfolding_all rfl)) (show ∀ y ∈ eS.names, y.2 ≠ .cell by decide +kernel) (fun y hy => ?_) (fun h₁ hns k₁ => ?_) rfl rfl rfl
  · have hy' : y = ((PySem.Str.ofString "self"), Value.ref x) ∨ y = ((PySem.Str.ofString "at"), v) := by simpa using hy
    rcases hy' with e | e <;> rw [e] <;> rfl
  · have X₁ : K.In h₁ := X.keeps k₁
    have hx₁ : h₁.get? x = some (excO C t0) := k₁ _ _ hx
    obtain ⟨pl, hev⟩ := hev (ksEnv "BadText.__init__" eS hp.objs.size fI (.ref cda) cc)
    refine ks_wpAt_execs_cons (ks_wpAt_Expr_any (ks_wpAt_MethodCall ?_ hev))
    refine ks_wpAt_super_base rfl rfl (by decide +kernel) rfl (X₁ _ _ ho) rfl rfl rfl (X₁ _ _ hcode) rfl hvs hfile T.top ?_
    refine ks_loadName_global rfl rfl (loadGlobal_builtin (G.keeps k₁) T.su (hB.keeps k₁) (hmb.trans PyProof.Rows.Boot.«super») ⟨rfl, ?_⟩)
    refine wpAny_loadName_free rfl rfl rfl ⟨_, X₁ _ _ hcell, rfl⟩ ?_
    refine wpAny_loadName_local (v := .ref x) rfl rfl hns rfl ?_
    have hC₁ := X₁ _ _ hC
    refine ks_wpAny_isType_cls hC₁ rfl ⟨rfl, ?_⟩
    refine ks_wpAny_call_super hC₁ rfl hx₁ rfl (fun c e => by cases e) (looks_mroIn X₁ T.sub) (fun h₂ e₂ k₂ => ?_)
    have X₂ : K.In h₂ := X₁.keeps k₂
    have hx₂ := k₂ _ _ hx₁
    have I₂ : InstAt h₂ x (excO C t0) C none := ⟨hx₂, rfl, rfl, trivial⟩
    have hxC : x ≠ C := fun z => by rw [z, hC] at hnx; cases hnx
    have hsup : alongIn K "__init__" (((Value.ref C :: bm).dropWhile (· != .ref C)).drop 1) = some (some (.builtin "ValueError.__init__")) := by
      have z := T.sup
      unfold ks_superIn at z
      rw [hcl] at z
      exact z
    refine kxs_getMethod kxs_ValueError e₂ (looks_opaque X₂ T.tp) (l₀ := Value.ref C :: bm) ((looks_clsIn X₂ hcl).andThen .now) rfl X₂ hsup (I₂.type.andThen (looks_subIn X₂ T.vaC)) hxC (by decide +kernel) ?_
    have k₃ : ∀ b o, h₂.get? b = some o → (h₂.push (kxs_mw "ValueError.__init__" x)).get? b = some o := fun b o e => Heap.get?_push_of_some _ e
    have hu₃ : (h₂.push (kxs_mw "ValueError.__init__" x)).get? h₂.objs.size = some (kxs_mw "ValueError.__init__" x) := Heap.get?_push_at rfl rfl
    refine kxs_callWith (i := "ValueError.__init__") (x := x) rfl (evalArgs_plain (spliced_cons (Constant_str (k := j) (pos := o4) (spliced_nil ⟨hu₃, ?_⟩))))
    refine wrapped (k₃ _ _ (X₂ _ _ hC)) (k₃ _ _ hx₂) hu₃ (one_len _) fun h₄ t1 k₄ hx₄ => ?_
    have k14 : ∀ b o, b ≠ x → h₁.get? b = some o → h₄.get? b = some o := fun b o n e => k₄ b o n (k₃ _ _ (k₂ _ _ e))
    have hL : hp.objs.size ≠ x := Nat.ne_of_gt (Heap.lt_size hx)
    have hns₄ : h₄.Ns hp.objs.size (fun y => List.lookup y [((PySem.Str.ofString "self"), Value.ref x), ((PySem.Str.ofString "at"), v)].reverse) := hns.at fun o e => k14 _ _ hL e
    have X₄ : K.In h₄ := fun b o e => k14 b o (fun z => by rw [z, hnx] at e; cases e) (X₁ b o e)
    refine wpAt_of_wpAny (wpAny_execs_cons (plainObj_wpAny_Assign_Attribute ?_))
    refine bound_name (env := ksEnv "BadText.__init__" eS hp.objs.size fI (.ref cda) cc) hns₄ (u := v) rfl (bound_name (env := ksEnv "BadText.__init__" eS hp.objs.size fI (.ref cda) cc) hns₄ (u := .ref x) rfl ?_)
    refine set_plain X₄ (ox := excO C t1) (od := none) ⟨hx₄, rfl, rfl, trivial⟩ T.sa ?_
    refine exc_osa X₄ hx₄ hcl (show refsVE (.ref C :: bm) = true from hbm) rfl T.noN (fun h₅ tk₅ dx k₅ dn dne hx₅ hn₅ => ?_)
    show wpAny _ _ (execs _ _) _ _ _
    have hz : hp.objs.size ≤ h₄.objs.size := Nat.le_of_lt hns₄.lt
    exact wpAny_execs_nil (hq h₅ tk₅ dx t1 ⟨fun b o hb e => k₅ b o hb (k14 b o hb (k₁ b o e)), hx₅, Nat.le_trans hz dn, dne, hn₅⟩)
/-- a made BadText -/
structure Made (h h' : Heap) (e C d : Addr) (v : Value) : Prop where
  keep : ∀ b o, h.get? b = some o → h'.get? b = some o
  new : h.objs.size ≤ e
  obj : ∃ oe vs, h'.get? e = some oe ∧ oe.cls = .ref C ∧ oe.dict = some d ∧ oe.data = .fields vs ∧ vs[1]? = some .none
  dbig : h.objs.size ≤ d
  dne : d ≠ e
  ns : h'.Ns1 d (fun y => if y = "at" then some v else none)
theorem err_made (T : ErrTxt prog K mg C fI) {s : Shared} {v : Value} (X : K.In s.heap) (G : s.heap.Ns mainGlobals mg) (B : ∃ mb, s.heap.Ns builtinsNs mb ∧ mb "super" = bootBuiltins "super") (hlim : s.heap.NoLimit) (hroom : A.depth + 1 < recursionLimit)
    (hq : ∀ h' tk e d, Made s.heap h' e C d v → R (.ok (.ret (.ref e))) { s with heap := h', toks := tk }) : codeAny (model prog w) A (.call (.ref C) ⟨[v], []⟩) R s := by
  obtain ⟨nm, q, N, bs, bm, sn, sub, ab, col, dd, k0, k1, k2, k3, k5, hC, hbm⟩ := T.cls
  obtain ⟨mb, hB, hmb⟩ := B
  obtain ⟨hp, g, dr, tk, os⟩ := s
  have k : ∀ b o, hp.get? b = some o → ((hp.push (kdv_tup [v])).push (excO C hp.objs.size)).get? b = some o := fun b o e => Heap.get?_push_of_some _ (Heap.get?_push_of_some _ e)
  have hget : ((hp.push (kdv_tup [v])).push (excO C hp.objs.size)).get? (hp.objs.size + 1) = some (excO C hp.objs.size) := by heap_get
  have hnx : K.lookup (hp.objs.size + 1) = none := by
    cases e : K.lookup (hp.objs.size + 1) with
    | none => rfl
    | some o => exact absurd (Nat.lt_of_succ_lt (Heap.lt_size (X _ _ e))) (Nat.lt_irrefl _)
  refine call_own F.excBase_ValueError (fun X => refsVE_contains X bm hbm) (X _ _ hC) (looks_findIn X T.iC) (fun self => bind_fn X self T.tC) (one_len v) ?_
  refine err_init (s := ⟨(hp.push (kdv_tup [v])).push (excO C hp.objs.size), g, dr, tk, os⟩) T (X.keeps k) (G.keeps k) ⟨mb, hB.keeps k, hmb⟩ (hlim.keeps k) hget hnx (show A.depth + 1 < recursionLimit from hroom) fun h' tk' dx t1 L => ?_
  have old : ∀ b o, hp.get? b = some o → h'.get? b = some o := fun b o e => L.keep b o (Nat.ne_of_lt (Nat.lt_succ_of_lt (Heap.lt_size e))) (k b o e)
  have big : hp.objs.size ≤ dx := by
    have z := L.dbig
    rw [Heap.size_push, Heap.size_push] at z
    omega
  exact ⟨rfl, hq h' tk' (hp.objs.size + 1) dx ⟨old, Nat.le_succ _, ⟨_, _, L.obj, rfl, rfl, rfl, rfl⟩, big, L.dne, L.ns⟩⟩
end
end K0E
namespace L2
open PySem PySem.Spec PyProof.Rows K0E
theorem relO_at {v : V} {v' : Value} (r : RelV v v') (f : Str) : RelO (List.lookup f [(("at" : Str), v)]) (if f = "at" then some v' else none) := by
  by_cases hw : f = "at"
  · rw [if_pos hw, hw]
    have q : List.lookup ("at" : Str) [(("at" : Str), v)] = some v := by simp [List.lookup]
    rw [q]
    exact r
  · rw [if_neg hw]
    have qw : (f == ("at" : Str)) = false := by simpa using hw
    have q2 : List.lookup f [(("at" : Str), v)] = none := by simp [List.lookup, qw]
    rw [q2]
    trivial
section
variable {X : Cx} {C fI : Addr}
/-- BadText(e) -/
def tErr (C : Addr) (ta : TA) : St → Hp → XK → Prop := fun σ H Q => ta σ H fun vs H1 => ∃ v, vs = [v] ∧ ∀ d, H1 d = none → Q (.ref C) (some d) (upd H1 d (.xd [(("at" : Str), v)]))
theorem pmk_err {a : Expr} {ta : TA} {p pos : Pos} {k : Nat} (T : ErrTxt X.prog X.K X.mg C fI) (hr : Room k X.A) (ha : PA X [a] ta) (hg : Gl X "BadText" := by rfl)
    (he : starEach (a :: []) X.env = (false, eval a X.env) :: starEach [] X.env := by rfl) (hpl : (backTo pos (starEach [] X.env)).any (·.1) = false := by rfl) :
    PMk X (.Call (.Name "BadText" p) [a] [] pos) (tErr C ta) := by
  intro pins s σ H Q I h
  refine wpAny_Call_Name_kw (ld_glob I hg T.gC ?_)
  refine PySem.W.callWith_K (h₀ := X.base) I.ok.mod.kin T.kC (thn (ha.run pos pins s σ H _ I h) fun us s1 hh => ?_) he hpl
  obtain ⟨vs, H1, I1, r1, v, ev, q1⟩ := hh
  subst ev
  refine ⟨I1.kIn, ?_⟩
  cases r1 with
  | cons rv rn =>
    rename_i v' us'
    cases rn
    show wpAny _ _ (PySem.call (.ref C) [v']) _ _ _
    have hlim := I1.nolimit
    obtain ⟨mb, hb1, hb2⟩ := I1.mod.blt
    have G1 : s1.heap.Ns mainGlobals X.mg := I1.mod.glob.keeps I1.bk
    have B1 : ∃ mb, s1.heap.Ns builtinsNs mb ∧ mb "super" = bootBuiltins "super" := ⟨mb, hb1.keeps I1.bk, hb2 _ (by decide +kernel)⟩
    obtain ⟨hp, g, dr, tk, os⟩ := s1
    refine wpAny_call (err_made T I1.kIn G1 B1 hlim (by have := hr.dp; omega) fun h' tk' e d M => ?_)
    show MkP X pins σ Q (.ref e) ⟨h', g, dr, tk', os⟩
    obtain ⟨oe, fv, hoe, hc, hd, hdat, h1⟩ := M.obj
    have hns := M.ns
    obtain ⟨G', g1, g2⟩ := restrict h' fun b => decide (b ≠ e)
    have gk : ∀ b, b ≠ e → G'.get? b = h'.get? b := fun b hb => g1 b (decide_eq_true hb)
    have ge : G'.get? e = none := g2 e (by simp)
    have old : ∀ b o, hp.get? b = some o → G'.get? b = some o := fun b o q => (gk b (Nat.ne_of_lt (Nat.lt_of_lt_of_le (Heap.lt_size q) M.new))).trans (M.keep b o q)
    have ob : ObjOk X.prog X.w (upd H1 d (.xd [(("at" : Str), v)])) G' d (.xd [(("at" : Str), v)]) :=
      ⟨_, hns.at (fun o q => (gk d M.dne).trans q), fun f => relO_at rv f⟩
    have J : Inv X pins σ (upd H1 d (.xd [(("at" : Str), v)])) ⟨G', g, dr, tk', os⟩ := I1.laid (t' := tk') old M.dbig ob
    refine ⟨e, oe, fv, ⟨G', g, dr, tk', os⟩, _, .ref C, some d, rfl, J, fun b o q => ?_, ge, hoe, ⟨hc, hd⟩, hdat, h1, ?_, rfl, I1.bare, raises_own T.exC T.tyC, q1 d (I1.hok.fresh M.dbig)⟩
    · by_cases hb : b = e
      · have q' : G'.get? b = some o := q
        rw [hb, ge] at q'
        cases q'
      · exact (gk b hb).symm.trans q
    · rw [upd_ne (Ne.symm M.dne)]
      exact I1.hok.fresh M.new
/-- raise BadText(e) -/
theorem ps_raiseErr {a : Expr} {ta : TA} {W : WX} {p pos pos2 : Pos} {k : Nat} (hc : X.calm = true) (T : ErrTxt X.prog X.K X.mg C fI) (hr : Room k X.A) (tk : Takes X W) (ha : PA X [a] ta) (hg : Gl X "BadText" := by rfl)
    (he : starEach (a :: []) X.env = (false, eval a X.env) :: starEach [] X.env := by rfl) (hpl : (backTo pos (starEach [] X.env)).any (·.1) = false := by rfl) :
    PS X (.Raise (some (.Call (.Name "BadText" p) [a] [] pos)) none pos2) (fun _ σ H => tErr C ta σ H fun cls d H' => W cls d σ H') := ps_raise hc tk (pmk_err T hr ha hg he hpl)
end
end L2

namespace K0
open PySem L2
abbrev sRunEnd : Stmt := top 14
theorem cps_letters : cLetters.cps.toList = [97, 98, 99, 100, 101, 102, 103, 104, 105, 106, 107, 108, 109, 110, 111, 112, 113, 114, 115, 116, 117, 118, 119, 120, 121, 122] := by decide +kernel
theorem cps_digits : cDigits.cps.toList = [48, 49, 50, 51, 52, 53, 54, 55, 56, 57] := by decide +kernel
theorem mem_letters (c : Nat) : decide (c ∈ cLetters.cps.toList) = lt c := by
  rw [cps_letters]
  by_cases h : 97 ≤ c ∧ c ≤ 122
  · have e : lt c = true := by unfold lt; rw [decide_eq_true h.1, decide_eq_true h.2]; rfl
    rw [e]
    refine decide_eq_true ?_
    simp only [List.mem_cons, List.not_mem_nil, or_false]
    omega
  · have e : lt c = false := by
      unfold lt
      by_cases h1 : 97 ≤ c
      · rw [decide_eq_false (fun h2 => h ⟨h1, h2⟩), Bool.and_false]
      · rw [decide_eq_false h1, Bool.false_and]
    rw [e]
    refine decide_eq_false fun z => h ?_
    simp only [List.mem_cons, List.not_mem_nil, or_false] at z
    omega
theorem mem_digits (c : Nat) : decide (c ∈ cDigits.cps.toList) = dg c := by
  rw [cps_digits]
  by_cases h : 48 ≤ c ∧ c ≤ 57
  · have e : dg c = true := by unfold dg; rw [decide_eq_true h.1, decide_eq_true h.2]; rfl
    rw [e]
    refine decide_eq_true ?_
    simp only [List.mem_cons, List.not_mem_nil, or_false]
    omega
  · have e : dg c = false := by
      unfold dg
      by_cases h1 : 48 ≤ c
      · rw [decide_eq_false (fun h2 => h ⟨h1, h2⟩), Bool.and_false]
      · rw [decide_eq_false h1, Bool.false_and]
    rw [e]
    refine decide_eq_false fun z => h ?_
    simp only [List.mem_cons, List.not_mem_nil, or_false] at z
    omega
/-- how long the run at k is -/
def tw (z : Str) (k : Nat) : Nat := ((z.cps.toList.drop k).takeWhile an).length
theorem tw_step {z : Str} {k c : Nat} (h : z.cps.toList[k]? = some c) : tw z k = if an c = true then tw z (k + 1) + 1 else 0 := by
  unfold tw
  have hk := (List.getElem?_eq_some_iff.mp h).1
  have e : z.cps.toList.drop k = c :: z.cps.toList.drop (k + 1) := by
    rw [List.drop_eq_getElem_cons hk]
    rw [List.getElem?_eq_getElem hk] at h
    rw [Option.some.inj h]
  rw [e, List.takeWhile_cons]
  split <;> simp
theorem tw_end {z : Str} {k : Nat} (h : z.length ≤ k) : tw z k = 0 := by
  unfold tw
  rw [List.drop_eq_nil_of_le (by rw [str_len]; exact h)]
  rfl
theorem cps_lt {z : Str} {k : Nat} (h : k < z.length) : ∃ c, z.cps.toList[k]? = some c := by
  rw [← str_len] at h
  exact ⟨_, List.getElem?_eq_getElem h⟩
/-- the end of the run at k -/
def spRun : Sp := fun vs H Q _ => ∃ (z : Str) (k : Nat), vs = [.str z, .int k] ∧ z.length ≤ 1000000 ∧ Q (.int ((k + tw z k : Nat) : Int)) H
section
variable {P : Program} {w : World} {K : PySem.W.Frag} {mg : Str → Option Value} {base : Heap} {aS : Addr}
theorem line_ge {n : Nat} (h : n ≤ 1000000) : n ≤ sizeLine := Nat.le_trans h (by decide)
theorem scRunEnd : FnScope ["text", "at", "behind"] ["text", "at"] (defScope sRunEnd) := ⟨rfl, rfl, rfl, by decide +kernel, rfl, by decide +kernel, by decide +kernel⟩
theorem ok_runEnd {f : Addr} {fd : FuncData} (F : Fun K "run_end" "run_end" sRunEnd f fd) (T : Mod K mg aS) : FnOk P w K mg base CX0 1 f fd ["text", "at"] spRun := by
  obtain ⟨t1, hL⟩ := T.letters
  obtain ⟨t2, hD⟩ := T.digits
  refine F.ok scRunEnd (fun vs H Q E h => ?_) (fun cdv A outer s H vs Q E hr h => ?_)
  · obtain ⟨z, k, rfl, _⟩ := h
    rfl
  · obtain ⟨z, k, rfl, hz, q⟩ := h
    refine ⟨_, pss_cons (ps_set (i := 2) scRunEnd.nd rfl (.inl rfl) (pv 1))
      (pss_cons (ps_while PassesOwn.never (PW.pt (pw_and (pt_cmpR op_lt (pv 2) (pe_callB call_len_str (by rfl) T.len PySem.boot_len (pa_cons (pv 0) pa_nil)) (nomark _))
          (pw_and1 (PW.pt (pw_or (pt_cmpR op_in_sign (pe_ix ix_str (pv 0) (pv 2) (fun _ _ => rfl)) (pe_glob (v := .str cLetters) rfl hL ⟨_, rfl⟩) rfl)
            (pw_or1 (pt_cmpR op_in_sign (pe_ix ix_str (pv 0) (pv 2) (fun _ _ => rfl)) (pe_glob (v := .str cDigits) rfl hD ⟨_, rfl⟩) rfl)))))))
        (pss_one (ps_aug (i := 2) scRunEnd.nd rfl (.inl rfl) pe_int ip_add)))
      (pss_one (ps_ret (pv 2)))), ?_⟩
    refine ⟨_, rfl, ?_⟩
    refine ⟨fun m σ H' => ∃ b : Nat, m = z.length - b ∧ σ = [some (.str z), some (.int k), some (.int b)] ∧ H' = H ∧ b + tw z b = k + tw z k, ⟨_, k, rfl, rfl, rfl, rfl⟩, ?_⟩
    rintro m σ H1 ⟨b, rfl, rfl, rfl, e⟩
    refine ⟨_, rfl, _, rfl, z, rfl, line_ge hz, _, _, rfl, rfl, _, rfl, ?_⟩
    refine ite2 (fun h1 => ?_) (fun h1 => ?_)
    · have h1 : b < z.length := by have := of_decide_eq_true h1; omega
      obtain ⟨c, hc⟩ := cps_lt h1
      have hs := tw_step hc
      have body : an c = true → ∃ N : St → Hp → Prop, (∀ σ' H', N σ' H' → ∃ m', m' < z.length - b ∧ ∃ b' : Nat, m' = z.length - b' ∧ σ' = [some (.str z), some (.int k), some (.int b')] ∧ H' = H1 ∧ b' + tw z b' = k + tw z k) ∧ N [some (.str z), some (.int k), some (.int ((b : Int) + 1))] H1 := fun ha => by
        refine ⟨fun σ' H' => σ' = [some (.str z), some (.int k), some (.int ((b : Int) + 1))] ∧ H' = H1, ?_, rfl, rfl⟩
        rintro σ' H' ⟨rfl, rfl⟩
        rw [if_pos ha] at hs
        exact ⟨z.length - (b + 1), by omega, b + 1, rfl, rfl, rfl, by omega⟩
      refine ⟨_, rfl, _, rfl, z, _, c, rfl, rfl, line_ge hz, atI_nat hc, c, cLetters, rfl, rfl, _, rfl, ?_⟩
      rw [mem_letters]
      cases hl : lt c with
      | true =>
        refine iteT (iteT ?_)
        obtain ⟨N, n1, n2⟩ := body (by unfold an; rw [hl]; rfl)
        exact ⟨N, n1, _, rfl, _, _, rfl, rfl, n2⟩
      | false =>
        refine iteF ⟨_, rfl, _, rfl, z, _, c, rfl, rfl, line_ge hz, atI_nat hc, c, cDigits, rfl, rfl, _, rfl, ?_⟩
        rw [mem_digits]
        cases hd : dg c with
        | true =>
          refine iteT ?_
          obtain ⟨N, n1, n2⟩ := body (by unfold an; rw [hl, hd]; rfl)
          exact ⟨N, n1, _, rfl, _, _, rfl, rfl, n2⟩
        | false =>
          refine iteF ⟨_, rfl, ?_⟩
          have ha : ¬ an c = true := by unfold an; rw [hl, hd]; simp
          rw [if_neg ha] at hs
          rw [hs, Nat.add_zero] at e
          rw [← e] at q
          exact q
    · have h1 : z.length ≤ b := by
        have : ¬ ((b : Int) < (z.length : Int)) := fun x => h1 (decide_eq_true x)
        omega
      refine iteF ⟨_, rfl, ?_⟩
      rw [tw_end h1, Nat.add_zero] at e
      rw [← e] at q
      exact q
end
end K0

namespace K0
open PySem L2
/-- a text of these signs -/
def S (r : List Nat) : Str := ⟨r.toArray⟩
theorem S_cps (r : List Nat) : (S r).cps.toList = r := by simp [S]
theorem S_len (r : List Nat) : (S r).length = r.length := by simp [S, Str.length]
theorem S_of (z : Str) : S z.cps.toList = z := by simp [S]
theorem S_inj {r t : List Nat} (h : S r = S t) : r = t := by rw [← S_cps r, h, S_cps]
theorem str_signs : signs = [S [61], S [59], S [44], S [91], S [93]] := by decide +kernel
theorem str_zero : ("0" : Str) = S [48] := by decide +kernel
theorem str_blank : (" " : Str) = S [32] := by decide +kernel
theorem str_feed : ("\n" : Str) = S [10] := by decide +kernel
theorem inAll_S (r : List Nat) (cs : Str) (p : Nat → Bool) (hp : ∀ c, decide (c ∈ cs.cps.toList) = p c) : inAll (S r) cs = (decide (1 ≤ r.length) && decide (r.length ≤ 12) && r.all p) := by
  unfold inAll
  rw [S_len, S_cps]
  congr 1
  exact List.all_congr rfl fun c => hp c
theorem word_S (r : List Nat) : inAll (S r) cLetters = (decide (1 ≤ r.length) && decide (r.length ≤ 12) && r.all lt) := inAll_S r _ _ mem_letters
theorem num_S (r : List Nat) : numOk (S r) = (decide (1 ≤ r.length) && decide (r.length ≤ 12) && r.all dg && (r == [48] || r.headD 0 != 48)) := by
  unfold numOk
  rw [inAll_S r _ _ mem_digits, S_cps, str_zero]
  congr 1
  congr 1
  · by_cases h : r = [48]
    · subst h; rfl
    · have h' : ¬ S r = S [48] := fun x => h (S_inj x)
      rw [decide_eq_false h']
      exact (beq_eq_false_iff_ne.mpr h).symm
  · show (!decide (S [r.headD 0] = S [48])) = _
    by_cases h : r.headD 0 = 48
    · rw [h]; rfl
    · have h' : ¬ S [r.headD 0] = S [48] := fun x => h (by have := S_inj x; simpa using this)
      rw [decide_eq_false h']
      exact (bne_iff_ne.mpr h).symm
theorem sign_S (r : List Nat) : decide (S r ∈ signs) = true ↔ ∃ c, r = [c] ∧ sg c = true := by
  rw [str_signs]
  constructor
  · intro h
    have h := of_decide_eq_true h
    simp only [List.mem_cons, List.not_mem_nil, or_false] at h
    rcases h with h | h | h | h | h <;> exact ⟨_, S_inj h, by decide⟩
  · rintro ⟨c, rfl, h⟩
    refine decide_eq_true ?_
    simp only [sg, Bool.or_eq_true, beq_iff_eq] at h
    simp only [List.mem_cons, List.not_mem_nil, or_false]
    rcases h with h | h | h | h | h <;> subst h <;> simp
theorem sort_run {r : List Nat} (hn : r ≠ []) (ha : r.all an = true) : decide (sortV (S r) = .non) = !tok r := by
  have hs : ¬ S r ∈ signs := fun h => by
    obtain ⟨c, rfl, hc⟩ := (sign_S r).mp (decide_eq_true h)
    rw [List.all_cons, Bool.and_eq_true, sg_an hc] at ha
    exact Bool.false_ne_true ha.1
  have hl : decide (1 ≤ r.length) = true := decide_eq_true (by cases r with | nil => exact absurd rfl hn | cons => simp)
  unfold sortV tok
  rw [if_neg hs, word_S, num_S, hl, Bool.true_and]
  cases decide (r.length ≤ 12) <;> cases r.all lt <;> cases (r.all dg) <;> cases (r == [48] || r.headD 0 != 48) <;> simp
theorem sort_one {c : Nat} (ha : an c = false) : decide (sortV (S [c]) = .non) = !sg c := by
  have e1 : lt c = false := by cases h : lt c <;> simp [an, h] at ha ⊢
  have e2 : dg c = false := by cases h : dg c <;> simp [an, h] at ha ⊢
  unfold sortV
  cases h : sg c with
  | true =>
    rw [if_pos (of_decide_eq_true ((sign_S [c]).mpr ⟨c, rfl, h⟩))]
    simp
  | false =>
    have hs : ¬ S [c] ∈ signs := fun x => by
      obtain ⟨d, e, hd⟩ := (sign_S [c]).mp (decide_eq_true x)
      injection e with e
      rw [← e, h] at hd
      exact Bool.false_ne_true hd
    rw [if_neg hs, word_S, num_S]
    simp [e1, e2]
theorem cut_at {z : Str} {k b : Nat} (h1 : k ≤ b) (h2 : b ≤ z.length) : cutS z (some (k : Int)) (some (b : Int)) = S ((z.cps.toList.drop k).take (b - k)) := by
  unfold cutS S
  have e1 : HT.sIx z.length 0 (some (k : Int)) = k := by rw [HT.sIx_nat]; omega
  have e2 : HT.sIx z.length z.length (some (b : Int)) = b := by rw [HT.sIx_nat]; omega
  rw [e1, e2]
abbrev sTokens : Stmt := top 15
theorem take_tw (z : Str) (k : Nat) : (z.cps.toList.drop k).take (tw z k) = (z.cps.toList.drop k).takeWhile an := by
  unfold tw
  generalize z.cps.toList.drop k = l
  induction l with
  | nil => rfl
  | cons c l ih =>
    rw [List.takeWhile_cons]
    split
    · rw [List.length_cons, List.take_succ_cons, ih]
    · rfl
theorem tw_le (z : Str) (k : Nat) (h : k ≤ z.length) : k + tw z k ≤ z.length := by
  unfold tw
  have h1 := (List.takeWhile_sublist an (l := z.cps.toList.drop k)).length_le
  rw [List.length_drop, str_len] at h1
  omega
theorem tw_all (l : List Nat) : (l.takeWhile an).all an = true := by
  induction l with
  | nil => rfl
  | cons c l ih =>
    rw [List.takeWhile_cons]
    split
    · rw [List.all_cons, ih, ‹an c = true›]; rfl
    · rfl
/-- what stands at k: a run and what comes behind it -/
theorem tw_split (z : Str) (k : Nat) : ∃ (c : Nat) (l : List Nat), an c = false ∧ z.cps.toList.drop k ++ [32] = (z.cps.toList.drop k).takeWhile an ++ (c :: l) ∧ c :: l = z.cps.toList.drop (k + tw z k) ++ [32] := by
  have key : ∀ l : List Nat, ∃ (c : Nat) (m : List Nat), an c = false ∧ l ++ [32] = l.takeWhile an ++ (c :: m) ∧ c :: m = l.drop (l.takeWhile an).length ++ [32] := by
    intro l
    induction l with
    | nil => exact ⟨32, [], by decide, rfl, rfl⟩
    | cons c l ih =>
      rw [List.takeWhile_cons]
      cases h : an c with
      | true =>
        obtain ⟨d, m, hd, e1, e2⟩ := ih
        exact ⟨d, m, hd, by simp [e1], by simpa using e2⟩
      | false => exact ⟨c, l ++ [32], h, by simp, by simp⟩
  obtain ⟨c, m, h1, h2, h3⟩ := key (z.cps.toList.drop k)
  refine ⟨c, m, h1, h2, ?_⟩
  rw [h3, List.drop_drop]
  rfl
def lstS (ts : List (List Nat)) : List V := ts.map fun r => V.str (S r)
/-- the tokens of a text, or a BadText at the least wrong place -/
def spTokens (C : Addr) : Sp := fun vs H Q E => ∃ z : Str, vs = [.str z] ∧ z.length ≤ 1000000 ∧
  (∀ ts, due z.cps.toList = .fine ts → ∀ p H', H p = none → Same H H' → H' p = some (.lst (lstS ts)) → Q (.ref p) H') ∧
  (∀ k : Nat, due z.cps.toList = .bad k → ∀ d H', H d = none → Same H H' → H' d = some (.xd [(("at" : Str), V.int k)]) → E (.ref C) (some d) H')
/-- between two turns of the loop -/
def TokW (z : Str) (l : Addr) (H : Hp) : Nat → St → Hp → Prop := fun m σ H' => ∃ (k : Nat) (ts : List (List Nat)) (v4 v5 : Option V), m = z.length - k ∧ σ = [some (.str z), some (.ref l), some (.int k), v4, v5] ∧ k ≤ z.length ∧ ts.length ≤ k ∧ Same H H' ∧ H' l = some (.lst (lstS ts)) ∧ cut ts [] 0 k (z.cps.toList.drop k ++ [32]) = due z.cps.toList
theorem lstS_add (ts : List (List Nat)) (r : List Nat) : lstS ts ++ [V.str (S r)] = lstS (ts ++ [r]) := by unfold lstS; rw [List.map_append]; rfl
theorem Same.put {H H1 : Hp} {l : Addr} {o : HO} (a : Same H H1) (hl : H l = none) : Same H (upd H1 l o) := fun b u h => by
  rw [upd_ne (ne_of_none h hl)]
  exact a b u h
theorem blank_S (r : List Nat) : inV (.str (S r)) [V.str " ", V.str "\n"] = decide (r = [32] ∨ r = [10]) := by
  have e := inV_strs (S r) [" ", "\n"]
  rw [str_blank, str_feed] at e
  rw [str_blank, str_feed]
  refine Eq.trans e ?_
  by_cases h : r = [32] ∨ r = [10]
  · rw [decide_eq_true h]
    rcases h with h | h <;> subst h <;> simp
  · rw [decide_eq_false h]
    refine decide_eq_false fun x => h ?_
    simp only [List.mem_cons, List.not_mem_nil, or_false] at x
    rcases x with x | x
    · exact .inl (S_inj x)
    · exact .inr (S_inj x)
section
variable {P : Program} {w : World} {K : PySem.W.Frag} {mg : Str → Option Value} {base : Heap} {aS : Addr}
theorem scTokens : FnScope ["text", "file", "at", "behind", "piece"] ["text"] (defScope sTokens) := ⟨rfl, rfl, rfl, by decide +kernel, rfl, by decide +kernel, by decide +kernel⟩
theorem ok_tokens {f fR fS C fI : Addr} {fd fdR fdS : FuncData} (F : Fun K "tokens" "tokens" sTokens f fd) (T : Mod K mg aS) (TE : K0E.ErrTxt P K mg C fI)
    (kR : PySem.W.keepIn K (.ref fR) = true) (GR : FnOk P w K mg base CX0 1 fR fdR ["text", "at"] spRun) (bR : Binds K fdR ["text", "at"] []) (mR : mg "run_end" = some (.ref fR))
    (kS : PySem.W.keepIn K (.ref fS) = true) (GS : FnOk P w K mg base CX0 3 fS fdS ["thing"] spSort) (bS : Binds K fdS ["thing"] []) (mS : mg "sort_of" = some (.ref fS)) :
    FnOk P w K mg base (L2.CX P w) 4 f fd ["text"] (spTokens C) := by
  refine F.okX scTokens (fun vs H Q E h => ?_) (fun cdv A outer s H vs Q E hr h => ?_)
  · obtain ⟨z, rfl, _⟩ := h
    rfl
  · obtain ⟨z, rfl, hz, q, e⟩ := h
    refine ⟨_, pss_cons (ps_set (i := 1) scTokens.nd rfl (.inl rfl) (pe_lst pa_nil))
      (pss_cons (ps_set (i := 2) scTokens.nd rfl (.inl rfl) pe_int)
      (pss_cons (ps_while (passes_of rfl) (pt_cmpR op_lt (pv 2) (pe_callB call_len_str (by rfl) T.len PySem.boot_len (pa_cons (pv 0) pa_nil)) (nomark _))
        (pss_cons (ps_set (i := 3) scTokens.nd rfl (.inl rfl) (pe_callB (call_max2 rfl) (by rfl) T.max (by decide +kernel) (pa_cons (pe_call GR (hr.mono (by decide)) rfl mR kR bR .nil pass0 (pa_cons (pv 0) (pa_cons (pv 2) pa_nil))) (pa_cons (pe_op op_add (pv 2) pe_int) pa_nil))))
        (pss_cons (ps_set (i := 4) scTokens.nd rfl (.inl rfl) (pe_slice sl_str (pv 0) (po_some (pv 2)) (po_some (pv 3))))
        (pss_cons (ps_if (pt_cmpR op_notIn_seq (pv 4) (pe_tup (pa_cons pe_str (pa_cons pe_str pa_nil))) (by rfl))
          (pss_cons (ps_if (pt_cmpR op_isN (pe_call GS (hr.mono (by decide)) rfl mS kS bS .nil pass0 (pa_cons (pv 4) pa_nil)) pe_non (nomark _))
              (pss_one (ps_raiseErr rfl TE hr (takes_of rfl rfl rfl rfl) (pa_cons (pv 2) pa_nil))) pss_nil)
            (pss_one (ps_expr (pe_bm PySem.F.plainAttrs_list PySem.F.slot_list_append PySem.F.type_list_append mt_append (pv 1) (pa_cons (pv 4) pa_nil))))) pss_nil)
        (pss_one (ps_set (i := 2) scTokens.nd rfl (.inl rfl) (pv 3)))))))
      (pss_one (ps_ret (pv 1))))), ?_⟩
    refine ⟨Nat.zero_le _, fun l hl => ?_⟩
    refine ⟨TokW z l H, ⟨_, 0, [], none, none, rfl, rfl, Nat.zero_le _, Nat.le_refl _, Same.new (Same.refl H) hl, upd_same, rfl⟩, ?_⟩
    rintro m σ H1 ⟨k, ts, v4, v5, rfl, rfl, hk, hts, s1, h1, hc⟩
    refine ⟨_, rfl, _, rfl, z, rfl, line_ge hz, _, _, rfl, rfl, _, rfl, ?_⟩
    refine ite2 (fun h2 => ?_) (fun h2 => ?_)
    · have h2 : k < z.length := by have := of_decide_eq_true h2; omega
      have hle := tw_le z k hk
      obtain ⟨c, hcc⟩ := cps_lt h2
      have hst := tw_step hcc
      obtain ⟨c', l', hc', e1, e2⟩ := tw_split z k
      refine ⟨fun σ' H' => ∃ m', m' < z.length - k ∧ TokW z l H m' σ' H', fun _ _ h => h, ?_⟩
      refine ⟨_, rfl, _, rfl, z, k, rfl, hz, _, rfl, _, _, rfl, rfl, _, _, rfl, ?_⟩
      cases ha : an c with
      | true =>
        rw [ha, if_pos rfl] at hst
        have hb : (if ((k : Int) + 1) > ((k + tw z k : Nat) : Int) then ((k : Int) + 1) else ((k + tw z k : Nat) : Int)) = ((k + tw z k : Nat) : Int) := by split <;> omega
        rw [hb]
        refine ⟨_, rfl, _, rfl, _, rfl, _, rfl, _, rfl, z, rfl, line_ge hz, ?_⟩
        have hcut : cutS z (some ((k : Nat) : Int)) (some ((k + tw z k : Nat) : Int)) = S ((z.cps.toList.drop k).takeWhile an) := by
          rw [cut_at (by omega) hle, Nat.add_sub_cancel_left, take_tw]
        rw [hcut]
        have hr1 : ((z.cps.toList.drop k).takeWhile an).length = tw z k := rfl
        have hra := tw_all (z.cps.toList.drop k)
        generalize (z.cps.toList.drop k).takeWhile an = r at *
        have hrn : r ≠ [] := fun x => by rw [x] at hr1; simp at hr1; omega
        refine ⟨_, rfl, by show 2 ≤ sizeLine; decide, fun t ht => ⟨t, _, rfl, .inr (SqT.of upd_same), rfl, rfl, _, rfl, ?_⟩⟩
        have hbl : inV (.str (S r)) [V.str " ", V.str "\n"] = false := by
          rw [blank_S]
          refine decide_eq_false fun x => ?_
          rcases x with x | x <;> (rw [x] at hra; exact absurd hra (by decide))
        show if (!inV (.str (S r)) [V.str " ", V.str "\n"]) = true then _ else _
        rw [hbl]
        refine iteT ?_
        have hlt : l ≠ t := ne_of_none h1 ht
        have s2 : Same H (upd H1 t (.tup [V.str " ", V.str "\n"])) := Same.new s1 ht
        have h2l : (upd H1 t (.tup [V.str " ", V.str "\n"])) l = some (.lst (lstS ts)) := by rw [upd_ne hlt]; exact h1
        refine ⟨_, rfl, S r, rfl, by rw [S_len, hr1]; exact line_ge (by omega), fun H3 s3 => ⟨rfl, _, rfl, ?_⟩⟩
        rw [sort_run hrn hra]
        cases htk : tok r with
        | false =>
          refine iteT ⟨_, rfl, _, rfl, fun d hd => ?_⟩
          refine e k ?_ d _ ((s2.trans s3).free hd) (Same.new (s2.trans s3) hd) upd_same
          rw [← hc, e1, cut_word hra hrn, cut_stop hc' hrn htk]
        | true =>
          refine iteF ⟨_, rfl, .inl ⟨rfl, _, SqL.of (s3 _ _ h2l)⟩, _, rfl, l, _, _, rfl, rfl, s3 _ _ h2l, ?_, ?_⟩
          · unfold lstS
            rw [List.length_map]
            exact Nat.lt_of_le_of_lt (Nat.le_trans hts (Nat.le_trans hk hz)) (by decide)
          · refine ⟨_, rfl, _, ?_, k + tw z k, ts ++ [r], _, _, rfl, rfl, hle, ?_, Same.put (s2.trans s3) hl, ?_, ?_⟩
            · omega
            · rw [List.length_append, List.length_singleton]; omega
            · rw [upd_same, lstS_add]
            · rw [← hc, e1, cut_word hra hrn, cut_step hc' hrn htk, hr1, ← e2]
              exact cut_begin _ _ _ _ _
      | false =>
        rw [ha, if_neg Bool.false_ne_true] at hst
        have hb : (if ((k : Int) + 1) > ((k + tw z k : Nat) : Int) then ((k : Int) + 1) else ((k + tw z k : Nat) : Int)) = ((k + 1 : Nat) : Int) := by split <;> omega
        rw [hb]
        refine ⟨_, rfl, _, rfl, _, rfl, _, rfl, _, rfl, z, rfl, line_ge hz, ?_⟩
        have hcut : cutS z (some ((k : Nat) : Int)) (some ((k + 1 : Nat) : Int)) = S [c] := by
          rw [cut_at (by omega) (by omega), Nat.add_sub_cancel_left]
          have hk' := (List.getElem?_eq_some_iff.mp hcc).1
          rw [List.getElem?_eq_getElem hk'] at hcc
          rw [List.drop_eq_getElem_cons hk', Option.some.inj hcc]
          rfl
        have hdr : z.cps.toList.drop k ++ [32] = c :: (z.cps.toList.drop (k + 1) ++ [32]) := by
          have hk' := (List.getElem?_eq_some_iff.mp hcc).1
          rw [List.getElem?_eq_getElem hk'] at hcc
          rw [List.drop_eq_getElem_cons hk', Option.some.inj hcc]
          rfl
        rw [hcut]
        refine ⟨_, rfl, by show 2 ≤ sizeLine; decide, fun t ht => ⟨t, _, rfl, .inr (SqT.of upd_same), rfl, rfl, _, rfl, ?_⟩⟩
        have hlt : l ≠ t := ne_of_none h1 ht
        have s2 : Same H (upd H1 t (.tup [V.str " ", V.str "\n"])) := Same.new s1 ht
        have h2l : (upd H1 t (.tup [V.str " ", V.str "\n"])) l = some (.lst (lstS ts)) := by rw [upd_ne hlt]; exact h1
        have hbl : inV (.str (S [c])) [V.str " ", V.str "\n"] = bk c := by
          rw [blank_S]
          unfold bk
          cases h32 : (c == 32) with
          | true => have := eq_of_beq h32; subst this; rfl
          | false =>
            have n1 : ¬ c = 32 := by simpa using h32
            cases h10 : (c == 10) with
            | true => have := eq_of_beq h10; subst this; rfl
            | false =>
              have n2 : ¬ c = 10 := by simpa using h10
              exact decide_eq_false fun x => by
                rcases x with x | x
                · injection x with x; exact n1 x
                · injection x with x; exact n2 x
        show if (!inV (.str (S [c])) [V.str " ", V.str "\n"]) = true then _ else _
        rw [hbl]
        cases hbk : bk c with
        | true =>
          refine iteF ⟨_, rfl, _, ?_, k + 1, ts, _, _, rfl, rfl, by omega, by omega, s2, h2l, ?_⟩
          · omega
          · rw [← hc, hdr, cut_blank hbk]
        | false =>
          refine iteT ⟨_, rfl, S [c], rfl, by rw [S_len]; show 1 ≤ sizeLine; decide, fun H3 s3 => ⟨rfl, _, rfl, ?_⟩⟩
          rw [sort_one ha]
          cases hsg : sg c with
          | false =>
            refine iteT ⟨_, rfl, _, rfl, fun d hd => ?_⟩
            refine e k ?_ d _ ((s2.trans s3).free hd) (Same.new (s2.trans s3) hd) upd_same
            rw [← hc, hdr, cut_odd ha hsg hbk]
          | true =>
            refine iteF ⟨_, rfl, .inl ⟨rfl, _, SqL.of (s3 _ _ h2l)⟩, _, rfl, l, _, _, rfl, rfl, s3 _ _ h2l, ?_, ?_⟩
            · unfold lstS
              rw [List.length_map]
              exact Nat.lt_of_le_of_lt (Nat.le_trans hts (Nat.le_trans hk hz)) (by decide)
            · refine ⟨_, rfl, _, ?_, k + 1, ts ++ [[c]], _, _, rfl, rfl, by omega, ?_, Same.put (s2.trans s3) hl, ?_, ?_⟩
              · omega
              · rw [List.length_append, List.length_singleton]; omega
              · rw [upd_same, lstS_add]
              · rw [← hc, hdr, cut_sign hsg]
    · have h2 : z.length ≤ k := by
        have : ¬ ((k : Int) < (z.length : Int)) := fun x => h2 (decide_eq_true x)
        omega
      refine ⟨_, rfl, ?_⟩
      rw [List.drop_eq_nil_of_le (by rw [str_len]; exact h2), List.nil_append, cut_blank (by decide)] at hc
      exact q ts hc.symm l H1 hl s1 h1
end
end K0

/-! for i, c in enumerate(text) -/
namespace L2
open PySem PySem.Spec PyProof.Rows
/-- each sign of the text in a new pair with its place -/
def Ies (x : Str) : It :=
  ⟨fun i _ => i < x.cps.size, fun i H v H' => ∃ T c, x.cps[i]? = some c ∧ v = .ref T ∧ H T = none ∧ H' = upd H T (.tup [.int (i : Nat), .str ⟨#[c]⟩]), fun i _ => i = x.cps.size⟩
theorem sign_draws {prog : Program} {w : World} {A : Around} (hh : A.handled = none) (it : Addr) (x : Str) (t : Tok) :
    Draws prog w A it [it] x.cps.size (fun i v => ∃ c u, x.cps[i]? = some c ∧ v = .str ⟨#[c]⟩ u) (fun i h => h.IsStrIter it (strIterType x) x t i) := by
  unfold strIterType
  split
  · exact Draws.strAscii hh it x t
  · exact Draws.strWide hh it x t
theorem turn_ies {P : Program} {w : World} {K : PySem.W.Frag} {elts : List Expr} {kk : Nat} {tpos : Pos} (x : Str) (t : Tok) (e it : Addr) :
    Turn P w K (.Tuple elts kk tpos) (Ies x) [e, it] e (fun i h => (∃ old, IsEnum h e it ((i : Nat) : Int) old) ∧ h.IsStrIter it (strIterType x) x t i ∧ e ≠ it) where
  mem := by simp
  obj := fun i h ⟨⟨old, he⟩, ⟨o, ho, hc, hd⟩, _⟩ b hb => by
    rcases (show b = e ∨ b = it by simpa using hb) with z | z <;> rw [z]
    · exact ⟨_, he, fun v q => nomatch q⟩
    · exact ⟨o, ho, fun v q => by rw [hd] at q; cases q⟩
  keep := fun i h h' ⟨⟨old, he⟩, ⟨o, ho, r⟩, hne⟩ k => ⟨⟨old, k e (by simp) _ he⟩, ⟨o, k it (by simp) _ ho, r⟩, hne⟩
  item := by
    intro X hP hw hK hc i pins s σ H E I hf st hg
    subst hP hw hK
    obtain ⟨⟨old, he⟩, hit, hne⟩ := st
    have hel : e < s.heap.objs.size := Heap.lt_size he
    have hil : it < s.heap.objs.size := by obtain ⟨o, q, _⟩ := hit; exact Heap.lt_size q
    have D : Draws X.prog X.w X.A.in1 it [it] x.cps.size (fun i v => ∃ c u, x.cps[i]? = some c ∧ v = .str ⟨#[c]⟩ u) (fun i h => h.IsStrIter it (strIterType x) x t i) := sign_draws (show X.A.in1.handled = none from I.ok.hd hc) it x t
    refine wpAny_pyNext_enum_itemD D he hit hg hne (by simpa using hne) fun v h' tk hv ho hit' hT hsz hk => ?_
    obtain ⟨c, u, hcx, rfl⟩ := hv
    refine ⟨_, rfl, wpAny_letOwnedTupleGo_enum (s := { s with heap := h', toks := tk + 1 }) ho fun h'' he' sb => ?_⟩
    have hT2 := (sb.2 _ (Nat.ne_of_gt hel)).trans hT
    have new : ObjOk X.prog X.w (upd H s.heap.objs.size (.tup [.int (i : Nat), .str ⟨#[c]⟩])) h'' s.heap.objs.size (.tup [.int (i : Nat), .str ⟨#[c]⟩]) :=
      ⟨by show 2 ≤ sizeLine; decide, [.int i tk, .str ⟨#[c]⟩ u], .cons ⟨_, rfl⟩ (.cons ⟨_, rfl⟩ .nil), ⟨_, hT2, rfl, _, rfl⟩⟩
    have I1 : Inv X pins σ (upd H s.heap.objs.size (.tup [.int (i : Nat), .str ⟨#[c]⟩])) { s with heap := h'', toks := tk + 1 } :=
      I.turnedNew (ch := [e, it]) (fun b ob hb q => (sb.2 b (fun z => hb (by simp [z]))).trans (hk b ob (fun z => hb (by simp [z])) (fun z => hb (by simp [z])) q)) hf (Nat.le_refl _) new
    refine ⟨.ref s.heap.objs.size, _, I1, rfl, ⟨_, c, hcx, rfl, I.hok.fresh (Nat.le_refl _), rfl⟩, ⟨⟨_, he'⟩, ?_, hne⟩, fun b hb => ?_⟩
    · obtain ⟨o, q, r⟩ := hit'
      exact ⟨o, (sb.2 it (Ne.symm hne)).trans q, r⟩
    · have hb' : b < s.heap.objs.size := by
        rcases (show b = e ∨ b = it by simpa using hb) with z | z <;> rw [z]
        · exact hel
        · exact hil
      rw [upd_ne (Nat.ne_of_lt hb')]
      exact (hf b hb).1
  done := by
    intro X hP hw hK hc i pins s σ H E I hf st hg
    subst hP hw hK
    obtain ⟨⟨old, he⟩, hit, hne⟩ := st
    obtain ⟨f0, f1, f2, f3, f4, f5⟩ := hf it (by simp)
    have hg' : i = x.cps.size := hg
    subst hg'
    have D : Draws X.prog X.w X.A.in1 it [it] x.cps.size (fun i v => ∃ c u, x.cps[i]? = some c ∧ v = .str ⟨#[c]⟩ u) (fun i h => h.IsStrIter it (strIterType x) x t i) := sign_draws (show X.A.in1.handled = none from I.ok.hd hc) it x t
    exact wpAny_pyNext_enum_endD D he hit fun h' eb => ⟨rfl, I.turned (t' := s.toks) (fun b o hb q => eb b o hb q) f0 f1 f3 f4 f5⟩
  self := fun A i s Q E ⟨⟨_, he⟩, _⟩ h => wpAny_pyIter_enum he h
def iEnumS (ta : TA) : TI := fun σ H R => ta σ H fun vs H1 => ∃ x, vs = [.str x] ∧ R (Ies x) H1
theorem pi_enumS {X : Cx} {e : Expr} {ta : TA} {p pos tpos : Pos} {elts : List Expr} {kk : Nat} (hg : Gl X "enumerate") (hm : X.mg "enumerate" = none) (ha : PA X [e] ta) (hs : starEach [e] X.env = [(false, eval e X.env)] := by rfl) :
    PI X (.Tuple elts kk tpos) (.Call (.Name "enumerate" p) [e] [] pos) (iEnumS ta) := by
  refine ⟨fun pins s σ H R I h => ?_⟩
  refine Call_ (ld_blt I hg hm boot_enumerate (PyProof.Rows.callWith_type1 (thn (ha.run pos pins s σ H _ I h) fun us s1 ⟨vs, H1, I1, r1, x, ex, q⟩ => ?_) hs rfl))
  subst ex
  cases r1 with
  | cons r rr =>
    cases rr
    obtain ⟨t, rfl⟩ := r
    refine call_enumerate_str fun h' he hit hsz hk => wpAny_pyIter_enum he ?_
    have I2 : Inv X pins σ H1 { s1 with heap := h' } := I1.kept (t' := s1.toks) hk
    refine ⟨s1.heap.objs.size + 1, [s1.heap.objs.size + 1, s1.heap.objs.size], _, _, H1, rfl, I2, turn_ies x t (s1.heap.objs.size + 1) s1.heap.objs.size, ⟨⟨.none, he⟩, hit, Nat.succ_ne_self _⟩, fun b hb => ?_, q⟩
    have hle : s1.heap.objs.size ≤ b := by
      rcases (show b = s1.heap.objs.size + 1 ∨ b = s1.heap.objs.size by simpa using hb) with z | z <;> rw [z]
      · exact Nat.le_add_right _ _
      · exact Nat.le_refl _
    exact I1.fpOk hle (I1.hok.fresh hle)
theorem walk_ies {z : Str} : Walk (Ies z) z.cps.size (fun _ => True) (fun i H v H' => ∃ T c, z.cps[i]? = some c ∧ v = .ref T ∧ H T = none ∧ H' = upd H T (.tup [.int (i : Nat), .str ⟨#[c]⟩])) :=
  ⟨fun _ _ hi _ => hi, fun _ _ => rfl, fun _ _ _ _ _ _ y => y⟩
end L2

/-! repr(data): what is shown of lists, tuples, texts, ints, bools and None at any depth -/
namespace L2
open PySem PySem.Spec PyProof.Rows
/-- the reading: d the data, shown as Python shows it -/
def rRepr (K : PySem.W.Frag) : List V → Hp → VK → Prop := fun xs H Q => ∃ (v : V) (d : PyData), xs = [v] ∧ Dp K H v d ∧ d.showable = true ∧ d.hasDict = false ∧ d.depth ≤ 60 ∧ d.shown.length ≤ sizeLine ∧ Q (.str d.shown) H
theorem call_reprD {X : Cx} (hgu : X.A.guards = some []) (hu : X.A.units + 64 < cLine) : CallR X (.builtin "repr") (rRepr X.K) := by
  intro pins s σ H xs us Q I r h
  obtain ⟨v, d, rfl, hd, hs, hnd, hdep, hsz, q⟩ := h
  obtain ⟨u, rfl, ru⟩ := vals1 r
  obtain ⟨as, hr⟩ := Dp.reads I d v u hd ru
  have fin : ∀ (s' : Shared) (t : Tok), Inv X pins σ H s' → EP X pins σ Q (.str d.shown t) s' := fun s' t J => ⟨.str d.shown, H, J, ⟨t, rfl⟩, q⟩
  have viaRef : ∀ a : Addr, u = .ref a → wpAny (model X.prog X.w) X.A (PySem.call (.builtin "repr") [u]) (EP X pins σ Q) X.xe s := fun a e => by
    subst e
    exact repr_of_reads' hr hs (fun z => by rw [hnd] at z; cases z) hgu (by omega) (fun _ _ e => e) (fun h' u tk k => fin _ _ (I.kept (t' := tk) k)) hsz
  cases hd with
  | non =>
    obtain rfl : u = .none := ru
    exact PySem.P.repr_of_none (fin _ _ (I.tok _))
  | bl b =>
    obtain rfl : u = .bool b := ru
    have e : (PyData.bool b).shown = (if b then "True" else "False" : Str) := PyData.shown_bool b
    rw [e] at fin
    cases b
    · exact PySem.P.repr_of_bool (fin _ _ (I.tok _))
    · exact PySem.P.repr_of_bool (fin _ _ (I.tok _))
  | int i =>
    obtain ⟨t, rfl⟩ := ru
    have hs' : i.natAbs.log2 < 1920 := by simpa [PyData.showable] using hs
    have e := PyData.shown_int i
    rw [e] at fin
    exact PySem.P.repr_of_int hs' (fin _ _ (I.tok _))
  | str x =>
    obtain ⟨t, rfl⟩ := ru
    have e := PyData.shown_str x
    rw [e] at fin hsz
    exact PySem.P.repr_of_str (fin _ _ (I.tok _)) hsz
  | lst _ _ => exact viaRef _ ru
  | tup _ _ => exact viaRef _ ru
end L2

/-! promises of defs that ask that no repr is under way (at the law's call none is) -/
namespace L2
open PySem PySem.Spec PyProof.Rows
theorem deeper_guards (A : Around) (e : Env) : (A.deeper e).guards = A.guards := rfl
/-- as FnOk (no error leaves), where no repr is under way -/
structure FnG (P : Program) (w : World) (K : PySem.W.Frag) (mg : Str → Option Value) (base : Heap) (k : Nat) (f : Addr) (fd : FuncData) (ps : List Str) (sp : Sp) : Prop where
  gl : ∀ vs H Q E, sp vs H Q E → vs.length = ps.length
  go : ∀ (A : Around) (outer : List Env) (s : Shared) (H : Hp) (args : Args) (us : List Value) (vs : List V) (Q : VK), A.guards = some [] → Room k A → Env0 P w K mg base A outer s H →
    BindsTo s fd args (ps.zip us) → Vals vs us → sp vs H Q E0 → codeAny (model P w) A (.call (.ref f) args) (CR CX0 outer P w H s Q E0) s
section
variable {P : Program} {w : World} {K : PySem.W.Frag} {mg : Str → Option Value} {base : Heap}
theorem Fun.okG {x qual : Str} {st : Stmt} {f : Addr} {fd : FuncData} {N ps : List Str} {k : Nat} {sp : Sp} (F : Fun K x qual st f fd) (S : FnScope N ps (defScope st)) (hlen : ∀ vs H Q E, sp vs H Q E → vs.length = ps.length)
    (hb : ∀ (cdv : Value) (A : Around) (outer : List Env) (s : Shared) (H : Hp) (vs : List V) (Q : VK), (A.deeper (envOfC qual (defScope st) s.heap.objs.size f cdv)).guards = some [] →
      Room k (A.deeper (envOfC qual (defScope st) s.heap.objs.size f cdv)) → sp vs H Q E0 →
      ∃ t, PSs (cxOf CX0 P w K mg base N qual (defScope st) f cdv A outer s H E0).nox (defBody st) t ∧ t { nx := fun _ H' => Q .non H', rt := Q } (start N vs) H) : FnG P w K mg base (k + 1) f fd ps sp := by
  obtain ⟨oc, od, kV, doc, pm, an, cdv, ct, osl, rfl, lk, hcd⟩ := F.ex
  refine ⟨hlen, ?_⟩
  intro A outer s H args us vs Q hgu hroom env0 hbind hvals hsp
  have grown : ∀ b o, base.get? b = some o → s.heap.get? b = some o := fun b o e => (env0.bs b o e).1
  have inK : K.In s.heap := env0.mod.kin.keeps grown
  have noLim := env0.mod.nolimit.keeps grown
  refine codeAny_call_function hroom.depth (inK _ _ lk) rfl S.co S.gen rfl (PySem.W.codeRec_of inK hcd) (hbind _ _ _ _ ?_)
  refine wpAny_newFunctionEnv_cells S.kind ?_ ?_
  · rintro ⟨n, u⟩ hy
    have hp := S.par n (List.of_mem_zip hy).1
    cases hp with
    | inl q => exact Or.inl q
    | inr q => exact Or.inr ⟨q, PySem.W.cellsFrom_some _ _ _ (Or.inl q)⟩
  · intro env he s1 call
    subst he
    refine ⟨noLim.keeps call.toInCall.keep, codeAny_func ?_⟩
    obtain ⟨t, der, reading⟩ := hb cdv A outer s H vs Q hgu (hroom.deeper _) hsp
    have inv := inv_start (CX := CX0) (P := P) (w := w) (K := K) (mg := mg) (base := base) (E := E0) S hroom.hd env0 (hlen _ _ _ _ hsp) hvals call
    refine wpAny_mono (der.nox.run [] s1 (start N vs) H _ inv reading) ?_ ?_
    · rintro (_ | _ | _ | u) s' hs
      · obtain ⟨σ', H', J, q⟩ := hs
        exact ⟨V.non, H', J.os, J.bare, J.base, J.hok, rfl, q⟩
      · exact hs.elim fun _ z => z.elim fun _ z => z.2.elim
      · exact hs.elim fun _ z => z.elim fun _ z => z.2.elim
      · obtain ⟨v, σ', H', J, rv, q⟩ := hs
        exact ⟨v, H', J.os, J.bare, J.base, J.hok, rv, q⟩
    · exact fun e s' hs => hs
end
section
variable {X : Cx} {k : Nat} {f : Addr} {fd : FuncData} {ps : List Str} {sp : Sp} {x : Str} {p pos : Pos} {e : Expr} {es : List Expr} {t : TA}
theorem pe_callG (F : FnG X.prog X.w X.K X.mg X.base k f fd ps sp) (hgu : X.A.guards = some []) (hr : Room k X.A) (hg : Gl X x) (hm : X.mg x = some (.ref f)) (hk : PySem.W.keepIn X.K (.ref f) = true) (hb : Binds X.K fd ps []) (ha : PA X (e :: es) t)
    (hdb : (x == ("__debug__" : Str)) = false := by decide) (he : starEach (e :: es) X.env = (false, eval e X.env) :: starEach es X.env := by rfl) (hpl : (backTo pos (starEach es X.env)).any (·.1) = false := by rfl) :
    PE X (.Call (.Name x p) (e :: es) [] pos) (tCall sp [] E0 t) := by
  constructor
  intro pins s σ H Q I h
  refine wpAny_Call_Name_kw (ld_glob I hg hm ?_ hdb)
  refine PySem.W.callWith_K (h₀ := X.base) I.ok.mod.kin hk (thn (ha.run pos pins s σ H _ I h) ?_) he hpl
  rintro us s1 ⟨vs, H1, I1, r, q⟩
  refine ⟨I1.kIn, ?_⟩
  rw [List.append_nil] at q
  have hl : (us ++ []).length = ps.length := by rw [List.append_nil, ← r.length]; exact F.gl _ _ _ _ q
  have hbd := hb s1 us I1.kIn hl
  rw [List.append_nil] at hbd
  refine wpAny_call (codeAny_mono (F.go X.A X.stack s1 H1 ⟨us, []⟩ us vs Q hgu hr I1.env0 hbd r q) ?_)
  rintro (er | (_ | _ | _ | u)) s' hq
  · exact hq.elim
  · exact hq.elim
  · exact hq.elim
  · exact hq.elim
  · exact I1.after hq
end
end L2

/-! the end of a law row for a promise that asks that no repr is under way -/
namespace L2
open PySem PySem.Spec PyProof.Rows
section
variable {P : Program} {w : World} {K : PySem.W.Frag} {mg mb : Str → Option Value} {k : Nat} {fa a : Addr} {fd : FuncData} {x : Str} {sp : Sp} {s : Shared} {vs : List Value} {ns : List Int}
/-- what the caller asks of the end -/
abbrev AskedK (s : Shared) : Result → Shared → Prop := fun r s' => r = .ok (.ret (.bool true)) ∧ OldK s.heap s'.heap ∧ s'.os = s.os ∧ AllBare s'.gens
theorem endG_of {H : Hp} (KX : K.In s.heap) (hns : s.heap.Ns mainGlobals mg) (hb : s.heap.Ns builtinsNs mb) (hbb : ∀ x : Str, x ≠ "__name__" → mb x = bootBuiltins x) (hlim : s.heap.NoLimit) (hg : s.gens = #[])
    (hobj : s.heap.get? a = some { cls := .type "list", data := .seq vs.toArray }) (hroom : Room k callerA)
    (F : ∀ base : Heap, K.In base → base.Ns mainGlobals mg → FnG P w K mg base k fa fd [x] sp) (hbind : ∀ (s : Shared) (u : Value), BindsTo s fd ⟨[u], []⟩ [(x, u)])
    (hO : Only H) (hok : HOk P w H s.heap) (one : ∀ b, H b ≠ none → b = a) (free : H a ≠ none → K.lookup a = none)
    (hsp : sp [.ref a] H (fun v _ => v = .bl true) E0) : codeAny (model P w) callerA (.call (.ref fa) ⟨[.ref a], []⟩) (AskedK s) s := by
  have base_of : ∀ {b : Addr} {o : Obj}, s.heap.get? b = some o → H b = none → (hidT s.heap H).get? b = some o := fun e n => hidT_get e n
  have apart : ∀ {b : Addr}, b ≠ a → H b = none := fun {b} hba => Classical.byContradiction fun z => hba (one b z)
  have notDict : ∀ {b : Addr} {o : Obj} {es : Array DictEntry} {ep : Nat}, s.heap.get? b = some o → o.data = .dict es ep → H b = none := by
    intro b o es ep e d
    refine apart fun z => ?_
    rw [z, hobj] at e
    cases e
    cases d
  have keepNs : ∀ {b : Addr} {m : Str → Option Value}, s.heap.Ns b m → (hidT s.heap H).Ns b m := by
    rintro b m ⟨o, es, ep, e, d, r⟩
    exact ⟨o, es, ep, base_of e (notDict e d), d, r⟩
  have inBase : K.In (hidT s.heap H) := by
    intro b o e
    refine base_of (KX b o e) (Classical.byContradiction fun z => ?_)
    have hba := one b z
    subst hba
    rw [free z] at e
    cases e
  have md : Mod K mg (hidT s.heap H) := by
    refine ⟨inBase, keepNs hns, ⟨mb, keepNs hb, hbb⟩, ?_⟩
    obtain ⟨mc, h1, h2⟩ := hlim
    exact ⟨mc, keepNs h1, h2⟩
  have env0 : Env0 P w K mg (hidT s.heap H) callerA [] s H := by
    refine ⟨rfl, md, fun b o e => of_hidT e, Nat.le_of_eq (hidT_size _ _), trivial, ?_, hok, .of_eq hg⟩
    intro b hb
    exact absurd (show b ∈ ([] : List Addr) from hb) (by simp)
  refine codeAny_mono ((F _ inBase (keepNs hns)).go callerA [] s H ⟨[.ref a], []⟩ [.ref a] [.ref a] _ rfl hroom env0 (hbind s (.ref a)) (.cons rfl .nil) hsp) ?_
  rintro (er | (_ | _ | _ | u)) s' h
  · exact h.elim
  · exact h.elim
  · exact h.elim
  · exact h.elim
  · obtain ⟨v, H', os, bare, un, hok', rv, q⟩ := h
    have q' : v = .bl true := q
    subst q'
    obtain rfl : u = Value.bool true := rv
    refine ⟨rfl, OldK.of_keep ?_, os, bare⟩
    intro b o e
    rcases hO b with z | ⟨ob, xs, z⟩
    · exact un.keep b o e z (by intro y; exact absurd (show b ∈ ([] : List Addr) from y) (by simp)) (by simp)
    · obtain ⟨e1, _⟩ := hok b _ z
      obtain ⟨e2, _⟩ := hok' b _ (un.frzs b ob _ z)
      rw [e] at e1
      cases e1
      exact e2
theorem law_callG (KX : K.In s.heap) (hns : s.heap.Ns mainGlobals mg) (hb : s.heap.Ns builtinsNs mb) (hbb : ∀ x : Str, x ≠ "__name__" → mb x = bootBuiltins x) (hlim : s.heap.NoLimit) (hg : s.gens = #[])
    (hobj : s.heap.get? a = some { cls := .type "list", data := .seq vs.toArray }) (hi : IntsAre vs ns) (hl : ns.length ≤ sizeLine) (hroom : Room k callerA)
    (F : ∀ base : Heap, K.In base → base.Ns mainGlobals mg → FnG P w K mg base k fa fd [x] sp) (hbind : ∀ (s : Shared) (u : Value), BindsTo s fd ⟨[u], []⟩ [(x, u)])
    (hsp : ∀ H : Hp, Only H → SqL K H a (ns.map V.int) → sp [.ref a] H (fun v _ => v = .bl true) E0) : codeAny (model P w) callerA (.call (.ref fa) ⟨[.ref a], []⟩) (AskedK s) s := by
  have rv := vals_ints hi
  have lenV := hi.length
  cases hk : K.lookup a with
  | some o =>
    have e := KX a o hk
    rw [hobj] at e
    cases e
    have sq : SqL K (fun _ => none) a (ns.map V.int) := .inr ⟨_, vs.toArray, _, hk, rfl, rfl, rfl, by rw [List.size_toArray, lenV]; exact hl, by simpa using rv⟩
    have only : Only (fun _ => none) := fun _ => .inl rfl
    have hok : HOk P w (fun _ => none) s.heap := by
      intro b u z
      have z' : (none : Option HO) = some u := z
      cases z'
    exact endG_of KX hns hb hbb hlim hg hobj hroom F hbind only hok (fun b z => absurd rfl z) (fun z => absurd rfl z) (hsp _ only sq)
  | none =>
    let O : Obj := { cls := .type "list", data := .seq vs.toArray }
    let H : Hp := fun b => if b = a then some (.frz O (.lst (ns.map V.int))) else none
    have atA : H a = some (.frz O (.lst (ns.map V.int))) := if_pos rfl
    have off : ∀ b, b ≠ a → H b = none := fun b n => if_neg n
    have only : Only H := by
      intro b
      by_cases n : b = a
      · exact .inr ⟨O, ns.map V.int, by rw [n]; exact atA⟩
      · exact .inl (off b n)
    have hok : HOk P w H s.heap := by
      intro b u z
      by_cases n : b = a
      · subst n
        rw [atA] at z
        cases z
        exact ⟨hobj, by rw [List.length_map]; exact hl, vs, _, rv, hobj⟩
      · rw [off b n] at z
        cases z
    have one : ∀ b, H b ≠ none → b = a := fun b z => Classical.byContradiction fun n => z (off b n)
    exact endG_of KX hns hb hbb hlim hg hobj hroom F hbind only hok one (fun _ => hk) (hsp _ only (.inl (.inr ⟨O, atA⟩)))
end
/-- the goal that k_head leaves, from the law's promise -/
theorem walk_ofG {l : PySem.W.OpenLaw} {n k : Nat} {q : Program} {loose : List Str} {XP : (Str → Option Value) → Heap → Prop} {YP : World → Heap → Prop} {d : DefRec} {K : Params → PySem.W.Frag} {sp : World → Sp} {x : Str}
    (hn : l.most = some n) (hn2 : n ≤ sizeLine) (hdf : d.params.defaults = []) (hr : Room k callerA) (hY : ∀ (w : World) (h : Heap), YP w h → (K w.params).In h)
    (F : ∀ (w : World) (mg : Str → Option Value) (fa : Addr) (h : Heap), (K w.params).In h → h.Ns mainGlobals mg → mg d.name = some (.ref fa) →
      ∃ fd : FuncData, (∀ (s : Shared) (u : Value), BindsTo s fd ⟨[u], []⟩ [(x, u)]) ∧ ∀ base : Heap, (K w.params).In base → base.Ns mainGlobals mg → FnG l.prog w (K w.params) mg base k fa fd [x] (sp w))
    (hsp : ∀ (w : World) (H : Hp) (a : Addr) (ns : List Int), ns.length ≤ n → Only H → SqL (K w.params) H a (ns.map V.int) → sp w [.ref a] H (fun v _ => v = .bl true) E0) :
    PySem.W.WalkO q loose XP YP l.row.toRowW d [] (fun f vs => PySem.call f vs) := by
  refine Att.attach_call hn hdf ?_
  intro w s₀ s₁ mg mb fa o pm cd doc a vs ns G Y ho hd hcd hmg hobj hints hlen hg
  have KX := hY w _ Y
  obtain ⟨fd, hb, hF⟩ := F w mg fa _ KX G.T.g hmg
  exact law_callG KX G.T.g G.T.b G.T.builtins G.T.nolimit hg hobj hints (Nat.le_trans hlen hn2) hr hF hb (fun H hO hS => hsp w H a ns hlen hO hS)
end L2

namespace K0
open PySem L2
abbrev sRun : Stmt := top 21
theorem join_none : ∀ ys : List (List Nat), TL.joinL [] ys = ys.flatten
  | [] => rfl
  | [y] => by simp [TL.joinL]
  | y :: z :: r => by
    show y ++ ([] ++ TL.joinL [] (z :: r)) = _
    rw [join_none (z :: r)]
    simp
theorem glue (ys : List (List Nat)) : Txt.join (S []) (ys.map S) = S ys.flatten := by
  rw [← join_none]
  exact SX.join_S [] ys
theorem flat_ones (rs : List Nat) : (rs.map fun c => [c]).flatten = rs := by
  induction rs with
  | nil => rfl
  | cons c rs ih => simp [ih]
def onesV (rs : List Nat) : List V := rs.map fun c => V.str (S [c])
theorem onesV_add (rs : List Nat) (c : Nat) : onesV rs ++ [V.str (S [c])] = onesV (rs ++ [c]) := by unfold onesV; rw [List.map_append]; rfl
theorem onesV_eq (rs : List Nat) : onesV rs = ((rs.map fun c => [c]).map S).map V.str := by unfold onesV; rw [List.map_map, List.map_map]; rfl
theorem ones_sum (rs : List Nat) : (((rs.map fun c => [c]).map S).map (·.length)).sum = rs.length := by
  induction rs with
  | nil => rfl
  | cons c rs ih =>
    rw [List.map_cons, List.map_cons, List.map_cons, List.sum_cons, ih, S_len, List.length_cons]
    simp; omega
theorem at_sign {z : Str} {l : List Nat} (hz : z.cps.toList = l) {p : Nat → Bool} (hp : l.all p = true) {r : Int} (h0 : 0 ≤ r) (h1 : r < (l.length : Int)) : ∃ c, atI z.cps.toList r = some c ∧ p c = true := by
  have hr : r.toNat < l.length := by omega
  refine ⟨l[r.toNat], ?_, List.all_eq_true.mp hp _ (List.getElem_mem hr)⟩
  have e : atI l ((r.toNat : Nat) : Int) = some l[r.toNat] := atI_nat (List.getElem?_eq_getElem hr)
  rw [show ((r.toNat : Nat) : Int) = r by omega] at e
  rw [hz]
  exact e
theorem val_lt : ∀ (cs : List Nat) (a : Nat), cs.all dg = true → cs.foldl (fun acc c => acc * 10 + (c - 48)) a < (a + 1) * 10 ^ cs.length
  | [], a, _ => by simp
  | c :: cs, a, h => by
    rw [List.all_cons, Bool.and_eq_true] at h
    have ih := val_lt cs (a * 10 + (c - 48)) h.2
    have hc : c - 48 ≤ 9 := by
      have := h.1
      unfold dg at this
      rw [Bool.and_eq_true, decide_eq_true_eq, decide_eq_true_eq] at this
      omega
    rw [List.foldl_cons, List.length_cons, Nat.pow_succ]
    have : (a * 10 + (c - 48) + 1) * 10 ^ cs.length ≤ ((a + 1) * 10) * 10 ^ cs.length := Nat.mul_le_mul_right _ (by omega)
    have e : (a + 1) * (10 ^ cs.length * 10) = (a + 1) * 10 * 10 ^ cs.length := by rw [Nat.mul_comm (10 ^ cs.length), Nat.mul_assoc]
    omega
theorem val_le {ds : List Nat} (h : ds.all dg = true) (hl : ds.length ≤ 13) : NumText.digitsVal ds < 10 ^ 13 := by
  have h1 := val_lt ds 0 h
  have h2 : 10 ^ ds.length ≤ 10 ^ 13 := Nat.pow_le_pow_right (by decide) hl
  unfold NumText.digitsVal
  omega
theorem num_all (n : Nat) : (TL.numL n).all dg = true := List.all_eq_true.mpr fun c hc => by
  have := TL.numL_digits n c hc
  unfold dg
  rw [decide_eq_true this.1, decide_eq_true this.2]
  rfl
theorem all_an {l : List Nat} {p : Nat → Bool} (hp : ∀ c, p c = true → an c = true) (h : l.all p = true) : l.all an = true := List.all_eq_true.mpr fun c hc => hp c (List.all_eq_true.mp h c hc)
theorem lt_an (c : Nat) (h : lt c = true) : an c = true := by unfold an; rw [h]; rfl
theorem dg_an (c : Nat) (h : dg c = true) : an c = true := by unfold an; rw [h, Bool.or_true]
theorem log_small {n : Nat} (h : n < 10 ^ 13) : ((n : Int)).natAbs.log2 < 1920 := by
  rw [Int.natAbs_natCast]
  have h2 : n < 2 ^ 44 := Nat.lt_trans h (by decide)
  by_cases hn : n = 0
  · subst hn; decide
  · exact Nat.lt_trans ((Nat.log2_lt hn).mpr h2) (by decide)
theorem cut_to {r : List Nat} (k : Nat) : cutS (S r) none (some (k : Int)) = S (r.take k) := by
  unfold cutS
  rw [S_cps, HT.sIx_nat, HT.sIx_none, S_len]
  show S ((r.drop 0).take (min k r.length - 0)) = _
  rw [List.drop_zero, Nat.sub_zero, ← List.take_take, List.take_length]
theorem S_app (a b : List Nat) : S a ++ S b = S (a ++ b) := TL.ext_tl (by rw [TL.tl_append]; simp [S, TL.tl])
theorem at_sizes {r : Int} (h0 : 0 ≤ r) (h1 : r < 5) : ∃ m : Nat, 1 ≤ m ∧ m ≤ 13 ∧ atI [V.int 1, V.int 2, V.int 3, V.int 12, V.int 13] r = some (V.int m) := by
  rcases (show r = 0 ∨ r = 1 ∨ r = 2 ∨ r = 3 ∨ r = 4 by omega) with h | h | h | h | h <;> subst h
  · exact ⟨1, by decide, by decide, rfl⟩
  · exact ⟨2, by decide, by decide, rfl⟩
  · exact ⟨3, by decide, by decide, rfl⟩
  · exact ⟨12, by decide, by decide, rfl⟩
  · exact ⟨13, by decide, by decide, rfl⟩
theorem str_none : ("" : Str) = S [] := by decide +kernel
theorem all_lt : ([97, 98, 99, 100, 101, 102, 103, 104, 105, 106, 107, 108, 109, 110, 111, 112, 113, 114, 115, 116, 117, 118, 119, 120, 121, 122] : List Nat).all lt = true := by decide
theorem all_dg : ([48, 49, 50, 51, 52, 53, 54, 55, 56, 57] : List Nat).all dg = true := by decide
theorem cps_lits : ("abcdefghijklmnopqrstuvwxyz" : Str).cps.toList = [97, 98, 99, 100, 101, 102, 103, 104, 105, 106, 107, 108, 109, 110, 111, 112, 113, 114, 115, 116, 117, 118, 119, 120, 121, 122] := cps_letters
theorem cps_digs : ("0123456789" : Str).cps.toList = [48, 49, 50, 51, 52, 53, 54, 55, 56, 57] := cps_digits
/-- while signs are drawn into the list at D -/
def Ones (p D : Addr) (H2 : Hp) (c : Nat) (t : Nat → Bool) (i : Nat) (H' : Hp) : Prop := ∃ rs : List Nat, rs.length = i ∧ rs.all t = true ∧ H' D = some (.lst (onesV rs)) ∧ Keep p H2 H' ∧ Pool H' p (c + i)
theorem Ones.next {p D : Addr} {H2 H' H'' : Hp} {c i n : Nat} {t : Nat → Bool} (O : Ones p D H2 c t i H') (hD : H2 D = none) (hDp : D ≠ p) (hk : Keep p H' H'') (hp : Pool H'' p (c + i + 1)) {d : Nat} (hd : t d = true) (hi : i < n) (hn : n ≤ 1000) :
    ∃ acc, H'' D = some (.lst acc) ∧ acc.length < sizeLine ∧ Ones p D H2 c t (i + 1) (upd H'' D (.lst (acc ++ [V.str ⟨#[d]⟩]))) := by
  obtain ⟨rs, h1, h2, h3, h4, h5⟩ := O
  refine ⟨onesV rs, hk _ _ hDp h3, ?_, rs ++ [d], by simp [h1], by simp [h2, hd], ?_, ?_, ?_⟩
  · unfold onesV
    rw [List.length_map, h1]
    exact Nat.lt_of_lt_of_le hi (Nat.le_trans hn (by decide))
  · rw [upd_same]
    exact congrArg (fun x => some (HO.lst x)) (onesV_add rs d)
  · intro b o n e
    rw [upd_ne (ne_of_none e hD)]
    exact hk b o n (h4 b o n e)
  · exact hp.other (Ne.symm hDp)
/-- a drawn run of letters and figures -/
def spDrawn : Sp := fun vs H Q _ => ∃ (p : Addr) (c : Nat), vs = [.ref p] ∧ Pool H p c ∧ c ≤ 100000 ∧
  ∀ (r : List Nat) (H' : Hp), r ≠ [] → r.all an = true → r.length ≤ 13 → Keep p H H' → Pool H' p (c + 40) → Q (.str (S r)) H'
section
variable {P : Program} {w : World} {K : PySem.W.Frag} {mg : Str → Option Value} {base : Heap} {aS : Addr}
theorem scRun : FnScope ["_law_pool_here", "_law_way", "_law_many", "_law_letters", "_law_digits", "_law_k"] ["_law_pool_here"] (defScope sRun) := ⟨rfl, rfl, rfl, by decide +kernel, rfl, by decide +kernel, by decide +kernel⟩
theorem ok_run {f fP : Addr} {fd fdP : FuncData} (F : Fun K "_law_run" "_law_run" sRun f fd) (T : Mod K mg aS)
    (kP : PySem.W.keepIn K (.ref fP) = true) (GP : FnOk P w K mg base CX0 1 fP fdP ["_law_pool_here", "_law_many"] spPick) (bP : Binds K fdP ["_law_pool_here", "_law_many"] []) (mP : mg "_law_pick" = some (.ref fP)) :
    FnOk P w K mg base CX0 2 f fd ["_law_pool_here"] spDrawn := by
  refine F.ok scRun (fun vs H Q E h => ?_) (fun cdv A outer s H vs Q E hr h => ?_)
  · obtain ⟨p, c, rfl, _⟩ := h
    rfl
  · obtain ⟨p, c, rfl, hp, hc, q⟩ := h
    refine ⟨_, C8.pss_cut (ps_set (i := 1) scRun.nd rfl (.inl rfl) (pe_call GP hr rfl mP kP bP .nil pass0 (pa_cons (pv 0) (pa_cons pe_int pa_nil))))
      (C8.pss_cut (ps_set (i := 2) scRun.nd rfl (.inl rfl) (pe_ix ix_list (pe_lst (pa_cons pe_int (pa_cons pe_int (pa_cons pe_int (pa_cons pe_int (pa_cons pe_int pa_nil)))))) (pe_call GP hr rfl mP kP bP .nil pass0 (pa_cons (pv 0) (pa_cons pe_int pa_nil))) (fun _ _ => rfl)))
      (C8.pss_cut (ps_set (i := 3) scRun.nd rfl (.inl rfl) (pe_join pe_str (pe_lc (own := [("_law_k", 5)]) (g := gName 5) (tt := tYes) (by rfl) scRun.nd (pi_range1 (by rfl) T.range (pa_cons (pv 2) pa_nil))
        (blkOk_by (own := [("_law_k", 5)]) (N := ["_law_pool_here", "_law_way", "_law_many", "_law_letters", "_law_digits", "_law_k"]) (sc := defScope sRun) (by decide +kernel)) (fun _ _ _ _ _ => pg_name (i := 5) scRun.nd rfl (Or.inl rfl))
        (fun _ _ _ _ _ => pts_nil) (fun _ _ _ _ _ => pe_ix ix_str pe_str (pe_call GP hr rfl mP kP bP .nil pass0 (pa_cons (pv 0) (pa_cons pe_int pa_nil))) (fun _ _ => rfl)))))
      (C8.pss_cut (ps_set (i := 4) scRun.nd rfl (.inl rfl) (pe_join pe_str (pe_lc (own := [("_law_k", 5)]) (g := gName 5) (tt := tYes) (by rfl) scRun.nd (pi_range1 (by rfl) T.range (pa_cons (pv 2) pa_nil))
        (blkOk_by (own := [("_law_k", 5)]) (N := ["_law_pool_here", "_law_way", "_law_many", "_law_letters", "_law_digits", "_law_k"]) (sc := defScope sRun) (by decide +kernel)) (fun _ _ _ _ _ => pg_name (i := 5) scRun.nd rfl (Or.inl rfl))
        (fun _ _ _ _ _ => pts_nil) (fun _ _ _ _ _ => pe_ix ix_str pe_str (pe_call GP hr rfl mP kP bP .nil pass0 (pa_cons (pv 0) (pa_cons pe_int pa_nil))) (fun _ _ => rfl)))))
      (pss_cons (ps_if (pt_cmpR op_lt (pv 1) pe_int (nomark _)) (pss_one (ps_ret (pv 3))) pss_nil)
      (pss_cons (ps_if (pt_cmpR op_lt (pv 1) pe_int (nomark _)) (pss_one (ps_ret (pe_ifExp (pt_cmpR op_gt (pe_call GP hr rfl mP kP bP .nil pass0 (pa_cons (pv 0) (pa_cons pe_int pa_nil))) pe_int (nomark _))
          (pe_callTy call_str_int (by rfl) T.str (by decide +kernel) (pa_cons (pe_callTy call_int_str (by rfl) T.int (by decide +kernel) (pa_cons (pv 4) pa_nil)) pa_nil))
          (pe_ifExp (pt_cmpR op_gt (pe_call GP hr rfl mP kP bP .nil pass0 (pa_cons (pv 0) (pa_cons pe_int pa_nil))) pe_int (nomark _)) (pv 4) pe_str)))) pss_nil)
      (pss_one (ps_ret (pe_ifExp (pt_cmpR op_eq (pv 1) pe_int (nomark _)) (pe_op op_add_str (pe_slice sl_str (pv 3) po_none (po_some pe_int)) (pe_slice sl_str (pv 4) po_none (po_some pe_int)))
          (pe_op op_add_str (pe_slice sl_str (pv 4) po_none (po_some pe_int)) (pe_slice sl_str (pv 3) po_none (po_some pe_int))))))))))), ?_⟩
    refine ⟨fun σ H' => ∃ w : Int, σ = [some (.ref p), some (.int w), none, none, none, none] ∧ Keep p H H' ∧ Pool H' p (c + 1), ?_, ?_⟩
    · exact ⟨_, rfl, p, c, 8, rfl, hp, by omega, by decide, by decide, fun r H' _ _ hk hp' => ⟨r, rfl, hk, hp'⟩⟩
    rintro σ H1 ⟨way, rfl, k1, p1⟩
    refine ⟨fun σ H' => ∃ m : Nat, 1 ≤ m ∧ m ≤ 13 ∧ σ = [some (.ref p), some (.int way), some (.int m), none, none, none] ∧ Keep p H H' ∧ Pool H' p (c + 2), ?_, ?_⟩
    · refine ⟨by show 5 ≤ sizeLine; decide, fun l hl => ?_⟩
      refine ⟨_, rfl, p, c + 1, 5, rfl, p1.new hl, by omega, by decide, by decide, fun r H2 r0 r5 hk hp2 => ?_⟩
      obtain ⟨m, m1, m2, hm⟩ := at_sizes r0 r5
      have hlp : l ≠ p := by
        obtain ⟨_, _, _, e, _⟩ := p1
        exact Ne.symm (ne_of_none e hl)
      exact ⟨l, _, r, _, rfl, rfl, SqL.of (hk _ _ hlp upd_same), hm, m, m1, m2, rfl, (k1.new hl).trans hk, hp2⟩
    rintro σ H2 ⟨m, hm1, hm2, rfl, k2, p2⟩
    have pne : ∀ {H' : Hp} {D : Addr} {n : Nat}, Pool H' p n → H' D = none → D ≠ p := fun a h => by
      obtain ⟨_, _, _, e, _⟩ := a
      exact Ne.symm (ne_of_none e h)
    refine ⟨fun σ H' => ∃ ls : List Nat, ls.length = m ∧ ls.all lt = true ∧ σ = [some (.ref p), some (.int way), some (.int m), some (.str (S ls)), none, none] ∧ Keep p H H' ∧ Pool H' p (c + 2 + m), ?_, ?_⟩
    · refine ⟨⟨_, rfl⟩, _, rfl, m, rfl, by omega, by omega, fun D hD => ?_⟩
      have hDp := pne p2 hD
      refine lc_range (lo := 0) (n := m) (Ones p D H2 (c + 2) lt) ⟨[], rfl, rfl, upd_same, (Keep.refl p H2).new hD, p2.new hD⟩ ?_ ?_
      · intro i H' hi O
        obtain ⟨_, _, _, _, _, pi⟩ := id O
        refine ⟨rfl, ?_⟩
        refine ⟨_, rfl, p, c + 2 + i, 26, rfl, pi, by omega, by decide, by decide, fun r H'' r0 r1 hk hp' => ?_⟩
        obtain ⟨d, hd, hl⟩ := at_sign cps_lits all_lt r0 (by simpa using r1)
        exact ⟨_, r, d, rfl, rfl, by decide +kernel, hd, O.next hD hDp hk hp' hl hi (by omega)⟩
      · rintro H' ⟨rs, h1, h2, h3, h4, h5⟩
        refine ⟨_, D, (rs.map fun c => [c]).map S, rfl, rfl, .inl (SqL.of (by rw [h3, onesV_eq])), ?_, ?_⟩
        · rw [ones_sum, str_none, S_len]
          simp
          omega
        · rw [str_none, glue, flat_ones]
          exact ⟨rs, h1, h2, rfl, k2.trans h4, h5⟩
    rintro σ H3 ⟨ls, hl1, hl2, rfl, k3, p3⟩
    refine ⟨fun σ H' => ∃ ds : List Nat, ds.length = m ∧ ds.all dg = true ∧ σ = [some (.ref p), some (.int way), some (.int m), some (.str (S ls)), some (.str (S ds)), none] ∧ Keep p H H' ∧ Pool H' p (c + 2 + m + m), ?_, ?_⟩
    · refine ⟨⟨_, rfl⟩, _, rfl, m, rfl, by omega, by omega, fun D hD => ?_⟩
      have hDp := pne p3 hD
      refine lc_range (lo := 0) (n := m) (Ones p D H3 (c + 2 + m) dg) ⟨[], rfl, rfl, upd_same, (Keep.refl p H3).new hD, p3.new hD⟩ ?_ ?_
      · intro i H' hi O
        obtain ⟨_, _, _, _, _, pi⟩ := id O
        refine ⟨rfl, ?_⟩
        refine ⟨_, rfl, p, c + 2 + m + i, 10, rfl, pi, by omega, by decide, by decide, fun r H'' r0 r1 hk hp' => ?_⟩
        obtain ⟨d, hd, hl⟩ := at_sign cps_digs all_dg r0 (by simpa using r1)
        exact ⟨_, r, d, rfl, rfl, by decide +kernel, hd, O.next hD hDp hk hp' hl hi (by omega)⟩
      · rintro H' ⟨rs, h1, h2, h3, h4, h5⟩
        refine ⟨_, D, (rs.map fun c => [c]).map S, rfl, rfl, .inl (SqL.of (by rw [h3, onesV_eq])), ?_, ?_⟩
        · rw [ones_sum, str_none, S_len]
          simp
          omega
        · rw [str_none, glue, flat_ones]
          exact ⟨rs, h1, h2, rfl, k3.trans h4, h5⟩
    rintro σ H4 ⟨ds, hd1, hd2, rfl, k4, p4⟩
    have lne : ls ≠ [] := fun e => by rw [e] at hl1; simp at hl1; omega
    have dne : ds ≠ [] := fun e => by rw [e] at hd1; simp at hd1; omega
    have la := all_an lt_an hl2
    have da := all_an dg_an hd2
    refine ⟨_, rfl, _, _, rfl, rfl, _, rfl, ite2 (fun _ => ?_) (fun _ => ?_)⟩
    · exact ⟨_, rfl, q ls H4 lne la (by omega) k4 (p4.mono (by omega))⟩
    refine ⟨_, rfl, _, _, rfl, rfl, _, rfl, ite2 (fun _ => ?_) (fun _ => ?_)⟩
    · refine ⟨_, rfl, p, _, 3, rfl, p4, by omega, by decide, by decide, fun r H5 r0 r1 k5 p5 => ⟨_, _, rfl, rfl, _, rfl, ite2 (fun _ => ?_) (fun _ => ?_)⟩⟩
      · refine ⟨_, rfl, S ds, ((NumText.digitsVal ds : Nat) : Int), rfl, SX.int_S (show (ds.all dg) = true from hd2) dne (by omega), by rw [S_len]; omega, _, rfl, log_small (val_le hd2 (by omega)), ?_⟩
        have e : (Str.ofString (toString ((NumText.digitsVal ds : Nat) : Int))) = S (TL.numL (NumText.digitsVal ds)) := SX.num_S _
        rw [e]
        exact q _ H5 (TL.numL_ne _) (all_an dg_an (num_all _)) (TL.numL_len (by decide) (val_le hd2 (by omega))) (k4.trans k5) (p5.mono (by omega))
      · refine ⟨_, rfl, p, _, 3, rfl, p5, by omega, by decide, by decide, fun r H6 r0 r1 k6 p6 => ⟨_, _, rfl, rfl, _, rfl, ite2 (fun _ => ?_) (fun _ => ?_)⟩⟩
        · exact ⟨_, rfl, q ds H6 dne da (by omega) ((k4.trans k5).trans k6) (p6.mono (by omega))⟩
        · have z := q [48] H6 (by simp) (by decide) (by decide) ((k4.trans k5).trans k6) (p6.mono (by omega))
          rw [← str_zero] at z
          exact z
    · have tk : ∀ (l : List Nat) (n : Nat), l.all an = true → (l.take n).all an = true := fun l n h => List.all_eq_true.mpr fun x hx => List.all_eq_true.mp h x (List.mem_of_mem_take hx)
      have e3 : ∀ l : List Nat, cutS (S l) none (some 3) = S (l.take 3) := fun l => cut_to 3
      have e2 : ∀ l : List Nat, cutS (S l) none (some 2) = S (l.take 2) := fun l => cut_to 2
      have size : ∀ (a b : List Nat) (n : Nat), (a.take n ++ b).length ≤ n + b.length := fun a b n => by rw [List.length_append, List.length_take]; omega
      have tlen : ∀ (a : List Nat) (n : Nat), (a.take n).length ≤ n := fun a n => by rw [List.length_take]; omega
      have tne : ∀ (a : List Nat) (n : Nat), a ≠ [] → 0 < n → a.take n ≠ [] := fun a n h hn e => by
        have e := congrArg List.length e
        rw [List.length_take, List.length_nil] at e
        have h1 : 0 < a.length := List.length_pos_iff.mpr h
        omega
      have glued : ∀ (a b : List Nat) (x y : Nat), a ≠ [] → 0 < x → a.all an = true → b.all an = true → x + y ≤ 13 → Q (.str (S (a.take x) ++ S (b.take y))) H4 := fun a b x y ha hx haa hba hxy => by
        rw [S_app]
        refine q _ H4 (fun e => tne a x ha hx (List.append_eq_nil_iff.mp e).1) ?_ ?_ k4 (p4.mono (by omega))
        · rw [List.all_append, tk a x haa, tk b y hba]; rfl
        · have := tlen a x
          have := tlen b y
          rw [List.length_append]; omega
      refine ⟨_, rfl, rfl, _, rfl, ite2 (fun _ => ?_) (fun _ => ?_)⟩
      · refine ⟨_, rfl, _, rfl, S ls, rfl, by rw [S_len]; exact line_ge (by omega), _, rfl, _, rfl, S ds, rfl, by rw [S_len]; exact line_ge (by omega), _, _, rfl, rfl, ?_, ?_⟩
        · rw [e3, e2, S_len, S_len]
          have := tlen ls 3
          have := tlen ds 2
          exact line_ge (by omega)
        · rw [e3, e2]
          exact glued ls ds 3 2 lne (by decide) la da (by decide)
      · refine ⟨_, rfl, _, rfl, S ds, rfl, by rw [S_len]; exact line_ge (by omega), _, rfl, _, rfl, S ls, rfl, by rw [S_len]; exact line_ge (by omega), _, _, rfl, rfl, ?_, ?_⟩
        · rw [e3, e2, S_len, S_len]
          have := tlen ls 3
          have := tlen ds 2
          exact line_ge (by omega)
        · rw [e3, e2]
          exact glued ds ls 2 3 dne (by decide) da la (by decide)
end
end K0

namespace K0
open PySem L2
abbrev sIsTok : Stmt := top 24
abbrev sCut : Stmt := top 25
/-- what the law calls a token -/
def lawTok (r : List Nat) : Bool := decide (r.length ≤ 12) && ((r.filter dg).isEmpty || ((r.filter dg).length == r.length && (r == [48] || r.headD 0 != 48)))
theorem filter_none {r : List Nat} : (r.filter dg).isEmpty = r.all fun c => !dg c := by
  induction r with
  | nil => rfl
  | cons c r ih =>
    rw [List.filter_cons, List.all_cons]
    cases h : dg c with
    | true => simp
    | false => simpa using ih
theorem filter_all {r : List Nat} : ((r.filter dg).length == r.length) = r.all dg := by
  induction r with
  | nil => rfl
  | cons c r ih =>
    rw [List.filter_cons, List.all_cons]
    cases h : dg c with
    | true => simpa using ih
    | false =>
      have := List.length_filter_le dg r
      simp
      omega
theorem an_lt {c : Nat} (h : an c = true) : lt c = !dg c := by
  unfold an lt dg at *
  by_cases h1 : 97 ≤ c <;> by_cases h2 : c ≤ 122 <;> by_cases h3 : 48 ≤ c <;> by_cases h4 : c ≤ 57 <;> simp_all <;> omega
theorem lawTok_run {r : List Nat} (h : r.all an = true) : lawTok r = tok r := by
  unfold lawTok tok
  rw [filter_none, filter_all]
  have e : (r.all fun c => !dg c) = r.all lt := by
    induction r with
    | nil => rfl
    | cons c r ih =>
      rw [List.all_cons, Bool.and_eq_true] at h
      rw [List.all_cons, List.all_cons, ih h.2, an_lt h.1]
  rw [e]
def spIsTok : Sp := fun vs H Q _ => ∃ r : List Nat, vs = [.str (S r)] ∧ r.length ≤ 1000000 ∧ ∀ H', Same H H' → Q (.bl (lawTok r)) H'
/-! ### lists of texts as data -/
def dataL (ts : List (List Nat)) : PyData := .list (ts.map fun r => PyData.str (S r))
def Small (ts : List (List Nat)) : Prop := ∀ r ∈ ts, ∀ c ∈ r, c < 128
theorem dpL (K : PySem.W.Frag) (H : Hp) : ∀ ts : List (List Nat), DpAll K H (lstS ts) (ts.map fun r => PyData.str (S r))
  | [] => .nil
  | _ :: ts => .cons (.str _) (dpL K H ts)
theorem dataL_lay {ts : List (List Nat)} (h : Small ts) : PyData.canLayAll0 (ts.map fun r => PyData.str (S r)) = true := by
  induction ts with
  | nil => rfl
  | cons r ts ih =>
    rw [List.map_cons, PyData.canLayAll0, ih fun x hx => h x (List.mem_cons_of_mem _ hx), Bool.and_true, PyData.canLay0]
    unfold PyData.strOk
    rw [Array.all_eq_true_iff_forall_mem]
    intro c hc
    have : c ∈ r := by
      have e := S_cps r
      rw [← e]
      exact Array.mem_toList_iff.mpr hc
    have := h r (List.mem_cons_self ..) c this
    exact decide_eq_true (by omega)
theorem dataL_depth (ts : List (List Nat)) : (dataL ts).depth = 1 := by
  unfold dataL
  rw [PyData.depth]
  have e : PyData.depthAll (ts.map fun r => PyData.str (S r)) = 0 := by
    induction ts with
    | nil => rfl
    | cons r ts ih => rw [List.map_cons, PyData.depthAll, ih, PyData.depth]; rfl
  rw [e]
theorem dataL_shaped {ts : List (List Nat)} (h : Small ts) : SeqAt.shaped (dataL ts) = true := by
  unfold SeqAt.shaped
  rw [dataL_depth]
  unfold dataL
  rw [PyData.canLay0, dataL_lay h]
  rfl
theorem dataL_show (ts : List (List Nat)) : (dataL ts).showable = true := by
  unfold dataL
  rw [PyData.showable]
  induction ts with
  | nil => rfl
  | cons r ts ih => rw [List.map_cons, PyData.showableAll, ih, PyData.showable]; rfl
theorem dataL_dict (ts : List (List Nat)) : (dataL ts).hasDict = false := by
  unfold dataL
  rw [PyData.hasDict]
  induction ts with
  | nil => rfl
  | cons r ts ih => rw [List.map_cons, PyData.hasDictAll, ih, PyData.hasDict]; rfl
theorem eqvAll_S : ∀ (ts us : List (List Nat)), PyData.eqvAll (ts.map fun r => PyData.str (S r)) (us.map fun r => PyData.str (S r)) = decide (ts = us)
  | [], [] => by rw [List.map_nil, PyData.eqvAll]; rfl
  | [], u :: us => by rw [List.map_nil, List.map_cons, PyData.eqvAll]; rfl
  | t :: ts, [] => by rw [List.map_nil, List.map_cons, PyData.eqvAll]; rfl
  | t :: ts, u :: us => by
    rw [List.map_cons, List.map_cons, PyData.eqvAll, eqvAll_S ts us, PyData.eqv]
    by_cases h1 : t = u
    · subst h1
      by_cases h2 : ts = us
      · subst h2; simp
      · simp [h2]
    · have n : ¬ S t = S u := fun e => h1 (S_inj e)
      have e : (S t == S u) = false := by simpa using n
      rw [e, Bool.false_and]
      exact (decide_eq_false (fun z => h1 (List.cons.inj z).1)).symm
theorem eqv_S (ts us : List (List Nat)) : PyData.eqv (dataL ts) (dataL us) = decide (ts = us) := by
  unfold dataL
  rw [PyData.eqv]
  exact eqvAll_S ts us
/-- how long a list of texts is when shown -/
theorem shown_le {ts : List (List Nat)} (h : Small ts) : (dataL ts).shown.length ≤ 10 * (ts.map List.length).sum + 4 * ts.length + 2 := by
  unfold dataL
  have e0 : (ts.map fun r => PyData.str (S r)) = (ts.map S).map PyData.str := by rw [List.map_map]; rfl
  rw [e0, PyData.shown_list, PyData.shownAll_strs, ← StrLaws.glued_eq_join, Str.length_append, Str.length_append, size_glued]
  have e1 : ((", " : Str)).length = 2 := by decide +kernel
  have e2 : (("[" : Str)).length = 1 := by decide +kernel
  have e3 : (("]" : Str)).length = 1 := by decide +kernel
  have e4 : ((((ts.map S).map reprText).map (·.length)).sum) ≤ 10 * (ts.map List.length).sum + 2 * ts.length := by
    clear e0
    induction ts with
    | nil => simp
    | cons r ts ih =>
      have ih := ih fun x hx => h x (List.mem_cons_of_mem _ hx)
      have h1 := StrLaws.reprText_len (S r) (fun c hc => by
        rw [S_cps] at hc
        exact Nat.lt_trans (h r (List.mem_cons_self ..) c hc) (by decide))
      rw [S_len] at h1
      simp only [List.map_cons, List.sum_cons, List.length_cons] at ih ⊢
      omega
  rw [e1, e2, e3, List.length_map, List.length_map]
  omega
section
variable {P : Program} {w : World} {K : PySem.W.Frag} {mg : Str → Option Value} {base : Heap} {aS : Addr}
theorem scIsTok : FnScope ["_law_run_here", "_law_figures", "_law_sign"] ["_law_run_here"] (defScope sIsTok) := ⟨rfl, rfl, rfl, by decide +kernel, rfl, by decide +kernel, by decide +kernel⟩
theorem ones_lst (rs : List Nat) : onesV rs = lstS (rs.map fun c => [c]) := by unfold onesV lstS; rw [List.map_map]; rfl
theorem mem_digs (c : Nat) : decide (c ∈ ("0123456789" : Str).cps.toList) = dg c := mem_digits c
theorem figs_small (r : List Nat) : Small ((r.filter dg).map fun c => [c]) := by
  intro x hx d hd
  obtain ⟨c, hc, rfl⟩ := List.mem_map.mp hx
  have hc := (List.mem_filter.mp hc).2
  have e : d = c := by simpa using hd
  subst e
  unfold dg at hc
  rw [Bool.and_eq_true, decide_eq_true_eq, decide_eq_true_eq] at hc
  omega
theorem ok_isTok {f : Addr} {fd : FuncData} (F : Fun K "_law_is_token" "_law_is_token" sIsTok f fd) (T : Mod K mg aS) : FnOk P w K mg base CX0 1 f fd ["_law_run_here"] spIsTok := by
  refine F.ok scIsTok (fun vs H Q E h => ?_) (fun cdv A outer s H vs Q E hr h => ?_)
  · obtain ⟨r, rfl, _⟩ := h
    rfl
  · obtain ⟨r, rfl, hl, q⟩ := h
    have hsl : (S r).length ≤ sizeLine := by rw [S_len]; exact line_ge hl
    refine ⟨_, pss_cons (ps_if (pt_cmpR op_gt (pe_callB call_len_str (by rfl) T.len PySem.boot_len (pa_cons (pv 0) pa_nil)) pe_int (nomark _)) (pss_one (ps_ret pe_bl)) pss_nil)
      (pss_cons (ps_setLc (i := 1) (own := [("_law_sign", 2)]) (g := gName 2) (by rfl) scIsTok.nd rfl rfl (sw_true rfl rfl rfl (by decide +kernel)) (pi_str (pv 0))
        (blkOk_by (own := [("_law_sign", 2)]) (N := ["_law_run_here", "_law_figures", "_law_sign"]) (sc := defScope sIsTok) (by decide +kernel)) (fun _ _ _ _ _ => pg_name (i := 2) scIsTok.nd rfl (Or.inl rfl))
        (fun _ _ _ _ _ => pts_one (pt_cmpR op_in_sign (pv 2) pe_str rfl)) (fun _ _ _ _ _ => pv 2))
      (pss_cons (ps_if (pt_cmpR (op_eqD hr.units) (pv 1) (pe_lst pa_nil) (nomark _)) (pss_one (ps_ret pe_bl)) pss_nil)
      (pss_one (ps_ret (pe_and (pe_cmpR op_eq (pe_callB call_len_seq (by rfl) T.len PySem.boot_len (pa_cons (pv 1) pa_nil)) (pe_callB call_len_str (by rfl) T.len PySem.boot_len (pa_cons (pv 0) pa_nil)) (nomark _))
        (pe_one (pe_or (pe_cmpR op_eq (pv 0) pe_str (nomark _)) (pe_one (pe_cmpR op_ne (pe_ix ix_str (pv 0) pe_int (fun _ _ => rfl)) pe_str (nomark _)))))))))), ?_⟩
    refine ⟨_, rfl, S r, rfl, hsl, _, _, rfl, rfl, _, rfl, ite2 (fun h1 => ?_) (fun h1 => ?_)⟩
    · have h1 : ¬ r.length ≤ 12 := by have := of_decide_eq_true h1; rw [S_len] at this; omega
      have e := q H (Same.refl H)
      unfold lawTok at e
      rw [decide_eq_false h1, Bool.false_and] at e
      exact e
    · have h1 : r.length ≤ 12 := by
        have : ¬ ((12 : Int) < ((S r).length : Int)) := fun x => h1 (decide_eq_true x)
        rw [S_len] at this
        omega
      refine ⟨_, rfl, S r, rfl, fun D hD => ?_⟩
      refine lc_it walk_str (fun i H' => Same H H' ∧ H' D = some (.lst (onesV ((r.take i).filter dg)))) ⟨Same.new (Same.refl H) hD, upd_same⟩ (fun _ _ _ _ => trivial) ?_ ?_
      · rintro i x H2 H3 hi2 ⟨s2, h2⟩ ⟨rfl, c, hc, rfl⟩
        have hc' : r[i]? = some c := by have := cps_at hc; rw [S_cps] at this; exact this
        have ef : (r.take (i + 1)).filter dg = (r.take i).filter dg ++ (if dg c = true then [c] else []) := by
          rw [List.take_add_one, hc', List.filter_append]
          show _ ++ List.filter dg [c] = _
          rw [List.filter_cons]
          rfl
        refine ⟨rfl, ?_⟩
        refine ⟨_, rfl, c, _, rfl, rfl, _, rfl, ?_⟩
        rw [mem_digs]
        cases hd : dg c with
        | true =>
          refine iteT ⟨_, rfl, _, h2, ?_, fun b o hb => ?_, ?_⟩
          · unfold onesV
            rw [List.length_map]
            have h3 := List.length_filter_le dg (r.take i)
            have h4 : (r.take i).length ≤ i := by rw [List.length_take]; omega
            have : i < r.length := (List.getElem?_eq_some_iff.mp hc').1
            exact Nat.lt_of_le_of_lt (show _ ≤ 1000000 by omega) (by decide)
          · rw [upd_ne (ne_of_none hb hD)]
            exact s2 b o hb
          · rw [upd_same, ef, hd, if_pos rfl]
            exact congrArg (fun x => some (HO.lst x)) (onesV_add _ c)
        | false =>
          refine iteF ⟨s2, ?_⟩
          rw [ef, hd, if_neg Bool.false_ne_true, List.append_nil]
          exact h2
      · rintro H2 ⟨s2, h2⟩
        have eall : (r.take (S r).cps.size).filter dg = r.filter dg := by
          rw [List.take_of_length_le]
          have : (S r).cps.size = r.length := S_len r
          omega
        rw [eall, ones_lst] at h2
        refine ⟨_, rfl, Nat.zero_le _, fun u hu => ?_⟩
        have hDu : D ≠ u := ne_of_none h2 hu
        have s3 : Same H (upd H2 u (.lst [])) := Same.new s2 hu
        have h3 : (upd H2 u (.lst [])) D = some (.lst (lstS ((r.filter dg).map fun c => [c]))) := by rw [upd_ne hDu]; exact h2
        refine ⟨dataL ((r.filter dg).map fun c => [c]), dataL [], .lst (SqL.of h3) (dpL _ _ _), .lst (SqL.of upd_same) .nil, dataL_shaped (figs_small r), by decide, _, rfl, ?_⟩
        rw [eqv_S]
        have en : decide (((r.filter dg).map fun c => [c]) = []) = (r.filter dg).isEmpty := by
          cases r.filter dg <;> rfl
        rw [en]
        have e := q _ s3
        unfold lawTok at e
        rw [decide_eq_true h1, Bool.true_and] at e
        cases hem : (r.filter dg).isEmpty with
        | true =>
          rw [hem, Bool.true_or] at e
          exact iteT e
        | false =>
          rw [hem, Bool.false_or] at e
          refine iteF ⟨_, rfl, D, _, rfl, .inl (SqL.of h3), _, rfl, S r, rfl, hsl, rfl, _, rfl, ?_⟩
          have el : decide (V.int ((lstS ((r.filter dg).map fun c => [c])).length : Nat) = V.int ((S r).length : Nat)) = ((r.filter dg).length == r.length) := by
            unfold lstS
            rw [List.length_map, List.length_map, S_len]
            by_cases h : (r.filter dg).length = r.length
            · rw [h]; simp
            · have : ¬ V.int ((r.filter dg).length : Nat) = V.int (r.length : Nat) := fun z => h (by have := V.int.inj z; omega)
              rw [decide_eq_false this]
              exact (beq_eq_false_iff_ne.mpr h).symm
          show if decide (V.int ((lstS ((r.filter dg).map fun c => [c])).length : Nat) = V.int ((S r).length : Nat)) = true then _ else _
          rw [el]
          cases hfl : ((r.filter dg).length == r.length) with
          | false =>
            rw [hfl, Bool.false_and] at e
            exact iteF e
          | true =>
            rw [hfl, Bool.true_and] at e
            have hne : 1 ≤ r.length := by
              have h5 : (r.filter dg).length = r.length := eq_of_beq hfl
              cases hr0 : r.filter dg with
              | nil => rw [hr0] at hem; exact absurd hem (by decide)
              | cons => rw [hr0] at h5; simp at h5; omega
            refine iteT ⟨_, rfl, rfl, _, rfl, ?_⟩
            have ez : decide (V.str (S r) = V.str (("0" : Str))) = (r == [48]) := by
              rw [str_zero]
              by_cases h : r = [48]
              · rw [h]; simp
              · have : ¬ V.str (S r) = V.str (S [48]) := fun z => h (S_inj (V.str.inj z))
                rw [decide_eq_false this]
                exact (beq_eq_false_iff_ne.mpr h).symm
            show if decide (V.str (S r) = V.str (("0" : Str))) = true then _ else _
            rw [ez]
            cases hr48 : (r == [48]) with
            | true =>
              rw [hr48, Bool.true_or] at e
              exact iteT e
            | false =>
              rw [hr48, Bool.false_or] at e
              refine iteF ⟨_, rfl, S r, _, _, rfl, rfl, hsl, at_zero (z := S r) (by rw [S_len]; exact hne), rfl, ?_⟩
              rw [S_cps]
              have ey : (!decide (V.str (S [r.headD 0]) = V.str (("0" : Str)))) = (r.headD 0 != 48) := by
                rw [str_zero]
                by_cases h : r.headD 0 = 48
                · rw [h]; simp
                · have : ¬ V.str (S [r.headD 0]) = V.str (S [48]) := fun z => h (by have := S_inj (V.str.inj z); simpa using this)
                  rw [decide_eq_false this]
                  exact (bne_iff_ne.mpr h).symm
              show Q (V.bl (!decide (V.str (S [r.headD 0]) = V.str (("0" : Str))))) _
              rw [ey]
              exact e
end
end K0

namespace K0
open PySem L2
/-- the law's own cutting -/
def spCut : Sp := fun vs H Q _ => ∃ z : Str, vs = [.str z] ∧ z.length ≤ 100000 ∧
  (∀ ts, due z.cps.toList = .fine ts → ∀ p H', H p = none → Same H H' → H' p = some (.lst (lstS ts)) → Q (.ref p) H') ∧
  (∀ k : Nat, due z.cps.toList = .bad k → ∀ H', Same H H' → Q (.int k) H')
theorem str_plain : ("abcdefghijklmnopqrstuvwxyz0123456789" : Str).cps.toList = cLetters.cps.toList ++ cDigits.cps.toList := by decide +kernel
theorem mem_plain (c : Nat) : decide (c ∈ ("abcdefghijklmnopqrstuvwxyz0123456789" : Str).cps.toList) = an c := by
  rw [str_plain]
  unfold an
  rw [← mem_letters, ← mem_digits]
  by_cases h1 : c ∈ cLetters.cps.toList
  · rw [decide_eq_true h1, Bool.true_or]
    exact decide_eq_true (List.mem_append.mpr (.inl h1))
  · rw [decide_eq_false h1, Bool.false_or]
    by_cases h2 : c ∈ cDigits.cps.toList
    · rw [decide_eq_true h2]
      exact decide_eq_true (List.mem_append.mpr (.inr h2))
    · rw [decide_eq_false h2]
      exact decide_eq_false fun h => (List.mem_append.mp h).elim h1 h2
theorem str_signs5 : ("=;,[]" : Str).cps.toList = [61, 59, 44, 91, 93] := by decide +kernel
theorem mem_signs (c : Nat) : decide (c ∈ ("=;,[]" : Str).cps.toList) = sg c := by
  rw [str_signs5]
  unfold sg
  by_cases h : c = 61 ∨ c = 59 ∨ c = 44 ∨ c = 91 ∨ c = 93
  · have e : (c == 61 || (c == 59 || (c == 44 || (c == 91 || c == 93)))) = true := by simpa using h
    rw [e]
    exact decide_eq_true (by simpa using h)
  · have e : (c == 61 || (c == 59 || (c == 44 || (c == 91 || c == 93)))) = false := by
      simp only [not_or] at h
      simp [h]
    rw [e]
    exact decide_eq_false (by simpa using h)
theorem str_gaps : (" \n" : Str).cps.toList = [32, 10] := by decide +kernel
theorem mem_gaps (c : Nat) : decide (c ∈ (" \n" : Str).cps.toList) = bk c := by
  rw [str_gaps]
  unfold bk
  by_cases h : c = 32 ∨ c = 10
  · have e : (c == 32 || c == 10) = true := by simpa using h
    rw [e]
    exact decide_eq_true (by simpa using h)
  · have e : (c == 32 || c == 10) = false := by
      simp only [not_or] at h
      simp [h]
    rw [e]
    exact decide_eq_false (by simpa using h)
theorem eq_strB (x y : Str) : decide (V.str x = V.str y) = decide (x = y) := by
  by_cases h : x = y
  · rw [h]; simp
  · have : ¬ V.str x = V.str y := fun z => h (V.str.inj z)
    rw [decide_eq_false h, decide_eq_false this]
theorem eq_noneB (r : List Nat) : decide (V.str (S r) = V.str ("" : Str)) = decide (r = []) := by
  rw [eq_strB, str_none]
  by_cases h : r = []
  · rw [h]; simp
  · rw [decide_eq_false h]
    exact decide_eq_false fun z => h (S_inj z)
/-- between two signs -/
def CutW (z : Str) (l : Addr) (H : Hp) (i : Nat) (σ : St) (H' : Hp) : Prop := ∃ (ts : List (List Nat)) (r : List Nat) (b : Nat) (v4 v5 : Option V), σ = [some (.str z), some (.ref l), some (.str (S r)), some (.int b), v4, v5] ∧ Same H H' ∧ H' l = some (.lst (lstS ts)) ∧
  ts.length + r.length ≤ i ∧ r.all an = true ∧ cut ts r b i ((z.cps.toList ++ [32]).drop i) = due z.cps.toList
theorem add_blank (z : Str) : (z ++ " ").cps.toList = z.cps.toList ++ [32] := TL.tl_append z " "
theorem lst_short {ts : List (List Nat)} {n : Nat} (h : ts.length ≤ n) (hn : n ≤ 1000000) : (lstS ts).length < sizeLine := by
  unfold lstS
  rw [List.length_map]
  exact Nat.lt_of_le_of_lt (Nat.le_trans h hn) (by decide)
section
variable {P : Program} {w : World} {K : PySem.W.Frag} {mg : Str → Option Value} {base : Heap} {aS : Addr}
theorem scCut : FnScope ["_law_text", "_law_found", "_law_run_here", "_law_begin", "_law_place", "_law_sign"] ["_law_text"] (defScope sCut) := ⟨rfl, rfl, rfl, by decide +kernel, rfl, by decide +kernel, by decide +kernel⟩
theorem ok_cut {f fT : Addr} {fd fdT : FuncData} (F : Fun K "_law_cut" "_law_cut" sCut f fd) (T : Mod K mg aS)
    (kT : PySem.W.keepIn K (.ref fT) = true) (GT : FnOk P w K mg base CX0 1 fT fdT ["_law_run_here"] spIsTok) (bT : Binds K fdT ["_law_run_here"] []) (mT : mg "_law_is_token" = some (.ref fT)) :
    FnOk P w K mg base CX0 2 f fd ["_law_text"] spCut := by
  refine F.ok scCut (fun vs H Q E h => ?_) (fun cdv A outer s H vs Q E hr h => ?_)
  · obtain ⟨z, rfl, _⟩ := h
    rfl
  · obtain ⟨z, rfl, hz, q, e⟩ := h
    refine ⟨_, pss_cons (ps_par3 (i := 1) (j := 2) (l := 3) (by rfl) scCut.nd rfl rfl rfl (by decide) (by decide) (by decide) rfl rfl rfl (pa_cons (pe_lst pa_nil) (pa_cons pe_str (pa_cons pe_int pa_nil))) (by rfl))
      (pss_cons (ps_for PassesOwn.never rfl (pi_enumS (by rfl) T.enum (pa_cons (pe_op op_add_str (pv 0) pe_str) pa_nil)) (pg_tup (by rfl) (pgs_cons (pg_name (i := 4) scCut.nd rfl (.inl rfl)) (pgs_cons (pg_name (i := 5) scCut.nd rfl (.inl rfl)) pgs_nil)))
        (pss_cons (ps_if (pt_cmpR op_in_sign (pv 5) pe_str rfl)
            (pss_cons (ps_set (i := 3) scCut.nd rfl (.inl rfl) (pe_ifExp (pt_cmpR op_eq (pv 2) pe_str (nomark _)) (pv 4) (pv 3)))
            (pss_cons (ps_set (i := 2) scCut.nd rfl (.inl rfl) (pe_op op_add_str (pv 2) (pv 5)))
            (pss_one ps_continue))) pss_nil)
        (C8.pss_cut (ps_if (pt_cmpR op_ne (pv 2) pe_str (nomark _))
            (pss_cons (ps_if (pt_not (pt_val (pe_call GT hr rfl mT kT bT .nil pass0 (pa_cons (pv 2) pa_nil)))) (pss_one (ps_ret (pv 3))) pss_nil)
            (pss_cons (ps_expr (pe_bm PySem.F.plainAttrs_list PySem.F.slot_list_append PySem.F.type_list_append mt_append (pv 1) (pa_cons (pv 2) pa_nil)))
            (pss_one (ps_set (i := 2) scCut.nd rfl (.inl rfl) pe_str)))) pss_nil)
        (pss_one (ps_if (pt_cmpR op_in_sign (pv 5) pe_str rfl)
            (pss_one (ps_expr (pe_bm PySem.F.plainAttrs_list PySem.F.slot_list_append PySem.F.type_list_append mt_append (pv 1) (pa_cons (pv 5) pa_nil))))
            (pss_one (ps_if (pt_cmpR op_notIn_sign (pv 5) pe_str rfl) (pss_one (ps_ret (pv 4))) pss_nil)))))))
      (pss_one (ps_ret (pv 1)))), ?_⟩
    refine ⟨Nat.zero_le _, fun l hl => ?_⟩
    have hwl : (z ++ " ").length = z.length + 1 := by rw [Str.length_append]; rfl
    refine ⟨_, _, _, rfl, _, rfl, _, _, rfl, rfl, ?_, z ++ " ", rfl, ?_⟩
    · have : ((" " : Str)).length = 1 := rfl
      rw [this]
      exact line_ge (by omega)
    refine for_it walk_ies (CutW z l H) ?_ (fun _ _ _ _ _ => trivial) ?_ ?_
    · refine ⟨[], [], 0, none, none, ?_, Same.new (Same.refl H) hl, upd_same, by simp, rfl, rfl⟩
      rw [← str_none]
      rfl
    · rintro i x σ H1 H2 hi ⟨ts, r, b, v4, v5, rfl, s1, h1, hlen, hra, hcut⟩ ⟨T', c, hc, rfl, hT, rfl⟩
      have hi' : i < z.length + 1 := by rw [← hwl]; exact hi
      have hcw : (z.cps.toList ++ [32])[i]? = some c := by rw [← add_blank]; exact cps_at hc
      have hdrop : (z.cps.toList ++ [32]).drop i = c :: (z.cps.toList ++ [32]).drop (i + 1) := by
        have hk' := (List.getElem?_eq_some_iff.mp hcw).1
        rw [List.getElem?_eq_getElem hk'] at hcw
        rw [List.drop_eq_getElem_cons hk', Option.some.inj hcw]
      rw [hdrop] at hcut
      have hlT : l ≠ T' := ne_of_none h1 hT
      have s2 : Same H (upd H1 T' (.tup [.int (i : Nat), .str ⟨#[c]⟩])) := Same.new s1 hT
      have h2 : (upd H1 T' (.tup [.int (i : Nat), .str ⟨#[c]⟩])) l = some (.lst (lstS ts)) := by rw [upd_ne hlT]; exact h1
      refine ⟨T', _, rfl, SqT.of upd_same, rfl, _, _, rfl, _, _, rfl, rfl, ?_⟩
      refine ⟨_, rfl, c, _, rfl, rfl, _, rfl, ?_⟩
      rw [mem_plain]
      cases ha : an c with
      | true =>
        rw [cut_cons, if_pos ha] at hcut
        have hsz : (S r).length + (⟨#[c]⟩ : Str).length ≤ sizeLine := by
          have : (⟨#[c]⟩ : Str).length = 1 := rfl
          rw [this, S_len]
          exact line_ge (by omega)
        have hSr : S r ++ (⟨#[c]⟩ : Str) = S (r ++ [c]) := S_app r [c]
        refine iteT ⟨_, rfl, rfl, _, rfl, ?_⟩
        rw [eq_noneB]
        refine ite2 (fun h => ?_) (fun h => ?_)
        · have h : r = [] := of_decide_eq_true h
          rw [if_pos h] at hcut
          refine ⟨_, rfl, _, rfl, _, rfl, _, _, rfl, rfl, hsz, ts, r ++ [c], i, some (.int i), some (.str ⟨#[c]⟩), ?_, s2, h2, by rw [List.length_append, List.length_singleton]; omega, by rw [List.all_append, hra]; simp [ha], hcut⟩
          rw [hSr]
          rfl
        · have h : ¬ r = [] := fun x => h (decide_eq_true x)
          rw [if_neg h] at hcut
          refine ⟨_, rfl, _, rfl, _, rfl, _, _, rfl, rfl, hsz, ts, r ++ [c], b, some (.int i), some (.str ⟨#[c]⟩), ?_, s2, h2, by rw [List.length_append, List.length_singleton]; omega, by rw [List.all_append, hra]; simp [ha], hcut⟩
          rw [hSr]
          rfl
      | false =>
        refine iteF ?_
        refine ⟨fun σ' H' => ∃ us : List (List Nat), σ' = [some (.str z), some (.ref l), some (.str (S [])), some (.int b), some (.int i), some (.str ⟨#[c]⟩)] ∧ Same H H' ∧ H' l = some (.lst (lstS us)) ∧ us.length ≤ i ∧ cut us [] b i (c :: (z.cps.toList ++ [32]).drop (i + 1)) = due z.cps.toList, ?_, ?_⟩
        · refine ⟨_, rfl, rfl, _, rfl, ?_⟩
          rw [eq_noneB]
          cases hr0 : decide (r = []) with
          | true =>
            have h : r = [] := of_decide_eq_true hr0
            subst h
            exact iteF ⟨ts, rfl, s2, h2, by simpa using hlen, hcut⟩
          | false =>
            have h : ¬ r = [] := of_decide_eq_false hr0
            refine iteT ⟨_, rfl, r, rfl, by omega, fun H3 s3 => ⟨_, rfl, ?_⟩⟩
            rw [lawTok_run hra]
            cases htk : tok r with
            | false =>
              refine iteT ⟨_, rfl, e b ?_ H3 (s2.trans s3)⟩
              rw [← hcut, cut_stop ha h htk]
            | true =>
              refine iteF ⟨_, rfl, .inl ⟨rfl, _, SqL.of (s3 _ _ h2)⟩, _, rfl, l, _, _, rfl, rfl, s3 _ _ h2, lst_short (n := i) (by omega) (by omega), ?_⟩
              refine ⟨ts ++ [r], ?_, Same.put (s2.trans s3) hl, by rw [upd_same, lstS_add], ?_, ?_⟩
              · rw [← str_none]
                rfl
              · have : 0 < r.length := List.length_pos_iff.mpr h
                rw [List.length_append, List.length_singleton]; omega
              · rw [← hcut, cut_step ha h htk]
        · rintro σ' H3 ⟨us, rfl, s3, h3, hus, hcu⟩
          refine ⟨_, rfl, c, _, rfl, rfl, _, rfl, ?_⟩
          rw [mem_signs]
          cases hsg : sg c with
          | true =>
            refine iteT ⟨_, rfl, .inl ⟨rfl, _, SqL.of h3⟩, _, rfl, l, _, _, rfl, rfl, h3, lst_short hus (by omega), us ++ [[c]], [], b, _, _, rfl, Same.put s3 hl, ?_, ?_, rfl, ?_⟩
            · rw [upd_same]
              exact congrArg (fun x => some (HO.lst x)) (lstS_add us [c])
            · simp; omega
            · rw [← hcu, cut_sign hsg]
          | false =>
            refine iteF ⟨_, rfl, c, _, rfl, rfl, _, rfl, ?_⟩
            rw [mem_gaps]
            cases hbk : bk c with
            | true =>
              refine iteF ⟨us, [], b, _, _, rfl, s3, h3, by simp; omega, rfl, ?_⟩
              rw [← hcu, cut_blank hbk]
            | false =>
              refine iteT ⟨_, rfl, e i ?_ H3 s3⟩
              rw [← hcu, cut_odd ha hsg hbk]
    · rintro σ H1 ⟨ts, r, b, v4, v5, rfl, s1, h1, hlen, hra, hcut⟩
      refine ⟨_, rfl, q ts ?_ l H1 hl s1 h1⟩
      rw [← hcut, List.drop_eq_nil_of_le]
      · rfl
      · rw [List.length_append, str_len, List.length_singleton]
        exact Nat.le_of_eq hwl.symm
end
end K0

namespace K0
open PySem L2
abbrev sTextOf : Stmt := top 16
abbrev sTold : Stmt := top 26
abbrev sSame : Stmt := top 28
theorem join_blank : ∀ ts : List (List Nat), TL.joinL [32] ts = spaced ts
  | [] => rfl
  | [t] => by simp [TL.joinL, spaced]
  | t :: u :: r => by
    show t ++ ([32] ++ TL.joinL [32] (u :: r)) = _
    rw [join_blank (u :: r)]
    simp [spaced]
theorem spaced_join (ts : List (List Nat)) : Txt.join (S [32]) (ts.map S) = S (spaced ts) := by
  rw [← join_blank]
  exact SX.join_S [32] ts
theorem lstS_eq (ts : List (List Nat)) : lstS ts = (ts.map S).map V.str := by unfold lstS; rw [List.map_map]; rfl
theorem sum_S (ts : List (List Nat)) : ((ts.map S).map (·.length)).sum = (ts.map List.length).sum := by
  rw [List.map_map]
  congr 1
/-- the text of a file -/
def spTextOf (K : PySem.W.Frag) : Sp := fun vs H Q _ => ∃ (a : Addr) (ts : List (List Nat)), vs = [.ref a] ∧ SqL K H a (lstS ts) ∧ (ts.map List.length).sum + ts.length ≤ 100000 ∧ Q (.str (S (spaced ts))) H
/-- two things that are shown alike -/
def spSame (K : PySem.W.Frag) : Sp := fun vs H Q _ => ∃ (x y : V) (d : PyData), vs = [x, y] ∧ Dp K H x d ∧ Dp K H y d ∧ d.showable = true ∧ d.hasDict = false ∧ d.depth ≤ 60 ∧ d.shown.length ≤ sizeLine ∧ Q (.bl true) H
section
variable {P : Program} {w : World} {K : PySem.W.Frag} {mg : Str → Option Value} {base : Heap} {aS : Addr}
theorem scTextOf : FnScope ["file"] ["file"] (defScope sTextOf) := ⟨rfl, rfl, rfl, by decide +kernel, rfl, by decide +kernel, by decide +kernel⟩
theorem ok_textOf {f : Addr} {fd : FuncData} (F : Fun K "text_of" "text_of" sTextOf f fd) : FnOk P w K mg base CX0 1 f fd ["file"] (spTextOf K) := by
  refine F.ok scTextOf (fun vs H Q E h => ?_) (fun cdv A outer s H vs Q E hr h => ?_)
  · obtain ⟨a, ts, rfl, _⟩ := h
    rfl
  · obtain ⟨a, ts, rfl, hs, hsz, q⟩ := h
    refine ⟨_, pss_one (ps_ret (pe_join pe_str (pv 0))), ?_⟩
    refine ⟨⟨_, rfl⟩, _, rfl, _, a, ts.map S, rfl, rfl, .inl (by rw [← lstS_eq]; exact hs), ?_, ?_⟩
    · rw [sum_S, List.length_map, str_blank, S_len]
      simp
      omega
    · rw [str_blank, spaced_join]
      exact q
theorem scSame : FnScope ["_law_told_here", "_law_due"] ["_law_told_here", "_law_due"] (defScope sSame) := ⟨rfl, rfl, rfl, by decide +kernel, rfl, by decide +kernel, by decide +kernel⟩
theorem ok_same {f : Addr} {fd : FuncData} (F : Fun K "_law_same" "_law_same" sSame f fd) (T : Mod K mg aS) : FnG P w K mg base 1 f fd ["_law_told_here", "_law_due"] (spSame K) := by
  refine F.okG scSame (fun vs H Q E h => ?_) (fun cdv A outer s H vs Q hgu hr h => ?_)
  · obtain ⟨x, y, d, rfl, _⟩ := h
    rfl
  · obtain ⟨x, y, d, rfl, hx, hy, h1, h2, h3, h4, q⟩ := h
    refine ⟨_, pss_one (ps_ret (pe_cmpR op_eq (pe_callB (call_reprD hgu hr.units) (by rfl) T.repr (by decide +kernel) (pa_cons (pv 0) pa_nil)) (pe_callB (call_reprD hgu hr.units) (by rfl) T.repr (by decide +kernel) (pa_cons (pv 1) pa_nil)) (nomark _))), ?_⟩
    refine ⟨_, rfl, x, d, rfl, hx, h1, h2, h3, h4, _, rfl, y, d, rfl, hy, h1, h2, h3, h4, rfl, ?_⟩
    show Q (V.bl (decide (V.str d.shown = V.str d.shown))) H
    rw [decide_eq_true rfl]
    exact q
theorem scTold : FnScope ["_law_text", "e"] ["_law_text"] (defScope sTold) := ⟨rfl, rfl, rfl, by decide +kernel, rfl, by decide +kernel, by decide +kernel⟩
theorem ok_told {f fT C fI : Addr} {fd fdT : FuncData} (F : Fun K "_law_told" "_law_told" sTold f fd) (TE : K0E.ErrTxt P K mg C fI) (XF : XfC K C)
    (kT : PySem.W.keepIn K (.ref fT) = true) (GT : FnOk P w K mg base (L2.CX P w) 4 fT fdT ["text"] (spTokens C)) (bT : Binds K fdT ["text"] []) (mT : mg "tokens" = some (.ref fT)) :
    FnOk P w K mg base CX0 5 f fd ["_law_text"] spCut := by
  refine F.ok scTold (fun vs H Q E h => ?_) (fun cdv A outer s H vs Q E hr h => ?_)
  · obtain ⟨z, rfl, _⟩ := h
    rfl
  · obtain ⟨z, rfl, hz, q, e⟩ := h
    refine ⟨_, pss_one (ps_try_as (i := 1) rfl rfl scTold.nd rfl rfl ⟨rfl, by decide, .inl TE.gC⟩ takes0
      (fun W pn xe tk _ => pss_one (ps_ret (pe_callS GT hr rfl mT kT bT (fun σ => passAt tk σ) (pa_cons (pv 0) pa_nil))))
      (fun a oe cls d pn hz hf => pss_one (ps_ret (pe_xf XF TE.noN hz hf (pv 1))))), ?_⟩
    refine ⟨_, rfl, z, rfl, Nat.le_trans hz (by decide), q, fun k hk d H' hd s1 hx => ?_⟩
    exact ⟨true, TE.te, fun _ a ha => ⟨_, rfl, rfl, rfl, d, _, _, rfl, hx, rfl, e k hk H' s1⟩, fun q => nomatch q⟩
end
end K0

namespace K0
open PySem L2
abbrev sPiece : Stmt := top 22
abbrev sWhole : Stmt := top 23
/-- a drawn piece of a text -/
def spPiece : Sp := fun vs H Q _ => ∃ (p : Addr) (c : Nat), vs = [.ref p] ∧ Pool H p c ∧ c ≤ 90000 ∧
  ∀ (r : List Nat) (H' : Hp), r ≠ [] → r.length ≤ 13 → Keep p H H' → Pool H' p (c + 41) → Q (.str (S r)) H'
/-- a drawn text -/
def spWhole : Sp := fun vs H Q _ => ∃ (p : Addr) (c : Nat), vs = [.ref p] ∧ Pool H p c ∧ c ≤ 80000 ∧
  ∀ (r : List Nat) (H' : Hp), r.length ≤ 400 → Keep p H H' → Pool H' p (c + 1100) → Q (.str (S r)) H'
theorem at_gaps {r : Int} (h0 : 0 ≤ r) (h1 : r < 4) : ∃ z : List Nat, z ≠ [] ∧ z.length ≤ 13 ∧ atI [V.str " ", V.str "  ", V.str "\n", V.str " \n "] r = some (V.str (S z)) := by
  have e1 : (" " : Str) = S [32] := by decide +kernel
  have e2 : ("  " : Str) = S [32, 32] := by decide +kernel
  have e3 : ("\n" : Str) = S [10] := by decide +kernel
  have e4 : (" \n " : Str) = S [32, 10, 32] := by decide +kernel
  rw [e1, e2, e3, e4]
  rcases (show r = 0 ∨ r = 1 ∨ r = 2 ∨ r = 3 by omega) with h | h | h | h <;> subst h
  · exact ⟨[32], by simp, by decide, rfl⟩
  · exact ⟨[32, 32], by simp, by decide, rfl⟩
  · exact ⟨[10], by simp, by decide, rfl⟩
  · exact ⟨[32, 10, 32], by simp, by decide, rfl⟩
theorem at_odd {r : Int} (h0 : 0 ≤ r) (h1 : r < 10) : ∃ z : List Nat, z ≠ [] ∧ z.length ≤ 13 ∧ atI [V.str "A", V.str "-", V.str "_", V.str "~", V.str ".", V.str "{", V.str "\"", V.str "Z", V.str "\t", V.str "\t"] r = some (V.str (S z)) := by
  have e : [V.str "A", V.str "-", V.str "_", V.str "~", V.str ".", V.str "{", V.str "\"", V.str "Z", V.str "\t", V.str "\t"] = [65, 45, 95, 126, 46, 123, 34, 90, 9, 9].map fun c => V.str (S [c]) := by decide +kernel
  rw [e]
  have hr : r.toNat < 10 := by omega
  refine ⟨[([65, 45, 95, 126, 46, 123, 34, 90, 9, 9] : List Nat)[r.toNat]'hr], by simp, by simp, ?_⟩
  have e2 : atI ([65, 45, 95, 126, 46, 123, 34, 90, 9, 9].map fun c => V.str (S [c])) ((r.toNat : Nat) : Int) = _ := atI_nat (v := V.str (S [([65, 45, 95, 126, 46, 123, 34, 90, 9, 9] : List Nat)[r.toNat]'hr])) (by
    rw [List.getElem?_map, List.getElem?_eq_getElem (l := [65, 45, 95, 126, 46, 123, 34, 90, 9, 9]) hr]
    rfl)
  rw [show ((r.toNat : Nat) : Int) = r by omega] at e2
  exact e2
section
variable {P : Program} {w : World} {K : PySem.W.Frag} {mg : Str → Option Value} {base : Heap} {aS : Addr}
theorem pool_ne {H' : Hp} {p D : Addr} {n : Nat} (a : Pool H' p n) (h : H' D = none) : D ≠ p := by
  obtain ⟨_, _, _, e, _⟩ := a
  exact Ne.symm (ne_of_none e h)
theorem scPiece : FnScope ["_law_pool_here", "_law_way"] ["_law_pool_here"] (defScope sPiece) := ⟨rfl, rfl, rfl, by decide +kernel, rfl, by decide +kernel, by decide +kernel⟩
theorem ok_piece {f fP fR : Addr} {fd fdP fdR : FuncData} (F : Fun K "_law_piece" "_law_piece" sPiece f fd) (T : Mod K mg aS)
    (kP : PySem.W.keepIn K (.ref fP) = true) (GP : FnOk P w K mg base CX0 1 fP fdP ["_law_pool_here", "_law_many"] spPick) (bP : Binds K fdP ["_law_pool_here", "_law_many"] []) (mP : mg "_law_pick" = some (.ref fP))
    (kR : PySem.W.keepIn K (.ref fR) = true) (GR : FnOk P w K mg base CX0 2 fR fdR ["_law_pool_here"] spDrawn) (bR : Binds K fdR ["_law_pool_here"] []) (mR : mg "_law_run" = some (.ref fR)) :
    FnOk P w K mg base CX0 3 f fd ["_law_pool_here"] spPiece := by
  refine F.ok scPiece (fun vs H Q E h => ?_) (fun cdv A outer s H vs Q E hr h => ?_)
  · obtain ⟨p, c, rfl, _⟩ := h
    rfl
  · obtain ⟨p, c, rfl, hp, hc, q⟩ := h
    have hr1 : Room 1 _ := hr.mono (by decide)
    refine ⟨_, C8.pss_cut (ps_set (i := 1) scPiece.nd rfl (.inl rfl) (pe_call GP hr1 rfl mP kP bP .nil pass0 (pa_cons (pv 0) (pa_cons pe_int pa_nil))))
      (pss_cons (ps_if (pt_cmpR op_lt (pv 1) pe_int (nomark _)) (pss_one (ps_ret (pe_call GR hr rfl mR kR bR .nil pass0 (pa_cons (pv 0) pa_nil)))) pss_nil)
      (pss_cons (ps_if (pt_cmpR op_lt (pv 1) pe_int (nomark _)) (pss_one (ps_ret (pe_ix ix_list (pe_lst (pa_cons pe_str (pa_cons pe_str (pa_cons pe_str (pa_cons pe_str pa_nil))))) (pe_call GP hr1 rfl mP kP bP .nil pass0 (pa_cons (pv 0) (pa_cons pe_int pa_nil))) (fun _ _ => rfl)))) pss_nil)
      (pss_cons (ps_if (pt_cmpR op_lt (pv 1) pe_int (nomark _)) (pss_one (ps_ret (pe_ix ix_str pe_str (pe_op op_sub (pv 1) pe_int) (fun _ _ => rfl)))) pss_nil)
      (pss_one (ps_ret (pe_ix ix_list (pe_lst (pa_cons pe_str (pa_cons pe_str (pa_cons pe_str (pa_cons pe_str (pa_cons pe_str (pa_cons pe_str (pa_cons pe_str (pa_cons pe_str (pa_cons pe_str (pa_cons pe_str pa_nil))))))))))) (pe_call GP hr1 rfl mP kP bP .nil pass0 (pa_cons (pv 0) (pa_cons pe_int pa_nil))) (fun _ _ => rfl))))))), ?_⟩
    refine ⟨fun σ H' => ∃ w : Int, 0 ≤ w ∧ w < 16 ∧ σ = [some (.ref p), some (.int w)] ∧ Keep p H H' ∧ Pool H' p (c + 1), ?_, ?_⟩
    · exact ⟨_, rfl, p, c, 16, rfl, hp, by omega, by decide, by decide, fun r H' r0 r1 hk hp' => ⟨r, r0, r1, rfl, hk, hp'⟩⟩
    rintro σ H1 ⟨way, w0, w1, rfl, k1, p1⟩
    refine ⟨_, rfl, _, _, rfl, rfl, _, rfl, ite2 (fun _ => ?_) (fun h6 => ?_)⟩
    · exact ⟨_, rfl, p, c + 1, rfl, p1, by omega, fun r H' rn _ rl hk hp' => q r H' rn rl (k1.trans hk) (hp'.mono (by omega))⟩
    refine ⟨_, rfl, _, _, rfl, rfl, _, rfl, ite2 (fun _ => ?_) (fun h10 => ?_)⟩
    · refine ⟨by show 4 ≤ sizeLine; decide, fun l hl => ⟨_, rfl, p, c + 1, 4, rfl, p1.new hl, by omega, by decide, by decide, fun r H' r0 r1 hk hp' => ?_⟩⟩
      obtain ⟨z, zn, zl, hz⟩ := at_gaps r0 r1
      exact ⟨l, _, r, _, rfl, rfl, SqL.of (hk _ _ (pool_ne p1 hl) upd_same), hz, q z H' zn zl ((k1.new hl).trans hk) (hp'.mono (by omega))⟩
    refine ⟨_, rfl, _, _, rfl, rfl, _, rfl, ite2 (fun h15 => ?_) (fun _ => ?_)⟩
    · have a1 : ¬ way < 10 := fun x => h10 (decide_eq_true x)
      have a2 : way < 15 := of_decide_eq_true h15
      obtain ⟨d, hd, _⟩ := at_sign str_signs5 (p := sg) (by decide) (r := way - 10) (by omega) (by simp; omega)
      exact ⟨_, rfl, _, _, rfl, rfl, _, way - 10, d, rfl, rfl, by decide +kernel, hd, q [d] H1 (by simp) (by simp) k1 (p1.mono (by omega))⟩
    · refine ⟨by show 10 ≤ sizeLine; decide, fun l hl => ⟨_, rfl, p, c + 1, 10, rfl, p1.new hl, by omega, by decide, by decide, fun r H' r0 r1 hk hp' => ?_⟩⟩
      obtain ⟨z, zn, zl, hz⟩ := at_odd r0 r1
      exact ⟨l, _, r, _, rfl, rfl, SqL.of (hk _ _ (pool_ne p1 hl) upd_same), hz, q z H' zn zl ((k1.new hl).trans hk) (hp'.mono (by omega))⟩
theorem Keep.free {p D : Addr} {H H1 : Hp} (k : Keep p H H1) (n : D ≠ p) (h : H1 D = none) : H D = none := by
  cases e : H D with
  | none => rfl
  | some o =>
    rw [k D o n e] at h
    cases h
theorem Same.keep {p : Addr} {H H1 : Hp} (s : Same H H1) : Keep p H H1 := fun b o _ e => s b o e
theorem Pool.same {H H1 : Hp} {p : Addr} {c : Nat} (a : Pool H p c) (s : Same H H1) : Pool H1 p c := by
  obtain ⟨g, m, k, h, r⟩ := a
  exact ⟨g, m, k, s _ _ h, r⟩
theorem sum_le {rs : List (List Nat)} {n : Nat} (h : ∀ r ∈ rs, r.length ≤ n) : (rs.map List.length).sum ≤ n * rs.length := by
  induction rs with
  | nil => simp
  | cons r rs ih =>
    have h1 := h r (List.mem_cons_self ..)
    have h2 := ih fun x hx => h x (List.mem_cons_of_mem _ hx)
    rw [List.map_cons, List.sum_cons, List.length_cons, Nat.mul_succ]
    omega
theorem flat_len (rs : List (List Nat)) : rs.flatten.length = (rs.map List.length).sum := by rw [List.length_flatten]
theorem lst_at {rs : List (List Nat)} {i : Nat} {y : V} (h : (lstS rs)[i]? = some y) : ∃ r, rs[i]? = some r ∧ y = V.str (S r) := by
  unfold lstS at h
  rw [List.getElem?_map] at h
  cases e : rs[i]? with
  | none => rw [e] at h; cases h
  | some r => rw [e] at h; exact ⟨r, rfl, (Option.some.inj h).symm⟩
/-- while the pieces are glued -/
def WholeW (p D : Addr) (H2 : Hp) (c i : Nat) (σ : St) (H' : Hp) : Prop := ∃ (m : List Nat) (v3 v4 v5 : Option V), σ = [some (.ref p), some (.ref D), some (.str (S m)), v3, v4, v5, none] ∧ m.length ≤ 14 * i ∧ Same H2 H' ∧ Pool H' p c
theorem scWhole : FnScope ["_law_pool_here", "_law_pieces", "_law_made", "_law_piece_here", "_law_is_good", "_law_needs_blank", "_law_k"] ["_law_pool_here"] (defScope sWhole) := ⟨rfl, rfl, rfl, by decide +kernel, rfl, by decide +kernel, by decide +kernel⟩
theorem ok_whole {f fP fR fT : Addr} {fd fdP fdR fdT : FuncData} (F : Fun K "_law_whole_text" "_law_whole_text" sWhole f fd) (T : Mod K mg aS)
    (kP : PySem.W.keepIn K (.ref fP) = true) (GP : FnOk P w K mg base CX0 1 fP fdP ["_law_pool_here", "_law_many"] spPick) (bP : Binds K fdP ["_law_pool_here", "_law_many"] []) (mP : mg "_law_pick" = some (.ref fP))
    (kR : PySem.W.keepIn K (.ref fR) = true) (GR : FnOk P w K mg base CX0 3 fR fdR ["_law_pool_here"] spPiece) (bR : Binds K fdR ["_law_pool_here"] []) (mR : mg "_law_piece" = some (.ref fR))
    (kT : PySem.W.keepIn K (.ref fT) = true) (GT : FnOk P w K mg base CX0 1 fT fdT ["_law_run_here"] spIsTok) (bT : Binds K fdT ["_law_run_here"] []) (mT : mg "_law_is_token" = some (.ref fT)) :
    FnOk P w K mg base CX0 4 f fd ["_law_pool_here"] spWhole := by
  refine F.ok scWhole (fun vs H Q E h => ?_) (fun cdv A outer s H vs Q E hr h => ?_)
  · obtain ⟨p, c, rfl, _⟩ := h
    rfl
  · obtain ⟨p, c, rfl, hp, hc, q⟩ := h
    have hr1 : Room 1 _ := hr.mono (by decide)
    refine ⟨_, C8.pss_cut (ps_setLc (i := 1) (own := [("_law_k", 6)]) (g := gName 6) (tt := tYes) (by rfl) scWhole.nd rfl rfl (sw_true rfl rfl rfl (by decide +kernel)) (pi_range1 (by rfl) T.range (pa_cons (pe_call GP hr1 rfl mP kP bP .nil pass0 (pa_cons (pv 0) (pa_cons pe_int pa_nil))) pa_nil))
        (blkOk_by (own := [("_law_k", 6)]) (N := ["_law_pool_here", "_law_pieces", "_law_made", "_law_piece_here", "_law_is_good", "_law_needs_blank", "_law_k"]) (sc := defScope sWhole) (by decide +kernel)) (fun _ _ _ _ _ => pg_name (i := 6) scWhole.nd rfl (Or.inl rfl))
        (fun _ _ _ _ _ => pts_nil) (fun _ _ _ _ _ => pe_call GR hr rfl mR kR bR .nil pass0 (pa_cons (pv 0) pa_nil)))
      (pss_cons (ps_if (pt_cmpR op_eq (pe_call GP hr1 rfl mP kP bP .nil pass0 (pa_cons (pv 0) (pa_cons pe_int pa_nil))) pe_int (nomark _)) (pss_one (ps_ret (pe_join pe_str (pv 1)))) pss_nil)
      (pss_cons (ps_set (i := 2) scWhole.nd rfl (.inl rfl) pe_str)
      (pss_cons (ps_for PassesOwn.never rfl (pi_list (pv 1)) (pg_name (i := 3) scWhole.nd rfl (.inl rfl))
        (C8.pss_cut (ps_set (i := 4) scWhole.nd rfl (.inl rfl) (pe_or (pe_cmpR op_eq (pe_m1 PySem.F.slot_str_strip PySem.F.type_str_strip mt_stripChars (pv 3) pe_str) pe_str (nomark _))
            (pe_or (pe_cmpR op_in_seq (pv 3) (pe_lst (pa_cons pe_str (pa_cons pe_str (pa_cons pe_str (pa_cons pe_str (pa_cons pe_str pa_nil)))))) (by rfl))
              (pe_one (pe_and (pe_call GT hr1 rfl mT kT bT .nil pass0 (pa_cons (pv 3) pa_nil)) (pe_and (pe_m0 PySem.F.slot_str_isalnum PySem.F.type_str_isalnum mt_isalnum (pv 3)) (pe_one (pe_cmpR op_notIn_sign (pe_ix ix_str (pv 3) pe_int (fun _ _ => rfl)) pe_str rfl))))))))
        (C8.pss_cut (ps_set (i := 5) scWhole.nd rfl (.inl rfl) (pe_and (pe_cmpR op_ne (pv 2) pe_str (nomark _)) (pe_and (pe_m0 PySem.F.slot_str_isalnum PySem.F.type_str_isalnum mt_isalnum (pe_ix ix_str (pv 2) (pe_un un_neg pe_int) (fun _ _ => rfl)))
            (pe_one (pe_m0 PySem.F.slot_str_isalnum PySem.F.type_str_isalnum mt_isalnum (pe_ix ix_str (pv 3) pe_int (fun _ _ => rfl)))))))
        (pss_one (ps_if (pt_val (pv 4)) (pss_one (ps_set (i := 2) scWhole.nd rfl (.inl rfl) (pe_op op_add_str (pe_op op_add_str (pv 2) (pe_ifExp (pt_val (pv 5)) pe_str pe_str)) (pv 3)))) pss_nil)))))
      (pss_one (ps_ret (pv 2)))))), ?_⟩
    refine ⟨fun σ H' => ∃ (D : Addr) (rs : List (List Nat)), σ = [some (.ref p), some (.ref D), none, none, none, none, none] ∧ rs.length ≤ 24 ∧ (∀ r ∈ rs, r ≠ [] ∧ r.length ≤ 13) ∧ H D = none ∧ D ≠ p ∧ H' D = some (.lst (lstS rs)) ∧ Keep p H H' ∧ Pool H' p (c + 1000), ?_, ?_⟩
    · refine ⟨_, rfl, p, c, 25, rfl, hp, by omega, by decide, by decide, fun r H1 r0 r1 hk hp' => ⟨r, rfl, by omega, by omega, fun D hD => ?_⟩⟩
      have hDp := pool_ne hp' hD
      refine lc_range (lo := 0) (n := r.toNat) (fun i H' => ∃ rs : List (List Nat), rs.length = i ∧ (∀ r ∈ rs, r ≠ [] ∧ r.length ≤ 13) ∧ H' D = some (.lst (lstS rs)) ∧ Keep p H1 H' ∧ Pool H' p (c + 1 + 41 * i))
        ⟨[], rfl, by simp, upd_same, (Keep.refl p H1).new hD, hp'.new hD⟩ ?_ ?_
      · rintro i H' hi ⟨rs, a1, a2, a3, a4, a5⟩
        refine ⟨rfl, ?_⟩
        refine ⟨_, rfl, p, c + 1 + 41 * i, rfl, a5, by omega, fun r' H'' rn rl hk' hp'' => ⟨_, hk' _ _ hDp a3, lst_short (n := i) (by omega) (by omega), rs ++ [r'], by simp [a1], ?_, ?_, ?_, ?_⟩⟩
        · intro x hx
          rcases List.mem_append.mp hx with hx | hx
          · exact a2 x hx
          · rw [List.mem_singleton.mp hx]; exact ⟨rn, rl⟩
        · rw [upd_same, lstS_add]
        · intro b o n e
          rw [upd_ne (ne_of_none e hD)]
          exact hk' b o n (a4 b o n e)
        · exact (hp''.mono (by omega)).other (Ne.symm hDp)
      · rintro H' ⟨rs, a1, a2, a3, a4, a5⟩
        exact ⟨D, rs, rfl, by omega, a2, hk.free hDp hD, hDp, a3, hk.trans a4, a5.mono (by omega)⟩
    rintro σ H1 ⟨D, rs, rfl, hrl, hrs, hD, hDp, h1, k1, p1⟩
    have hsum := sum_le (rs := rs) (n := 13) fun r hr => (hrs r hr).2
    refine ⟨_, rfl, p, _, 2, rfl, p1, by omega, by decide, by decide, fun r0 H2 _ _ k2 p2 => ⟨rfl, _, rfl, ite2 (fun _ => ?_) (fun _ => ?_)⟩⟩
    · refine ⟨⟨_, rfl⟩, _, rfl, _, D, rs.map S, rfl, rfl, .inl (SqL.of (by rw [k2 _ _ hDp h1, lstS_eq])), ?_, ?_⟩
      · rw [sum_S, List.length_map, str_none, S_len]
        simp
        omega
      · rw [str_none, glue]
        refine q _ H2 ?_ (k1.trans k2) (p2.mono (by omega))
        rw [flat_len]
        omega
    have h2 := k2 _ _ hDp h1
    refine ⟨_, rfl, D, rfl, ⟨_, SqL.of h2⟩, for_list (K := K) (a := D) (xs := lstS rs) (WholeW p D H2 (c + 1001)) ⟨[], none, none, none, ?_, by simp, Same.refl H2, p2.mono (by omega)⟩ (fun i σ H' _ ⟨_, _, _, _, _, _, s, _⟩ => SqL.of (s _ _ h2)) ?_ ?_⟩
    · rw [← str_none]
      rfl
    · rintro i y σ H3 hi ⟨m, v3, v4, v5, rfl, hm, s3, p3⟩
      obtain ⟨r, hr0, rfl⟩ := lst_at hi
      have hi24 : i < rs.length := (List.getElem?_eq_some_iff.mp hr0).1
      obtain ⟨rn, rl⟩ := hrs r (List.mem_of_getElem? hr0)
      have rlen : (S r).length ≤ sizeLine := by rw [S_len]; exact line_ge (by omega)
      have mlen : (S m).length ≤ sizeLine := by rw [S_len]; exact line_ge (by omega)
      have rat : atI (S r).cps.toList 0 = some ((S r).cps.toList.headD 0) := at_zero (by rw [S_len]; exact List.length_pos_iff.mpr rn)
      refine ⟨fun σ' H' => ∃ b : Bool, σ' = [some (.ref p), some (.ref D), some (.str (S m)), some (.str (S r)), some (.bl b), v5, none] ∧ Same H2 H', ?_, ?_⟩
      · refine ⟨_, rfl, ⟨_, rfl⟩, _, _, rfl, rfl, rlen, rfl, _, rfl, ite2 (fun _ => ⟨true, rfl, s3⟩) (fun _ => ?_)⟩
        refine ⟨_, rfl, by show 5 ≤ sizeLine; decide, fun l hl => ⟨l, _, rfl, .inl (SqL.of upd_same), rfl, rfl, _, rfl, ite2 (fun _ => ⟨true, rfl, Same.new s3 hl⟩) (fun _ => ?_)⟩⟩
        refine ⟨_, rfl, r, rfl, by omega, fun H4 s4 => ⟨_, rfl, ite2 (fun _ => ?_) (fun _ => ⟨false, rfl, (Same.new s3 hl).trans s4⟩)⟩⟩
        refine ⟨_, rfl, ⟨_, rfl⟩, _, rfl, rfl, trivial, _, rfl, ite2 (fun _ => ?_) (fun _ => ⟨false, rfl, (Same.new s3 hl).trans s4⟩)⟩
        exact ⟨_, rfl, S r, 0, _, rfl, rfl, rlen, rat, _, _, rfl, rfl, _, rfl, (Same.new s3 hl).trans s4⟩
      rintro σ' H4 ⟨b, rfl, s4⟩
      refine ⟨fun σ' H' => ∃ d : Bool, σ' = [some (.ref p), some (.ref D), some (.str (S m)), some (.str (S r)), some (.bl b), some (.bl d), none] ∧ H' = H4, ?_, ?_⟩
      · refine ⟨_, rfl, rfl, _, rfl, ?_⟩
        show if (!decide (V.str (S m) = V.str ("" : Str))) = true then _ else _
        rw [eq_noneB]
        cases hm0 : decide (m = []) with
        | true => exact iteF ⟨false, rfl, rfl⟩
        | false =>
          have mn : m ≠ [] := of_decide_eq_false hm0
          have mat : atI (S m).cps.toList (-1) = some (m.getLast mn) := by
            rw [S_cps]
            have e := atI_last (m.dropLast) (m.getLast mn)
            rw [List.dropLast_concat_getLast] at e
            exact e
          refine iteT ⟨_, rfl, _, rfl, S m, -1, _, rfl, rfl, mlen, mat, ⟨_, rfl⟩, _, rfl, rfl, trivial, _, rfl, ite2 (fun _ => ?_) (fun _ => ⟨false, rfl, rfl⟩)⟩
          exact ⟨_, rfl, S r, 0, _, rfl, rfl, rlen, rat, ⟨_, rfl⟩, _, rfl, rfl, trivial, _, rfl, rfl⟩
      rintro σ' H5 ⟨d, rfl, rfl⟩
      have pk := p2.mono (show c + 1000 + 1 ≤ c + 1001 by omega)
      refine ⟨_, rfl, _, rfl, ite2 (fun _ => ?_) (fun _ => ?_)⟩
      · have tail : ∀ g : List Nat, g.length ≤ 1 → WholeW p D H2 (c + 1001) (i + 1) [some (.ref p), some (.ref D), some (.str (S m ++ S g ++ S r)), some (.str (S r)), some (.bl b), some (.bl d), none] H5 := fun g hg =>
          ⟨m ++ g ++ r, _, _, _, by rw [S_app, S_app], by rw [List.length_append, List.length_append]; omega, s4, pk.same s4⟩
        have e1 : (" " : Str) = S [32] := str_blank
        refine ⟨_, rfl, _, rfl, _, rfl, ite2 (fun _ => ?_) (fun _ => ?_)⟩
        · refine ⟨_, _, rfl, rfl, ?_, _, rfl, _, _, rfl, rfl, ?_, ?_⟩
          · rw [e1, S_len, S_len]; exact line_ge (by simp; omega)
          · rw [e1, S_app, S_len, S_len]; exact line_ge (by simp; omega)
          · rw [e1]; exact tail [32] (by simp)
        · refine ⟨_, _, rfl, rfl, ?_, _, rfl, _, _, rfl, rfl, ?_, ?_⟩
          · rw [str_none, S_len, S_len]; exact line_ge (by simp; omega)
          · rw [str_none, S_app, S_len, S_len]; exact line_ge (by simp; omega)
          · rw [str_none]; exact tail [] (by simp)
      · exact ⟨m, _, _, _, rfl, by omega, s4, pk.same s4⟩
    · rintro σ H3 ⟨m, v3, v4, v5, rfl, hm, s3, p3⟩
      have : (lstS rs).length ≤ 24 := by unfold lstS; rw [List.length_map]; exact hrl
      exact ⟨_, rfl, q m H3 (by omega) ((k1.trans k2).trans (Same.keep s3)) (p3.mono (by omega))⟩
end
end K0

namespace K0
open PySem L2
abbrev sGlued : Stmt := top 27
/-- the tokens with drawn blanks between -/
def spGlued : Sp := fun vs H Q _ => ∃ (p a : Addr) (c : Nat) (ts : List (List Nat)), vs = [.ref p, .ref a] ∧ Pool H p c ∧ c ≤ 80000 ∧ H a = some (.lst (lstS ts)) ∧ a ≠ p ∧ ts.length ≤ 48 ∧ (∀ r ∈ ts, isTok r ∧ r.length ≤ 13) ∧
  ∀ (m : List Nat) (H' : Hp), due m = .fine ts → m.length ≤ 1000 → Keep p H H' → Pool H' p (c + 100) → Q (.str (S m)) H'
theorem gaps3 {r : Int} (h0 : 0 ≤ r) (h1 : r < 3) : ∃ g : List Nat, g ≠ [] ∧ g.length ≤ 2 ∧ g.all bk = true ∧ atI [V.str " ", V.str "\n", V.str "  "] r = some (V.str (S g)) := by
  have e1 : (" " : Str) = S [32] := by decide +kernel
  have e2 : ("  " : Str) = S [32, 32] := by decide +kernel
  have e3 : ("\n" : Str) = S [10] := by decide +kernel
  rw [e1, e2, e3]
  rcases (show r = 0 ∨ r = 1 ∨ r = 2 by omega) with h | h | h <;> subst h
  · exact ⟨[32], by simp, by decide, by decide, rfl⟩
  · exact ⟨[10], by simp, by decide, by decide, rfl⟩
  · exact ⟨[32, 32], by simp, by decide, by decide, rfl⟩
theorem gaps2 {r : Int} (h0 : 0 ≤ r) (h1 : r < 2) : ∃ g : List Nat, g ≠ [] ∧ g.length ≤ 2 ∧ g.all bk = true ∧ atI [V.str " ", V.str "\n"] r = some (V.str (S g)) := by
  have e1 : (" " : Str) = S [32] := by decide +kernel
  have e3 : ("\n" : Str) = S [10] := by decide +kernel
  rw [e1, e3]
  rcases (show r = 0 ∨ r = 1 by omega) with h | h <;> subst h
  · exact ⟨[32], by simp, by decide, by decide, rfl⟩
  · exact ⟨[10], by simp, by decide, by decide, rfl⟩
theorem gaps1 {r : Int} (h0 : 0 ≤ r) (h1 : r < 3) : ∃ g : List Nat, g.length ≤ 2 ∧ g.all bk = true ∧ atI [V.str "", V.str " ", V.str "\n"] r = some (V.str (S g)) := by
  have e1 : (" " : Str) = S [32] := by decide +kernel
  have e3 : ("\n" : Str) = S [10] := by decide +kernel
  rw [e1, e3, str_none]
  rcases (show r = 0 ∨ r = 1 ∨ r = 2 by omega) with h | h | h <;> subst h
  · exact ⟨[], by decide, by decide, rfl⟩
  · exact ⟨[32], by decide, by decide, rfl⟩
  · exact ⟨[10], by decide, by decide, rfl⟩
/-- a token may stand behind this -/
def Fits (m r : List Nat) : Prop := (∃ c, m.getLast? = some c ∧ an c = true) → ∀ c, r.head? = some c → an c = false
theorem fits_gap {m g : List Nat} (hg : g ≠ []) (hb : g.all bk = true) (r : List Nat) : Fits (m ++ g) r := fun ⟨c, e, a⟩ => by
  rw [List.getLast?_append, List.getLast?_eq_some_getLast hg] at e
  have e : some (g.getLast hg) = some c := e
  injection e with e
  have := bk_an (List.all_eq_true.mp hb _ (List.getLast_mem hg))
  rw [e, a] at this
  cases this
def GlueW (p a : Addr) (ts : List (List Nat)) (H : Hp) (c i : Nat) (σ : St) (H' : Hp) : Prop := ∃ (m : List Nat) (v4 : Option V), σ = [some (.ref p), some (.ref a), some (.str (S m)), some (.str "abcdefghijklmnopqrstuvwxyz0123456789"), v4] ∧ Good m (ts.take i) ∧ m.length ≤ 15 * i ∧ Keep p H H' ∧ Pool H' p (c + 2 * i)
section
variable {P : Program} {w : World} {K : PySem.W.Frag} {mg : Str → Option Value} {base : Heap} {aS : Addr}
theorem scGlued : FnScope ["_law_pool_here", "_law_file", "_law_made", "_law_plain", "_law_one"] ["_law_pool_here", "_law_file"] (defScope sGlued) := ⟨rfl, rfl, rfl, by decide +kernel, rfl, by decide +kernel, by decide +kernel⟩
theorem ok_glued {f fP : Addr} {fd fdP : FuncData} (F : Fun K "_law_glued" "_law_glued" sGlued f fd)
    (kP : PySem.W.keepIn K (.ref fP) = true) (GP : FnOk P w K mg base CX0 1 fP fdP ["_law_pool_here", "_law_many"] spPick) (bP : Binds K fdP ["_law_pool_here", "_law_many"] []) (mP : mg "_law_pick" = some (.ref fP)) :
    FnOk P w K mg base CX0 2 f fd ["_law_pool_here", "_law_file"] spGlued := by
  refine F.ok scGlued (fun vs H Q E h => ?_) (fun cdv A outer s H vs Q E hr h => ?_)
  · obtain ⟨p, a, c, ts, rfl, _⟩ := h
    rfl
  · obtain ⟨p, a, c, ts, rfl, hp, hc, ha, hap, htl, hts, q⟩ := h
    refine ⟨_, pss_cons (ps_set (i := 2) scGlued.nd rfl (.inl rfl) pe_str)
      (pss_cons (ps_set (i := 3) scGlued.nd rfl (.inl rfl) pe_str)
      (pss_cons (ps_for PassesOwn.never rfl (pi_list (pv 1)) (pg_name (i := 4) scGlued.nd rfl (.inl rfl))
        (C8.pss_cut (ps_if (PW.pt (pw_and (pt_cmpR op_ne (pv 2) pe_str (nomark _)) (pw_and (pt_cmpR op_in_sign (pe_ix ix_str (pv 2) (pe_un un_neg pe_int) (fun _ _ => rfl)) (pv 3) rfl) (pw_and1 (pt_cmpR op_in_sign (pe_ix ix_str (pv 4) pe_int (fun _ _ => rfl)) (pv 3) rfl)))))
            (pss_one (ps_set (i := 2) scGlued.nd rfl (.inl rfl) (pe_op op_add_str (pv 2) (pe_ix ix_list (pe_lst (pa_cons pe_str (pa_cons pe_str (pa_cons pe_str pa_nil)))) (pe_call GP hr rfl mP kP bP .nil pass0 (pa_cons (pv 0) (pa_cons pe_int pa_nil))) (fun _ _ => rfl)))))
            (pss_one (ps_if (pt_cmpR op_eq (pe_call GP hr rfl mP kP bP .nil pass0 (pa_cons (pv 0) (pa_cons pe_int pa_nil))) pe_int (nomark _))
              (pss_one (ps_set (i := 2) scGlued.nd rfl (.inl rfl) (pe_op op_add_str (pv 2) (pe_ix ix_list (pe_lst (pa_cons pe_str (pa_cons pe_str pa_nil))) (pe_call GP hr rfl mP kP bP .nil pass0 (pa_cons (pv 0) (pa_cons pe_int pa_nil))) (fun _ _ => rfl))))) pss_nil)))
        (pss_one (ps_set (i := 2) scGlued.nd rfl (.inl rfl) (pe_op op_add_str (pv 2) (pv 4))))))
      (pss_one (ps_ret (pe_op op_add_str (pv 2) (pe_ix ix_list (pe_lst (pa_cons pe_str (pa_cons pe_str (pa_cons pe_str pa_nil)))) (pe_call GP hr rfl mP kP bP .nil pass0 (pa_cons (pv 0) (pa_cons pe_int pa_nil))) (fun _ _ => rfl))))))), ?_⟩
    refine ⟨_, rfl, a, rfl, ⟨_, SqL.of ha⟩, for_list (K := K) (a := a) (xs := lstS ts) (GlueW p a ts H c) ⟨[], none, ?_, good_nil, by simp, Keep.refl p H, hp⟩ (fun i σ H' _ ⟨_, _, _, _, _, k, _⟩ => SqL.of (k _ _ hap ha)) ?_ ?_⟩
    · rw [← str_none]
      rfl
    · rintro i y σ H1 hi ⟨m, v4, rfl, hg, hm, k1, p1⟩
      obtain ⟨r, hr0, rfl⟩ := lst_at hi
      have hi48 : i < ts.length := (List.getElem?_eq_some_iff.mp hr0).1
      obtain ⟨htok, rl⟩ := hts r (List.mem_of_getElem? hr0)
      have rn := htok.ne
      have rlen : (S r).length ≤ sizeLine := by rw [S_len]; exact line_ge (by omega)
      have mlen : (S m).length ≤ sizeLine := by rw [S_len]; exact line_ge (by omega)
      have rat : atI (S r).cps.toList 0 = some ((S r).cps.toList.headD 0) := at_zero (by rw [S_len]; exact List.length_pos_iff.mpr rn)
      have plus : ∀ g : List Nat, g.length ≤ 2 → (S m).length + (S g).length ≤ sizeLine := fun g hg => by rw [S_len, S_len]; exact line_ge (by omega)
      refine ⟨fun σ' H' => ∃ g : List Nat, g.all bk = true ∧ g.length ≤ 2 ∧ Fits (m ++ g) r ∧ σ' = [some (.ref p), some (.ref a), some (.str (S (m ++ g))), some (.str "abcdefghijklmnopqrstuvwxyz0123456789"), some (.str (S r))] ∧ Keep p H H' ∧ Pool H' p (c + 2 * i + 2), ?_, ?_⟩
      · refine ⟨_, rfl, rfl, _, rfl, ?_⟩
        show if (!decide (V.str (S m) = V.str ("" : Str))) = true then _ else _
        rw [eq_noneB]
        by_cases hm0 : m = []
        · have fit : Fits m r := fun ⟨c, e, _⟩ => by rw [hm0] at e; cases e
          rw [decide_eq_true hm0]
          refine iteF ?_
          refine ⟨_, rfl, p, _, 2, rfl, p1, by omega, by decide, by decide, fun r0 H2 _ _ k2 p2 => ⟨rfl, _, rfl, ite2 (fun _ => ?_) (fun _ => ?_)⟩⟩
          · refine ⟨_, rfl, by show 2 ≤ sizeLine; decide, fun l hl => ⟨_, rfl, p, _, 2, rfl, p2.new hl, by omega, by decide, by decide, fun r1 H3 b0 b1 k3 p3 => ?_⟩⟩
            obtain ⟨g, gn, gl, gb, hgat⟩ := gaps2 b0 b1
            refine ⟨l, _, r1, _, rfl, rfl, SqL.of (k3 _ _ (pool_ne p2 hl) upd_same), hgat, _, _, rfl, rfl, plus g gl, g, gb, gl, fits_gap gn gb r, ?_, ((k1.trans k2).new hl).trans k3, p3.mono (by omega)⟩
            rw [S_app]
            rfl
          · exact ⟨[], rfl, by simp, by rw [List.append_nil]; exact fit, by rw [List.append_nil]; rfl, k1.trans k2, p2.mono (by omega)⟩
        · rw [decide_eq_false hm0]
          have mat : atI (S m).cps.toList (-1) = some (m.getLast hm0) := by
            rw [S_cps]
            have e := atI_last (m.dropLast) (m.getLast hm0)
            rw [List.dropLast_concat_getLast] at e
            exact e
          refine iteT ⟨_, rfl, _, rfl, S m, -1, _, rfl, rfl, mlen, mat, _, rfl, _, _, rfl, rfl, _, rfl, ?_⟩
          rw [mem_plain]
          cases ha1 : an (m.getLast hm0) with
          | false =>
            have fit : Fits m r := fun ⟨c, e, a⟩ => by
              rw [List.getLast?_eq_some_getLast hm0] at e
              injection e with e
              rw [← e, ha1] at a
              cases a
            refine iteF ?_
            refine ⟨_, rfl, p, _, 2, rfl, p1, by omega, by decide, by decide, fun r0 H2 _ _ k2 p2 => ⟨rfl, _, rfl, ite2 (fun _ => ?_) (fun _ => ?_)⟩⟩
            · refine ⟨_, rfl, by show 2 ≤ sizeLine; decide, fun l hl => ⟨_, rfl, p, _, 2, rfl, p2.new hl, by omega, by decide, by decide, fun r1 H3 b0 b1 k3 p3 => ?_⟩⟩
              obtain ⟨g, gn, gl, gb, hgat⟩ := gaps2 b0 b1
              refine ⟨l, _, r1, _, rfl, rfl, SqL.of (k3 _ _ (pool_ne p2 hl) upd_same), hgat, _, _, rfl, rfl, plus g gl, g, gb, gl, fits_gap gn gb r, ?_, ((k1.trans k2).new hl).trans k3, p3.mono (by omega)⟩
              rw [S_app]
              rfl
            · exact ⟨[], rfl, by simp, by rw [List.append_nil]; exact fit, by rw [List.append_nil]; rfl, k1.trans k2, p2.mono (by omega)⟩
          | true =>
            refine iteT ⟨_, rfl, S r, 0, _, rfl, rfl, rlen, rat, _, rfl, _, _, rfl, rfl, _, rfl, ?_⟩
            rw [mem_plain, S_cps]
            cases ha2 : an (r.headD 0) with
            | false =>
              have fit : Fits m r := fun _ c e => by
                cases r with
                | nil => exact absurd rfl rn
                | cons d r =>
                  have e : some d = some c := e
                  injection e with e
                  rw [← e]
                  exact ha2
              refine iteF ?_
              refine ⟨_, rfl, p, _, 2, rfl, p1, by omega, by decide, by decide, fun r0 H2 _ _ k2 p2 => ⟨rfl, _, rfl, ite2 (fun _ => ?_) (fun _ => ?_)⟩⟩
              · refine ⟨_, rfl, by show 2 ≤ sizeLine; decide, fun l hl => ⟨_, rfl, p, _, 2, rfl, p2.new hl, by omega, by decide, by decide, fun r1 H3 b0 b1 k3 p3 => ?_⟩⟩
                obtain ⟨g, gn, gl, gb, hgat⟩ := gaps2 b0 b1
                refine ⟨l, _, r1, _, rfl, rfl, SqL.of (k3 _ _ (pool_ne p2 hl) upd_same), hgat, _, _, rfl, rfl, plus g gl, g, gb, gl, fits_gap gn gb r, ?_, ((k1.trans k2).new hl).trans k3, p3.mono (by omega)⟩
                rw [S_app]
                rfl
              · exact ⟨[], rfl, by simp, by rw [List.append_nil]; exact fit, by rw [List.append_nil]; rfl, k1.trans k2, p2.mono (by omega)⟩
            | true =>
              refine iteT ⟨_, rfl, by show 3 ≤ sizeLine; decide, fun l hl => ⟨_, rfl, p, _, 3, rfl, p1.new hl, by omega, by decide, by decide, fun r1 H3 b0 b1 k3 p3 => ?_⟩⟩
              obtain ⟨g, gn, gl, gb, hgat⟩ := gaps3 b0 b1
              refine ⟨l, _, r1, _, rfl, rfl, SqL.of (k3 _ _ (pool_ne p1 hl) upd_same), hgat, _, _, rfl, rfl, plus g gl, g, gb, gl, fits_gap gn gb r, ?_, (k1.new hl).trans k3, p3.mono (by omega)⟩
              rw [S_app]
              rfl
      rintro σ' H2 ⟨g, gb, gl, fit, rfl, k2, p2⟩
      refine ⟨_, rfl, _, rfl, _, _, rfl, rfl, ?_, m ++ g ++ r, some (.str (S r)), ?_, ?_, ?_, k2, p2.mono (by omega)⟩
      · rw [S_len, S_len, List.length_append]; exact line_ge (by omega)
      · rw [S_app]; rfl
      · have e : ts.take (i + 1) = ts.take i ++ [r] := by rw [List.take_add_one, hr0]; rfl
        rw [e]
        exact good_tok (good_blanks hg gb) htok fit
      · rw [List.length_append, List.length_append]; omega
    · rintro σ H1 ⟨m, v4, rfl, hg, hm, k1, p1⟩
      have hlen : (lstS ts).length = ts.length := by unfold lstS; rw [List.length_map]
      rw [hlen] at hg hm p1
      rw [List.take_length] at hg
      refine ⟨_, rfl, by show 3 ≤ sizeLine; decide, fun l hl => ⟨_, rfl, p, _, 3, rfl, p1.new hl, by omega, by decide, by decide, fun r0 H2 a0 a1 k2 p2 => ?_⟩⟩
      obtain ⟨g, gl, gb, hgat⟩ := gaps1 a0 a1
      refine ⟨l, _, r0, _, rfl, rfl, SqL.of (k2 _ _ (pool_ne p1 hl) upd_same), hgat, _, _, rfl, rfl, ?_, ?_⟩
      · rw [S_len, S_len]; exact line_ge (by omega)
      · rw [S_app]
        exact q (m ++ g) H2 (good_due (good_blanks hg gb)) (by rw [List.length_append]; omega) ((k1.new hl).trans k2) (p2.mono (by omega))
end
end K0

namespace K0
open PySem L2
theorem an_small {c : Nat} (h : an c = true) : c < 128 := by
  unfold an lt dg at h
  simp only [Bool.or_eq_true, Bool.and_eq_true, decide_eq_true_eq] at h
  omega
theorem sg_small {c : Nat} (h : sg c = true) : c < 128 := by
  simp only [sg, Bool.or_eq_true, beq_iff_eq] at h
  omega
/-- the sizes of what a text is cut into -/
structure Sizes (f : List (List Nat)) (n : Nat) : Prop where
  sm : Small f
  sum : (f.map List.length).sum ≤ n
  len : f.length ≤ n
theorem Sizes.more {f : List (List Nat)} {n m : Nat} (S : Sizes f n) (h : n ≤ m) : Sizes f m := ⟨S.sm, Nat.le_trans S.sum h, Nat.le_trans S.len h⟩
theorem Sizes.put {f : List (List Nat)} {n : Nat} (S : Sizes f n) {r : List Nat} (hr : ∀ c ∈ r, c < 128) (hn : 1 ≤ r.length) : Sizes (f ++ [r]) (n + r.length) where
  sm := fun x hx => by
    rcases List.mem_append.mp hx with h | h
    · exact S.sm x h
    · rw [List.mem_singleton.mp h]; exact hr
  sum := by
    have := S.sum
    rw [List.map_append, List.sum_append]
    simp
    omega
  len := by
    have := S.len
    rw [List.length_append, List.length_singleton]
    omega
theorem Sizes.add {f : List (List Nat)} {n : Nat} (S : Sizes f n) {r : List Nat} (hr : ∀ c ∈ r, c < 128) : Sizes (add f r) (n + r.length) := by
  unfold K0.add
  by_cases h : r = []
  · rw [if_pos h]; exact S.more (Nat.le_add_right ..)
  · rw [if_neg h]; exact S.put hr (List.length_pos_iff.mpr h)
theorem cut_sizes : ∀ (l : List Nat) (f : List (List Nat)) (r : List Nat) (b p n : Nat) (ts : List (List Nat)), Sizes f n → (∀ c ∈ r, c < 128) → cut f r b p l = .fine ts → Sizes ts (n + r.length + l.length)
  | [], f, r, b, p, n, ts, S, hr, h => by
    unfold cut at h
    injection h with h
    subst h
    exact S.more (by omega)
  | c :: l, f, r, b, p, n, ts, S, hr, h => by
    rw [cut_cons] at h
    by_cases h1 : an c = true
    · rw [if_pos h1] at h
      refine (cut_sizes l f (r ++ [c]) _ _ n ts S (fun x hx => ?_) h).more (by simp; omega)
      rcases List.mem_append.mp hx with q | q
      · exact hr x q
      · rw [List.mem_singleton.mp q]; exact an_small h1
    · rw [if_neg h1] at h
      by_cases h2 : r ≠ [] ∧ tok r = false
      · rw [if_pos h2] at h; cases h
      · rw [if_neg h2] at h
        by_cases h3 : sg c = true
        · rw [if_pos h3] at h
          refine (cut_sizes l _ [] _ _ (n + r.length + 1) ts ((S.add hr).put (r := [c]) (fun x hx => ?_) (by simp)) (by simp) h).more (by simp; omega)
          rw [List.mem_singleton.mp hx]; exact sg_small h3
        · rw [if_neg h3] at h
          by_cases h4 : bk c = true
          · rw [if_pos h4] at h
            exact (cut_sizes l _ [] _ _ (n + r.length) ts (S.add hr) (by simp) h).more (by simp <;> omega)
          · rw [if_neg h4] at h; cases h
theorem cut_bad : ∀ (l : List Nat) (f : List (List Nat)) (r : List Nat) (b p k : Nat), b ≤ p → cut f r b p l = .bad k → k ≤ p + l.length
  | [], f, r, b, p, k, hb, h => by unfold cut at h; cases h
  | c :: l, f, r, b, p, k, hb, h => by
    rw [cut_cons] at h
    by_cases h1 : an c = true
    · rw [if_pos h1] at h
      have := cut_bad l f (r ++ [c]) _ (p + 1) k (by split <;> omega) h
      simp; omega
    · rw [if_neg h1] at h
      by_cases h2 : r ≠ [] ∧ tok r = false
      · rw [if_pos h2] at h
        injection h with h
        omega
      · rw [if_neg h2] at h
        by_cases h3 : sg c = true
        · rw [if_pos h3] at h
          have := cut_bad l _ [] b (p + 1) k (by omega) h
          simp; omega
        · rw [if_neg h3] at h
          by_cases h4 : bk c = true
          · rw [if_pos h4] at h
            have := cut_bad l _ [] b (p + 1) k (by omega) h
            simp; omega
          · rw [if_neg h4] at h
            injection h with h
            simp; omega
theorem due_sizes {t : List Nat} {ts : List (List Nat)} (h : due t = .fine ts) : Sizes ts (t.length + 1) :=
  (cut_sizes _ [] [] 0 0 0 ts ⟨fun _ h => (nomatch h), by simp, by simp⟩ (fun _ h => (nomatch h)) h).more (by simp)
theorem due_bad {t : List Nat} {k : Nat} (h : due t = .bad k) : k ≤ t.length + 1 := by
  have := cut_bad _ [] [] 0 0 k (Nat.le_refl 0) h
  simp at this
  exact this
theorem int_shown {k : Nat} (h : k < 1500) : (PyData.int k).shown.length ≤ 100 := by
  revert k
  decide +kernel
theorem dataL_room {ts : List (List Nat)} {n : Nat} (h : Sizes ts n) (hn : n ≤ 50000) : (dataL ts).shown.length ≤ sizeLine := by
  have a := shown_le h.sm
  have b := h.sum
  have c := h.len
  exact line_ge (by omega)
theorem txt_room {r : List Nat} {n : Nat} (h : ∀ c ∈ r, c < 128) (hl : r.length ≤ n) (hn : n ≤ 50000) : (PyData.str (S r)).shown.length ≤ sizeLine := by
  have a : (reprText (S r)).length ≤ 10 * (S r).length + 2 := StrLaws.reprText_len _ fun c hc => by
    rw [S_cps] at hc
    have := h c hc
    omega
  rw [S_len] at a
  exact line_ge (by show (reprText (S r)).length ≤ _; omega)
theorem spaced_len : ∀ ts : List (List Nat), (spaced ts).length ≤ (ts.map List.length).sum + ts.length := by
  intro ts
  cases ts with
  | nil => simp [spaced]
  | cons r ts =>
    unfold spaced
    simp [List.length_flatten, List.map_map, Function.comp_def]
    have : ∀ l : List (List Nat), (l.map fun x => x.length + 1).sum = (l.map List.length).sum + l.length := by
      intro l
      induction l with
      | nil => simp
      | cons a l ih => simp [ih]; omega
    rw [this]
    omega
theorem tok_small {r : List Nat} (h : isTok r) : ∀ c ∈ r, c < 128 := by
  rcases h with ⟨_, h, _⟩ | ⟨c, rfl, h⟩
  · exact fun c hc => an_small (List.all_eq_true.mp h c hc)
  · intro d hd
    rw [List.mem_singleton.mp hd]; exact sg_small h
theorem spaced_small {ts : List (List Nat)} (h : Small ts) : ∀ c ∈ spaced ts, c < 128 := by
  cases ts with
  | nil => simp [spaced]
  | cons r ts =>
    unfold spaced
    intro c hc
    rcases List.mem_append.mp hc with q | q
    · exact h r (List.mem_cons_self ..) c q
    · obtain ⟨x, hx, hcx⟩ := List.mem_flatten.mp q
      obtain ⟨y, hy, rfl⟩ := List.mem_map.mp hx
      rcases List.mem_cons.mp hcx with q | q
      · omega
      · exact h y (List.mem_cons_of_mem _ hy) c q
end K0

namespace L2
open PySem PySem.Spec PyProof.Rows PySem.W
/-- isinstance(e, C), where e is the error that the suite holds and C is its own class -/
def rSelf (cls : Value) (a : Addr) : List V → Hp → VK → Prop := fun xs H Q => ∃ C, cls = .ref C ∧ xs = [.ref a, .ref C] ∧ Q (.bl true) H
theorem nested_self {prog : Program} {w : World} {A : Around} {a C : Addr} {oe : Obj} {z : Value} {dep : Int} {tk : Tok} {s : Shared} {Q : Fin → Shared → Prop} {E : Value → Shared → Prop} (hget : s.heap.get? a = some oe) (hcls : oe.cls = .ref C) (hz : z = .int dep tk) (h : Q (.done (.ret (.bool true))) s) :
    wpAny (model prog w) A (Builtin.«isinstance.nested» ⟨[.ref a, .ref C, z], []⟩) Q E s := by
  subst hz
  have L0 : Looks (model prog w) s.heap (typeOf (.ref a)) (.ref C) := hcls ▸ (Looks.ld hget).andThen .now
  unfold Builtin.«isinstance.nested»
  refine wpAny_bind (L0.at ?_)
  have e : ((Value.ref C == Value.ref C) = true) := beq_iff_eq.mpr rfl
  rw [if_pos e]
  repeat (first | refine wpAny_pure ?_ | refine wpAny_rule ?_ | refine wpAny_bind ?_)
  exact h
theorem call_isSelf {X : Cx} {a : Addr} {cls : Value} {oe : Obj} {pn : List (Addr × Obj)} {d : Option Addr} (hz : Zc cls d oe) : CallR (X.suite a ((a, oe) :: pn)) (.builtin "isinstance") (rSelf cls a) := by
  intro pins s σ H xs us Q I r h
  obtain ⟨C, rfl, rfl, q⟩ := h
  cases r with
  | cons rx rr =>
    cases rr with
    | cons rt rr =>
      cases rr
      cases rx
      cases rt
      obtain ⟨hget, _⟩ := I.pin (a, oe) (List.mem_append.mpr (.inl List.mem_cons_self))
      refine call_isinstance_of (nested_self hget hz.1 rfl ?_) (fun z => nomatch z)
      exact ⟨.bl true, H, I, rfl, q⟩
end L2

namespace K0
open PySem L2
abbrev sLaw : Stmt := top 29
/-- the law: it says True -/
def spLaw (K : PySem.W.Frag) : Sp := fun vs H Q _ => ∃ (a : Addr) (ns : List Int), vs = [.ref a] ∧ SqL K H a (ns.map V.int) ∧ ns.length ≤ 63 ∧ ∀ H', Q (.bl true) H'
/-- the names of the law's defs -/
structure Callees (P : Program) (w : World) (K : PySem.W.Frag) (mg : Str → Option Value) (base : Heap) (C : Addr) : Prop where
  pool : ∃ f fd, PySem.W.keepIn K (.ref f) = true ∧ FnOk P w K mg base CX0 1 f fd ["_law_script", "_law_place"] (spPool K) ∧ Binds K fd ["_law_script", "_law_place"] [] ∧ mg "_law_pool" = some (.ref f)
  whole : ∃ f fd, PySem.W.keepIn K (.ref f) = true ∧ FnOk P w K mg base CX0 4 f fd ["_law_pool_here"] spWhole ∧ Binds K fd ["_law_pool_here"] [] ∧ mg "_law_whole_text" = some (.ref f)
  cut : ∃ f fd, PySem.W.keepIn K (.ref f) = true ∧ FnOk P w K mg base CX0 2 f fd ["_law_text"] spCut ∧ Binds K fd ["_law_text"] [] ∧ mg "_law_cut" = some (.ref f)
  told : ∃ f fd, PySem.W.keepIn K (.ref f) = true ∧ FnOk P w K mg base CX0 5 f fd ["_law_text"] spCut ∧ Binds K fd ["_law_text"] [] ∧ mg "_law_told" = some (.ref f)
  same : ∃ f fd, PySem.W.keepIn K (.ref f) = true ∧ FnG P w K mg base 1 f fd ["_law_told_here", "_law_due"] (spSame K) ∧ Binds K fd ["_law_told_here", "_law_due"] [] ∧ mg "_law_same" = some (.ref f)
  pick : ∃ f fd, PySem.W.keepIn K (.ref f) = true ∧ FnOk P w K mg base CX0 1 f fd ["_law_pool_here", "_law_many"] spPick ∧ Binds K fd ["_law_pool_here", "_law_many"] [] ∧ mg "_law_pick" = some (.ref f)
  run : ∃ f fd, PySem.W.keepIn K (.ref f) = true ∧ FnOk P w K mg base CX0 2 f fd ["_law_pool_here"] spDrawn ∧ Binds K fd ["_law_pool_here"] [] ∧ mg "_law_run" = some (.ref f)
  isTok : ∃ f fd, PySem.W.keepIn K (.ref f) = true ∧ FnOk P w K mg base CX0 1 f fd ["_law_run_here"] spIsTok ∧ Binds K fd ["_law_run_here"] [] ∧ mg "_law_is_token" = some (.ref f)
  glued : ∃ f fd, PySem.W.keepIn K (.ref f) = true ∧ FnOk P w K mg base CX0 2 f fd ["_law_pool_here", "_law_file"] spGlued ∧ Binds K fd ["_law_pool_here", "_law_file"] [] ∧ mg "_law_glued" = some (.ref f)
  textOf : ∃ f fd, PySem.W.keepIn K (.ref f) = true ∧ FnOk P w K mg base CX0 1 f fd ["file"] (spTextOf K) ∧ Binds K fd ["file"] [] ∧ mg "text_of" = some (.ref f)
  tokens : ∃ f fd, PySem.W.keepIn K (.ref f) = true ∧ FnOk P w K mg base (L2.CX P w) 4 f fd ["text"] (spTokens C) ∧ Binds K fd ["text"] [] ∧ mg "tokens" = some (.ref f)
/-- the law's cells -/
abbrev sL (a : Addr) (v1 v2 v3 v4 v5 v6 v7 v8 v9 : Option V) : St := [some (.ref a), v1, v2, v3, v4, v5, v6, v7, v8, v9, none, none]
theorem Same.free {H H1 : Hp} {T' : Addr} (s : Same H H1) (h : H1 T' = none) : H T' = none := by
  cases e : H T' with
  | none => rfl
  | some o =>
    rw [s _ _ e] at h
    cases h
theorem Keep.same {p : Addr} {H H1 H2 : Hp} (k : Keep p H1 H2) (s : Same H H1) (hp : H p = none) : Same H H2 := fun b o e => k b o (ne_of_none e hp) (s b o e)
/-- what the law's own cutting has said of the text -/
def DueV (r : List Nat) (v : V) (H' : Hp) : Prop := (∃ ts D, due r = .fine ts ∧ v = .ref D ∧ H' D = some (.lst (lstS ts))) ∨ (∃ k : Nat, due r = .bad k ∧ v = .int k)
theorem DueV.same {r : List Nat} {v : V} {H1 H2 : Hp} (d : DueV r v H1) (s : Same H1 H2) : DueV r v H2 := by
  rcases d with ⟨ts, D, e, rfl, h⟩ | h
  · exact .inl ⟨ts, D, e, rfl, s _ _ h⟩
  · exact .inr h
abbrev tChk (K : PySem.W.Frag) : TT := tNot (tB (tCall (spSame K) [] E0 (tCons (tCall spCut [] E0 (tCons (tVar 3) tNil)) (tCons (tVar 4) tNil))))
theorem chk {K : PySem.W.Frag} {σ : St} {H1 : Hp} {R : Bool → Hp → Prop} {r : List Nat} {v : V} (h3 : σ[3]? = some (some (.str (S r)))) (h4 : σ[4]? = some (some v)) (hr : r.length ≤ 1000) (d : DueV r v H1) (q : ∀ H2, Same H1 H2 → R false H2) : tChk K σ H1 R := by
  refine ⟨_, h3, S r, rfl, by rw [S_len]; omega, fun ts hts p1 H2 hp1 s2 h2 => ?_, fun k hk H2 s2 => ?_⟩
  · rw [S_cps] at hts
    rcases d with ⟨us, D, e, rfl, h⟩ | ⟨k, e, rfl⟩
    · rw [e] at hts
      injection hts with hts
      subst hts
      exact ⟨_, h4, _, _, dataL us, rfl, .lst (SqL.of h2) (dpL K H2 us), .lst (SqL.of (s2 _ _ h)) (dpL K H2 us), dataL_show us, dataL_dict us, by rw [dataL_depth]; decide, dataL_room (due_sizes e) (by omega), true, rfl, q H2 s2⟩
    · rw [e] at hts
      cases hts
  · rw [S_cps] at hk
    rcases d with ⟨us, D, e, rfl, h⟩ | ⟨k', e, rfl⟩
    · rw [e] at hk
      cases hk
    · rw [e] at hk
      injection hk with hk
      subst hk
      exact ⟨_, h4, _, _, .int k', rfl, .int _, .int _, by rw [PyData.showable]; exact decide_eq_true (log_small (by have := due_bad e; omega)), by rw [PyData.hasDict], by rw [PyData.depth]; decide, Nat.le_trans (int_shown (by have := due_bad e; omega)) (line_ge (by omega)), true, rfl, q H2 s2⟩
theorem chk_if {K : PySem.W.Frag} {u y : TS} {D : Ends} {σ : St} {H1 : Hp} {r : List Nat} {v : V} (h3 : σ[3]? = some (some (.str (S r)))) (h4 : σ[4]? = some (some v)) (hr : r.length ≤ 1000) (d : DueV r v H1) (q : ∀ H2, Same H1 H2 → y D σ H2) : tIfS (tOr (tChk K) (tChk K)) u y D σ H1 := by
  show tChk K σ H1 (fun c H2 => if c = true then (if true = true then u D σ H2 else y D σ H2) else tChk K σ H2 (fun b H3 => if b = true then u D σ H3 else y D σ H3))
  refine chk h3 h4 hr d fun H2 s2 => ?_
  refine iteF (chk h3 h4 hr (d.same s2) fun H3 s3 => ?_)
  exact iteF (q H3 (s2.trans s3))
abbrev tChk2 (K : PySem.W.Frag) : TT := tNot (tB (tCall (spSame K) [] E0 (tCons (tCall spCut [] E0 (tCons (tCall (spTextOf K) [] E0 (tCons (tVar 7) tNil)) tNil)) (tCons (tVar 8) tNil))))
/-- a list of tokens -/
structure Toks (ts : List (List Nat)) : Prop where
  few : ts.length ≤ 48
  ok : ∀ r ∈ ts, isTok r ∧ r.length ≤ 13
theorem Toks.sizes {ts : List (List Nat)} (T : Toks ts) : Sizes ts 1000 where
  sm := fun r hr => tok_small (T.ok r hr).1
  sum := by
    have := sum_le (rs := ts) (n := 13) fun r hr => (T.ok r hr).2
    have := T.few
    omega
  len := by
    have := T.few
    omega
theorem chk2 {K : PySem.W.Frag} {σ : St} {H1 : Hp} {R : Bool → Hp → Prop} {ts : List (List Nat)} {L M : Addr} (h7 : σ[7]? = some (some (.ref L))) (h8 : σ[8]? = some (some (.ref M))) (T : Toks ts) (hL : H1 L = some (.lst (lstS ts))) (hM : H1 M = some (.lst (lstS ts)))
    (q : ∀ H2, Same H1 H2 → R false H2) : tChk2 K σ H1 R := by
  have S1 := T.sizes
  have s1 := S1.sum
  have s2 := T.few
  have sl := spaced_len ts
  refine ⟨_, h7, L, ts, rfl, SqL.of hL, by omega, S (spaced ts), rfl, by rw [S_len]; omega, fun us hus p1 H2 hp1 s2 h2 => ?_, fun k hk H2 s2 => ?_⟩
  · rw [S_cps, due_spaced fun r hr => (T.ok r hr).1] at hus
    injection hus with hus
    subst hus
    exact ⟨_, h8, _, _, dataL ts, rfl, .lst (SqL.of h2) (dpL K H2 ts), .lst (SqL.of (s2 _ _ hM)) (dpL K H2 ts), dataL_show ts, dataL_dict ts, by rw [dataL_depth]; decide, dataL_room S1 (by omega), true, rfl, q H2 s2⟩
  · rw [S_cps, due_spaced fun r hr => (T.ok r hr).1] at hk
    cases hk
theorem chk2_or {K : PySem.W.Frag} {u y : TS} {D : Ends} {σ : St} {H1 : Hp} {ts : List (List Nat)} {L M : Addr} (h7 : σ[7]? = some (some (.ref L))) (h8 : σ[8]? = some (some (.ref M))) (T : Toks ts) (hL : H1 L = some (.lst (lstS ts))) (hM : H1 M = some (.lst (lstS ts)))
    (q : ∀ H2, Same H1 H2 → y D σ H2) : if false = true then (if true = true then u D σ H1 else y D σ H1) else tChk2 K σ H1 (fun b H3 => if b = true then u D σ H3 else y D σ H3) := by
  refine iteF (chk2 h7 h8 T hL hM fun H3 s3 => ?_)
  exact iteF (q H3 s3)
theorem chk2_if {K : PySem.W.Frag} {u y : TS} {D : Ends} {σ : St} {H1 : Hp} {ts : List (List Nat)} {L M : Addr} (h7 : σ[7]? = some (some (.ref L))) (h8 : σ[8]? = some (some (.ref M))) (T : Toks ts) (hL : H1 L = some (.lst (lstS ts))) (hM : H1 M = some (.lst (lstS ts)))
    (q : ∀ H2, Same H1 H2 → y D σ H2) : tIfS (tChk2 K) u y D σ H1 := by
  show tChk2 K σ H1 (fun b H3 => if b = true then u D σ H3 else y D σ H3)
  refine chk2 h7 h8 T hL hM fun H3 s3 => ?_
  exact iteF (q H3 s3)
section
variable {P : Program} {w : World} {K : PySem.W.Frag} {mg : Str → Option Value} {base : Heap} {aS : Addr}
abbrev nLaw : List Str := ["_law_script", "_law_place", "_law_pool_here", "_law_text", "_law_due", "_law_run_here", "_law_runs", "_law_file", "_law_kept", "_law_told_here", "e", "_law_k"]
theorem scLaw : FnScope nLaw ["_law_script"] (defScope sLaw) := ⟨rfl, rfl, rfl, by decide +kernel, rfl, by decide +kernel, by decide +kernel⟩
theorem ok_law {f C fI CS : Addr} {fd : FuncData} (F : Fun K "law" "law" sLaw f fd) (T : Mod K mg aS) (TE : K0E.ErrTxt P K mg C fI) (XF : XfC K C) (gS : mg "SettingsError" = some (.ref CS)) (tS : PySem.W.exmOne K (.ref C) (.ref CS) = some true)
    (Ca : Callees P w K mg base C) : FnG P w K mg base 6 f fd ["_law_script"] (spLaw K) := by
  obtain ⟨fPool, fdPool, kPool, GPool, bPool, mPool⟩ := Ca.pool
  obtain ⟨fW, fdW, kW, GW, bW, mW⟩ := Ca.whole
  obtain ⟨fC, fdC, kC, GC, bC, mC⟩ := Ca.cut
  obtain ⟨fT, fdT, kT, GT, bT, mT⟩ := Ca.told
  obtain ⟨fS, fdS, kS, GS, bS, mS⟩ := Ca.same
  obtain ⟨fP, fdP, kP, GP, bP, mP⟩ := Ca.pick
  obtain ⟨fR, fdR, kR, GR, bR, mR⟩ := Ca.run
  obtain ⟨fI', fdI', kI, GI, bI, mI⟩ := Ca.isTok
  obtain ⟨fG, fdG, kG, GG, bG, mG⟩ := Ca.glued
  obtain ⟨fX, fdX, kX, GX, bX, mX⟩ := Ca.textOf
  obtain ⟨fK, fdK, kK, GK, bK, mK⟩ := Ca.tokens
  refine F.okG scLaw (fun vs H Q E h => ?_) (fun cdv A outer s H vs Q hgu hr h => ?_)
  · obtain ⟨a, ns, rfl, _⟩ := h
    rfl
  · obtain ⟨a, ns, rfl, hS, hl, q⟩ := h
    have hr1 : Room 1 _ := hr.mono (by decide)
    have hr2 : Room 2 _ := hr.mono (by decide)
    have hr4 : Room 4 _ := hr.mono (by decide)
    refine ⟨_, pss_cons (ps_for PassesOwn.never rfl (pi_range1 (by rfl) T.range (pa_cons pe_int pa_nil)) (pg_name (i := 1) scLaw.nd rfl (.inl rfl))
        (C8.pss_cut (ps_set (i := 2) scLaw.nd rfl (.inr rfl) (pe_call GPool hr1 rfl mPool kPool bPool .nil pass0 (pa_cons (pv 0) (pa_cons (pv 1) pa_nil))))
        (C8.pss_cut (ps_set (i := 3) scLaw.nd rfl (.inl rfl) (pe_call GW hr4 rfl mW kW bW .nil pass0 (pa_cons (pv 2) pa_nil)))
        (C8.pss_cut (ps_set (i := 4) scLaw.nd rfl (.inl rfl) (pe_call GC hr2 rfl mC kC bC .nil pass0 (pa_cons (pv 3) pa_nil)))
        (C8.pss_cut (ps_if (PW.pt (pw_or (pt_not (pt_val (pe_callG GS hgu hr1 rfl mS kS bS (pa_cons (pe_call GT hr rfl mT kT bT .nil pass0 (pa_cons (pv 3) pa_nil)) (pa_cons (pv 4) pa_nil)))))
              (pw_or1 (pt_not (pt_val (pe_callG GS hgu hr1 rfl mS kS bS (pa_cons (pe_call GT hr rfl mT kT bT .nil pass0 (pa_cons (pv 3) pa_nil)) (pa_cons (pv 4) pa_nil))))))))
            (pss_one (ps_ret pe_bl)) pss_nil)
        (C8.pss_cut (ps_setLc (i := 6) (own := [("_law_run_here", 5)]) (g := gName 5) (by rfl) scLaw.nd rfl rfl (sw_true rfl rfl rfl (by decide +kernel))
            (pi_list (pe_lc (own := [("_law_k", 11)]) (g := gName 11) (tt := tYes) (by rfl) scLaw.nd (pi_range1 (by rfl) T.range (pa_cons (pe_call GP hr1 rfl mP kP bP .nil pass0 (pa_cons (pv 2) (pa_cons pe_int pa_nil))) pa_nil))
              (blkOk_by (own := [("_law_k", 11)]) (N := nLaw) (sc := defScope sLaw) (by decide +kernel)) (fun _ _ _ _ _ => pg_name (i := 11) scLaw.nd rfl (Or.inl rfl)) (fun _ _ _ _ _ => pts_nil) (fun _ _ _ _ _ => pe_call GR hr2 rfl mR kR bR .nil pass0 (pa_cons (pv 2) pa_nil))))
            (blkOk_by (own := [("_law_run_here", 5)]) (N := nLaw) (sc := defScope sLaw) (by decide +kernel)) (fun _ _ _ _ _ => pg_name (i := 5) scLaw.nd rfl (Or.inl rfl))
            (fun _ _ _ _ _ => pts_one (pt_val (pe_call GI hr1 rfl mI kI bI .nil pass0 (pa_cons (pv 5) pa_nil)))) (fun _ _ _ _ _ => pv 5))
        (C8.pss_cut (ps_set (i := 7) scLaw.nd rfl (.inl rfl) (pe_lst pa_nil))
        (C8.pss_cut (ps_for PassesOwn.never rfl (pi_list (pv 6)) (pg_name (i := 5) scLaw.nd rfl (.inl rfl))
            (pss_one (ps_set (i := 7) scLaw.nd rfl (.inl rfl) (pe_op op_cat (pe_op op_cat (pv 7) (pe_lst (pa_cons (pv 5) pa_nil)))
              (pe_ix ix_list (pe_lst (pa_cons (pe_lst pa_nil) (pa_cons (pe_lst (pa_cons pe_str pa_nil)) (pa_cons (pe_lst (pa_cons pe_str pa_nil)) (pa_cons (pe_lst (pa_cons pe_str pa_nil)) (pa_cons (pe_lst (pa_cons pe_str pa_nil)) (pa_cons (pe_lst (pa_cons pe_str pa_nil)) pa_nil)))))))
                (pe_call GP hr1 rfl mP kP bP .nil pass0 (pa_cons (pv 2) (pa_cons pe_int pa_nil))) (fun _ _ => rfl))))))
        (C8.pss_cut (ps_set (i := 8) scLaw.nd rfl (.inl rfl) (pe_callTy call_list_of (by rfl) T.list (by decide +kernel) (pa_cons (pv 7) pa_nil)))
        (C8.pss_cut (ps_if (PW.pt (pw_or (pt_not (pt_val (pe_callG GS hgu hr1 rfl mS kS bS (pa_cons (pe_call GX hr1 rfl mX kX bX .nil pass0 (pa_cons (pv 7) pa_nil)) (pa_cons (pe_join pe_str (pv 8)) pa_nil)))))
              (pw_or1 (pt_not (pt_val (pe_callG GS hgu hr1 rfl mS kS bS (pa_cons (pe_call GT hr rfl mT kT bT .nil pass0 (pa_cons (pe_call GX hr1 rfl mX kX bX .nil pass0 (pa_cons (pv 7) pa_nil)) pa_nil)) (pa_cons (pv 8) pa_nil))))))))
            (pss_one (ps_ret pe_bl)) pss_nil)
        (C8.pss_cut (ps_set (i := 9) scLaw.nd rfl (.inl rfl) (pe_call GT hr rfl mT kT bT .nil pass0 (pa_cons (pe_call GG hr2 rfl mG kG bG .nil pass0 (pa_cons (pv 2) (pa_cons (pv 8) pa_nil))) pa_nil)))
        (C8.pss_cut (ps_if (PW.pt (pw_or (pt_not (pt_val (pe_callG GS hgu hr1 rfl mS kS bS (pa_cons (pv 9) (pa_cons (pv 8) pa_nil)))))
              (pw_or (pt_cmpR (op_neD hr.units) (pv 7) (pv 8) (nomark _))
              (pw_or1 (pt_cmpR op_ne (pe_call GX hr1 rfl mX kX bX .nil pass0 (pa_cons (pe_lst pa_nil) pa_nil)) pe_str (nomark _))))))
            (pss_one (ps_ret pe_bl)) pss_nil)
        (C8.pss_cut (ps_expr (pe_bm PySem.F.plainAttrs_list PySem.F.slot_list_append PySem.F.type_list_append mt_append (pv 9) (pa_cons pe_str pa_nil)))
        (pss_one (ps_if (pt_not (pt_val (pe_callG GS hgu hr1 rfl mS kS bS (pa_cons (pe_call GT hr rfl mT kT bT .nil pass0 (pa_cons (pe_call GX hr1 rfl mX kX bX .nil pass0 (pa_cons (pv 7) pa_nil)) pa_nil)) (pa_cons (pv 8) pa_nil)))))
            (pss_one (ps_ret pe_bl)) pss_nil)))))))))))))))
      (pss_cons (ps_try_as (i := 10) rfl rfl scLaw.nd rfl rfl ⟨rfl, by decide, .inl gS⟩ takes0
        (fun W pn xe tk _ => pss_one (ps_expr (pe_callS GK hr4 rfl mK kK bK (fun σ => passAt tk σ) (pa_cons pe_str pa_nil))))
        (fun a oe cls d pn hz hf => pss_one (ps_ret (pe_and (pe_callB (call_isSelf hz) (by rfl) T.isi (by decide +kernel) (pa_cons (pv 10) (pa_cons (pe_glob (v := .ref C) (by rfl) TE.gC rfl) pa_nil))) (pe_one (pe_cmpR op_eq (pe_xf XF TE.noN hz hf (pv 10)) pe_int (nomark _)))))))
      (pss_one (ps_ret pe_bl))), ?_⟩
    refine ⟨4, rfl, by decide, by decide, for_range (lo := 0) (n := 4) (fun _ σ H' => (∃ v1 v2 v3 v4 v5 v6 v7 v8 v9, σ = sL a v1 v2 v3 v4 v5 v6 v7 v8 v9) ∧ Same H H') ⟨⟨none, none, none, none, none, none, none, none, none, rfl⟩, Same.refl H⟩ ?_ ?_⟩
    · rintro i σ H0 hi ⟨⟨v1, v2, v3, v4, v5, v6, v7, v8, v9, rfl⟩, s0⟩
      -- the pool
      refine ⟨fun σ H' => (∃ v1 p v3 v4 v5 v6 v7 v8 v9, σ = sL a v1 (some (.ref p)) v3 v4 v5 v6 v7 v8 v9 ∧ H p = none ∧ Pool H' p 0) ∧ Same H H', ?_, ?_⟩
      · refine ⟨_, rfl, _, rfl, a, ns, _, rfl, s0.seq hS, hl, by omega, by omega, fun p H' hp s1 hP => ⟨⟨_, p, _, _, _, _, _, _, _, rfl, s0.free hp, hP⟩, s0.trans s1⟩⟩
      rintro σ H1 ⟨⟨v1, p, v3, v4, v5, v6, v7, v8, v9, rfl, hp, p1⟩, s1⟩
      -- the text
      refine ⟨fun σ H' => (∃ r v4 v5 v6 v7 v8 v9, σ = sL a v1 (some (.ref p)) (some (.str (S r))) v4 v5 v6 v7 v8 v9 ∧ r.length ≤ 400 ∧ Pool H' p 1100) ∧ Same H H', ?_, ?_⟩
      · exact ⟨_, rfl, p, 0, rfl, p1, by omega, fun r H' rl k' p' => ⟨⟨r, _, _, _, _, _, _, rfl, rl, p'⟩, k'.same s1 hp⟩⟩
      rintro σ H2 ⟨⟨r, v4, v5, v6, v7, v8, v9, rfl, rl, p2⟩, s2⟩
      -- what is due
      refine ⟨fun σ H' => (∃ v v5 v6 v7 v8 v9, σ = sL a v1 (some (.ref p)) (some (.str (S r))) (some v) v5 v6 v7 v8 v9 ∧ DueV r v H' ∧ Pool H' p 1100) ∧ Same H H', ?_, ?_⟩
      · refine ⟨_, rfl, S r, rfl, by rw [S_len]; omega, fun ts hts D H' hD s' h' => ?_, fun k hk H' s' => ?_⟩
        · rw [S_cps] at hts
          exact ⟨⟨.ref D, _, _, _, _, _, rfl, .inl ⟨ts, D, hts, rfl, h'⟩, p2.same s'⟩, s2.trans s'⟩
        · rw [S_cps] at hk
          exact ⟨⟨.int k, _, _, _, _, _, rfl, .inr ⟨k, hk, rfl⟩, p2.same s'⟩, s2.trans s'⟩
      rintro σ H3 ⟨⟨v, v5, v6, v7, v8, v9, rfl, dv, p3⟩, s3⟩
      refine ⟨fun σ H' => σ = sL a v1 (some (.ref p)) (some (.str (S r))) (some v) v5 v6 v7 v8 v9 ∧ Pool H' p 1100 ∧ Same H H', ?_, ?_⟩
      · show tIfS (tOr (tChk K) (tChk K)) _ _ _ _ _
        exact chk_if (r := r) (v := v) rfl rfl (by omega) dv fun H5 s5 => ⟨rfl, p3.same s5, s3.trans s5⟩
      rintro σ H4 ⟨rfl, p4, s4⟩
      -- the runs
      refine ⟨fun σ H' => (∃ v7 v8 v9 D rs, σ = sL a v1 (some (.ref p)) (some (.str (S r))) (some v) v5 (some (.ref D)) v7 v8 v9 ∧ H' D = some (.lst (lstS rs)) ∧ D ≠ p ∧ rs.length ≤ 24 ∧ (∀ r ∈ rs, isTok r ∧ r.length ≤ 13) ∧ Pool H' p 2200) ∧ Same H H', ?_, ?_⟩
      · refine ⟨_, rfl, p, 1100, 25, rfl, p4, by omega, by decide, by decide, fun n H5 n0 n1 k5 p5 => ⟨n, rfl, by omega, by omega, fun D1 hD1 => ?_⟩⟩
        have hD1p := pool_ne p5 hD1
        refine lc_range (lo := 0) (n := n.toNat) (fun i H' => ∃ rs : List (List Nat), rs.length = i ∧ (∀ r ∈ rs, r ≠ [] ∧ r.all an = true ∧ r.length ≤ 13) ∧ H' D1 = some (.lst (lstS rs)) ∧ Keep p H5 H' ∧ Pool H' p (1101 + 40 * i))
          ⟨[], rfl, by simp, upd_same, (Keep.refl p H5).new hD1, p5.new hD1⟩ ?_ ?_
        · rintro i H' hi ⟨rs, a1, a2, a3, a4, a5⟩
          refine ⟨rfl, ?_⟩
          refine ⟨_, rfl, p, 1101 + 40 * i, rfl, a5, by omega, fun r' H'' rn ra rl' hk' hp'' => ⟨_, hk' _ _ hD1p a3, lst_short (n := i) (by omega) (by omega), rs ++ [r'], by simp [a1], ?_, ?_, ?_, ?_⟩⟩
          · intro x hx
            rcases List.mem_append.mp hx with hx | hx
            · exact a2 x hx
            · rw [List.mem_singleton.mp hx]; exact ⟨rn, ra, rl'⟩
          · rw [upd_same, lstS_add]
          · intro b o n' e
            rw [upd_ne (ne_of_none e hD1)]
            exact hk' b o n' (a4 b o n' e)
          · exact (hp''.mono (by omega)).other (Ne.symm hD1p)
        · rintro H6 ⟨rs, a1, a2, a3, a4, a5⟩
          have s6 : Same H H6 := (k5.trans a4).same s4 hp
          have hD1' : ∀ x ∈ rs, x.length ≤ 13 := fun x hx => (a2 x hx).2.2
          refine ⟨D1, rfl, ⟨_, SqL.of a3⟩, fun D hD => ?_⟩
          refine lc_list (K := K) (a := D1) (xs := lstS rs) (fun i H' => ∃ ts : List (List Nat), ts.length ≤ i ∧ (∀ r ∈ ts, isTok r ∧ r.length ≤ 13) ∧ H' D = some (.lst (lstS ts)) ∧ Same H6 H')
            ⟨[], by simp, by simp, upd_same, Same.new (Same.refl H6) hD⟩ (fun i H' _ ⟨_, _, _, _, s'⟩ => SqL.of (s' _ _ a3)) ?_ ?_
          · rintro i y H' hi ⟨ts, b1, b2, b3, b4⟩
            obtain ⟨x, hx, rfl⟩ := lst_at hi
            obtain ⟨xn, xa, xl⟩ := a2 x (List.mem_of_getElem? hx)
            have hi24 : i < rs.length := (List.getElem?_eq_some_iff.mp hx).1
            refine ⟨rfl, ?_⟩
            refine ⟨_, rfl, x, rfl, by omega, fun H7 s7 => ⟨_, rfl, ?_⟩⟩
            rw [lawTok_run xa]
            cases ht : tok x with
            | false => exact iteF ⟨ts, by omega, b2, s7 _ _ b3, b4.trans s7⟩
            | true =>
              refine iteT ⟨_, rfl, _, s7 _ _ b3, lst_short (n := i) b1 (by omega), ts ++ [x], by rw [List.length_append, List.length_singleton]; omega, ?_, by rw [upd_same, lstS_add], Same.put (b4.trans s7) hD⟩
              intro z hz
              rcases List.mem_append.mp hz with hz | hz
              · exact b2 z hz
              · rw [List.mem_singleton.mp hz]; exact ⟨.inl ⟨xn, xa, ht⟩, xl⟩
          · rintro H7 ⟨ts, b1, b2, b3, b4⟩
            have hlen : (lstS rs).length = rs.length := by unfold lstS; rw [List.length_map]
            exact ⟨⟨_, _, _, D, ts, rfl, b3, pool_ne a5 hD, by omega, b2, (a5.mono (by omega)).same b4⟩, s6.trans b4⟩
      rintro σ H5 ⟨⟨v7, v8, v9, D, rs, rfl, hD, hDp, hrl, hrs, p5⟩, s5⟩
      -- the file
      refine ⟨fun σ H' => (∃ L, σ = sL a v1 (some (.ref p)) (some (.str (S r))) (some v) v5 (some (.ref D)) (some (.ref L)) v8 v9 ∧ H' L = some (.lst (lstS [])) ∧ L ≠ p ∧ H' D = some (.lst (lstS rs)) ∧ Pool H' p 2200) ∧ Same H H', ?_, ?_⟩
      · exact ⟨Nat.zero_le _, fun L hL => ⟨⟨L, rfl, upd_same, pool_ne p5 hL, by rw [upd_ne (ne_of_none hD hL)]; exact hD, p5.new hL⟩, Same.new s5 hL⟩⟩
      rintro σ H6 ⟨⟨L, rfl, hL, hLp, hD6, p6⟩, s6⟩
      refine ⟨fun σ H' => (∃ v5 L ts, σ = sL a v1 (some (.ref p)) (some (.str (S r))) (some v) v5 (some (.ref D)) (some (.ref L)) v8 v9 ∧ Toks ts ∧ H' L = some (.lst (lstS ts)) ∧ L ≠ p ∧ Pool H' p 2300) ∧ Same H H', ?_, ?_⟩
      · refine ⟨_, rfl, D, rfl, ⟨_, SqL.of hD6⟩, for_list (K := K) (a := D) (xs := lstS rs) (fun i σ H' => (∃ v5 L ts, σ = sL a v1 (some (.ref p)) (some (.str (S r))) (some v) v5 (some (.ref D)) (some (.ref L)) v8 v9 ∧ ts.length ≤ 2 * i ∧ (∀ r ∈ ts, isTok r ∧ r.length ≤ 13) ∧
            H' L = some (.lst (lstS ts)) ∧ L ≠ p ∧ H' D = some (.lst (lstS rs)) ∧ Pool H' p (2200 + i)) ∧ Same H H') ⟨⟨_, L, [], rfl, by simp, by simp, hL, hLp, hD6, p6⟩, s6⟩ (fun i σ H' _ ⟨⟨_, _, _, _, _, _, _, _, h, _⟩, _⟩ => SqL.of h) ?_ ?_⟩
        · rintro i y σ H7 hi ⟨⟨v5, L, ts, rfl, b1, b2, b3, b4, b5, p7⟩, s7⟩
          obtain ⟨x, hx, rfl⟩ := lst_at hi
          obtain ⟨xt, xl⟩ := hrs x (List.mem_of_getElem? hx)
          have hi24 : i < rs.length := (List.getElem?_eq_some_iff.mp hx).1
          have one : 1 ≤ sizeLine := by decide
          have tlen : (lstS ts).length = ts.length := by unfold lstS; rw [List.length_map]
          refine ⟨_, rfl, _, rfl, one, fun l hl => ⟨L, l, lstS ts, _, rfl, rfl, ?_, upd_same, ?_, fun M hM => ?_⟩⟩
          · rw [upd_ne (ne_of_none b3 hl)]; exact b3
          · rw [tlen]; exact line_ge (by show ts.length + 1 ≤ _; omega)
          generalize e8 : upd (upd H7 l (.lst [V.str (S x)])) M (.lst (lstS ts ++ [V.str (S x)])) = H8
          have s8 : Same H7 H8 := e8 ▸ Same.new (Same.new (Same.refl H7) hl) hM
          have hM8 : H8 M = some (.lst (lstS (ts ++ [x]))) := by rw [← e8, upd_same, lstS_add]
          have hMp : M ≠ p := pool_ne (p7.new hl) hM
          have p8 := p7.same s8
          refine ⟨Nat.zero_le _, fun l0 n0 => ⟨one, fun l1 n1 => ⟨one, fun l2 n2 => ⟨one, fun l3 n3 => ⟨one, fun l4 n4 => ⟨one, fun l5 n5 => ⟨by show 6 ≤ sizeLine; decide, fun lo no => ?_⟩⟩⟩⟩⟩⟩⟩
          have g0 := p8.new (o := .lst []) n0
          have g1 := g0.new (o := .lst [V.str "="]) n1
          have g2 := g1.new (o := .lst [V.str ";"]) n2
          have g3 := g2.new (o := .lst [V.str "["]) n3
          have g4 := g3.new (o := .lst [V.str "]"]) n4
          have g5 := g4.new (o := .lst [V.str ","]) n5
          have go := g5.new (o := .lst [V.ref l0, V.ref l1, V.ref l2, V.ref l3, V.ref l4, V.ref l5]) no
          have t5 := Same.new (o := .lst [V.ref l0, V.ref l1, V.ref l2, V.ref l3, V.ref l4, V.ref l5]) (Same.refl _) no
          have t4 := (Same.new (o := .lst [V.str ","]) (Same.refl _) n5).trans t5
          have t3 := (Same.new (o := .lst [V.str "]"]) (Same.refl _) n4).trans t4
          have t2 := (Same.new (o := .lst [V.str "["]) (Same.refl _) n3).trans t3
          have t1 := (Same.new (o := .lst [V.str ";"]) (Same.refl _) n2).trans t2
          have t0 := (Same.new (o := .lst [V.str "="]) (Same.refl _) n1).trans t1
          have t := (Same.new (o := .lst []) (Same.refl H8) n0).trans t0
          refine ⟨_, rfl, p, 2200 + i, 6, rfl, go, by omega, by decide, by decide, fun k H9 k0 k1 kk p9 => ?_⟩
          have item : ∃ (lk : Addr) (zs : List (List Nat)), atI [V.ref l0, V.ref l1, V.ref l2, V.ref l3, V.ref l4, V.ref l5] k = some (.ref lk) ∧ H9 lk = some (.lst (lstS zs)) ∧ zs.length ≤ 1 ∧ ∀ z ∈ zs, isTok z ∧ z.length ≤ 13 := by
            have sgn : ∀ c : Nat, sg c = true → ∀ z ∈ ([[c]] : List (List Nat)), isTok z ∧ z.length ≤ 13 := fun c h z hz => by
              rw [List.mem_singleton.mp hz]; exact ⟨.inr ⟨c, rfl, h⟩, by simp⟩
            have q1 : ([V.str "="] : List V) = lstS [[61]] := by decide +kernel
            have q2 : ([V.str ";"] : List V) = lstS [[59]] := by decide +kernel
            have q3 : ([V.str "["] : List V) = lstS [[91]] := by decide +kernel
            have q4 : ([V.str "]"] : List V) = lstS [[93]] := by decide +kernel
            have q5 : ([V.str ","] : List V) = lstS [[44]] := by decide +kernel
            rcases (show k = 0 ∨ k = 1 ∨ k = 2 ∨ k = 3 ∨ k = 4 ∨ k = 5 by omega) with h | h | h | h | h | h <;> subst h
            · exact ⟨l0, [], rfl, kk _ _ (pool_ne p8 n0) (t0 _ _ upd_same), by simp, by simp⟩
            · exact ⟨l1, [[61]], rfl, q1 ▸ kk _ _ (pool_ne g0 n1) (t1 _ _ upd_same), by simp, sgn _ rfl⟩
            · exact ⟨l2, [[59]], rfl, q2 ▸ kk _ _ (pool_ne g1 n2) (t2 _ _ upd_same), by simp, sgn _ rfl⟩
            · exact ⟨l3, [[91]], rfl, q3 ▸ kk _ _ (pool_ne g2 n3) (t3 _ _ upd_same), by simp, sgn _ rfl⟩
            · exact ⟨l4, [[93]], rfl, q4 ▸ kk _ _ (pool_ne g3 n4) (t4 _ _ upd_same), by simp, sgn _ rfl⟩
            · exact ⟨l5, [[44]], rfl, q5 ▸ kk _ _ (pool_ne g4 n5) (t5 _ _ upd_same), by simp, sgn _ rfl⟩
          obtain ⟨lk, zs, hat, hlk, hzl, hzs⟩ := item
          refine ⟨lo, _, k, _, rfl, rfl, SqL.of (kk _ _ (pool_ne g5 no) upd_same), hat, M, lk, lstS (ts ++ [x]), lstS zs, rfl, rfl, kk _ _ hMp (t _ _ hM8), hlk, ?_, fun N hN => ?_⟩
          · unfold lstS
            rw [List.length_map, List.length_map, List.length_append, List.length_singleton]
            exact line_ge (by omega)
          · have s9 : Same H H9 := kk.same (s7.trans (s8.trans t)) hp
            refine ⟨⟨_, N, ts ++ [x] ++ zs, rfl, ?_, ?_, ?_, pool_ne p9 hN, ?_, (p9.mono (by omega)).new hN⟩, Same.new s9 hN⟩
            · rw [List.length_append, List.length_append, List.length_singleton]; omega
            · intro z hz
              rcases List.mem_append.mp hz with hz | hz
              · rcases List.mem_append.mp hz with hz | hz
                · exact b2 z hz
                · rw [List.mem_singleton.mp hz]; exact ⟨xt, xl⟩
              · exact hzs z hz
            · rw [upd_same]
              unfold lstS
              rw [List.map_append (l₂ := zs)]
            · have : H9 D = some (.lst (lstS rs)) := kk _ _ hDp (t _ _ (s8 _ _ b5))
              rw [upd_ne (ne_of_none this hN)]
              exact this
        · rintro σ H7 ⟨⟨v5, L, ts, rfl, b1, b2, b3, b4, b5, p7⟩, s7⟩
          have hlen : (lstS rs).length = rs.length := by unfold lstS; rw [List.length_map]
          exact ⟨⟨v5, L, ts, rfl, ⟨by omega, b2⟩, b3, b4, p7.mono (by omega)⟩, s7⟩
      clear hL hLp hD6 p6 s6
      rintro σ H7 ⟨⟨v5, L, ts, rfl, Tk, hL, hLp, p7⟩, s7⟩
      have S1 := Tk.sizes
      have z1 := S1.sum
      have z2 := Tk.few
      have sl := spaced_len ts
      -- what is kept
      refine ⟨fun σ H' => (∃ M, σ = sL a v1 (some (.ref p)) (some (.str (S r))) (some v) v5 (some (.ref D)) (some (.ref L)) (some (.ref M)) v9 ∧ H' L = some (.lst (lstS ts)) ∧ H' M = some (.lst (lstS ts)) ∧ M ≠ p ∧ Pool H' p 2300) ∧ Same H H', ?_, ?_⟩
      · exact ⟨_, rfl, L, lstS ts, rfl, .inl (SqL.of hL), fun M hM => ⟨⟨M, rfl, by rw [upd_ne (ne_of_none hL hM)]; exact hL, upd_same, pool_ne p7 hM, p7.new hM⟩, Same.new s7 hM⟩⟩
      rintro σ H8 ⟨⟨M, rfl, hL8, hM8, hMp, p8⟩, s8⟩
      refine ⟨fun σ H' => σ = sL a v1 (some (.ref p)) (some (.str (S r))) (some v) v5 (some (.ref D)) (some (.ref L)) (some (.ref M)) v9 ∧ Same H8 H', ?_, ?_⟩
      · refine ⟨_, rfl, L, ts, rfl, SqL.of hL8, by omega, ⟨_, rfl⟩, _, rfl, _, M, ts.map S, rfl, rfl, .inl (by rw [← lstS_eq]; exact SqL.of hM8), ?_, ?_⟩
        · rw [sum_S, List.length_map, str_blank, S_len]
          simp
          omega
        · rw [str_blank, spaced_join]
          refine ⟨_, _, .str (S (spaced ts)), rfl, .str _, .str _, by rw [PyData.showable], by rw [PyData.hasDict], by rw [PyData.depth]; decide, txt_room (n := 2000) (spaced_small S1.sm) (by omega) (by omega), true, rfl, ?_⟩
          exact chk2_or (u := tRet (tC (.bl false))) (y := tNext) rfl rfl Tk hL8 hM8 fun H9 s9 => ⟨rfl, s9⟩
      rintro σ H9 ⟨rfl, s9⟩
      -- what is told of the glued text
      refine ⟨fun σ H' => (∃ T', σ = sL a v1 (some (.ref p)) (some (.str (S r))) (some v) v5 (some (.ref D)) (some (.ref L)) (some (.ref M)) (some (.ref T')) ∧ H T' = none ∧ H' T' = some (.lst (lstS ts)) ∧ H' L = some (.lst (lstS ts)) ∧ H' M = some (.lst (lstS ts)) ∧ L ≠ T' ∧ M ≠ T') ∧ Same H H', ?_, ?_⟩
      · refine ⟨_, rfl, _, rfl, p, M, 2300, ts, rfl, p8.same s9, by omega, s9 _ _ hM8, hMp, Tk.few, Tk.ok, fun m H10 hm ml k10 p10 => ?_⟩
        have hL10 := k10 _ _ hLp (s9 _ _ hL8)
        have hM10 := k10 _ _ hMp (s9 _ _ hM8)
        have s10 : Same H H10 := k10.same (s8.trans s9) hp
        refine ⟨S m, rfl, by rw [S_len]; omega, fun us hus T' H11 hT s11 h11 => ?_, fun k hk => ?_⟩
        · rw [S_cps, hm] at hus
          injection hus with hus
          subst hus
          exact ⟨⟨T', rfl, s10.free hT, h11, s11 _ _ hL10, s11 _ _ hM10, ne_of_none hL10 hT, ne_of_none hM10 hT⟩, s10.trans s11⟩
        · rw [S_cps, hm] at hk
          cases hk
      rintro σ H10 ⟨⟨T', rfl, hT0, hT, hL10, hM10, hLT, hMT⟩, s10⟩
      refine ⟨fun σ H' => σ = sL a v1 (some (.ref p)) (some (.str (S r))) (some v) v5 (some (.ref D)) (some (.ref L)) (some (.ref M)) (some (.ref T')) ∧ Same H10 H', ?_, ?_⟩
      · refine ⟨_, rfl, _, rfl, _, _, dataL ts, rfl, .lst (SqL.of hT) (dpL K H10 ts), .lst (SqL.of hM10) (dpL K H10 ts), dataL_show ts, dataL_dict ts, by rw [dataL_depth]; decide, dataL_room S1 (by omega), true, rfl, iteF ?_⟩
        refine ⟨_, rfl, _, rfl, dataL ts, dataL ts, .lst (SqL.of hL10) (dpL K H10 ts), .lst (SqL.of hM10) (dpL K H10 ts), dataL_shaped S1.sm, dataL_shaped S1.sm, _, rfl, ?_⟩
        rw [eqv_S, decide_eq_true rfl]
        refine iteF ⟨Nat.zero_le _, fun l hl => ⟨l, [], rfl, SqL.of upd_same, by simp, rfl, _, rfl, ?_⟩⟩
        show if (!decide (V.str (S (spaced [])) = V.str ("" : Str))) = true then _ else _
        rw [eq_noneB]
        exact iteF ⟨rfl, Same.new (Same.refl H10) hl⟩
      rintro σ H11 ⟨rfl, s11⟩
      have hT11 := s11 _ _ hT
      -- told_here.append('x')
      refine ⟨fun σ H' => σ = sL a v1 (some (.ref p)) (some (.str (S r))) (some v) v5 (some (.ref D)) (some (.ref L)) (some (.ref M)) (some (.ref T')) ∧ H' L = some (.lst (lstS ts)) ∧ H' M = some (.lst (lstS ts)) ∧ Same H H', ?_, ?_⟩
      · exact ⟨_, rfl, .inl ⟨rfl, _, SqL.of hT11⟩, T', _, _, rfl, rfl, hT11, lst_short (n := 48) z2 (by omega), rfl, by rw [upd_ne hLT]; exact s11 _ _ hL10, by rw [upd_ne hMT]; exact s11 _ _ hM10, Same.put (s10.trans s11) hT0⟩
      rintro σ H12 ⟨rfl, hL12, hM12, s12⟩
      show tIfS (tChk2 K) _ _ _ _ _
      exact chk2_if rfl rfl Tk hL12 hM12 fun H13 s13 => ⟨⟨_, _, _, _, _, _, _, _, _, rfl⟩, s12.trans s13⟩
    · rintro σ H1 ⟨⟨v1, v2, v3, v4, v5, v6, v7, v8, v9, rfl⟩, s1⟩
      have hb : due (("a = 01" : Str).cps.toList) = .bad 4 := by decide +kernel
      refine ⟨"a = 01", rfl, by decide, fun ts hts => ?_, fun k hk d H' hd s2 hx => ?_⟩
      · rw [hb] at hts
        cases hts
      · rw [hb] at hk
        injection hk with hk
        subst hk
        exact ⟨true, tS, fun _ a' ha => ⟨_, rfl, C, rfl, rfl, true, rfl, iteT ⟨_, rfl, rfl, rfl, d, _, _, rfl, hx, rfl, rfl, q _⟩⟩, fun q => nomatch q⟩
end
end K0

namespace K0
open PySem L2
/-- a def that the written part holds under its own name -/
def Held (K : PySem.W.Frag) (mg : Str → Option Value) (x : Str) (st : Stmt) (f : Addr) (fd : FuncData) : Prop := Fun K x x st f fd ∧ mg x = some (.ref f)
/-- the written part's words for the rest: classes and constants -/
structure Rest (P : Program) (K : PySem.W.Frag) (mg : Str → Option Value) (C CS fI aS : Addr) : Prop where
  T : Mod K mg aS
  TE : K0E.ErrTxt P K mg C fI
  XF : XfC K C
  gS : mg "SettingsError" = some (.ref CS)
  tS : PySem.W.exmOne K (.ref C) (.ref CS) = some true
theorem all_of {P : Program} {w : World} {K : PySem.W.Frag} {mg : Str → Option Value} {base : Heap} {C CS fI aS : Addr} {fOneOf fCons fWord fNum fSign fSort fEnd fTok fOf fPool fPick fRun fPiece fWhole fIs fCut fTold fGlued fSame fLaw : Addr} {dOneOf dCons dWord dNum dSign dSort dEnd dTok dOf dPool dPick dRun dPiece dWhole dIs dCut dTold dGlued dSame dLaw : FuncData} (R : Rest P K mg C CS fI aS)
    (hOneOf : Held K mg "is_one_of" sOneOf fOneOf dOneOf) (hCons : Held K mg "consists_of" sConsists fCons dCons) (hWord : Held K mg "is_word" sIsWord fWord dWord) (hNum : Held K mg "is_numeral" sIsNumeral fNum dNum) (hSign : Held K mg "is_sign" sIsSign fSign dSign) (hSort : Held K mg "sort_of" sSortOf fSort dSort) (hEnd : Held K mg "run_end" sRunEnd fEnd dEnd) (hTok : Held K mg "tokens" sTokens fTok dTok) (hOf : Held K mg "text_of" sTextOf fOf dOf) (hPool : Held K mg "_law_pool" sPool fPool dPool) (hPick : Held K mg "_law_pick" sPick fPick dPick) (hRun : Held K mg "_law_run" sRun fRun dRun) (hPiece : Held K mg "_law_piece" sPiece fPiece dPiece) (hWhole : Held K mg "_law_whole_text" sWhole fWhole dWhole) (hIs : Held K mg "_law_is_token" sIsTok fIs dIs) (hCut : Held K mg "_law_cut" sCut fCut dCut) (hTold : Held K mg "_law_told" sTold fTold dTold) (hGlued : Held K mg "_law_glued" sGlued fGlued dGlued) (hSame : Held K mg "_law_same" sSame fSame dSame) (hLaw : Fun K "law" "law" sLaw fLaw dLaw)
    (bOneOf : Binds K dOneOf ["thing", "words"] []) (bCons : Binds K dCons ["thing", "characters"] []) (bWord : Binds K dWord ["thing"] []) (bNum : Binds K dNum ["thing"] []) (bSign : Binds K dSign ["thing"] []) (bSort : Binds K dSort ["thing"] []) (bEnd : Binds K dEnd ["text", "at"] []) (bTok : Binds K dTok ["text"] []) (bOf : Binds K dOf ["file"] []) (bPool : Binds K dPool ["_law_script", "_law_place"] []) (bPick : Binds K dPick ["_law_pool_here", "_law_many"] []) (bRun : Binds K dRun ["_law_pool_here"] []) (bPiece : Binds K dPiece ["_law_pool_here"] []) (bWhole : Binds K dWhole ["_law_pool_here"] []) (bIs : Binds K dIs ["_law_run_here"] []) (bCut : Binds K dCut ["_law_text"] []) (bTold : Binds K dTold ["_law_text"] []) (bGlued : Binds K dGlued ["_law_pool_here", "_law_file"] []) (bSame : Binds K dSame ["_law_told_here", "_law_due"] []) : FnG P w K mg base 6 fLaw dLaw ["_law_script"] (spLaw K) := by
  have T := R.T
  have GWord : FnOk P w K mg base CX0 2 fWord dWord ["thing"] spWord := ok_word hWord.1 T hCons.1 bCons hCons.2
  have GNum : FnOk P w K mg base CX0 2 fNum dNum ["thing"] spNum := ok_num hNum.1 T hCons.1 bCons hCons.2
  have GSign : FnOk P w K mg base CX0 2 fSign dSign ["thing"] spSign := ok_sign hSign.1 T hOneOf.1 bOneOf hOneOf.2
  have GSort : FnOk P w K mg base CX0 3 fSort dSort ["thing"] spSort := ok_sort hSort.1 hSign.1.kp GSign bSign hSign.2 hWord.1.kp GWord bWord hWord.2 hNum.1.kp GNum bNum hNum.2
  have GEnd : FnOk P w K mg base CX0 1 fEnd dEnd ["text", "at"] spRun := ok_runEnd hEnd.1 T
  have GTok : FnOk P w K mg base (L2.CX P w) 4 fTok dTok ["text"] (spTokens C) := ok_tokens hTok.1 T R.TE hEnd.1.kp GEnd bEnd hEnd.2 hSort.1.kp GSort bSort hSort.2
  have GOf : FnOk P w K mg base CX0 1 fOf dOf ["file"] (spTextOf K) := ok_textOf hOf.1
  have GPool : FnOk P w K mg base CX0 1 fPool dPool ["_law_script", "_law_place"] (spPool K) := ok_pool hPool.1 T.toBare
  have GPick : FnOk P w K mg base CX0 1 fPick dPick ["_law_pool_here", "_law_many"] spPick := ok_pick hPick.1 T.toBare
  have GRun : FnOk P w K mg base CX0 2 fRun dRun ["_law_pool_here"] spDrawn := ok_run hRun.1 T hPick.1.kp GPick bPick hPick.2
  have GIs : FnOk P w K mg base CX0 1 fIs dIs ["_law_run_here"] spIsTok := ok_isTok hIs.1 T
  have GPiece : FnOk P w K mg base CX0 3 fPiece dPiece ["_law_pool_here"] spPiece := ok_piece hPiece.1 T hPick.1.kp GPick bPick hPick.2 hRun.1.kp GRun bRun hRun.2
  have GWhole : FnOk P w K mg base CX0 4 fWhole dWhole ["_law_pool_here"] spWhole := ok_whole hWhole.1 T hPick.1.kp GPick bPick hPick.2 hPiece.1.kp GPiece bPiece hPiece.2 hIs.1.kp GIs bIs hIs.2
  have GCut : FnOk P w K mg base CX0 2 fCut dCut ["_law_text"] spCut := ok_cut hCut.1 T hIs.1.kp GIs bIs hIs.2
  have GTold : FnOk P w K mg base CX0 5 fTold dTold ["_law_text"] spCut := ok_told hTold.1 R.TE R.XF hTok.1.kp GTok bTok hTok.2
  have GGlued : FnOk P w K mg base CX0 2 fGlued dGlued ["_law_pool_here", "_law_file"] spGlued := ok_glued hGlued.1 hPick.1.kp GPick bPick hPick.2
  have GSame : FnG P w K mg base 1 fSame dSame ["_law_told_here", "_law_due"] (spSame K) := ok_same hSame.1 T
  exact ok_law hLaw T R.TE R.XF R.gS R.tS ⟨⟨fPool, dPool, hPool.1.kp, GPool, bPool, hPool.2⟩, ⟨fWhole, dWhole, hWhole.1.kp, GWhole, bWhole, hWhole.2⟩, ⟨fCut, dCut, hCut.1.kp, GCut, bCut, hCut.2⟩, ⟨fTold, dTold, hTold.1.kp, GTold, bTold, hTold.2⟩, ⟨fSame, dSame, hSame.1.kp, GSame, bSame, hSame.2⟩, ⟨fPick, dPick, hPick.1.kp, GPick, bPick, hPick.2⟩, ⟨fRun, dRun, hRun.1.kp, GRun, bRun, hRun.2⟩, ⟨fIs, dIs, hIs.1.kp, GIs, bIs, hIs.2⟩, ⟨fGlued, dGlued, hGlued.1.kp, GGlued, bGlued, hGlued.2⟩, ⟨fOf, dOf, hOf.1.kp, GOf, bOf, hOf.2⟩, ⟨fTok, dTok, hTok.1.kp, GTok, bTok, hTok.2⟩⟩
end K0

namespace K0
open PySem L2
section
variable {K : PySem.W.Frag} {h : Heap} {mg : Str → Option Value}
/-- a def of the top, read off the written part -/
theorem held {x : Str} {st : Stmt} {f : Addr} {oc : Value} {od an : Option Addr} {osl : Array (Option Value)} {kV doc pm cdv ct : Value} (X : K.In h) (G : h.Ns mainGlobals mg) (a : PySem.W.nsIn K mainGlobals x = some (some (.ref f)))
    (l : K.lookup f = some ⟨oc, od, .func (PySem.W.fnOf x x (defArgs st) (defBody st) (defScope st) .none kV doc pm an cdv ct), osl⟩) (c : PySem.W.codeIn K cdv x = true) (k : PySem.W.keepIn K (.ref f) = true) : Held K mg x st f (PySem.W.fnOf x x (defArgs st) (defBody st) (defScope st) .none kV doc pm an cdv ct) :=
  ⟨fun_mk l c k, PySem.W.mg_of X G a⟩
theorem signs_vals {t1 t2 t3 t4 t5 : Tok} {its : Array Value} (e : its = #[.str "=" t1, .str ";" t2, .str "," t3, .str "[" t4, .str "]" t5]) : its.size ≤ sizeLine ∧ Vals (K0.signs.map V.str) its.toList := by
  subst e
  exact ⟨by show 5 ≤ sizeLine; decide, .cons ⟨_, rfl⟩ (.cons ⟨_, rfl⟩ (.cons ⟨_, rfl⟩ (.cons ⟨_, rfl⟩ (.cons ⟨_, rfl⟩ .nil))))⟩
end
theorem all_mk {P : Program} {w : World} {K : PySem.W.Frag} {h : Heap} {mg : Str → Option Value} {fa C CS fI aS : Addr} (X : K.In h) (G : h.Ns mainGlobals mg) (hfa : mg "law" = some (.ref fa))
    {nm q : Str} {N : Addr} {bs : List Value} {sn : List Str} {sub : List Value} {ab : Bool} {col : Option Bool} {dd : Option Addr} {m0 m1 m2 m3 m5 : Option Value} {oI pmI ctI : Value} {odI anI : Option Addr} {slI : Array (Option Value)} {docI : Value} {cda cc : Addr}
    {ccl : Value} {cdd : Option Addr} {vs : Array Value} {ccs : Array (Option Value)} {file : Str} {tf : Tok} {cl : Value} {cld : Option Addr} {csl : Array (Option Value)} {tL tD tM t1 t2 t3 t4 t5 : Tok} {dS : Option Addr} {its : Array Value} {nS : Nat} {slS : Array (Option Value)}
    {fOneOf fCons fWord fNum fSign fSort fEnd fTok fOf fPool fPick fRun fPiece fWhole fIs fCut fTold fGlued fSame fLaw : Addr} {odOneOf anOneOf odCons anCons odWord anWord odNum anNum odSign anSign odSort anSort odEnd anEnd odTok anTok odOf anOf odPool anPool odPick anPick odRun anRun odPiece anPiece odWhole anWhole odIs anIs odCut anCut odTold anTold odGlued anGlued odSame anSame odLaw anLaw : Option Addr} {slOneOf slCons slWord slNum slSign slSort slEnd slTok slOf slPool slPick slRun slPiece slWhole slIs slCut slTold slGlued slSame slLaw : Array (Option Value)}
    {ocOneOf kVOneOf dcOneOf pmOneOf cdOneOf ctOneOf ocCons kVCons dcCons pmCons cdCons ctCons ocWord kVWord dcWord pmWord cdWord ctWord ocNum kVNum dcNum pmNum cdNum ctNum ocSign kVSign dcSign pmSign cdSign ctSign ocSort kVSort dcSort pmSort cdSort ctSort ocEnd kVEnd dcEnd pmEnd cdEnd ctEnd ocTok kVTok dcTok pmTok cdTok ctTok ocOf kVOf dcOf pmOf cdOf ctOf ocPool kVPool dcPool pmPool cdPool ctPool ocPick kVPick dcPick pmPick cdPick ctPick ocRun kVRun dcRun pmRun cdRun ctRun ocPiece kVPiece dcPiece pmPiece cdPiece ctPiece ocWhole kVWhole dcWhole pmWhole cdWhole ctWhole ocIs kVIs dcIs pmIs cdIs ctIs ocCut kVCut dcCut pmCut cdCut ctCut ocTold kVTold dcTold pmTold cdTold ctTold ocGlued kVGlued dcGlued pmGlued cdGlued ctGlued ocSame kVSame dcSame pmSame cdSame ctSame ocLaw kVLaw dcLaw pmLaw cdLaw ctLaw : Value}
    (aC : PySem.W.nsIn K mainGlobals "BadText" = some (some (.ref C)))
    (aB : PySem.W.nsIn K mainGlobals "SettingsError" = some (some (.ref CS)))
    (xL : K.lookup C = some (excClassObj nm q C N bs [.ref CS, .type "ValueError", .type "Exception", .type "BaseException", .type "object"] true sn sub ab col dd m0 m1 m2 m3 m5 "ValueError.__new__"))
    (sa : PySem.W.findIn K (.ref C) "__setattr__" = some (some (.builtin "object.__setattr__")))
    (ga : PySem.W.findIn K (.ref C) "__getattribute__" = some (some (.builtin "BaseException.__getattribute__")))
    (gg : PySem.W.findIn K (.ref C) "__getattr__" = some none)
    (nb : PySem.W.findIn K (.ref C) "at" = some none)
    (iC : PySem.W.findIn K (.ref C) "__init__" = some (some (.ref fI)))
    (tI : PySem.W.typeIn K (.ref fI) = some (.type "function"))
    (kC : PySem.W.keepIn K (.ref C) = true)
    (eC : PySem.W.subIn K (.ref C) (.type "BaseException") = some true)
    (vC : PySem.W.subIn K (.ref C) (.type "ValueError") = some true)
    (tC : PySem.W.typeIn K (.ref C) = some (.type "type"))
    (hC : PySem.W.hasDictIn K C = true)
    (sC : PySem.W.subIn K (.ref C) (.ref C) = some true)
    (mC : PySem.W.mroIn K C (.ref C) = some true)
    (eS : PySem.W.subIn K (.ref CS) (.type "BaseException") = some true)
    (tS : PySem.W.typeIn K (.ref CS) = some (.type "type"))
    (hS : PySem.W.hasDictIn K CS = true)
    (sS : PySem.W.subIn K (.ref C) (.ref CS) = some true)
    (sup : PySem.W.ks_superIn K C C "__init__" = some (some (.builtin "ValueError.__init__")))
    (tp : PySem.W.nsIn K PySem.cStatics "thirdparty.any" = some none)
    (su : PySem.W.nsIn K mainGlobals "super" = some none)
    (top : (P.main.scope.names.lookup ("super" : Str)).isSome = false)
    (lI : K.lookup fI = some ⟨oI, odI, .func (PySem.W.ksFn "__init__" "BadText.__init__" (K0E.eA ⟨6, 17, 6, 21⟩ ⟨6, 23, 6, 25⟩) (K0E.eB "a text that is no row of tokens" 0 ⟨7, 8, 7, 13⟩ ⟨7, 8, 7, 15⟩ ⟨7, 8, 7, 24⟩ ⟨7, 25, 7, 58⟩ ⟨7, 8, 7, 59⟩ ⟨7, 8, 7, 59⟩ ⟨8, 8, 8, 12⟩ ⟨8, 8, 8, 15⟩ ⟨8, 18, 8, 20⟩ ⟨8, 8, 8, 20⟩) K0E.eS .none .none docI pmI anI (.ref cda) ctI cc), slI⟩)
    (cI : PySem.W.codeIn K (.ref cda) "BadText.__init__" = true)
    (lD : K.lookup cda = some ⟨ccl, cdd, .fields vs, ccs⟩)
    (vf : vs[2]? = some (.str file tf))
    (pf : ((P.main.file : Str) == file) = true)
    (lc : K.lookup cc = some ⟨cl, cld, .cell (some (.ref C)), csl⟩)
    (gL : PySem.W.nsIn K mainGlobals "LETTERS" = some (some (.str cLetters tL)))
    (gD : PySem.W.nsIn K mainGlobals "DIGITS" = some (some (.str cDigits tD)))
    (gM : PySem.W.nsIn K mainGlobals "LONGEST" = some (some (.int 12 tM)))
    (gG : PySem.W.nsIn K mainGlobals "SIGNS" = some (some (.ref aS)))
    (lS : K.lookup aS = some ⟨.type "tuple", dS, .seq its nS, slS⟩)
    (vS : its = #[.str "=" t1, .str ";" t2, .str "," t3, .str "[" t4, .str "]" t5])
    (zint : PySem.W.nsIn K mainGlobals "int" = some none)
    (zlen : PySem.W.nsIn K mainGlobals "len" = some none)
    (zsum : PySem.W.nsIn K mainGlobals "sum" = some none)
    (zabs : PySem.W.nsIn K mainGlobals "abs" = some none)
    (zrange : PySem.W.nsIn K mainGlobals "range" = some none)
    (zstr : PySem.W.nsIn K mainGlobals "str" = some none)
    (zall : PySem.W.nsIn K mainGlobals "all" = some none)
    (zmax : PySem.W.nsIn K mainGlobals "max" = some none)
    (zisi : PySem.W.nsIn K mainGlobals "isinstance" = some none)
    (zenum : PySem.W.nsIn K mainGlobals "enumerate" = some none)
    (zrepr : PySem.W.nsIn K mainGlobals "repr" = some none)
    (zlist : PySem.W.nsIn K mainGlobals "list" = some none)
    (aOneOf : PySem.W.nsIn K mainGlobals "is_one_of" = some (some (.ref fOneOf)))
    (lOneOf : K.lookup fOneOf = some ⟨ocOneOf, odOneOf, .func (PySem.W.fnOf "is_one_of" "is_one_of" (defArgs sOneOf) (defBody sOneOf) (defScope sOneOf) .none kVOneOf dcOneOf pmOneOf anOneOf cdOneOf ctOneOf), slOneOf⟩)
    (cOneOf : PySem.W.codeIn K cdOneOf "is_one_of" = true)
    (kOneOf : PySem.W.keepIn K (.ref fOneOf) = true)
    (aCons : PySem.W.nsIn K mainGlobals "consists_of" = some (some (.ref fCons)))
    (lCons : K.lookup fCons = some ⟨ocCons, odCons, .func (PySem.W.fnOf "consists_of" "consists_of" (defArgs sConsists) (defBody sConsists) (defScope sConsists) .none kVCons dcCons pmCons anCons cdCons ctCons), slCons⟩)
    (cCons : PySem.W.codeIn K cdCons "consists_of" = true)
    (kCons : PySem.W.keepIn K (.ref fCons) = true)
    (aWord : PySem.W.nsIn K mainGlobals "is_word" = some (some (.ref fWord)))
    (lWord : K.lookup fWord = some ⟨ocWord, odWord, .func (PySem.W.fnOf "is_word" "is_word" (defArgs sIsWord) (defBody sIsWord) (defScope sIsWord) .none kVWord dcWord pmWord anWord cdWord ctWord), slWord⟩)
    (cWord : PySem.W.codeIn K cdWord "is_word" = true)
    (kWord : PySem.W.keepIn K (.ref fWord) = true)
    (aNum : PySem.W.nsIn K mainGlobals "is_numeral" = some (some (.ref fNum)))
    (lNum : K.lookup fNum = some ⟨ocNum, odNum, .func (PySem.W.fnOf "is_numeral" "is_numeral" (defArgs sIsNumeral) (defBody sIsNumeral) (defScope sIsNumeral) .none kVNum dcNum pmNum anNum cdNum ctNum), slNum⟩)
    (cNum : PySem.W.codeIn K cdNum "is_numeral" = true)
    (kNum : PySem.W.keepIn K (.ref fNum) = true)
    (aSign : PySem.W.nsIn K mainGlobals "is_sign" = some (some (.ref fSign)))
    (lSign : K.lookup fSign = some ⟨ocSign, odSign, .func (PySem.W.fnOf "is_sign" "is_sign" (defArgs sIsSign) (defBody sIsSign) (defScope sIsSign) .none kVSign dcSign pmSign anSign cdSign ctSign), slSign⟩)
    (cSign : PySem.W.codeIn K cdSign "is_sign" = true)
    (kSign : PySem.W.keepIn K (.ref fSign) = true)
    (aSort : PySem.W.nsIn K mainGlobals "sort_of" = some (some (.ref fSort)))
    (lSort : K.lookup fSort = some ⟨ocSort, odSort, .func (PySem.W.fnOf "sort_of" "sort_of" (defArgs sSortOf) (defBody sSortOf) (defScope sSortOf) .none kVSort dcSort pmSort anSort cdSort ctSort), slSort⟩)
    (cSort : PySem.W.codeIn K cdSort "sort_of" = true)
    (kSort : PySem.W.keepIn K (.ref fSort) = true)
    (aEnd : PySem.W.nsIn K mainGlobals "run_end" = some (some (.ref fEnd)))
    (lEnd : K.lookup fEnd = some ⟨ocEnd, odEnd, .func (PySem.W.fnOf "run_end" "run_end" (defArgs sRunEnd) (defBody sRunEnd) (defScope sRunEnd) .none kVEnd dcEnd pmEnd anEnd cdEnd ctEnd), slEnd⟩)
    (cEnd : PySem.W.codeIn K cdEnd "run_end" = true)
    (kEnd : PySem.W.keepIn K (.ref fEnd) = true)
    (aTok : PySem.W.nsIn K mainGlobals "tokens" = some (some (.ref fTok)))
    (lTok : K.lookup fTok = some ⟨ocTok, odTok, .func (PySem.W.fnOf "tokens" "tokens" (defArgs sTokens) (defBody sTokens) (defScope sTokens) .none kVTok dcTok pmTok anTok cdTok ctTok), slTok⟩)
    (cTok : PySem.W.codeIn K cdTok "tokens" = true)
    (kTok : PySem.W.keepIn K (.ref fTok) = true)
    (aOf : PySem.W.nsIn K mainGlobals "text_of" = some (some (.ref fOf)))
    (lOf : K.lookup fOf = some ⟨ocOf, odOf, .func (PySem.W.fnOf "text_of" "text_of" (defArgs sTextOf) (defBody sTextOf) (defScope sTextOf) .none kVOf dcOf pmOf anOf cdOf ctOf), slOf⟩)
    (cOf : PySem.W.codeIn K cdOf "text_of" = true)
    (kOf : PySem.W.keepIn K (.ref fOf) = true)
    (aPool : PySem.W.nsIn K mainGlobals "_law_pool" = some (some (.ref fPool)))
    (lPool : K.lookup fPool = some ⟨ocPool, odPool, .func (PySem.W.fnOf "_law_pool" "_law_pool" (defArgs sPool) (defBody sPool) (defScope sPool) .none kVPool dcPool pmPool anPool cdPool ctPool), slPool⟩)
    (cPool : PySem.W.codeIn K cdPool "_law_pool" = true)
    (kPool : PySem.W.keepIn K (.ref fPool) = true)
    (aPick : PySem.W.nsIn K mainGlobals "_law_pick" = some (some (.ref fPick)))
    (lPick : K.lookup fPick = some ⟨ocPick, odPick, .func (PySem.W.fnOf "_law_pick" "_law_pick" (defArgs sPick) (defBody sPick) (defScope sPick) .none kVPick dcPick pmPick anPick cdPick ctPick), slPick⟩)
    (cPick : PySem.W.codeIn K cdPick "_law_pick" = true)
    (kPick : PySem.W.keepIn K (.ref fPick) = true)
    (aRun : PySem.W.nsIn K mainGlobals "_law_run" = some (some (.ref fRun)))
    (lRun : K.lookup fRun = some ⟨ocRun, odRun, .func (PySem.W.fnOf "_law_run" "_law_run" (defArgs sRun) (defBody sRun) (defScope sRun) .none kVRun dcRun pmRun anRun cdRun ctRun), slRun⟩)
    (cRun : PySem.W.codeIn K cdRun "_law_run" = true)
    (kRun : PySem.W.keepIn K (.ref fRun) = true)
    (aPiece : PySem.W.nsIn K mainGlobals "_law_piece" = some (some (.ref fPiece)))
    (lPiece : K.lookup fPiece = some ⟨ocPiece, odPiece, .func (PySem.W.fnOf "_law_piece" "_law_piece" (defArgs sPiece) (defBody sPiece) (defScope sPiece) .none kVPiece dcPiece pmPiece anPiece cdPiece ctPiece), slPiece⟩)
    (cPiece : PySem.W.codeIn K cdPiece "_law_piece" = true)
    (kPiece : PySem.W.keepIn K (.ref fPiece) = true)
    (aWhole : PySem.W.nsIn K mainGlobals "_law_whole_text" = some (some (.ref fWhole)))
    (lWhole : K.lookup fWhole = some ⟨ocWhole, odWhole, .func (PySem.W.fnOf "_law_whole_text" "_law_whole_text" (defArgs sWhole) (defBody sWhole) (defScope sWhole) .none kVWhole dcWhole pmWhole anWhole cdWhole ctWhole), slWhole⟩)
    (cWhole : PySem.W.codeIn K cdWhole "_law_whole_text" = true)
    (kWhole : PySem.W.keepIn K (.ref fWhole) = true)
    (aIs : PySem.W.nsIn K mainGlobals "_law_is_token" = some (some (.ref fIs)))
    (lIs : K.lookup fIs = some ⟨ocIs, odIs, .func (PySem.W.fnOf "_law_is_token" "_law_is_token" (defArgs sIsTok) (defBody sIsTok) (defScope sIsTok) .none kVIs dcIs pmIs anIs cdIs ctIs), slIs⟩)
    (cIs : PySem.W.codeIn K cdIs "_law_is_token" = true)
    (kIs : PySem.W.keepIn K (.ref fIs) = true)
    (aCut : PySem.W.nsIn K mainGlobals "_law_cut" = some (some (.ref fCut)))
    (lCut : K.lookup fCut = some ⟨ocCut, odCut, .func (PySem.W.fnOf "_law_cut" "_law_cut" (defArgs sCut) (defBody sCut) (defScope sCut) .none kVCut dcCut pmCut anCut cdCut ctCut), slCut⟩)
    (cCut : PySem.W.codeIn K cdCut "_law_cut" = true)
    (kCut : PySem.W.keepIn K (.ref fCut) = true)
    (aTold : PySem.W.nsIn K mainGlobals "_law_told" = some (some (.ref fTold)))
    (lTold : K.lookup fTold = some ⟨ocTold, odTold, .func (PySem.W.fnOf "_law_told" "_law_told" (defArgs sTold) (defBody sTold) (defScope sTold) .none kVTold dcTold pmTold anTold cdTold ctTold), slTold⟩)
    (cTold : PySem.W.codeIn K cdTold "_law_told" = true)
    (kTold : PySem.W.keepIn K (.ref fTold) = true)
    (aGlued : PySem.W.nsIn K mainGlobals "_law_glued" = some (some (.ref fGlued)))
    (lGlued : K.lookup fGlued = some ⟨ocGlued, odGlued, .func (PySem.W.fnOf "_law_glued" "_law_glued" (defArgs sGlued) (defBody sGlued) (defScope sGlued) .none kVGlued dcGlued pmGlued anGlued cdGlued ctGlued), slGlued⟩)
    (cGlued : PySem.W.codeIn K cdGlued "_law_glued" = true)
    (kGlued : PySem.W.keepIn K (.ref fGlued) = true)
    (aSame : PySem.W.nsIn K mainGlobals "_law_same" = some (some (.ref fSame)))
    (lSame : K.lookup fSame = some ⟨ocSame, odSame, .func (PySem.W.fnOf "_law_same" "_law_same" (defArgs sSame) (defBody sSame) (defScope sSame) .none kVSame dcSame pmSame anSame cdSame ctSame), slSame⟩)
    (cSame : PySem.W.codeIn K cdSame "_law_same" = true)
    (kSame : PySem.W.keepIn K (.ref fSame) = true)
    (aLaw : PySem.W.nsIn K mainGlobals "law" = some (some (.ref fLaw)))
    (lLaw : K.lookup fLaw = some ⟨ocLaw, odLaw, .func (PySem.W.fnOf "law" "law" (defArgs sLaw) (defBody sLaw) (defScope sLaw) .none kVLaw dcLaw pmLaw anLaw cdLaw ctLaw), slLaw⟩)
    (cLaw : PySem.W.codeIn K cdLaw "law" = true)
    (kLaw : PySem.W.keepIn K (.ref fLaw) = true) :
    ∃ fd : FuncData, (∀ (s : Shared) (v : Value), BindsTo s fd ⟨[v], []⟩ [("_law_script", v)]) ∧ ∀ base : Heap, K.In base → base.Ns mainGlobals mg → FnG P w K mg base 6 fa fd ["_law_script"] (spLaw K) := by
  have e := hfa.symm.trans (PySem.W.mg_of X G aLaw)
  cases e
  have M : Mod K mg aS :=
    { int := PySem.W.mg_none_of X G zint, len := PySem.W.mg_none_of X G zlen, sum := PySem.W.mg_none_of X G zsum, abs := PySem.W.mg_none_of X G zabs, range := PySem.W.mg_none_of X G zrange, str := PySem.W.mg_none_of X G zstr, all := PySem.W.mg_none_of X G zall, max := PySem.W.mg_none_of X G zmax, isi := PySem.W.mg_none_of X G zisi, enum := PySem.W.mg_none_of X G zenum, repr := PySem.W.mg_none_of X G zrepr, list := PySem.W.mg_none_of X G zlist, letters := ⟨_, PySem.W.mg_of X G gL⟩, digits := ⟨_, PySem.W.mg_of X G gD⟩, longest := ⟨_, PySem.W.mg_of X G gM⟩, sgn := PySem.W.mg_of X G gG, tup := ⟨_, its, nS, lS, rfl, rfl, (signs_vals vS).1, (signs_vals vS).2⟩ }
  have TE : K0E.ErrTxt P K mg C fI :=
    { gC := PySem.W.mg_of X G aC, cls := ⟨nm, q, N, bs, _, sn, sub, ab, col, dd, m0, m1, m2, m3, m5, xL, by rfl⟩, sa := sa, noN := nb, iC := iC, tC := tI, kC := kC, exC := eC, vaC := vC, tyC := tC, te := PySem.W.exm_ref eC hC tC sC, sub := mC, sup := sup, tp := tp, su := PySem.W.mg_none_of X G su, top := top,
      fn := ⟨_, _, _, _, _, cda, cc, _, _, _, _, _, _, _, _, _, _, _, _, _, _, _, _, lI, cI, ⟨_, _, vs, _, file, tf, lD, vf, pf⟩, fun env => ⟨_, rfl⟩, _, _, _, lc⟩ }
  have R : Rest P K mg C CS fI aS := ⟨M, TE, ⟨ga, gg, eC, hC⟩, PySem.W.mg_of X G aB, PySem.W.exm_ref eS hS tS sS⟩
  have hOneOf := held (st := sOneOf) X G aOneOf lOneOf cOneOf kOneOf
  have bOneOf := hOneOf.1.binds (ps := ["thing", "words"]) fun _ _ _ _ _ _ us hl => match us, hl with | [_, _], _ => rfl
  have hCons := held (st := sConsists) X G aCons lCons cCons kCons
  have bCons := hCons.1.binds (ps := ["thing", "characters"]) fun _ _ _ _ _ _ us hl => match us, hl with | [_, _], _ => rfl
  have hWord := held (st := sIsWord) X G aWord lWord cWord kWord
  have bWord := hWord.1.binds (ps := ["thing"]) fun _ _ _ _ _ _ us hl => match us, hl with | [_], _ => rfl
  have hNum := held (st := sIsNumeral) X G aNum lNum cNum kNum
  have bNum := hNum.1.binds (ps := ["thing"]) fun _ _ _ _ _ _ us hl => match us, hl with | [_], _ => rfl
  have hSign := held (st := sIsSign) X G aSign lSign cSign kSign
  have bSign := hSign.1.binds (ps := ["thing"]) fun _ _ _ _ _ _ us hl => match us, hl with | [_], _ => rfl
  have hSort := held (st := sSortOf) X G aSort lSort cSort kSort
  have bSort := hSort.1.binds (ps := ["thing"]) fun _ _ _ _ _ _ us hl => match us, hl with | [_], _ => rfl
  have hEnd := held (st := sRunEnd) X G aEnd lEnd cEnd kEnd
  have bEnd := hEnd.1.binds (ps := ["text", "at"]) fun _ _ _ _ _ _ us hl => match us, hl with | [_, _], _ => rfl
  have hTok := held (st := sTokens) X G aTok lTok cTok kTok
  have bTok := hTok.1.binds (ps := ["text"]) fun _ _ _ _ _ _ us hl => match us, hl with | [_], _ => rfl
  have hOf := held (st := sTextOf) X G aOf lOf cOf kOf
  have bOf := hOf.1.binds (ps := ["file"]) fun _ _ _ _ _ _ us hl => match us, hl with | [_], _ => rfl
  have hPool := held (st := sPool) X G aPool lPool cPool kPool
  have bPool := hPool.1.binds (ps := ["_law_script", "_law_place"]) fun _ _ _ _ _ _ us hl => match us, hl with | [_, _], _ => rfl
  have hPick := held (st := sPick) X G aPick lPick cPick kPick
  have bPick := hPick.1.binds (ps := ["_law_pool_here", "_law_many"]) fun _ _ _ _ _ _ us hl => match us, hl with | [_, _], _ => rfl
  have hRun := held (st := sRun) X G aRun lRun cRun kRun
  have bRun := hRun.1.binds (ps := ["_law_pool_here"]) fun _ _ _ _ _ _ us hl => match us, hl with | [_], _ => rfl
  have hPiece := held (st := sPiece) X G aPiece lPiece cPiece kPiece
  have bPiece := hPiece.1.binds (ps := ["_law_pool_here"]) fun _ _ _ _ _ _ us hl => match us, hl with | [_], _ => rfl
  have hWhole := held (st := sWhole) X G aWhole lWhole cWhole kWhole
  have bWhole := hWhole.1.binds (ps := ["_law_pool_here"]) fun _ _ _ _ _ _ us hl => match us, hl with | [_], _ => rfl
  have hIs := held (st := sIsTok) X G aIs lIs cIs kIs
  have bIs := hIs.1.binds (ps := ["_law_run_here"]) fun _ _ _ _ _ _ us hl => match us, hl with | [_], _ => rfl
  have hCut := held (st := sCut) X G aCut lCut cCut kCut
  have bCut := hCut.1.binds (ps := ["_law_text"]) fun _ _ _ _ _ _ us hl => match us, hl with | [_], _ => rfl
  have hTold := held (st := sTold) X G aTold lTold cTold kTold
  have bTold := hTold.1.binds (ps := ["_law_text"]) fun _ _ _ _ _ _ us hl => match us, hl with | [_], _ => rfl
  have hGlued := held (st := sGlued) X G aGlued lGlued cGlued kGlued
  have bGlued := hGlued.1.binds (ps := ["_law_pool_here", "_law_file"]) fun _ _ _ _ _ _ us hl => match us, hl with | [_, _], _ => rfl
  have hSame := held (st := sSame) X G aSame lSame cSame kSame
  have bSame := hSame.1.binds (ps := ["_law_told_here", "_law_due"]) fun _ _ _ _ _ _ us hl => match us, hl with | [_, _], _ => rfl
  exact ⟨PySem.W.fnOf "law" "law" (defArgs sLaw) (defBody sLaw) (defScope sLaw) .none kVLaw dcLaw pmLaw anLaw cdLaw ctLaw, fun s v => .of_eq rfl, fun base _ _ => all_of R hOneOf hCons hWord hNum hSign hSort hEnd hTok hOf hPool hPick hRun hPiece hWhole hIs hCut hTold hGlued hSame (fun_mk (st := sLaw) lLaw cLaw kLaw) bOneOf bCons bWord bNum bSign bSort bEnd bTok bOf bPool bPick bRun bPiece bWhole bIs bCut bTold bGlued bSame⟩
theorem walk {l : PySem.W.OpenLaw} {q : Program} {loose : List Str} {XP : (Str → Option Value) → Heap → Prop} {YP : World → Heap → Prop} {d : DefRec} {K : Params → PySem.W.Frag} (hn : l.most = some 63) (hdf : d.params.defaults = [])
    (hY : ∀ (w : World) (h : Heap), YP w h → (K w.params).In h)
    (F : ∀ (w : World) (mg : Str → Option Value) (fa : Addr) (h : Heap), (K w.params).In h → h.Ns mainGlobals mg → mg d.name = some (.ref fa) →
      ∃ fd : FuncData, (∀ (s : Shared) (u : Value), BindsTo s fd ⟨[u], []⟩ [("_law_script", u)]) ∧ ∀ base : Heap, (K w.params).In base → base.Ns mainGlobals mg → FnG l.prog w (K w.params) mg base 6 fa fd ["_law_script"] (spLaw (K w.params))) :
    PySem.W.WalkO q loose XP YP l.row.toRowW d [] (fun f vs => PySem.call f vs) :=
  L2.walk_ofG (n := 63) (k := 6) (x := "_law_script") (sp := fun w => spLaw (K w.params)) hn (by decide) hdf ⟨rfl, by decide, by decide⟩ hY F fun _ _ a ns hl _ hS => ⟨a, ns, rfl, hS, hl, fun _ => rfl⟩
end K0

open PySem PySem.W PyProof.Rows in
set_option maxRecDepth 100000 in
set_option maxHeartbeats 0 in
theorem PySem.Challenge.cw_slipreach_k00_texts_cut_into_tokens_holds : PySem.Challenge.rw_slipreach_k00_texts_cut_into_tokens.Holds := by
  w_on
  o_law
  k_head
  (case hw => w_witness2)
  k_fill
  refine K0.walk (l := PySem.Challenge.rw_slipreach_k00_texts_cut_into_tokens) rfl rfl (fun w h Y => kIn_of Y) ?F
  case F =>
    intro w mg fa h KX G hmg
    refine' K0.all_mk KX G hmg ?aC ?aB ?xL ?sa ?ga ?gg ?nb ?iC ?tI ?kC ?eC ?vC ?tC ?hC ?sC ?mC ?eS ?tS ?hS ?sS ?sup ?tp ?su ?top ?lI ?cI ?lD ?vf ?pf ?lc ?gL ?gD ?gM ?gG ?lS ?vS ?zint ?zlen ?zsum ?zabs ?zrange ?zstr ?zall ?zmax ?zisi ?zenum ?zrepr ?zlist ?aOneOf ?lOneOf ?cOneOf ?kOneOf ?aCons ?lCons ?cCons ?kCons ?aWord ?lWord ?cWord ?kWord ?aNum ?lNum ?cNum ?kNum ?aSign ?lSign ?cSign ?kSign ?aSort ?lSort ?cSort ?kSort ?aEnd ?lEnd ?cEnd ?kEnd ?aTok ?lTok ?cTok ?kTok ?aOf ?lOf ?cOf ?kOf ?aPool ?lPool ?cPool ?kPool ?aPick ?lPick ?cPick ?kPick ?aRun ?lRun ?cRun ?kRun ?aPiece ?lPiece ?cPiece ?kPiece ?aWhole ?lWhole ?cWhole ?kWhole ?aIs ?lIs ?cIs ?kIs ?aCut ?lCut ?cCut ?kCut ?aTold ?lTold ?cTold ?kTold ?aGlued ?lGlued ?cGlued ?kGlued ?aSame ?lSame ?cSame ?kSame ?aLaw ?lLaw ?cLaw ?kLaw
    (case aC => k_is)
    (case aB => k_is)
    (case xL => k_is)
    (case sa => k_is)
    (case ga => k_is)
    (case gg => k_is)
    (case nb => k_is)
    (case iC => k_is)
    (case tI => k_is)
    (case kC => k_is)
    (case eC => k_is)
    (case vC => k_is)
    (case tC => k_is)
    (case hC => k_is)
    (case sC => first | rfl | k_is)
    (case mC => k_is)
    (case eS => k_is)
    (case tS => k_is)
    (case hS => k_is)
    (case sS => k_is)
    (case sup => ks_is)
    (case tp => k_is)
    (case su => k_is)
    (case top => first | rfl | decide +kernel)
    (case lI => k_is)
    (case cI => k_is)
    (case lD => k_is)
    (case vf => first | rfl | decide +kernel)
    (case pf => first | rfl | decide +kernel)
    (case lc => k_is)
    (case gL => k_is)
    (case gD => k_is)
    (case gM => k_is)
    (case gG => k_is)
    (case lS => k_is)
    (case vS => rfl)
    (case zint => k_is)
    (case zlen => k_is)
    (case zsum => k_is)
    (case zabs => k_is)
    (case zrange => k_is)
    (case zstr => k_is)
    (case zall => k_is)
    (case zmax => k_is)
    (case zisi => k_is)
    (case zenum => k_is)
    (case zrepr => k_is)
    (case zlist => k_is)
    (case aOneOf => k_is)
    (case lOneOf => k_is)
    (case cOneOf => k_is)
    (case kOneOf => k_is)
    (case aCons => k_is)
    (case lCons => k_is)
    (case cCons => k_is)
    (case kCons => k_is)
    (case aWord => k_is)
    (case lWord => k_is)
    (case cWord => k_is)
    (case kWord => k_is)
    (case aNum => k_is)
    (case lNum => k_is)
    (case cNum => k_is)
    (case kNum => k_is)
    (case aSign => k_is)
    (case lSign => k_is)
    (case cSign => k_is)
    (case kSign => k_is)
    (case aSort => k_is)
    (case lSort => k_is)
    (case cSort => k_is)
    (case kSort => k_is)
    (case aEnd => k_is)
    (case lEnd => k_is)
    (case cEnd => k_is)
    (case kEnd => k_is)
    (case aTok => k_is)
    (case lTok => k_is)
    (case cTok => k_is)
    (case kTok => k_is)
    (case aOf => k_is)
    (case lOf => k_is)
    (case cOf => k_is)
    (case kOf => k_is)
    (case aPool => k_is)
    (case lPool => k_is)
    (case cPool => k_is)
    (case kPool => k_is)
    (case aPick => k_is)
    (case lPick => k_is)
    (case cPick => k_is)
    (case kPick => k_is)
    (case aRun => k_is)
    (case lRun => k_is)
    (case cRun => k_is)
    (case kRun => k_is)
    (case aPiece => k_is)
    (case lPiece => k_is)
    (case cPiece => k_is)
    (case kPiece => k_is)
    (case aWhole => k_is)
    (case lWhole => k_is)
    (case cWhole => k_is)
    (case kWhole => k_is)
    (case aIs => k_is)
    (case lIs => k_is)
    (case cIs => k_is)
    (case kIs => k_is)
    (case aCut => k_is)
    (case lCut => k_is)
    (case cCut => k_is)
    (case kCut => k_is)
    (case aTold => k_is)
    (case lTold => k_is)
    (case cTold => k_is)
    (case kTold => k_is)
    (case aGlued => k_is)
    (case lGlued => k_is)
    (case cGlued => k_is)
    (case kGlued => k_is)
    (case aSame => k_is)
    (case lSame => k_is)
    (case cSame => k_is)
    (case kSame => k_is)
    (case aLaw => k_is)
    (case lLaw => k_is)
    (case cLaw => k_is)
    (case kLaw => k_is)

