import PyProof.Rows.All
import Wide.All
import OpenK.AllK
import Wide.FinOn
import HandS.ForMost
import HandS.IsInst
import HandS.Exc
import HandS.ExcOwn
import HandS.ExcInit
import HandS.ExcField
import HandS.ExcIs
import HandS.ExcValue
import HandS.Defaults
import HandS.Head0
import HandS.Head1
import HandS.Head2
import HandS.HeadEnd
import HandS.HeadHook1
import HandS.HeadHook2
import KE.KExcIs
import KE.KStateDown
import KE.GoesEnum
import HandS.WordsExc
import HandS.Star
import HandS.Walk
import HandS.Style
import HandS.Text
import HandS.Rev
import HandS.RevTup
import HandS.Deep
import HandS.BoundList
import HandS.NoneIn
import HandS.Dict
import KE.KDictOf
import HandS.DictComp
import HandS.Conv
import HandS.TupAny
import HandS.DictTup
import HandS.Iter
import HandS.Wide
import PyProof.Rows.All
import Wide.All
import OpenK.AllK
import Wide.FinOn
import HandS.WrittenGet
import HandS.HeadHook3
import PySem.Challenge.RW_batchtests_k09_wrong_parts
set_option Elab.async false
set_option linter.all false
set_option maxRecDepth 100000
set_option maxHeartbeats 4000000
/-! what every law of this document shares: the hand of drawn numbers -/
namespace Lw
open PySem L2
def top (i : Nat) : Stmt := PySem.Challenge.pw_batchtests_k09_wrong_parts.main.body.getD i (.Pass ⟨0, 0, 0, 0⟩)
abbrev sHand : Stmt := top 35
abbrev sMixed : Stmt := top 36
abbrev sDraw : Stmt := top 37
/-- a hand at p with its cells at q -/
structure HandAt (H : Hp) (p q : Addr) : Prop where
  ob : ∃ (i : Nat) (b c s : Int), H p = some (.lst [.ref q, .int (i : Int), .int b, .int c, .int s])
  cs : ∃ ns : List Int, H q = some (.lst (ns.map V.int)) ∧ ns.length ≤ 63
theorem HandAt.ne {H : Hp} {p q : Addr} (h : HandAt H p q) : q ≠ p := by
  intro e
  obtain ⟨⟨i, b, c, s, h1⟩, ns, h2, _⟩ := h
  subst e
  rw [h1] at h2
  have h3 := HO.lst.inj (Option.some.inj h2)
  cases ns with
  | nil => cases h3
  | cons a r => exact V.noConfusion (List.cons.inj h3).1
theorem HandAt.keep {H H' : Hp} {p q : Addr} (h : HandAt H p q) (hp : ∀ o, H p = some o → H' p = some o) (hq : ∀ o, H q = some o → H' q = some o) : HandAt H' p q := by
  obtain ⟨⟨i, b, c, s, h1⟩, ns, h2, h3⟩ := h
  exact ⟨⟨i, b, c, s, hp _ h1⟩, ns, hq _ h2, h3⟩
theorem HandAt.same {H H' : Hp} {p q : Addr} (h : HandAt H p q) (e : Same H H') : HandAt H' p q := h.keep (fun o z => e p o z) (fun o z => e q o z)
theorem HandAt.np {H : Hp} {p q x : Addr} (h : HandAt H p q) (e : H x = none) : x ≠ p ∧ x ≠ q := by
  obtain ⟨⟨i, b, c, s, h1⟩, ns, h2, h3⟩ := h
  exact ⟨(ne_of_none h1 e).symm, (ne_of_none h2 e).symm⟩
theorem HandAt.upd {H : Hp} {p q x : Addr} {o : HO} (h : HandAt H p q) (hp : x ≠ p) (hq : x ≠ q) : HandAt (upd H x o) p q :=
  h.keep (fun z e => by rw [upd_ne hp.symm]; exact e) (fun z e => by rw [upd_ne hq.symm]; exact e)
/-- all but p is as it was -/
def Else (p : Addr) (H H' : Hp) : Prop := ∀ b o, H b = some o → b ≠ p → H' b = some o
theorem Else.refl (p : Addr) (H : Hp) : Else p H H := fun _ _ h _ => h
theorem Else.trans {p : Addr} {H H1 H2 : Hp} (a : Else p H H1) (b : Else p H1 H2) : Else p H H2 := fun c o h n => b c o (a c o h n) n
theorem Else.of {p : Addr} {H H' : Hp} (a : Same H H') : Else p H H' := fun c o h _ => a c o h
theorem Else.put {p : Addr} {H : Hp} {o : HO} : Else p H (L2.upd H p o) := fun c u h n => by rw [upd_ne n]; exact h
theorem Else.new {p a : Addr} {H H' : Hp} {o : HO} (e : Else p H H') (h : H' a = none) : Else p H (L2.upd H' a o) := fun c u z n => by
  have y := e c u z n
  rw [upd_ne (ne_of_none y h)]
  exact y
theorem Else.none {p a : Addr} {H H' : Hp} (e : Else p H H') (h : H' a = none) (n : a ≠ p) : H a = none := by
  cases q : H a with
  | none => rfl
  | some o =>
    rw [e a o q n] at h
    cases h
theorem same_new {H : Hp} {a : Addr} {o : HO} (h : H a = none) : Same H (L2.upd H a o) := fun b u e => by
  rw [upd_ne (ne_of_none e h)]
  exact e
/-- a part whose place no run comes to -/
theorem pe_never {X : Cx} {e : Expr} : PE X e (fun _ _ _ => False) := ⟨fun _ _ _ _ _ _ h => h.elim⟩
/-- the built-in names that no module's name hides -/
structure Bt (mg : Str → Option Value) : Prop where
  len : mg "len" = none
  int : mg "int" = none
  list : mg "list" = none
  range : mg "range" = none
  isi : mg "isinstance" = none
  str : mg "str" = none
  bool : mg "bool" = none
  tuple : mg "tuple" = none
  dict : mg "dict" = none
def spHand (K : PySem.W.Frag) : Sp := fun vs H Q _ => ∃ (a : Addr) (ns : List Int), vs = [.ref a] ∧ SqL K H a (ns.map V.int) ∧ ns.length ≤ 63 ∧
  ∀ (p q : Addr) (H' : Hp), H p = none → H q = none → HandAt H' p q → Same H H' → Q (.ref p) H'
def spMixed : Sp := fun vs H Q _ => ∃ x y : Int, vs = [.int x, .int y] ∧ ∀ r : Int, 0 ≤ r → Q (.int r) H
def spDraw : Sp := fun vs H Q _ => ∃ (p q : Addr) (m : Int), vs = [.ref p, .int m] ∧ HandAt H p q ∧ 0 < m ∧ m < 1073741824 ∧
  ∀ (r : Int) (H' : Hp), 0 ≤ r → r < m → HandAt H' p q → Else p H H' → Q (.int r) H'
section
variable {P : Program} {w : World} {K : PySem.W.Frag} {mg : Str → Option Value} {base : Heap}
theorem scMixed : FnScope ["_law_number_here", "_law_count", "_law_first", "_law_second"] ["_law_number_here", "_law_count"] (defScope sMixed) := ⟨rfl, rfl, rfl, by decide +kernel, rfl, by decide +kernel, by decide +kernel⟩
theorem ok_mixed {f : Addr} {fd : FuncData} (F : Fun K "_law_mixed" "_law_mixed" sMixed f fd) (B : Bt mg) : FnOk P w K mg base CX0 1 f fd ["_law_number_here", "_law_count"] spMixed := by
  refine F.ok scMixed (fun vs H Q E h => ?_) (fun cdv A outer s H vs Q E hr h => ?_)
  · obtain ⟨x, y, rfl, _⟩ := h
    rfl
  · obtain ⟨x, y, rfl, k⟩ := h
    refine ⟨_, pss_cons (ps_set (i := 2) scMixed.nd rfl (Or.inl rfl) (pe_op op_mod (pe_callTy call_int1 (by rfl) B.int (by decide +kernel) (pa_cons (pe_op op_add (pe_op op_add (pe_op op_mul (pv 0) pe_int) (pe_op op_mul (pv 1) pe_int)) pe_int) pa_nil)) pe_int))
      (pss_cons (ps_set (i := 3) scMixed.nd rfl (Or.inl rfl) (pe_op op_mod (pe_callTy call_int1 (by rfl) B.int (by decide +kernel) (pa_cons (pe_op op_mul (pv 2) (pe_op op_add (pe_op op_fdiv (pv 2) pe_int) pe_int)) pa_nil)) pe_int))
      (pss_one (ps_ret (pe_op op_mod (pe_callTy call_int1 (by rfl) B.int (by decide +kernel) (pa_cons (pe_op op_add (pe_op op_mul (pv 3) (pe_op op_add (pe_op op_fdiv (pv 3) pe_int) pe_int)) (pe_op op_mul (pv 1) pe_int)) pa_nil)) pe_int)))), ?_⟩
    refine ⟨_, rfl, _, _, rfl, rfl, .inr ⟨by decide, by decide⟩, _, rfl, _, _, rfl, rfl, .inr ⟨by decide, by decide⟩, _, _, rfl, rfl, _, _, rfl, rfl, .inl ⟨_, rfl, _, _, rfl, rfl, (by show (0 : Int) < 2147483647; decide), ?_⟩⟩
    generalize e1 : (x * 48271 + y * 7919 + 30103) % 2147483647 = u
    have u0 : 0 ≤ u := by omega
    have u1 : u < 2147483647 := by omega
    refine ⟨_, rfl, _, rfl, _, _, rfl, rfl, ⟨by decide, by decide⟩, _, _, rfl, rfl, _, _, rfl, rfl, .inl ⟨by omega, by omega⟩, .inl ⟨_, rfl, _, _, rfl, rfl, (by show (0 : Int) < 2147483647; decide), ?_⟩⟩
    generalize e2 : (u * (u / 1009 + 69621)) % 2147483647 = v
    have v0 : 0 ≤ v := by omega
    have v1 : v < 2147483647 := by omega
    refine ⟨_, rfl, _, rfl, _, _, rfl, rfl, ⟨by decide, by decide⟩, _, _, rfl, rfl, _, _, rfl, rfl, .inl ⟨by omega, by omega⟩, _, rfl, _, _, rfl, rfl, .inr ⟨by decide, by decide⟩, _, _, rfl, rfl, .inl ⟨_, rfl, _, _, rfl, rfl, (by show (0 : Int) < 2147483399; decide), ?_⟩⟩
    exact k _ (by omega)
theorem scHand : FnScope ["_law_script", "_law_cells", "_law_seed", "_law_cell"] ["_law_script"] (defScope sHand) := ⟨rfl, rfl, rfl, by decide +kernel, rfl, by decide +kernel, by decide +kernel⟩
theorem ok_hand {f : Addr} {fd : FuncData} (F : Fun K "_law_hand" "_law_hand" sHand f fd) (B : Bt mg) : FnOk P w K mg base CX0 1 f fd ["_law_script"] (spHand K) := by
  refine F.ok scHand (fun vs H Q E h => ?_) (fun cdv A outer s H vs Q E hr h => ?_)
  · obtain ⟨a, ns, rfl, _⟩ := h
    rfl
  · obtain ⟨a, ns, rfl, hS, hlen, k⟩ := h
    refine ⟨_, pss_cons (ps_set (i := 1) scHand.nd rfl (Or.inl rfl) (pe_callTy call_list_of (by rfl) B.list (by decide +kernel) (pa_cons (pe_slice sl_list (pv 0) po_none (po_some pe_int)) pa_nil)))
      (pss_cons (ps_set (i := 2) scHand.nd rfl (Or.inl rfl) pe_int)
      (pss_cons (ps_for PassesOwn.never rfl (pi_list (pv 1)) (pg_name (i := 3) scHand.nd rfl (Or.inl rfl))
        (pss_one (ps_set (i := 2) scHand.nd rfl (Or.inl rfl) (pe_op op_mod (pe_callTy call_int1 (by rfl) B.int (by decide +kernel) (pa_cons (pe_op op_add (pe_op op_add (pe_op op_mul (pv 2) pe_int) (pv 3)) pe_int) pa_nil)) pe_int))))
      (pss_one (ps_ret (pe_lst (pa_cons (pv 1) (pa_cons pe_int (pa_cons pe_int (pa_cons pe_int (pa_cons (pv 2) pa_nil)))))))))), ?_⟩
    -- list(script[:63])
    refine ⟨_, rfl, 63, rfl, a, _, rfl, hS, fun t ht => ⟨t, _, rfl, .inl (SqL.of upd_same), fun q hq => ?_⟩⟩
    have hq0 : H q = none := (same_new ht).free hq
    obtain ⟨ms, em, lm⟩ : ∃ ms : List Int, cutV (ns.map V.int) none (some 63) = ms.map V.int ∧ ms.length ≤ 63 := by
      refine ⟨(ns.drop (HT.sIx ns.length 0 none)).take (HT.sIx ns.length ns.length (some 63) - HT.sIx ns.length 0 none), ?_, ?_⟩
      · unfold cutV
        rw [List.length_map, List.map_take, List.map_drop]
      · rw [List.length_take, List.length_drop]
        omega
    rw [em] at hq ⊢
    have s0 : Same H (upd (upd H t (.lst (ms.map V.int))) q (.lst (ms.map V.int))) := (same_new ht).trans (same_new hq)
    refine ⟨_, rfl, q, rfl, ⟨_, SqL.of upd_same⟩, for_list (K := K) (a := q) (xs := ms.map V.int) (fun i σ H2 => ∃ (z : Int) (v : Option V), σ = [some (.ref a), some (.ref q), some (.int z), v] ∧ H2 = upd (upd H t (.lst (ms.map V.int))) q (.lst (ms.map V.int)))
      ⟨7, none, rfl, rfl⟩ (fun i σ H2 _ ⟨_, _, _, e⟩ => by rw [e]; exact SqL.of upd_same) ?_ ?_⟩
    · rintro i y σ H2 hi ⟨z, v, rfl, rfl⟩
      obtain ⟨n, rfl⟩ : ∃ n, y = V.int n := by
        rw [List.getElem?_map] at hi
        cases e : ms[i]? with
        | none =>
          rw [e] at hi
          cases hi
        | some n =>
          rw [e] at hi
          exact ⟨n, (Option.some.inj hi).symm⟩
      refine ⟨_, rfl, _, _, rfl, rfl, .inr ⟨by decide, by decide⟩, _, rfl, _, _, rfl, rfl, _, _, rfl, rfl, .inl ⟨_, rfl, _, _, rfl, rfl, (by show (0 : Int) < 2147483629; decide), ?_⟩⟩
      exact ⟨_, _, rfl, rfl⟩
    · rintro σ H2 ⟨z, v, rfl, rfl⟩
      refine ⟨_, rfl, _, rfl, (by show 5 ≤ sizeLine; decide), fun p hp => ?_⟩
      have hp0 : H p = none := s0.free hp
      have hqp : q ≠ p := ne_of_none (upd_same (H := upd H t (.lst (ms.map V.int))) (a := q) (o := .lst (ms.map V.int))) hp
      refine k p q _ hp0 hq0 ⟨⟨0, 0, 0, z, upd_same⟩, ms, by rw [upd_ne hqp, upd_same], lm⟩ (s0.trans (same_new hp))
end
end Lw
namespace Lw
open PySem L2
section
variable {P : Program} {w : World} {K : PySem.W.Frag} {mg : Str → Option Value} {base : Heap}
theorem scDraw : FnScope ["_law_hand_here", "_law_many", "_law_cell", "_law_digit"] ["_law_hand_here", "_law_many"] (defScope sDraw) := ⟨rfl, rfl, rfl, by decide +kernel, rfl, by decide +kernel, by decide +kernel⟩
/-- the hand's list -/
abbrev hl (q : Addr) (i : Nat) (b c s : Int) : HO := .lst [.ref q, .int (i : Int), .int b, .int c, .int s]
theorem ok_draw {f fM : Addr} {fd fdM : FuncData} (F : Fun K "_law_draw" "_law_draw" sDraw f fd) (B : Bt mg) (FM : Fun K "_law_mixed" "_law_mixed" sMixed fM fdM) (bM : Binds K fdM ["_law_number_here", "_law_count"] []) (mM : mg "_law_mixed" = some (.ref fM)) :
    FnOk P w K mg base CX0 2 f fd ["_law_hand_here", "_law_many"] spDraw := by
  have GM : FnOk P w K mg base CX0 1 fM fdM ["_law_number_here", "_law_count"] spMixed := ok_mixed FM B
  refine F.ok scDraw (fun vs H Q E h => ?_) (fun cdv A outer s H vs Q E hr h => ?_)
  · obtain ⟨p, q, m, rfl, _⟩ := h
    rfl
  · obtain ⟨p, q, m, rfl, hA, m0, m1, k⟩ := h
    have hqp : q ≠ p := hA.ne
    obtain ⟨⟨i, b, c, z, h1⟩, ns, h2, h3⟩ := hA
    -- behind the first if
    obtain ⟨t2, d2, k2⟩ : ∃ t, PSs (cxOf CX0 P w K mg base ["_law_hand_here", "_law_many", "_law_cell", "_law_digit"] "_law_draw" (defScope sDraw) f cdv A outer s H E).nox ((defBody sDraw).drop 2) t ∧
        ∀ (v : Option V) (i : Nat) (b c z : Int) (H' : Hp), H' p = some (hl q i b c z) → Else p H H' → t { nx := fun _ H' => Q .non H', rt := Q } [some (.ref p), some (.int m), v, none] H' := by
      refine ⟨_, pss_cons (ps_if (pt_cmpR op_gt (pe_ix ix_list (pv 0) pe_int (fun _ _ => rfl)) pe_int (nomark _))
          (pss_cons (ps_set (i := 3) scDraw.nd rfl (Or.inl rfl) (pe_op op_mod (pe_callTy call_int1 (by rfl) B.int (by decide +kernel) (pa_cons (pe_ix ix_list (pv 0) pe_int (fun _ _ => rfl)) pa_nil)) (pv 1)))
          (pss_cons (ps_asg (pe_op op_fdiv (pe_ix ix_list (pv 0) pe_int (fun _ _ => rfl)) (pv 1)) (pg_sub (pv 0) pe_int set_list))
          (pss_one (ps_ret (pv 3))))) pss_nil)
        (pss_one (ps_ret (pe_op op_mod (pe_callTy call_int1 (by rfl) B.int (by decide +kernel) (pa_cons (pe_op op_fdiv (pe_call GM hr rfl mM FM.kp bM .nil pass0 (pa_cons (pe_ix ix_list (pv 0) pe_int (fun _ _ => rfl)) (pa_cons (pe_ix ix_list (pv 0) pe_int (fun _ _ => rfl)) pa_nil))) pe_int) pa_nil)) (pv 1)))), ?_⟩
      intro v i b c z H' g1 e1
      have g2 := e1 q _ h2 hqp
      refine ⟨_, rfl, p, _, _, _, rfl, rfl, SqL.of g1, at_of (j := 2) rfl rfl, _, _, rfl, rfl, _, rfl, ?_⟩
      refine ite2 (fun hb => ?_) (fun hb => ?_)
      · refine ⟨_, rfl, p, _, _, _, rfl, rfl, SqL.of g1, at_of (j := 2) rfl rfl, .inl ⟨_, rfl, _, rfl, _, _, rfl, rfl, m0, ?_⟩⟩
        refine ⟨_, rfl, p, _, _, _, rfl, rfl, SqL.of g1, at_of (j := 2) rfl rfl, _, rfl, _, _, rfl, rfl, ⟨m0, m1⟩, _, rfl, p, _, _, 2, rfl, rfl, g1, rfl, ?_⟩
        refine ⟨_, rfl, k _ _ (Int.emod_nonneg _ (by omega)) (Int.emod_lt_of_pos _ m0) ⟨⟨i, _, c, z, upd_same⟩, ns, by rw [upd_ne hqp]; exact g2, h3⟩ (e1.trans Else.put)⟩
      · refine ⟨_, rfl, p, _, _, _, rfl, rfl, SqL.of g1, at_of (j := 4) rfl rfl, _, rfl, p, _, _, _, rfl, rfl, SqL.of g1, at_of (j := 3) rfl rfl, _, _, rfl, fun r hr0 => ⟨_, _, rfl, rfl, ⟨by decide, by decide⟩, .inl ⟨_, rfl, _, rfl, _, _, rfl, rfl, m0, ?_⟩⟩⟩
        exact k _ _ (Int.emod_nonneg _ (by omega)) (Int.emod_lt_of_pos _ m0) ⟨⟨i, b, c, z, g1⟩, ns, g2, h3⟩ e1
    refine ⟨_, pss_cons (ps_asg (pe_op op_add (pe_ix ix_list (pv 0) pe_int (fun _ _ => rfl)) pe_int) (pg_sub (pv 0) pe_int set_list))
      (pss_cons (ps_if (pw_and (pt_cmpR op_eq (pe_ix ix_list (pv 0) pe_int (fun _ _ => rfl)) pe_int (nomark _))
          (pw_and1 (pt_cmpR op_lt (pe_ix ix_list (pv 0) pe_int (fun _ _ => rfl)) (pe_callB call_len_seq (by rfl) B.len PySem.boot_len (pa_cons (pe_ix ix_list (pv 0) pe_int (fun _ _ => rfl)) pa_nil)) (nomark _)))).pt
        (pss_cons (ps_set (i := 2) scDraw.nd rfl (Or.inl rfl) (pe_ix ix_list (pe_ix ix_list (pv 0) pe_int (fun _ _ => rfl)) (pe_ix ix_list (pv 0) pe_int (fun _ _ => rfl)) (fun _ _ => rfl)))
        (pss_cons (ps_asg (pe_op op_add (pe_ix ix_list (pv 0) pe_int (fun _ _ => rfl)) pe_int) (pg_sub (pv 0) pe_int set_list))
        (pss_cons (ps_if (pt_cmpR op_lt (pv 2) (pe_op op_pow pe_int pe_int) (nomark _))
          (pss_one (ps_ret (pe_op op_mod (pe_callTy call_int1 (by rfl) B.int (by decide +kernel) (pa_cons (pe_op op_fdiv (pe_call GM hr rfl mM FM.kp bM .nil pass0 (pa_cons (pe_op op_add (pv 2) (pe_ix ix_list (pv 0) pe_int (fun _ _ => rfl))) (pa_cons (pe_ix ix_list (pv 0) pe_int (fun _ _ => rfl)) pa_nil))) pe_int) pa_nil)) (pv 1)))) pss_nil)
        (pss_one (ps_asg (pv 2) (pg_sub (pv 0) pe_int set_list)))))) pss_nil) d2), ?_⟩
    -- hand[3] = hand[3] + 1
    refine ⟨_, rfl, p, _, _, _, rfl, rfl, SqL.of h1, at_of (j := 3) rfl rfl, _, _, rfl, rfl, _, rfl, p, _, _, 3, rfl, rfl, h1, rfl, ?_⟩
    have g1 : upd H p (.lst (List.set [V.ref q, .int (i : Int), .int b, .int c, .int z] 3 (.int (c + 1)))) p = some (hl q i b (c + 1) z) := upd_same
    have g2 : upd H p (.lst (List.set [V.ref q, .int (i : Int), .int b, .int c, .int z] 3 (.int (c + 1)))) q = some (.lst (ns.map V.int)) := by rw [upd_ne hqp]; exact h2
    have e1 : Else p H (upd H p (.lst (List.set [V.ref q, .int (i : Int), .int b, .int c, .int z] 3 (.int (c + 1))))) := Else.put
    generalize upd H p (.lst (List.set [V.ref q, .int (i : Int), .int b, .int c, .int z] 3 (.int (c + 1)))) = H1 at g1 g2 e1
    -- hand[2] == 0
    refine ⟨_, rfl, p, _, _, _, rfl, rfl, SqL.of g1, at_of (j := 2) rfl rfl, rfl, _, rfl, ?_⟩
    refine ite2 (fun hb => ?_) (fun hb => iteF (k2 _ _ _ _ _ _ g1 e1))
    -- hand[1] < len(hand[0])
    refine ⟨_, rfl, p, _, _, _, rfl, rfl, SqL.of g1, at_of (j := 1) rfl rfl, _, rfl, p, _, _, _, rfl, rfl, SqL.of g1, at_of (j := 0) rfl rfl, q, _, rfl, .inl (SqL.of g2), _, _, rfl, rfl, _, rfl, ?_⟩
    refine ite2 (fun hi => ?_) (fun hi => k2 _ _ _ _ _ _ g1 e1)
    have hi' : (i : Int) < ((ns.map V.int).length : Int) := of_decide_eq_true hi
    rw [List.length_map] at hi'
    obtain ⟨n, hn⟩ : ∃ n, ns[i]? = some n := ⟨ns[i]'(by omega), List.getElem?_eq_getElem (by omega)⟩
    have hn' : (ns.map V.int)[i]? = some (V.int n) := by rw [List.getElem?_map, hn]; rfl
    -- cell = hand[0][hand[1]]; hand[1] = hand[1] + 1
    refine ⟨_, rfl, p, _, _, _, rfl, rfl, SqL.of g1, at_of (j := 0) rfl rfl, _, rfl, p, _, _, _, rfl, rfl, SqL.of g1, at_of (j := 1) rfl rfl, q, _, _, _, rfl, rfl, SqL.of g2, atI_nat hn', ?_⟩
    refine ⟨_, rfl, p, _, _, _, rfl, rfl, SqL.of g1, at_of (j := 1) rfl rfl, _, _, rfl, rfl, _, rfl, p, _, _, 1, rfl, rfl, g1, rfl, ?_⟩
    have f1 : upd H1 p (.lst (List.set [V.ref q, .int (i : Int), .int b, .int (c + 1), .int z] 1 (.int ((i : Int) + 1)))) p = some (hl q (i + 1) b (c + 1) z) := upd_same
    have f2 : upd H1 p (.lst (List.set [V.ref q, .int (i : Int), .int b, .int (c + 1), .int z] 1 (.int ((i : Int) + 1)))) q = some (.lst (ns.map V.int)) := by rw [upd_ne hqp]; exact g2
    have e2 : Else p H (upd H1 p (.lst (List.set [V.ref q, .int (i : Int), .int b, .int (c + 1), .int z] 1 (.int ((i : Int) + 1))))) := e1.trans Else.put
    generalize upd H1 p (.lst (List.set [V.ref q, .int (i : Int), .int b, .int (c + 1), .int z] 1 (.int ((i : Int) + 1)))) = H2 at f1 f2 e2
    -- cell < 10 ** 18
    refine ⟨_, rfl, _, _, rfl, rfl, ⟨by decide, by decide, by decide⟩, _, _, rfl, rfl, _, rfl, ?_⟩
    refine ite2 (fun hc => ?_) (fun hc => ?_)
    · refine ⟨_, rfl, _, rfl, p, _, _, _, rfl, rfl, SqL.of f1, at_of (j := 4) rfl rfl, _, _, rfl, rfl, _, rfl, p, _, _, _, rfl, rfl, SqL.of f1, at_of (j := 3) rfl rfl, _, _, rfl, fun r hr0 => ⟨_, _, rfl, rfl, ⟨by decide, by decide⟩, .inl ⟨_, rfl, _, rfl, _, _, rfl, rfl, m0, ?_⟩⟩⟩
      exact k _ _ (Int.emod_nonneg _ (by omega)) (Int.emod_lt_of_pos _ m0) ⟨⟨_, _, _, _, f1⟩, ns, f2, h3⟩ e2
    · refine ⟨_, rfl, _, rfl, p, _, _, 2, rfl, rfl, f1, rfl, ?_⟩
      exact k2 _ (i + 1) n (c + 1) z _ upd_same (e2.trans Else.put)
end
end Lw
namespace Lw
open PySem L2
abbrev sSame : Stmt := top 48
def Atom : V → Prop
  | .non => True
  | .bl _ => True
  | .int _ => True
  | .str _ => True
  | _ => False
/-- x and y hold the same data, n deep -/
def Eqv (H : Hp) : Nat → V → V → Prop
  | 0, x, y => x = y ∧ Atom x
  | n + 1, x, y => (x = y ∧ Atom x) ∨ ∃ (a b : Addr) (xs ys : List V), x = .ref a ∧ y = .ref b ∧ ((H a = some (.lst xs) ∧ H b = some (.lst ys)) ∨ (H a = some (.tup xs) ∧ H b = some (.tup ys))) ∧
      xs.length = ys.length ∧ xs.length ≤ 1000 ∧ ∀ (i : Nat) (u v : V), xs[i]? = some u → ys[i]? = some v → Eqv H n u v
theorem Eqv.atom {H : Hp} {x : V} (h : Atom x) : ∀ n, Eqv H n x x
  | 0 => ⟨rfl, h⟩
  | _ + 1 => .inl ⟨rfl, h⟩
theorem Eqv.same {H H' : Hp} (s : Same H H') : ∀ {n : Nat} {x y : V}, Eqv H n x y → Eqv H' n x y
  | 0, _, _, h => h
  | n + 1, x, y, h => by
    rcases h with h | ⟨a, b, xs, ys, e1, e2, h1, h2, h3, h4⟩
    · exact .inl h
    · refine .inr ⟨a, b, xs, ys, e1, e2, ?_, h2, h3, fun i u v p q => Eqv.same s (h4 i u v p q)⟩
      rcases h1 with ⟨p, q⟩ | ⟨p, q⟩
      · exact .inl ⟨s _ _ p, s _ _ q⟩
      · exact .inr ⟨s _ _ p, s _ _ q⟩
theorem Eqv.up {H : Hp} : ∀ {n : Nat} {x y : V}, Eqv H n x y → Eqv H (n + 1) x y
  | 0, _, _, h => .inl h
  | n + 1, x, y, h => by
    rcases h with h | ⟨a, b, xs, ys, e1, e2, h1, h2, h3, h4⟩
    · exact .inl h
    · exact .inr ⟨a, b, xs, ys, e1, e2, h1, h2, h3, fun i u v p q => (h4 i u v p q).up⟩
theorem isi_of {K : PySem.W.Frag} {H : Hp} {x : V} {n T : String} {b : Bool} {Q : VK} (ty : TyX K H x (.type n)) (h : kitB n T = some b) (q : Q (.bl b) H) : rIsi K [x, .ty T] H Q :=
  ⟨x, .ty T, .type n, .type T, b, rfl, .ty T, ty, kit_ty h, q⟩
def spSame (n : Nat) : Sp := fun vs H Q _ => ∃ x y : V, vs = [x, y] ∧ Eqv H n x y ∧ ∀ H', Same H H' → Q (.bl true) H'
section
variable {P : Program} {w : World} {K : PySem.W.Frag} {mg : Str → Option Value} {base : Heap}
theorem scSame : FnScope ["_law_actual", "_law_expected", "_law_key", "_law_k"] ["_law_actual", "_law_expected"] (defScope sSame) := ⟨rfl, rfl, rfl, by decide +kernel, rfl, by decide +kernel, by decide +kernel⟩
/-- one turn of _law_same's recursion -/
theorem ok_same_of {f : Addr} {fd : FuncData} (F : Fun K "_law_same" "_law_same" sSame f fd) (B : Bt mg) (b0 : Binds K fd ["_law_actual", "_law_expected"] []) (m0 : mg "_law_same" = some (.ref f)) (n : Nat)
    (G : ∀ m, n = m + 1 → FnOk P w K mg base CX0 n f fd ["_law_actual", "_law_expected"] (spSame m)) : FnOk P w K mg base CX0 (n + 1) f fd ["_law_actual", "_law_expected"] (spSame n) := by
  refine F.ok scSame (fun vs H Q E h => ?_) (fun cdv A outer s H vs Q E hr h => ?_)
  · obtain ⟨x, y, rfl, _⟩ := h
    rfl
  · obtain ⟨x, y, rfl, hE, k⟩ := h
    -- what is no atom
    obtain ⟨t5, d5, k5⟩ : ∃ t, PSs (cxOf CX0 P w K mg base ["_law_actual", "_law_expected", "_law_key", "_law_k"] "_law_same" (defScope sSame) f cdv A outer s H E).nox ((defBody sSame).drop 5) t ∧
        ∀ (m : Nat) (a b : Addr) (xs ys : List V), n = m + 1 → ((H a = some (.lst xs) ∧ H b = some (.lst ys)) ∨ (H a = some (.tup xs) ∧ H b = some (.tup ys))) →
          xs.length = ys.length → xs.length ≤ 1000 → (∀ (i : Nat) (u v : V), xs[i]? = some u → ys[i]? = some v → Eqv H m u v) → (x = .ref a ∧ y = .ref b) →
          t { nx := fun _ H' => Q .non H', rt := Q } [some (.ref a), some (.ref b), none, none] H := by
      cases n with
      | zero => exact ⟨_, pss_never, fun m _ _ _ _ e => nomatch e⟩
      | succ m =>
        have GS := G m rfl
        refine ⟨_, pss_cons (ps_if (pw_or (pt_cmpR op_ne (pe_callB call_isi (by rfl) B.isi (by decide +kernel) (pa_cons (pv 1) (pa_cons (pe_bltn (v := .ty "tuple") (by rfl) B.tuple (by decide +kernel) rfl) pa_nil)))
              (pe_callB call_isi (by rfl) B.isi (by decide +kernel) (pa_cons (pv 0) (pa_cons (pe_bltn (v := .ty "tuple") (by rfl) B.tuple (by decide +kernel) rfl) pa_nil))) (nomark _))
            (pw_or1 (pt_not (pt_val (pe_callB call_isiT (by rfl) B.isi (by decide +kernel) (pa_cons (pv 0) (pa_cons (pe_tup (pa_cons (pe_bltn (v := .ty "tuple") (by rfl) B.tuple (by decide +kernel) rfl) (pa_cons (pe_bltn (v := .ty "list") (by rfl) B.list (by decide +kernel) rfl) pa_nil))) pa_nil))))))).pt pss_never pss_nil)
          (pss_cons (ps_if (pt_cmpR op_ne (pe_callB call_len_seq (by rfl) B.len PySem.boot_len (pa_cons (pv 0) pa_nil)) (pe_callB call_len_seq (by rfl) B.len PySem.boot_len (pa_cons (pv 1) pa_nil)) (nomark _)) pss_never pss_nil)
          (pss_one (ps_ret (pe_cmpR op_eq (pe_callB call_len_seq (by rfl) B.len PySem.boot_len (pa_cons
            (pe_lc (own := [("_law_k", 3)]) (g := gName 3) (by rfl) scSame.nd (pi_range1 rfl B.range (pa_cons (pe_callB call_len_seq (by rfl) B.len PySem.boot_len (pa_cons (pv 1) pa_nil)) pa_nil))
              (blkOk_by (own := [("_law_k", 3)]) (N := ["_law_actual", "_law_expected", "_law_key", "_law_k"]) (sc := defScope sSame) (by decide +kernel)) (fun _ _ _ _ _ => pg_name (i := 3) scSame.nd rfl (Or.inl rfl))
              (fun _ _ _ _ _ => pts_one (pt_not (pt_val (pe_call GS hr rfl m0 F.kp b0 .nil pass0 (pa_cons (pe_ix (r := rIx K) ix_seq (pv 0) (pv 3) (fun _ _ => rfl)) (pa_cons (pe_ix (r := rIx K) ix_seq (pv 1) (pv 3) (fun _ _ => rfl)) pa_nil))))))
              (fun _ _ _ _ _ => pv 3)) pa_nil)) pe_int (nomark _))))), ?_⟩
        intro m' a b xs ys em hk hl hz hp hxy
        obtain rfl : m' = m := by omega
        -- both are of one kind
        obtain ⟨T, tx, ty, e1, e2⟩ : ∃ T : Bool, (∀ H', Same H H' → TyX K H' (.ref a) (.type (if T then "tuple" else "list"))) ∧ TyX K H (.ref b) (.type (if T then "tuple" else "list")) ∧ kitB (if T then "tuple" else "list") "tuple" = some T ∧
            ∀ H', Same H H' → (SqL K H' a xs ∧ SqL K H' b ys) ∨ (SqT K H' a xs ∧ SqT K H' b ys) := by
          rcases hk with ⟨p, q⟩ | ⟨p, q⟩
          · exact ⟨false, fun H' s => .base (.lst (s _ _ p)), .base (.lst q), by decide +kernel, fun H' s => .inl ⟨SqL.of (s _ _ p), SqL.of (s _ _ q)⟩⟩
          · exact ⟨true, fun H' s => .base (.tup (s _ _ p)), .base (.tup q), by decide +kernel, fun H' s => .inr ⟨SqT.of (s _ _ p), SqT.of (s _ _ q)⟩⟩
        have lenA : ∀ H', Same H H' → SqL K H' a xs ∨ SqT K H' a xs := fun H' s => (e2 H' s).elim (fun z => .inl z.1) fun z => .inr z.1
        have lenB : ∀ H', Same H H' → SqL K H' b ys ∨ SqT K H' b ys := fun H' s => (e2 H' s).elim (fun z => .inl z.2) fun z => .inr z.2
        have any : kitB (if T then "tuple" else "list") "list" = some (!T) := by cases T <;> decide +kernel
        refine ⟨_, rfl, _, _, _, _, T, rfl, .ty _, ty, kit_ty e1, _, rfl, _, _, _, _, T, rfl, .ty _, tx H (Same.refl H), kit_ty e1, rfl, _, rfl, ?_⟩
        rw [decide_eq_true (p := V.bl T = V.bl T) rfl]
        refine iteF ⟨_, rfl, (by show 2 ≤ sizeLine; decide), fun tp htp => ⟨_, tp, _, _, _, true, rfl, upd_same, .cons (.ty _) (.cons (.ty _) .nil), tx _ (same_new htp), kitAny_cons (kit_ty e1) (fun z => kitAny_cons (kit_ty any) (fun z' => by rw [z] at z'; cases z') (fun _ => rfl)) (fun _ => rfl), _, rfl, iteF ?_⟩⟩
        -- len(actual) != len(expected)
        refine ⟨_, rfl, a, xs, rfl, lenA _ (same_new htp), _, rfl, b, ys, rfl, lenB _ (same_new htp), rfl, _, rfl, iteNS (by rw [hl]) ?_⟩
        -- the comprehension's list stays empty
        refine ⟨_, rfl, b, ys, rfl, lenB _ (same_new htp), ys.length, rfl, (by omega), (by omega), fun D hD => ?_⟩
        have sD : Same H (upd (upd H tp (.tup [V.ty "tuple", V.ty "list"])) D (.lst [])) := (same_new htp).trans (same_new hD)
        refine lc_range (lo := 0) (n := ys.length) (fun i H' => Same (upd (upd H tp (.tup [V.ty "tuple", V.ty "list"])) D (.lst [])) H') (Same.refl _) ?_ ?_
        · intro i H' hi hs
          obtain ⟨u, hu⟩ : ∃ u, xs[i]? = some u := ⟨xs[i]'(by omega), List.getElem?_eq_getElem (by omega)⟩
          obtain ⟨v, hv⟩ : ∃ v, ys[i]? = some v := ⟨ys[i]'(by omega), List.getElem?_eq_getElem (by omega)⟩
          have s2 : Same H H' := sD.trans hs
          have ux : ∀ Q : VK, Q u H' → rIx K (.ref a) (.int (0 + (i : Int))) H' Q := fun Q q => by
            rcases e2 H' s2 with ⟨z, _⟩ | ⟨z, _⟩
            · exact .inl ⟨a, xs, _, u, rfl, rfl, z, at_of (Int.zero_add _) hu, q⟩
            · exact .inr (.inl ⟨a, xs, _, u, rfl, rfl, z, at_of (Int.zero_add _) hu, q⟩)
          have vx : ∀ Q : VK, Q v H' → rIx K (.ref b) (.int (0 + (i : Int))) H' Q := fun Q q => by
            rcases e2 H' s2 with ⟨_, z⟩ | ⟨_, z⟩
            · exact .inl ⟨b, ys, _, v, rfl, rfl, z, at_of (Int.zero_add _) hv, q⟩
            · exact .inr (.inl ⟨b, ys, _, v, rfl, rfl, z, at_of (Int.zero_add _) hv, q⟩)
          refine ⟨rfl, _, rfl, _, rfl, ux _ ⟨_, rfl, _, rfl, vx _ ⟨u, v, rfl, (hp i u v hu hv).same s2, fun H3 s3 => ⟨_, rfl, iteF (hs.trans s3)⟩⟩⟩⟩
        · intro H' hs
          refine ⟨D, [], rfl, .inl (SqL.of (hs _ _ upd_same)), rfl, ?_⟩
          exact k H' (sD.trans hs)
    refine ⟨_, pss_cons (ps_if (pt_cmp (pc_isN (pv 1))) (pss_one (ps_ret (pe_cmp (pc_isN (pv 0))))) pss_nil)
        (pss_cons (ps_if (pt_val (pe_callB call_isi (by rfl) B.isi (by decide +kernel) (pa_cons (pv 1) (pa_cons (pe_bltn (v := .ty "bool") (by rfl) B.bool (by decide +kernel) rfl) pa_nil))))
          (pss_one (ps_ret (pe_and (pe_callB call_isi (by rfl) B.isi (by decide +kernel) (pa_cons (pv 0) (pa_cons (pe_bltn (v := .ty "bool") (by rfl) B.bool (by decide +kernel) rfl) pa_nil))) (pe_one (pe_cmpR op_eq (pv 0) (pv 1) (nomark _)))))) pss_nil)
        (pss_cons (ps_if (pt_val (pe_callB call_isi (by rfl) B.isi (by decide +kernel) (pa_cons (pv 1) (pa_cons (pe_bltn (v := .ty "int") (by rfl) B.int (by decide +kernel) rfl) pa_nil))))
          (pss_one (ps_ret (pe_and (pe_callB call_isi (by rfl) B.isi (by decide +kernel) (pa_cons (pv 0) (pa_cons (pe_bltn (v := .ty "int") (by rfl) B.int (by decide +kernel) rfl) pa_nil)))
            (pe_and (pe_not (pe_callB call_isi (by rfl) B.isi (by decide +kernel) (pa_cons (pv 0) (pa_cons (pe_bltn (v := .ty "bool") (by rfl) B.bool (by decide +kernel) rfl) pa_nil)))) (pe_one (pe_cmpR op_eq (pv 0) (pv 1) (nomark _))))))) pss_nil)
        (pss_cons (ps_if (pt_val (pe_callB call_isi (by rfl) B.isi (by decide +kernel) (pa_cons (pv 1) (pa_cons (pe_bltn (v := .ty "str") (by rfl) B.str (by decide +kernel) rfl) pa_nil))))
          (pss_one (ps_ret (pe_and (pe_callB call_isi (by rfl) B.isi (by decide +kernel) (pa_cons (pv 0) (pa_cons (pe_bltn (v := .ty "str") (by rfl) B.str (by decide +kernel) rfl) pa_nil))) (pe_one (pe_cmpR op_eq (pv 0) (pv 1) (nomark _)))))) pss_nil)
        (pss_cons (ps_if (pt_val (pe_callB call_isi (by rfl) B.isi (by decide +kernel) (pa_cons (pv 1) (pa_cons (pe_bltn (v := .ty "dict") (by rfl) B.dict (by decide +kernel) rfl) pa_nil)))) pss_never pss_nil) d5)))), ?_⟩
    have cases : (x = y ∧ Atom x) ∨ ∃ (m : Nat) (a b : Addr) (xs ys : List V), n = m + 1 ∧ x = .ref a ∧ y = .ref b ∧ ((H a = some (.lst xs) ∧ H b = some (.lst ys)) ∨ (H a = some (.tup xs) ∧ H b = some (.tup ys))) ∧
          xs.length = ys.length ∧ xs.length ≤ 1000 ∧ ∀ (i : Nat) (u v : V), xs[i]? = some u → ys[i]? = some v → Eqv H m u v := by
      cases n with
      | zero => exact .inl hE
      | succ m =>
        rcases hE with z | ⟨a, b, xs, ys, z⟩
        · exact .inl z
        · exact .inr ⟨m, a, b, xs, ys, rfl, z⟩
    rcases cases with ⟨rfl, ha⟩ | ⟨m, a, b, xs, ys, em, rfl, rfl, hk, hl, hz, hp⟩
    · cases x with
      | non =>
        refine ⟨_, rfl, _, rfl, iteT ⟨_, rfl, ?_⟩⟩
        exact k H (Same.refl H)
      | bl c =>
        refine ⟨_, rfl, _, rfl, iteF ⟨_, rfl, _, _, _, _, true, rfl, .ty _, .base (.bl c), kit_ty (by decide +kernel), ⟨_, rfl, iteT ⟨_, rfl, _, _, _, _, true, rfl, .ty _, .base (.bl c), kit_ty (by decide +kernel), ⟨_, rfl, iteT ⟨_, rfl, _, rfl, rfl, ?_⟩⟩⟩⟩⟩⟩
        rw [decide_eq_true (p := V.bl c = V.bl c) rfl]
        exact k H (Same.refl H)
      | int c =>
        refine ⟨_, rfl, _, rfl, iteF ⟨_, rfl, _, _, _, _, false, rfl, .ty _, .base (.int c), kit_ty (by decide +kernel), ⟨_, rfl, iteF ⟨_, rfl, _, _, _, _, true, rfl, .ty _, .base (.int c), kit_ty (by decide +kernel), ⟨_, rfl, iteT ⟨_, rfl, _, _, _, _, true, rfl, .ty _, .base (.int c), kit_ty (by decide +kernel), ⟨_, rfl, iteT ⟨_, rfl, _, _, _, _, false, rfl, .ty _, .base (.int c), kit_ty (by decide +kernel), ⟨_, rfl, _, rfl, iteT ⟨_, rfl, _, rfl, rfl, ?_⟩⟩⟩⟩⟩⟩⟩⟩⟩⟩
        rw [decide_eq_true (p := V.int c = V.int c) rfl]
        exact k H (Same.refl H)
      | str c =>
        refine ⟨_, rfl, _, rfl, iteF ⟨_, rfl, _, _, _, _, false, rfl, .ty _, .base (.str c), kit_ty (by decide +kernel), ⟨_, rfl, iteF ⟨_, rfl, _, _, _, _, false, rfl, .ty _, .base (.str c), kit_ty (by decide +kernel), ⟨_, rfl, iteF ⟨_, rfl, _, _, _, _, true, rfl, .ty _, .base (.str c), kit_ty (by decide +kernel), ⟨_, rfl, iteT ⟨_, rfl, _, _, _, _, true, rfl, .ty _, .base (.str c), kit_ty (by decide +kernel), ⟨_, rfl, iteT ⟨_, rfl, _, rfl, rfl, ?_⟩⟩⟩⟩⟩⟩⟩⟩⟩⟩
        rw [decide_eq_true (p := V.str c = V.str c) rfl]
        exact k H (Same.refl H)
      | _ => exact ha.elim
    · have q := k5 m a b xs ys em hk hl hz hp ⟨rfl, rfl⟩
      rcases hk with ⟨p1, p2⟩ | ⟨p1, p2⟩
      · exact ⟨_, rfl, _, rfl, iteF ⟨_, rfl, _, _, _, _, false, rfl, .ty _, .base (.lst p2), kit_ty (by decide +kernel), _, rfl, iteF ⟨_, rfl, _, _, _, _, false, rfl, .ty _, .base (.lst p2), kit_ty (by decide +kernel), _, rfl, iteF ⟨_, rfl, _, _, _, _, false, rfl, .ty _, .base (.lst p2), kit_ty (by decide +kernel), _, rfl, iteF ⟨_, rfl, _, _, _, _, false, rfl, .ty _, .base (.lst p2), kit_ty (by decide +kernel), _, rfl, iteF q⟩⟩⟩⟩⟩
      · exact ⟨_, rfl, _, rfl, iteF ⟨_, rfl, _, _, _, _, false, rfl, .ty _, .base (.tup p2), kit_ty (by decide +kernel), _, rfl, iteF ⟨_, rfl, _, _, _, _, false, rfl, .ty _, .base (.tup p2), kit_ty (by decide +kernel), _, rfl, iteF ⟨_, rfl, _, _, _, _, false, rfl, .ty _, .base (.tup p2), kit_ty (by decide +kernel), _, rfl, iteF ⟨_, rfl, _, _, _, _, false, rfl, .ty _, .base (.tup p2), kit_ty (by decide +kernel), _, rfl, iteF q⟩⟩⟩⟩⟩
theorem ok_same {f : Addr} {fd : FuncData} (F : Fun K "_law_same" "_law_same" sSame f fd) (B : Bt mg) (b0 : Binds K fd ["_law_actual", "_law_expected"] []) (m0 : mg "_law_same" = some (.ref f)) :
    ∀ n : Nat, FnOk P w K mg base CX0 (n + 1) f fd ["_law_actual", "_law_expected"] (spSame n) := by
  intro n
  induction n with
  | zero => exact ok_same_of F B b0 m0 0 fun m e => nomatch e
  | succ n ih =>
    refine ok_same_of F B b0 m0 (n + 1) fun m e => ?_
    obtain rfl : n = m := by omega
    exact ih
end
end Lw
/-! exceptions of the program's own classes, held as values: made (by position, by keywords, without arguments), their attributes read, asked by isinstance -/
namespace Xv
open PySem PySem.Spec PySem.W PySem.Calls L2
section
open Builtin Builtin.ObjectAttr
variable {M : Model} {prog : Program} {w : World} {A : Around} {E : Value → Shared → Prop} {R : Result → Shared → Prop} {hp : Heap} {gs : Array GenState} {dr : Drawn} {tk : Nat} {os : OsState}
variable {nm q : Str} {C N : Addr} {bs bm bmB : List Value} {hdct : Bool} {sn : List Str} {sub : List Value} {ab : Bool} {col : Option Bool} {dd : Option Addr} {k0 k1 k2 k3 k5 : Option Value} {B newId initId : String}
theorem chk_new (F : ExcBaseFacts B newId initId bmB) (hT : ∀ Y : String, bm.contains (.type Y) = bmB.contains (.type Y)) {ar : List Value} {kw : List (Str × Value)} {Q : Unit → Shared → Prop}
    (hC : hp.get? C = some (excClassObj nm q C N bs bm hdct sn sub ab col dd k0 k1 k2 k3 k5 newId)) (z : Q () ⟨hp, gs, dr, tk, os⟩) :
    wpAny M A (checkBuiltinCall newId ⟨.ref C :: ar, kw⟩) Q E ⟨hp, gs, dr, tk, os⟩ := by
  have inB : (Value.ref C :: bm).contains (.type B) = true := by (rw [List.contains_cons, hT, F.hasB]; exact Bool.or_true _)
  have st := F.noStar
  simp only [F.newKind, F.newSplit, F.newRow, checkBuiltinCall]
  repeat (first | (refine wpAny_isSubtype_exc hC ?_; rw [inB]) | refine wpAny_loadPart_at hC ?_ | refine wpAny_madeBy_exc hC ?_ | refine wpAny_staticBase_exc hC ?_ | simp only [Bool.false_eq_true, bne_self_eq_false, if_false] | wp_step)
  exact z
theorem do_new (F : ExcBaseFacts B newId initId bmB) (hT : ∀ Y : String, bm.contains (.type Y) = bmB.contains (.type Y)) {ar : List Value} {kw : List (Str × Value)}
    (hC : hp.get? C = some (excClassObj nm q C N bs bm hdct sn sub ab col dd k0 k1 k2 k3 k5 newId)) (few : ar.length ≤ sizeLine)
    (z : R (.ok (.ret (.ref (hp.objs.size + 1)))) ⟨(hp.push (W.kdv_tup ar)).push (HandSPX.excO C hp.objs.size), gs, dr, tk, os⟩) :
    codeAny (model prog w) A (.builtin newId ⟨.ref C :: ar, kw⟩) R ⟨hp, gs, dr, tk, os⟩ := by
  have he := F.ends
  have inB : (Value.ref C :: bm).contains (.type B) = true := by (rw [List.contains_cons, hT, F.hasB]; exact Bool.or_true _)
  have inA : (Value.ref C :: bm).contains (.type "AttributeError") = false := by (rw [List.contains_cons, hT, F.noAttr]; exact rfl)
  have inN : (Value.ref C :: bm).contains (.type "NameError") = false := by (rw [List.contains_cons, hT, F.noName]; exact rfl)
  refine codeAny_builtinAt F.entry ?_
  unfold Builtin.«BaseException.__new__»
  refine wpAt_bind (show PySem.wpAt _ _ _ (stack >>= _) _ _ _ from wpAt_bind (wpAt_stack fun pp bb => wpAt_of_wpAny ?_))
  wp_walk
  refine wpAt_of_wpAny ?_
  rw [F.owner]
  repeat (first | (with_reducible refine wpAny_isSubtype_exc hC ?_; first | rw [inA] | rw [inN] | rw [inB]) | with_reducible refine wpAny_loadPart_at hC ?_ | with_reducible refine wpAny_madeHere_exc F.canon hC ?_ | wp_step)
  show R _ _
  rw [Heap.size_push]
  exact z
theorem do_type (F : ExcBaseFacts B newId initId bmB) (hT : ∀ Y : String, bm.contains (.type Y) = bmB.contains (.type Y)) {ar : List Value} {kw : List (Str × Value)} {fI : Addr} {Q : Fin → Shared → Prop}
    (hC : hp.get? C = some (excClassObj nm q C N bs bm hdct sn sub ab col dd k0 k1 k2 k3 k5 newId)) (few : ar.length ≤ sizeLine)
    (li : W.Looks (model prog w) hp (typeLookup (.ref C) "__init__") (some (.ref fI))) (lb : ∀ me, W.Looks (model prog w) hp (bindSpecial (.ref fI) me) (.ref fI, [me]))
    (z : codeAny (model prog w) A (.call (.ref fI) ⟨.ref (hp.objs.size + 1) :: ar, kw⟩)
      (fun r s' => match r with | .ok (.ret v) => v = .none ∧ Q (.done (.ret (.ref (hp.objs.size + 1)))) s' | .ok _ => False | .error e => E e s') ⟨(hp.push (W.kdv_tup ar)).push (HandSPX.excO C hp.objs.size), gs, dr, tk, os⟩) :
    wpAny (model prog w) A (Builtin.«type.__call__» ⟨.ref C :: ar, kw⟩) Q E ⟨hp, gs, dr, tk, os⟩ := by
  repeat (first | with_reducible refine wpAny_madeBy_exc hC ?_ | with_reducible refine wpAny_loadPart_at hC ?_ | wp_step)
  refine codeAny_call_builtin_code (Code.quiet_builtin _ F.quiet) (chk_new F hT hC (do_new F hT hC few ?_))
  show wpAny _ _ _ _ _ _
  have kp : ∀ b o, hp.get? b = some o → ((hp.push (W.kdv_tup ar)).push (HandSPX.excO C hp.objs.size)).get? b = some o := fun b o y => Heap.get?_push_of_some _ (Heap.get?_push_of_some _ y)
  have atC := kp _ _ hC
  have atE : ((hp.push (W.kdv_tup ar)).push (HandSPX.excO C hp.objs.size)).get? (hp.objs.size + 1) = some (HandSPX.excO C hp.objs.size) := by (heap_get)
  have own : (Value.ref C :: bm).contains (.ref C) = true := by (simp)
  have l1 := li.keeps kp
  have l2 := (lb (.ref (hp.objs.size + 1))).keeps kp
  unfold isInstance
  repeat (first | (with_reducible refine wpAny_isSubtype_exc atC ?_; rw [own]) | with_reducible refine wpAny_loadPart_at atE ?_ | wp_step)
  refine (show wpAny _ _ (typeLookup (.ref C) _) _ _ _ from l1.at (wpAny_holding (wpAny_bind (l2.at ?_))))
  refine wpAny_bind (wpAny_call (codeAny_mono z fun r s' y => ?_))
  cases r with
  | error e => exact y
  | ok fl =>
    cases fl with
    | ret v =>
      obtain ⟨rfl, y⟩ := y
      first
        | exact wpAny_pure (wpAny_pure y)
        | (wp_walk; exact y)
    | next => exact y.elim
    | brk => exact y.elim
    | cont => exact y.elim
theorem do_call (F : ExcBaseFacts B newId initId bmB) (hT : ∀ Y : String, bm.contains (.type Y) = bmB.contains (.type Y)) {ar : List Value} {kw : List (Str × Value)} {fI : Addr}
    (hC : hp.get? C = some (excClassObj nm q C N bs bm hdct sn sub ab col dd k0 k1 k2 k3 k5 newId)) (few : ar.length ≤ sizeLine)
    (li : W.Looks (model prog w) hp (typeLookup (.ref C) "__init__") (some (.ref fI))) (lb : ∀ me, W.Looks (model prog w) hp (bindSpecial (.ref fI) me) (.ref fI, [me]))
    (z : codeAny (model prog w) (A.under (.builtin "type.__call__" ⟨.ref C :: ar, kw⟩)) (.call (.ref fI) ⟨.ref (hp.objs.size + 1) :: ar, kw⟩) (W.InitBack (hp.objs.size + 1) R)
      ⟨(hp.push (W.kdv_tup ar)).push (HandSPX.excO C hp.objs.size), gs, dr, tk, os⟩) :
    codeAny (model prog w) A (.call (.ref C) ⟨ar, kw⟩) R ⟨hp, gs, dr, tk, os⟩ := by
  have e1 := tc_lookup
  have e2 := tc_bind (.ref C)
  have e3 := tc_sub
  have ty : (⟨hp, gs, dr, tk, os⟩ : Shared).TypeIs (.ref C) "type" := ⟨_, hC, rfl⟩
  refine codeAny_of_tree (show wpAny _ _ (callAny (.ref C) _) _ _ _ from ?_)
  repeat (any_goals (first | with_reducible refine wpAny_loadPart_at hC ?_ | assumption | wp_step))
  refine ⟨rfl, ?_⟩
  have chk : ∀ {Q : Unit → Shared → Prop} {A' : Around} {E' : Value → Shared → Prop}, Q () ⟨hp, gs, dr, tk, os⟩ → wpAny (model prog w) A' (checkBuiltinCall "type.__call__" ⟨.ref C :: ar, kw⟩) Q E' ⟨hp, gs, dr, tk, os⟩ := fun {Q A' E'} hq => by
    simp only [tc_split, tc_kind, checkBuiltinCall]
    repeat (any_goals (first | with_reducible refine wpAny_onRaise ?_ | with_reducible refine wpAny_map ?_ | with_reducible refine wpAny_loadPart_at hC ?_ | assumption | wp_step))
  refine codeAny_call_builtin_at (Code.quiet_builtin _ (by decide +kernel)) entry_typeCall (chk (do_type F hT hC few li lb ?_))
  refine codeAny_mono z fun r s' y => ?_
  rcases r with e | (v | _ | _ | _) <;> (exact y)
end
end Xv
namespace Xv
open PySem PySem.Spec PyProof.Rows L2
/-- an exception of the class at C stands at a, with its dict or without -/
def XAt (H : Hp) (a C : Addr) : Prop := H a = some (exo a C none) ∨ ∃ (d : Addr) (fs : List (Str × V)), H a = some (exo a C (some d)) ∧ H d = some (exd d fs)
theorem XAt.same {H H' : Hp} {a C : Addr} (h : XAt H a C) (s : Same H H') : XAt H' a C := by
  rcases h with h | ⟨d, fs, h1, h2⟩
  · exact .inl (s _ _ h)
  · exact .inr ⟨d, fs, s _ _ h1, s _ _ h2⟩
section
variable {X : Cx} {k : Nat} {fI C : Addr} {fd : FuncData} {ps ks : List Str} {sp : Sp} {x f : Str} {p pos : Pos} {e : Expr} {es : List Expr} {kws : List Keyword} {te : TE} {t tk : TA}
/-- what the class at C is asked for when it makes an exception -/
structure XMk (K : PySem.W.Frag) (C fI : Addr) : Prop where
  T : OexC K C
  iC : PySem.W.findIn K (.ref C) "__init__" = some (some (.ref fI))
  tI : PySem.W.typeIn K (.ref fI) = some (.type "function")
theorem run_x {pins : List (Addr × Obj)} {σ : L2.St} {H : Hp} {s : Shared} {Q : VK} {us bound : List Value} {kw : List (Str × Value)} {vs : List V} (M : XMk X.K C fI) (F : FnOk X.prog X.w X.K X.mg X.base CX0 k fI fd ps sp) (hr : Room (k + 1) X.A)
    (I : Inv X pins σ H s) (few : us.length ≤ sizeLine) (hb : ∀ (s' : Shared) (a : Addr), X.K.In s'.heap → BindsTo s' fd ⟨.ref a :: us, kw⟩ (ps.zip (.ref a :: bound))) (r : Vals vs bound)
    (h : ∀ a, H a = none → sp (.ref a :: vs) (upd H a (exo a C none)) (fun v H2 => v = .non ∧ Q (.ref a) H2) E0) : wpAny (model X.prog X.w) X.A (call (.ref C) us kw) (EP X pins σ Q) X.xe s := by
  obtain ⟨nm, q, N, bs, bm, sn, sub, ab, col, dd, k0, k1, k2, k3, k5, hC, hbm⟩ := M.T.cls
  obtain ⟨hp, gs, dr, tk, os⟩ := s
  have up : hp.objs.size ≤ hp.objs.size + 1 := Nat.le_succ _
  have new : H (hp.objs.size + 1) = none := I.hok.fresh up
  have hq := h (hp.objs.size + 1) new
  have kk : ∀ b o, hp.get? b = some o → ((hp.push (PySem.W.kdv_tup us)).push (PySem.HandSPX.excO C hp.objs.size)).get? b = some o := fun b o y => Heap.get?_push_of_some _ (Heap.get?_push_of_some _ y)
  have atE : ((hp.push (PySem.W.kdv_tup us)).push (PySem.HandSPX.excO C hp.objs.size)).get? (hp.objs.size + 1) = some (PySem.HandSPX.excO C hp.objs.size) := by (heap_get)
  have I2 : Inv X pins σ (upd H (hp.objs.size + 1) (exo (hp.objs.size + 1) C none)) ⟨(hp.push (PySem.W.kdv_tup us)).push (PySem.HandSPX.excO C hp.objs.size), gs, dr, tk, os⟩ :=
    I.laid (t' := tk) (a := hp.objs.size + 1) (o := exo (hp.objs.size + 1) C none) (h' := (hp.push (PySem.W.kdv_tup us)).push (PySem.HandSPX.excO C hp.objs.size)) kk up (exo_ok atE)
  have r2 : Vals (V.ref (hp.objs.size + 1) :: vs) (Value.ref (hp.objs.size + 1) :: bound) := .cons rfl r
  refine wpAny_call (do_call PySem.F.excBase_ValueError (fun Y => PySem.HandSPX.refsVE_contains Y bm hbm) (I.kIn _ _ hC) few (PySem.W.looks_findIn I.kIn M.iC) (fun me => PySem.W.bind_fn I.kIn me M.tI)
    (codeAny_mono (F.run _ X.stack _ _ ⟨Value.ref (hp.objs.size + 1) :: us, kw⟩ (Value.ref (hp.objs.size + 1) :: bound) _ _ E0 (hr.make C us kw) (I2.env0.make C us kw) (hb _ _ I2.kIn) r2 hq) fun r s' y => ?_))
  cases r with
  | error er => exact pass0 (X := X) pins σ _ _ er s' I2 y
  | ok fl =>
    cases fl with
    | ret u =>
      obtain ⟨v, H', I3, rv, ev, q3⟩ := I2.after y
      subst ev
      exact ⟨rv, ⟨V.ref (hp.objs.size + 1), H', I3, rfl, q3⟩⟩
    | next => exact y.elim
    | brk => exact y.elim
    | cont => exact y.elim
/-- C(e, ..) -/
def tX (C : Addr) (sp : Sp) (t : TA) : TE := fun σ H Q => t σ H fun vs H1 => vs.length ≤ 1000 ∧ ∀ a, H1 a = none → sp (.ref a :: vs) (upd H1 a (exo a C none)) (fun v H2 => v = .non ∧ Q (.ref a) H2) E0
theorem pe_x (M : XMk X.K C fI) (F : FnOk X.prog X.w X.K X.mg X.base CX0 k fI fd ps sp) (hr : Room (k + 1) X.A) (hb : Binds X.K fd ps []) (hg : Gl X x) (hm : X.mg x = some (.ref C)) (ha : PA X (e :: es) t)
    (hdb : (x == ("__debug__" : Str)) = false := by decide) (hs : starEach (e :: es) X.env = (false, eval e X.env) :: starEach es X.env := by rfl) (hp : (backTo pos (starEach es X.env)).any (·.1) = false := by rfl) :
    PE X (.Call (.Name x p) (e :: es) [] pos) (tX C sp t) := by
  refine ⟨fun pins s σ H Q I h => ?_⟩
  refine wpAny_Call_Name_kw (ld_glob I hg hm (PySem.W.callWith_K (h₀ := X.base) I.ok.mod.kin M.T.kC (thn (ha.run pos pins s σ H _ I h) fun us s1 ⟨vs, H1, I1, r1, hz, q1⟩ => ⟨I1.kIn, ?_⟩) hs hp) hdb)
  have lu := Paired.length r1
  refine run_x (us := us) (kw := []) M F hr I1 (by rw [← lu, sizeLine_eq]; omega) (fun s' a hk => ?_) r1 q1
  have n0 : H1 (s1.heap.objs.size + 1) = none := I1.hok.fresh (Nat.le_succ _)
  have l1 := F.len _ _ _ _ (q1 _ n0)
  have b := hb s' (.ref a :: us) hk (by rw [List.append_nil, List.length_cons, ← lu]; exact l1)
  rw [List.append_nil] at b
  exact b
/-- C(k = e, ..), g what the keywords' values are by place -/
def tXk (C : Addr) (n : Nat) (sp : Sp) (gV : List V → List V) (t : TA) : TE := fun σ H Q => t σ H fun vs H1 => vs.length = n ∧ ∀ a, H1 a = none → sp (.ref a :: gV vs) (upd H1 a (exo a C none)) (fun v H2 => v = .non ∧ Q (.ref a) H2) E0
theorem pe_xk {g : List Value → List Value} {gV : List V → List V} (M : XMk X.K C fI) (F : FnOk X.prog X.w X.K X.mg X.base CX0 k fI fd ps sp) (hr : Room (k + 1) X.A)
    (hb : ∀ (s' : Shared) (a : Addr) (ws : List Value), X.K.In s'.heap → ws.length = ks.length → BindsTo s' fd ⟨[.ref a], ks.zip ws⟩ (ps.zip (.ref a :: g ws))) (hrel : ∀ {zs : List V} {ws : List Value}, Vals zs ws → Vals (gV zs) (g ws))
    (hg : Gl X x) (hm : X.mg x = some (.ref C)) (hkw : PK X kws tk) (hall : (backToKw pos (keywordEach kws X.env)).all (·.1.isSome) = true := by rfl) (hks : (backToKw pos (keywordEach kws X.env)).filterMap (·.1) = ks := by rfl)
    (hdb : (x == ("__debug__" : Str)) = false := by decide) (hp : ((backTo pos (starEach [] X.env)).any (·.1) || (backToKw pos (keywordEach kws X.env)).any (·.1.isNone)) = false := by rfl) :
    PE X (.Call (.Name x p) [] kws pos) (tXk C ks.length sp gV tk) := by
  refine ⟨fun pins s σ H Q I h => ?_⟩
  refine wpAny_Call_Name_kw (ld_glob I hg hm (PySem.W.callWith_KW0 (h₀ := X.base) I.ok.mod.kin M.T.kC hall (thn (hkw.run pos pins s σ H _ I h) fun ws s1 ⟨zs, H1, I1, r1, hz, q1⟩ => ⟨I1.kIn, ?_⟩) hp) hdb)
  rw [hks]
  exact run_x (us := []) (kw := ks.zip ws) M F hr I1 (Nat.zero_le _) (fun s' a hk => hb s' a ws hk ((Paired.length r1).symm.trans hz)) (hrel r1) q1
/-- C(), C without an own __init__ -/
def tX0 (C : Addr) : TE := fun _ H Q => ∀ a, H a = none → Q (.ref a) (upd H a (exo a C none))
theorem pe_x0 {bmB : List Value} {B newId initId : String} (F : ExcBaseFacts B newId initId bmB) (q : PySem.W.excIn X.K C bmB newId = true) (gC : X.mg x = some (.ref C)) (kC : PySem.W.keepIn X.K (.ref C) = true) (hg : Gl X x)
    (hdb : (x == ("__debug__" : Str)) = false := by decide) : PE X (.Call (.Name x p) [] [] pos) (tX0 C) := by
  refine ⟨fun pins s σ H Q I h => ?_⟩
  refine wpAny_Call_Name_kw (ld_glob I hg gC (PySem.W.callWith_K0 I.kIn kC ?_) hdb)
  obtain ⟨bm, N, nm, qn, bs, hdct, sn, sub, ab, col, dd, k0, k1, k2, k3, k5, mN, hC, hN, hni, T⟩ := exc_obj I.kIn q
  refine wpAny_call_exc_subT F T hC hN hni (fun h' a m => ?_) (Nat.zero_le _)
  have hn : H a = none := I.hok.gone m.new
  obtain ⟨t, ht, _, _⟩ := m.there
  exact ⟨.ref a, upd H a (exo a C none), I.laidN m.keeps m.new hn (exo_ok ht), rfl, h a hn⟩
/-- e.f of such an exception -/
def tXf (C : Addr) (f : Str) (te : TE) : TE := fun σ H Q => te σ H fun x H1 => ∃ (a d : Addr) (fs : List (Str × V)) (v : V), x = .ref a ∧ H1 a = some (exo a C (some d)) ∧ H1 d = some (exd d fs) ∧ fs.lookup f = some v ∧ Q v H1
theorem pe_xfield (T : XfC X.K C) (hno : PySem.W.findIn X.K (.ref C) f = some none) (he : PE X e te) (hb : attributeBase e f X.env (eval e X.env) = eval e X.env := by rfl) : PE X (.Attribute e f pos) (tXf C f te) := by
  refine ⟨fun pins s σ H Q I h => attr_of hb (thn (he.run pins s σ H _ I h) fun u s1 hh => ?_)⟩
  obtain ⟨y, H1, I1, ry, a, d, fs, v, rfl, ea, ed, l, q⟩ := hh
  obtain rfl : u = Value.ref a := ry
  obtain ⟨t1, ha⟩ := exo_at I1.hok ea
  obtain ⟨mA, hns, rel⟩ := exd_at I1.hok ed
  obtain ⟨od, ho, hl⟩ := lookIn_ns hns
  obtain ⟨z, hz, rz⟩ := RelO.some_of (v := v) (o := mA f) (by (rw [← l]; exact rel f))
  have J : PySem.W.InstAt s1.heap a { cls := .ref C, dict := some d, data := .fields #[.ref t1, .none, .none, .none, .bool false, .none] } C (some od) := ⟨ha, rfl, rfl, ho⟩
  exact HandSPX.exc_get I1.kIn J T.ga T.gg T.exC (PySem.W.findObj_own T.hdC hno rfl (by (rw [hl, hz]))) (handed_of rz) ⟨v, H1, I1.tok _, rz, q⟩
/-- isinstance(e, c) of such an exception -/
def rIsX (K : PySem.W.Frag) : List V → Hp → VK → Prop := fun xs H Q => ∃ (a C : Addr) (c : V) (cv : Value) (b : Bool), xs = [.ref a, c] ∧ XAt H a C ∧ ExcC K C ∧ ClsV c cv ∧ PySem.W.kitOne K (.ref C) cv = some b ∧ Q (.bl b) H
theorem call_isX : CallR X (.builtin "isinstance") (rIsX X.K) := by
  intro pins s σ H xs us Q I r h
  obtain ⟨a, C, c, cv, b, rfl, hx, T, hc, e, q⟩ := h
  obtain ⟨u1, u2, rfl, r1, r2⟩ := vals2 r
  obtain rfl := hc.eq r2
  cases (show u1 = Value.ref a from r1)
  have hcl : (PySem.W.clsIn X.K C).isSome = true := by
    obtain ⟨cd, hcd, _⟩ := PySem.W.any_some T.hd
    rw [hcd]
    rfl
  rcases hx with ea | ⟨d, fs, ea, ed⟩
  · obtain ⟨t1, ha⟩ := exo_at I.hok ea
    have J : PySem.W.InstAt s.heap a { cls := .ref C, dict := none, data := .fields #[.ref t1, .none, .none, .none, .bool false, .none] } C none := ⟨ha, rfl, rfl, trivial⟩
    exact PySem.W.kia_one (PySem.W.kitx_exc hcl T.hg T.hk T.hs T.ha T.hn T.ht T.hm) I.kIn J e (fun z => nomatch z) fun tk => ⟨.bl b, H, I.kept (t' := tk) fun _ _ z => z, rfl, q⟩
  · obtain ⟨t1, ha⟩ := exo_at I.hok ea
    obtain ⟨mA, hns, rel⟩ := exd_at I.hok ed
    obtain ⟨od, ho, hl⟩ := lookIn_ns hns
    have J : PySem.W.InstAt s.heap a { cls := .ref C, dict := some d, data := .fields #[.ref t1, .none, .none, .none, .bool false, .none] } C (some od) := ⟨ha, rfl, rfl, ho⟩
    exact PySem.W.kia_one (PySem.W.kitx_exc hcl T.hg T.hk T.hs T.ha T.hn T.ht T.hm) I.kIn J e (fun z => nomatch z) fun tk => ⟨.bl b, H, I.kept (t' := tk) fun _ _ z => z, rfl, q⟩
end
end Xv
/-! the head: the defs by names, and one Bool of what else is asked of the written part -/
namespace Lh
open PySem PySem.Spec PyProof.Rows L2
abbrev AlB : Type := He.AlD × Bool
def obsB (n : Nat) (fn : List He.DefD) (ex : PySem.W.Frag → Bool) (g : Addr → Option Obj) : AlB := (He.obsD [] fn (He.frG g (He.asD g n)), ex (He.frG g (He.asD g n)))
def hookB (n : Nat) (fn : List He.DefD) (ex : PySem.W.Frag → Bool) : PySem.W.Hook where
  α := AlB
  obs := fun s => obsB n fn ex s.heap.get?
  val := fun _ => (He.valD fn, true)
  says := fun _ h => ∃ K : PySem.W.Frag, K.In h ∧ He.SaysD [] fn K ∧ ex K = true
  of := fun _ _ e => ⟨_, He.frG_in, congrArg Prod.fst e, congrArg Prod.snd e⟩
  keeps := fun _ _ _ ⟨K, hK, c⟩ k => ⟨K, PySem.W.Frag.In.keeps hK k, c⟩
theorem obsB_eq {n : Nat} {fn : List He.DefD} {ex : PySem.W.Frag → Bool} {g : Addr → Option Obj} {s : Shared} (h : ∀ a, g a = s.heap.get? a) : obsB n fn ex g = (hookB n fn ex).obs s := by
  have e : g = s.heap.get? := funext h
  rw [e]
  rfl
theorem fun_of {K : PySem.W.Frag} {x q : Str} {st : Stmt} {f : Addr} {fd : FuncData} (F : FunD K x q (defArgs st) (defBody st) (defScope st) [] [] f fd) : Fun K x q st f fd := by
  obtain ⟨oc, od, dV, kV, doc, pm, an, cdv, ct, osl, e, lk, hcd, hD, _⟩ := F.ex
  rcases hD with ⟨_, rfl⟩ | ⟨z, _⟩
  · exact ⟨⟨oc, od, kV, doc, pm, an, cdv, ct, osl, e, lk, hcd⟩, F.kp⟩
  · exact absurd rfl z
def gloB (K : PySem.W.Frag) (x : Str) : Bool := He.eqO (PySem.W.nsIn K mainGlobals x) (some (some (.ref (He.ga K x))))
def freeB (K : PySem.W.Frag) (x : Str) : Bool := He.eqO (PySem.W.nsIn K mainGlobals x) (some none)
theorem mg_glo {K : PySem.W.Frag} {h : Heap} {mg : Str → Option Value} (X : K.In h) (G : h.Ns mainGlobals mg) {x : Str} (c : gloB K x = true) : mg x = some (.ref (He.ga K x)) := PySem.W.mg_of X G (He.eqO_ok c)
theorem mg_free {K : PySem.W.Frag} {h : Heap} {mg : Str → Option Value} (X : K.In h) (G : h.Ns mainGlobals mg) {x : Str} (c : freeB K x = true) : mg x = none := PySem.W.mg_none_of X G (He.eqO_ok c)
def dd (at_ : Str × Option Str) (name qual : Str) (st : Stmt) : He.DefD := ⟨at_, name, qual, defArgs st, defBody st, defScope st, [], []⟩
/-- the promise of a law -/
def spLaw (K : PySem.W.Frag) : Sp := fun vs H Q _ => ∃ (a : Addr) (ns : List Int), vs = [.ref a] ∧ SqL K H a (ns.map V.int) ∧ ns.length ≤ 63 ∧ ∀ H', Q (.bl true) H'
def btNames : List Str := ["len", "int", "list", "range", "isinstance", "str", "bool", "tuple", "dict"]
theorem bt_of {K : PySem.W.Frag} {h : Heap} {mg : Str → Option Value} (X : K.In h) (G : h.Ns mainGlobals mg) (c : btNames.all (freeB K) = true) : Lw.Bt mg := by
  have q : ∀ x ∈ btNames, mg x = none := fun x hx => mg_free X G (List.all_eq_true.mp c x hx)
  exact ⟨q _ (by decide +kernel), q _ (by decide +kernel), q _ (by decide +kernel), q _ (by decide +kernel), q _ (by decide +kernel), q _ (by decide +kernel), q _ (by decide +kernel), q _ (by decide +kernel), q _ (by decide +kernel)⟩
end Lh
/-! operators that an own class defines (in, ==, len), enumerate over a tuple -/
namespace Ow
open PySem PySem.Spec PyProof.Rows L2
section
variable {X : Cx} {k : Nat} {f C : Addr} {fd : FuncData} {ps : List Str} {sp : Sp}
/-- a method that an operator looks up, and its promise -/
structure OM (X : Cx) (k : Nat) (C : Addr) (m : Str) (f : Addr) (fd : FuncData) (ps : List Str) (sp : Sp) : Prop where
  at_ : PySem.W.findIn X.K (.ref C) m = some (some (.ref f))
  fn : PySem.W.isFn X.K (.ref f) = true
  F : FnOk X.prog X.w X.K X.mg X.base CX0 k f fd ps sp
  b : Binds X.K fd ps []
theorem op_inO (M : OM X k C "__contains__" f fd ps sp) (hr : Room k X.A) :
    OpR X (compareOp .In) (fun x y H Q => ∃ (a dx : Addr) (fs : List (Str × V)), y = .ref a ∧ H a = some (.ins C dx fs) ∧ sp [.ref a, x] H (fun v H' => ∃ b, v = .bl b ∧ Q (.bl b) H') E0) := by
  intro pins s σ H x y v u Q I rx ry h
  obtain ⟨a, dx, fs, rfl, ha, q⟩ := h
  cases ry
  obtain ⟨mA, O, _⟩ := ins_get I.hok ha
  obtain ⟨od, J, _⟩ := O.look
  obtain ⟨m, hF⟩ := I.fr
  refine PySem.W.in_K hF I.ok.mod.kin J M.at_ M.fn (thn (run_fn (us := [.ref a, v]) (vs := [.ref a, x]) (dvs := []) (ds := []) M.F hr M.b .nil pass0 I (.cons rfl (.cons rx .nil)) q) fun r s' z => ?_)
  obtain ⟨z, H', I', rz, b, rfl, q'⟩ := z
  cases rz
  exact wpAny_truthy_bool ⟨.bl b, H', I', rfl, q'⟩
/-- x == y, x an instance of C, y of the same class or of a type that is known -/
theorem op_eqO (M : OM X k C "__eq__" f fd ps sp) (hr : Room k X.A) :
    OpR X (compareOp .Eq) (fun x y H Q => ∃ (a dx : Addr) (fs : List (Str × V)), x = .ref a ∧ H a = some (.ins C dx fs) ∧ ((∃ (a' dx' : Addr) (fs' : List (Str × V)), y = .ref a' ∧ H a' = some (.ins C dx' fs')) ∨ ∃ T, TyX X.K H y (.type T) ∧ PySem.W.notFirst X.K C (.type T) = true) ∧
      sp [.ref a, y] H (fun v H' => ∃ b, v = .bl b ∧ Q (.bl b) H') E0) := by
  intro pins s σ H x y v u Q I rx ry h
  obtain ⟨a, dx, fs, rfl, ha, hy, q⟩ := h
  cases rx
  obtain ⟨mA, O, _⟩ := ins_get I.hok ha
  obtain ⟨od, J, _⟩ := O.look
  obtain ⟨m, hF⟩ := I.fr
  have run := thn (run_fn (us := [.ref a, u]) (vs := [.ref a, y]) (dvs := []) (ds := []) M.F hr M.b .nil pass0 I (.cons rfl (.cons ry .nil)) q) (Q' := PySem.W.CmpBack (EP X pins σ Q)) fun r s' z => by
    obtain ⟨z, H', I', rz, b, rfl, q'⟩ := z
    cases rz
    exact ⟨.bl b, H', I', rfl, q'⟩
  have few : X.A.units < cLine := Nat.lt_of_succ_lt (hu_of hr)
  show wpAny _ _ (richCompare .Eq (.ref a) u) _ _ _
  rcases hy with ⟨a', dx', fs', rfl, ha'⟩ | ⟨T, ty, hn⟩
  · cases ry
    obtain ⟨mA', O', _⟩ := ins_get I.hok ha'
    obtain ⟨od', J', _⟩ := O'.look
    exact PySem.W.cmp_K (op := .Eq) (tb := .ref C) few hF I.ok.mod.kin J J'.type (by simp [PySem.W.notFirst]) M.at_ M.fn run
  · obtain ⟨Pk, Z, p, _⟩ := kit_of I ry ty
    exact PySem.W.cmp_K (op := .Eq) (tb := .type T) few hF I.ok.mod.kin J (Z.ty _ _ I.kIn p) hn M.at_ M.fn run
theorem call_lenO (M : OM X k C "__len__" f fd ps sp) (hr : Room (k + 1) X.A) :
    CallR X (.builtin "len") (fun xs H Q => ∃ (a dx : Addr) (fs : List (Str × V)), xs = [.ref a] ∧ H a = some (.ins C dx fs) ∧ sp [.ref a] H (fun v H' => ∃ n : Int, v = .int n ∧ 0 ≤ n ∧ n < 2 ^ 63 ∧ Q (.int n) H') E0) := by
  intro pins s σ H xs us Q I r h
  obtain ⟨a, dx, fs, rfl, ha, q⟩ := h
  obtain ⟨u, rfl, ru⟩ := vals1 r
  cases ru
  obtain ⟨mA, O, _⟩ := ins_get I.hok ha
  obtain ⟨od, J, _⟩ := O.look
  obtain ⟨m, hF⟩ := I.fr
  have e0 := I.env0
  have e1 : Env0 X.prog X.w X.K X.mg X.base X.A.in1 X.stack s H := ⟨e0.frames, e0.mod, e0.bs, e0.bsz, e0.funs, e0.frf, e0.hok, e0.bare⟩
  have bb := M.b s [.ref a] I.kIn (by have := M.F.len _ _ _ _ q; simpa using this)
  rw [List.append_nil] at bb
  refine PySem.W.len_K hF I.ok.mod.kin J M.at_ M.fn (wpAny_call (codeAny_mono (M.F.run X.A.in1 X.stack s H ⟨[.ref a], []⟩ [.ref a] [.ref a] _ E0 hr.in1 e1 bb (.cons rfl .nil) q) fun r s' z => ?_))
  cases r with
  | error e => exact z.elim
  | ok fl =>
    cases fl with
    | ret w =>
      obtain ⟨y, H', I', ry, n, rfl, h0, h1, q'⟩ := I.after z
      obtain ⟨t, rfl⟩ := ry
      exact ⟨⟨h0, h1⟩, ⟨.int n, H', I'.tok _, ⟨_, rfl⟩, q'⟩⟩
    | next => exact z.elim
    | brk => exact z.elim
    | cont => exact z.elim
end
/-! ### enumerate(t), t a tuple -/
theorem new_enumT (l : Addr) (items : Array Value) : Meets (Builtin.«enumerate.__new__» ⟨[.type "enumerate", .ref l], []⟩) (fun _ R s => s.heap.IsTuple l items ∧
    R (.ok (.ret (.ref (s.heap.push { cls := .type "tuple_iterator", data := .fields #[.ref l, .int 0 0] }).objs.size)))
      { s with heap := (s.heap.push { cls := .type "tuple_iterator", data := .fields #[.ref l, .int 0 0] }).push { cls := .type "enumerate", data := .fields #[.none, .bool false, .ref s.heap.objs.size, rawInt 0, .none, .none] } }) :=
  .of_wp fun prog w A R s h => by
    obtain ⟨hp, g, d, tk, os⟩ := s
    obtain ⟨ht, h⟩ := h
    have hsub := sub_enumerate
    have hT : Heap.IsTuple (Shared.heap ⟨hp, g, d, tk, os⟩) l items := ht
    (wp_walk)
    refine (wpAny_stack_any fun st => wpAny_pure ?_)
    split
    · rename_i c _ _ _ _ _
      cases (c == Value.type "enumerate") <;> (wp_walk using wpAny_pyIter_tuple hT; exact ⟨_, rfl, h⟩)
    · wp_walk using wpAny_pyIter_tuple hT
      exact ⟨_, rfl, h⟩
theorem call_enumT {prog : Program} {w : World} {A : Around} {E : Value → Shared → Prop} {s : Shared} {l : Addr} {items : Array Value} {Q : Value → Shared → Prop} (hL : s.heap.IsTuple l items)
    (h : ∀ h', IsEnum h' (s.heap.objs.size + 1) s.heap.objs.size 0 .none → h'.IsTupleIter s.heap.objs.size l 0 → (∀ b o, s.heap.get? b = some o → h'.get? b = some o) → Q (.ref (s.heap.objs.size + 1)) { s with heap := h' }) :
    wpAny (model prog w) A (call (.type "enumerate") [.ref l]) Q E s := by
  refine callType_new F.called_enumerate (by decide) (F.typeCall_enumerate_1 _) (F.newCall_enumerate_1 _) (fun obj => F.args_object_init_2 obj _) F.entry_enumerate_new (new_enumT l items) ⟨hL, ?_⟩
  have hz : (s.heap.push { cls := .type "tuple_iterator", data := .fields #[.ref l, .int 0 0] }).objs.size = s.heap.objs.size + 1 := Heap.size_push ..
  show _ ∧ _
  rw [hz]
  have he : IsEnum ((s.heap.push { cls := .type "tuple_iterator", data := .fields #[.ref l, .int 0 0] }).push { cls := .type "enumerate", data := .fields #[.none, .bool false, .ref s.heap.objs.size, rawInt 0, .none, .none] }) (s.heap.objs.size + 1) s.heap.objs.size 0 .none := by
    have z := Heap.get?_push_size (s.heap.push { cls := .type "tuple_iterator", data := .fields #[.ref l, .int 0 0] }) (o := { cls := .type "enumerate", data := .fields #[.none, .bool false, .ref s.heap.objs.size, rawInt 0, .none, .none] }) rfl
    rw [hz] at z
    exact z
  exact ⟨⟨_, he, rfl⟩, h _ he ⟨_, Heap.get?_push_of_some _ (Heap.get?_push_size _ rfl), rfl, rfl⟩ fun b o x => Heap.get?_push_of_some _ (Heap.get?_push_of_some _ x)⟩
/-- the tuple at a, each item in a new pair with its number -/
def IteT (K : PySem.W.Frag) (a : Addr) : It :=
  ⟨fun i H => ∃ (xs : List V) (x : V), SqT K H a xs ∧ xs[i]? = some x, fun i H v H' => ∃ T x, v = .ref T ∧ H T = none ∧ H' = upd H T (.tup [.int (i : Nat), x]) ∧ ∀ xs, SqT K H a xs → xs[i]? = some x, fun i H => ∃ xs : List V, SqT K H a xs ∧ xs.length = i⟩
theorem turn_enumT {P : Program} {w : World} {K : PySem.W.Frag} {elts : List Expr} {kk : Nat} {tpos : Pos} (a e it : Addr) :
    Turn P w K (.Tuple elts kk tpos) (IteT K a) [e, it] e (fun i h => (∃ old, IsEnum h e it ((i : Nat) : Int) old) ∧ h.IsTupleIter it a i ∧ e ≠ it ∧ a ≠ it ∧ e ≠ a) where
  mem := by simp
  obj := fun i h st b hb => by
    obtain ⟨⟨old, he⟩, ⟨o, ho, hc, hd⟩, _⟩ := st
    rcases (show b = e ∨ b = it by simpa using hb) with z | z <;> rw [z]
    · exact ⟨_, he, fun v q => nomatch q⟩
    · exact ⟨o, ho, fun v q => by rw [hd] at q; cases q⟩
  keep := fun i h h' st k => by
    obtain ⟨⟨old, he⟩, hi, r⟩ := st
    exact ⟨⟨old, k e (by simp) _ he⟩, hi.at (fun o q => k it (by simp) o q), r⟩
  item := by
    intro X hP hw hK hc i pins s σ H E I hf st hg
    subst hP hw hK
    obtain ⟨⟨old, he⟩, hit, hne, hai, hea⟩ := st
    obtain ⟨xs, x, hq, hx⟩ := hg
    obtain ⟨its, rv, p, hz⟩ := I.tuple hq
    obtain ⟨u, hu, ru⟩ := rv.get hx
    have hlt : i < its.toArray.size := by
      have z := (List.getElem?_eq_some_iff.mp hu).1
      simpa using z
    have lte : e < s.heap.objs.size := Heap.lt_size he
    have lti : it < s.heap.objs.size := by obtain ⟨_, q, _⟩ := hit; exact Heap.lt_size q
    refine wpAny_pyNext_enum_itemC (Draws.tuple (show X.A.in1.handled = none from I.ok.hd hc) it a hai its.toArray) he ⟨hit, show s.heap.IsTuple a its.toArray from p⟩ hlt hne (by simp [hne, hea]) fun y h' tk hy ho hst hT hsz hk => ?_
    have ey : y = u := by
      have z : its.toArray[i]? = some u := by simpa using hu
      exact Option.some.inj (hy.symm.trans z)
    subst ey
    refine ⟨_, rfl, wpAny_letOwnedTupleGo_enum (s := { s with heap := h', toks := tk + 1 }) ho fun h'' he' sb => ?_⟩
    have hT2 : h''.get? s.heap.objs.size = some { cls := .type "tuple", data := .seq #[.int i tk, y] } := (sb.2 _ (Nat.ne_of_gt lte)).trans hT
    have new : ObjOk X.prog X.w (upd H s.heap.objs.size (.tup [.int (i : Nat), x])) h'' s.heap.objs.size (.tup [.int (i : Nat), x]) :=
      ⟨by (show 2 ≤ sizeLine; decide), [.int i tk, y], .cons ⟨_, rfl⟩ (.cons ru .nil), ⟨_, hT2, rfl, _, rfl⟩⟩
    have I1 : Inv X pins σ (upd H s.heap.objs.size (.tup [.int (i : Nat), x])) { s with heap := h'', toks := tk + 1 } :=
      I.turnedNew (ch := [e, it]) (fun b ob hb q => (sb.2 b (fun z => hb (by simp [z]))).trans (hk b ob (fun z => hb (by simp [z])) (fun z => hb (by simp [z])) q)) hf (Nat.le_refl _) new
    refine ⟨.ref s.heap.objs.size, _, I1, rfl, ⟨_, x, rfl, I.hok.fresh (Nat.le_refl _), rfl, fun ys hy => by rw [I.tuple_inj hy hq]; exact hx⟩, ⟨⟨y, ?_⟩, hst.1.at (fun o q => (sb.2 it (Ne.symm hne)).trans q), hne, hai, hea⟩, fun b hb => ?_⟩
    · rw [show ((i + 1 : Nat) : Int) = (i : Int) + 1 by omega]
      exact he'
    · have hb' : b < s.heap.objs.size := by rcases (show b = e ∨ b = it by simpa using hb) with z | z <;> rw [z] <;> assumption
      rw [upd_ne (Nat.ne_of_lt hb')]
      exact (hf b hb).1
  done := by
    intro X hP hw hK hc i pins s σ H E I hf st hg
    subst hP hw hK
    obtain ⟨⟨old, he⟩, hit, hne, hai, hea⟩ := st
    obtain ⟨xs, hq, hx⟩ := hg
    obtain ⟨its, rv, p, hz⟩ := I.tuple hq
    obtain ⟨f0, f1, f2, f3, f4, f5⟩ := hf it (by simp)
    have hl := rv.length
    have en : its.toArray.size = i := by
      rw [List.size_toArray]
      omega
    exact wpAny_pyNext_enum_endD (Draws.tuple (show X.A.in1.handled = none from I.ok.hd hc) it a hai its.toArray) he ⟨by rw [en]; exact hit, show s.heap.IsTuple a its.toArray from p⟩ fun h' eb => ⟨rfl, I.turned (t' := s.toks) (fun b o hb e => eb b o hb e) f0 f1 f3 f4 f5⟩
  self := fun A i s Q E st h => by
    obtain ⟨⟨old, he⟩, _⟩ := st
    exact wpAny_pyIter_enum he h
def iEnumT (K : PySem.W.Frag) (ta : TA) : TI := fun σ H R => ta σ H fun vs H1 => ∃ a xs, vs = [.ref a] ∧ SqT K H1 a xs ∧ R (IteT K a) H1
theorem pi_enumT {X : Cx} {e : Expr} {ta : TA} {p pos tpos : Pos} {elts : List Expr} {kk : Nat} (hg : Gl X "enumerate") (hm : X.mg "enumerate" = none) (ha : PA X [e] ta) (hs : starEach [e] X.env = [(false, eval e X.env)] := by rfl) :
    PI X (.Tuple elts kk tpos) (.Call (.Name "enumerate" p) [e] [] pos) (iEnumT X.K ta) := by
  refine ⟨fun pins s σ H R I h => Call_ (ld_blt I hg hm boot_enumerate (PyProof.Rows.callWith_type1 (thn (ha.run pos pins s σ H _ I h) fun us s1 ⟨vs, H1, I1, r1, q1⟩ => ?_) hs rfl))⟩
  obtain ⟨a, xs, rfl, hq, q⟩ := q1
  obtain ⟨u, rfl, r⟩ := vals1 r1
  cases r
  obtain ⟨its, rv, p', hz⟩ := I1.tuple hq
  have lta : a < s1.heap.objs.size := by
    obtain ⟨o, ho, _⟩ := id p'
    exact Heap.lt_size ho
  refine call_enumT (show s1.heap.IsTuple a its.toArray from p') fun h' he hit hk => wpAny_pyIter_enum he ?_
  have I2 : Inv X pins σ H1 { s1 with heap := h' } := I1.kept (t' := s1.toks) hk
  refine ⟨s1.heap.objs.size + 1, [s1.heap.objs.size + 1, s1.heap.objs.size], _, _, H1, rfl, I2, turn_enumT a (s1.heap.objs.size + 1) s1.heap.objs.size, ⟨⟨.none, he⟩, hit, Nat.succ_ne_self _, Nat.ne_of_lt lta, Nat.ne_of_gt (Nat.lt_succ_of_lt lta)⟩, fun b hb => ?_, q⟩
  have hle : s1.heap.objs.size ≤ b := by
    rcases (show b = s1.heap.objs.size + 1 ∨ b = s1.heap.objs.size by simpa using hb) with z | z <;> rw [z]
    · exact Nat.le_succ _
    · exact Nat.le_refl _
  exact I1.fpOk hle (I1.hok.fresh hle)
theorem for_enumT {K : PySem.W.Frag} {a : Addr} {xs : List V} {g : TG} {tb : TS} {D : Ends} {σ : L2.St} {H : Hp} (Pv : Nat → L2.St → Hp → Prop) (h0 : Pv 0 σ H) (hl : ∀ i σ H, i ≤ xs.length → Pv i σ H → SqT K H a xs)
    (hs : ∀ (i : Nat) (x : V) (T : Addr) (σ : L2.St) (H : Hp), xs[i]? = some x → Pv i σ H → H T = none → g (.ref T) σ (upd H T (.tup [.int (i : Nat), x])) fun σ2 H2 => tb { D with nx := Pv (i + 1), ct := Pv (i + 1), bk := D.nx } σ2 H2) (hd : ∀ σ H, Pv xs.length σ H → D.nx σ H) :
    ∃ W : Nat → Nat → L2.St → Hp → Prop, (∃ m, W 0 m σ H) ∧ ∀ i m σ H, W i m σ H →
      ((IteT K a).stop i H ∧ D.nx σ H) ∨ ((IteT K a).go i H ∧ ∃ N : L2.St → Hp → Prop, (∀ σ' H', N σ' H' → ∃ m', m' < m ∧ W (i + 1) m' σ' H') ∧ ∀ v H', (IteT K a).yld i H v H' → g v σ H' fun σ2 H2 => tb { D with nx := N, ct := N, bk := D.nx } σ2 H2) := by
  refine ⟨fun i m σ H => m = xs.length - i ∧ i ≤ xs.length ∧ Pv i σ H, ⟨xs.length, rfl, Nat.zero_le _, h0⟩, ?_⟩
  rintro i m σ H ⟨rfl, hi, p⟩
  by_cases lt : i < xs.length
  · refine .inr ⟨⟨xs, xs[i], hl i σ H hi p, List.getElem?_eq_getElem lt⟩, Pv (i + 1), fun σ' H' p' => ⟨xs.length - (i + 1), by omega, rfl, lt, p'⟩, fun v H' y => ?_⟩
    obtain ⟨T, x, rfl, hT, rfl, hx⟩ := y
    exact hs i x T σ H (hx xs (hl i σ H hi p)) p hT
  · obtain rfl : i = xs.length := by omega
    exact .inl ⟨⟨xs, hl _ σ H hi p, rfl⟩, hd σ H p⟩
end Ow
/-! list(reversed(l)), l a list -/
namespace Ow
open PySem PySem.Spec PyProof.Rows L2 RT
section
variable {prog : Program} {w : World} {A : Around} {E : Value → Shared → Prop} {s : Shared}
theorem init_rev {R : Result → Shared → Prop} {it l S : Addr} {items : Array Value} (hd : A.handled = none) (hI : s.heap.IsRevIter it l ((items.size : Int) - 1)) (hL : s.heap.IsList l items) (ne : l ≠ it) (few : items.size ≤ sizeLine)
    (eS : s.heap.get? S = some { cls := .type "list", data := .seq #[] }) (Sne : S ∉ [it, l])
    (z : ∀ (h' : Heap) (tk : Nat) (acc : Array Value) (c : Nat), (∀ b o, b ≠ S → b ≠ it → s.heap.get? b = some o → h'.get? b = some o) → h'.get? S = some { cls := .type "list", dict := none, data := .seq acc c, slots := #[] } →
      ItemsOf (fun i v => items[items.size - 1 - i]? = some v) acc items.size → R (.ok (.ret .none)) { s with heap := h', toks := tk }) :
    wpAny (model prog w) A.in1 (Builtin.«list.__init__» ⟨[.ref S, .ref it], []⟩) (fun fin s' => match fin with | .done f => R (.ok f) s' | .again c' => c'.quiet = true ∧ codeAny (model prog w) A c' R s') (fun e s' => R (.error e) s') s := by
  have nS : S ≠ it ∧ S ≠ l := by simpa using Sne
  have lS : l ≠ S := fun e => nS.2 e.symm
  have iS : it ≠ S := fun e => nS.1 e.symm
  show wpAny _ _ (do let was ← Builtin.List.listItems (.ref S); Builtin.List.listUpdate (.ref S) (fun _ => #[]); letGo was.toList.reverse; Builtin.List.listExtendWith (.ref S) (.ref it) .none) _ _ s
  refine wpAny_bind ?_
  unfold Builtin.List.listItems
  refine wpAny_bind (wpAny_seqItems eS rfl (wpAny_pure ?_)) <;> skip
  show wpAny _ _ (updateSeq S (fun _ => #[]) >>= fun _ => letGo (#[] : Array Value).toList.reverse >>= fun _ => Builtin.List.listExtendWith (.ref S) (.ref it) .none) _ _ s
  refine wpAny_bind (wpAny_updateSeq eS rfl (wpAny_bind (wpAny_letGo ?_)))
  have eS2 := Heap.get?_update_self (Obj.mapSeq fun _ => (#[] : Array Value)) eS rfl
  have keep : ∀ b o, b ≠ S → s.heap.get? b = some o → (s.heap.update S (Obj.mapSeq fun _ => (#[] : Array Value))).get? b = some o := fun b o nb e => (Heap.get?_update_other _ _ nb.symm).trans e
  have hI2 : (s.heap.update S (Obj.mapSeq fun _ => (#[] : Array Value))).IsRevIter it l ((items.size : Int) - 1) := hI.at fun o e => keep it o iS e
  have hL2 : (s.heap.update S (Obj.mapSeq fun _ => (#[] : Array Value))).IsList l items := by
    obtain ⟨o, e1, e2⟩ := hL
    exact ⟨o, keep l o lS e1, e2⟩
  have Wk := (Walks.listRev (prog := prog) (w := w) (A := A.in1) hd it l ne items).toS
  have ty : ({ s with heap := s.heap.update S (Obj.mapSeq fun _ => (#[] : Array Value)) } : Shared).TypeIs (.ref it) "list_reverseiterator" := Heap.IsRevIter.typeIs (s := { s with heap := s.heap.update S (Obj.mapSeq fun _ => (#[] : Array Value)) }) hI2
  have same : Builtin.List.listSameRef (.ref S) (.ref it) = false := by simp [Builtin.List.listSameRef, nS.1]
  unfold Builtin.List.listExtendWith
  refine wpAny_bind (wpAny_typeOf ty (show wpAny _ _ _ _ _ _ from ?_))
  rw [if_neg (by rw [same]; exact by decide)]
  refine wpAny_bind (wpAny_pyIter_revIter (s := { s with heap := s.heap.update S (Obj.mapSeq fun _ => (#[] : Array Value)) }) hI2 (wpAny_bind (wpAny_holding ?_)))
  unfold Builtin.List.listLengthHint
  refine wpAny_bind (wpAny_specialOf ty RT.nolen_lri ?_)
  show wpAny _ _ (specialOf (Value.ref it) (Str.ofString "__length_hint__") >>= _) _ _ _
  refine wpAny_bind (wpAny_specialOf ty RT.hint_lri ?_)
  generalize gi : ("list_reverseiterator.__length_hint__" : String) = nm
  wp_delta
  rw [show splitId nm = some ("list_reverseiterator", "__length_hint__") from by rw [← gi]; decide +kernel]
  subst gi
  refine wpAny_bind (wpAny_isInstance (b := true) ty (by rw [isSubtype_type] <;> kernel_rfl) (wpAny_pure ?_))
  rw [if_neg (by decide)]
  have e0 : ((items.size : Nat) : Int) - 1 - ((0 : Nat) : Int) = (items.size : Int) - 1 := by omega
  refine wpAny_pure ⟨plainId_quiet F.plain_extend_loop _, codeAny_extend_loopS Wk few _ Sne _ items.size 0 _ _ _ rfl (Nat.zero_le _) ⟨Nat.zero_le _, by rw [e0]; exact hI2, hL2⟩ eS2 (ItemsOf.nil _) fun s' acc c mv eS' ha => ?_⟩
  rw [Moved.eq_with mv]
  refine z s'.heap s'.toks acc c (fun b o nb ni e => mv.heap b o (fun hm => ?_) (keep b o nb e)) eS' ha
  rcases List.mem_cons.mp hm with q | q
  · exact nb q
  · exact ni (List.mem_singleton.mp q)
theorem call_listRev {it l : Addr} {items : Array Value} {Q : Value → Shared → Prop} (hd : A.handled = none) (hI : s.heap.IsRevIter it l ((items.size : Int) - 1)) (hL : s.heap.IsList l items) (ne : l ≠ it) (few : items.size ≤ sizeLine)
    (z : ∀ (h' : Heap) (tk : Nat) (acc : Array Value) (c : Nat), (∀ b o, b ≠ it → s.heap.get? b = some o → h'.get? b = some o) → h'.get? s.heap.objs.size = some { cls := .type "list", dict := none, data := .seq acc c, slots := #[] } →
      ItemsOf (fun i v => items[items.size - 1 - i]? = some v) acc items.size → Q (.ref s.heap.objs.size) { s with heap := h', toks := tk }) :
    wpAny (model prog w) A (call (.type "list") [.ref it]) Q E s := by
  obtain ⟨oi, ei, _⟩ := id hI
  obtain ⟨ol, el, _⟩ := id hL
  have n1 : s.heap.objs.size ≠ it := Nat.ne_of_gt (Heap.lt_size ei)
  have n2 : s.heap.objs.size ≠ l := Nat.ne_of_gt (Heap.lt_size el)
  refine callType_codes (Q₁ := fun ob s₁ => ob = .ref s.heap.objs.size ∧ s₁ = { s with heap := s.heap.push { cls := .type "list", data := .seq #[] } }) F.called_list (F.typeCall_list_1 _) F.entry_list_init (code_list_new _ ⟨rfl, rfl⟩) fun ob s₁ h₁ => ?_
  obtain ⟨e1, e2⟩ := h₁
  subst e1 e2
  have eS : (s.heap.push { cls := .type "list", data := .seq #[] }).get? s.heap.objs.size = some { cls := .type "list", data := .seq #[] } := Heap.get?_push_size _ rfl
  refine ⟨⟨_, eS, rfl⟩, F.args_list_init_2 _ _, init_rev (A := A.in1) (s := { s with heap := s.heap.push { cls := .type "list", data := .seq #[] } }) hd (hI.at fun o e => Heap.get?_push_of_some _ e) (hL.push _) ne few eS (by simp [n1, n2]) fun h' tk acc c k eS' ha => ?_⟩
  exact ⟨rfl, z h' tk acc c (fun b o nb e => k b o (Nat.ne_of_lt (Heap.lt_size e)) nb (Heap.get?_push_of_some _ e)) eS' ha⟩
end
/-- list(reversed(x)), x a list -/
def tListRev (K : PySem.W.Frag) (te : TE) : TE := fun σ H Q => te σ H fun v H1 => ∃ (a : Addr) (xs : List V), v = .ref a ∧ SqL K H1 a xs ∧ ∀ q, H1 q = none → Q (.ref q) (upd H1 q (.lst xs.reverse))
theorem pe_listRev {X : Cx} {e : Expr} {te : TE} {p p2 pos pos2 : Pos} (hc : X.calm = true) (hg : Gl X "list") (hm : X.mg "list" = none) (hg2 : Gl X "reversed") (hm2 : X.mg "reversed" = none) (he : PE X e te)
    (hs : starEach [e] X.env = (false, eval e X.env) :: starEach [] X.env := by rfl)
    (hs2 : starEach [.Call (.Name "reversed" p2) [e] [] pos2] X.env = (false, eval (.Call (.Name "reversed" p2) [e] [] pos2) X.env) :: starEach [] X.env := by rfl) :
    PE X (.Call (.Name "list" p) [.Call (.Name "reversed" p2) [e] [] pos2] [] pos) (tListRev X.K te) := by
  refine ⟨fun pins s σ H Q I h => Call_ (ld_blt I hg hm boot_list (PyProof.Rows.callWith_type1 (args_cons (Call_ (ld_blt I hg2 hm2 PyProof.Rows.boot_reversed (PyProof.Rows.callWith_type1 (args_cons (thn (he.run pins s σ H _ I h) fun u s1 ⟨v, H1, I1, r1, q1⟩ => args_nil ?_) hs) hs rfl))) hs2) hs2 rfl))⟩
  obtain ⟨a, xs, ev, hq, q⟩ := q1
  subst ev
  cases (show u = Value.ref a from r1)
  obtain ⟨its, rv, pl, hz⟩ := I1.list hq
  refine call_reversed_list pl.isList (args_nil ?_)
  have I2 : Inv X pins σ H1 { s1 with heap := s1.heap.push (revObj a ((its.toArray.size : Int) - 1)) } := I1.kept (t' := s1.toks) fun b o e => Heap.get?_push_of_some _ e
  obtain ⟨f0, f1, f2, f3, f4, f5⟩ := I1.fpOk (H' := H1) (b := s1.heap.objs.size) (Nat.le_refl _) (I1.hok.fresh (Nat.le_refl _))
  obtain ⟨ol, el, _⟩ := id pl.isList
  have few : its.toArray.size ≤ sizeLine := by rw [List.size_toArray, ← rv.length]; exact hz
  refine call_listRev (s := { s1 with heap := s1.heap.push (revObj a ((its.toArray.size : Int) - 1)) }) (I1.ok.hd hc) ⟨_, Heap.get?_push_size _ rfl, rfl, rfl⟩ (pl.isList.push _) (Nat.ne_of_lt (Heap.lt_size el)) few fun h' tk acc c k eS ha => ?_
  have sz : (s1.heap.push (revObj a ((its.toArray.size : Int) - 1))).objs.size = s1.heap.objs.size + 1 := Heap.size_push ..
  have up : s1.heap.objs.size ≤ (s1.heap.push (revObj a ((its.toArray.size : Int) - 1))).objs.size := by rw [sz]; exact Nat.le_succ _
  have kk : ∀ b o, s1.heap.get? b = some o → h'.get? b = some o := fun b o e => k b o (Nat.ne_of_lt (Heap.lt_size e)) (Heap.get?_push_of_some _ e)
  have ok : ObjOk X.prog X.w (upd H1 (s1.heap.push (revObj a ((its.toArray.size : Int) - 1))).objs.size (.lst xs.reverse)) h' (s1.heap.push (revObj a ((its.toArray.size : Int) - 1))).objs.size (.lst xs.reverse) :=
    ⟨by rw [List.length_reverse]; exact hz, acc.toList, c, RT.vals_rev rv ha, by rw [Array.toArray_toList]; exact eS⟩
  exact ⟨.ref _, _, I1.laid (t' := tk) kk up ok, rfl, q _ (I1.hok.fresh up)⟩
end Ow
/-! dicts whose keys are ints, texts and None, told by `ext`: made, put, asked, read, popped, copied, counted, walked -/
namespace Dn
open PySem PySem.Spec PyProof.Rows L2
abbrev NK := Option Key
/-- a key as a value -/
def nkV : NK → V
  | none => .non
  | some k => kV k
theorem nk_is {P : Program} {w : World} {k : NK} {u : Value} (r : RelV (nkV k) u) : (noneKind P w).is k u = true := by
  cases k with
  | none =>
    cases (show u = Value.none from r)
    rfl
  | some k => exact kV_is (P := P) (w := w) r
theorem nk_rel {P : Program} {w : World} {k : NK} {u : Value} (r : (noneKind P w).is k u = true) : RelV (nkV k) u := by
  cases k with
  | none => exact nk_none r
  | some k => exact relV_key (show keyIs k u = true from r)
/-- o is a dict with these entries -/
def IsN (P : Program) (w : World) (d : Addr) (kvs : List (NK × V)) (o : Obj) : Prop :=
  (d == sysModules) = false ∧ kvs.length ≤ sizeLine ∧ ∃ vs, KV kvs vs ∧ o.IsDictOf (noneKind P w) vs
/-- the dict at d -/
def dN (P : Program) (w : World) (d : Addr) (kvs : List (NK × V)) : HO := .ext fun h => ∃ o, h.get? d = some o ∧ IsN P w d kvs o
/-- the dict at d, its very object -/
def dF (P : Program) (w : World) (d : Addr) (ob : Obj) (kvs : List (NK × V)) : HO := .ext fun h => h.get? d = some ob ∧ IsN P w d kvs ob
/-- a dict with these entries stands at d -/
def DN (P : Program) (w : World) (H : Hp) (d : Addr) (kvs : List (NK × V)) : Prop := H d = some (dN P w d kvs) ∨ ∃ ob, H d = some (dF P w d ob kvs)
theorem DN.same {P : Program} {w : World} {H H' : Hp} {d : Addr} {kvs : List (NK × V)} (h : DN P w H d kvs) (s : ∀ o, H d = some o → H' d = some o) : DN P w H' d kvs := by
  rcases h with h | ⟨ob, h⟩
  · exact .inl (s _ h)
  · exact .inr ⟨ob, s _ h⟩
theorem DN.there {P : Program} {w : World} {H : Hp} {d : Addr} {kvs : List (NK × V)} (h : DN P w H d kvs) : ∃ o, H d = some o := by
  rcases h with h | ⟨_, h⟩ <;> exact ⟨_, h⟩
section
variable {P : Program} {w : World} {H : Hp} {h : Heap} {d : Addr} {kvs : List (NK × V)}
theorem ok_dN {o : Obj} (e : h.get? d = some o) (i : IsN P w d kvs o) : ObjOk P w H h d (dN P w d kvs) :=
  ⟨⟨o, e, i⟩, ⟨o, e⟩, fun _ _ z k => by
    obtain ⟨o, e, i⟩ := z
    exact ⟨o, k _ e, i⟩⟩
theorem ok_dF {o : Obj} (e : h.get? d = some o) (i : IsN P w d kvs o) : ObjOk P w H h d (dF P w d o kvs) :=
  ⟨⟨e, i⟩, ⟨o, e⟩, fun _ _ z k => ⟨k _ z.1, z.2⟩⟩
theorem DN.obj (ok : HOk P w H h) (x : DN P w H d kvs) : ∃ o, h.get? d = some o ∧ IsN P w d kvs o := by
  rcases x with x | ⟨ob, x⟩
  · have z : ObjOk P w H h d (.ext fun h => ∃ o, h.get? d = some o ∧ IsN P w d kvs o) := ok d _ x
    exact z.1
  · have z : ObjOk P w H h d (.ext fun h => h.get? d = some ob ∧ IsN P w d kvs ob) := ok d _ x
    exact ⟨ob, z.1⟩
theorem DN.dict (ok : HOk P w H h) (x : DN P w H d kvs) : kvs.length ≤ sizeLine ∧ (d == sysModules) = false ∧ ∃ vs, KV kvs vs ∧ h.DictOf (noneKind P w) d vs := by
  obtain ⟨o, e, i1, i2, vs, kv, i3⟩ := x.obj ok
  exact ⟨i2, i1, vs, kv, Heap.dictOf_iff.mpr ⟨o, e, i3⟩⟩
theorem DN.mut (x : DN P w H d kvs) : Mut (H d) := by
  rcases x with x | ⟨_, x⟩ <;> (rw [x]; exact True.intro)
theorem new_dN {H : Hp} {vs : List (NK × Value)} (z : kvs.length ≤ sizeLine) (hd : (d == sysModules) = false) (kv : KV kvs vs) (x : h.DictOf (noneKind P w) d vs) : ObjOk P w H h d (dN P w d kvs) := by
  obtain ⟨o, e, i⟩ := Heap.dictOf_iff.mp x
  exact ok_dN e ⟨hd, z, vs, kv, i⟩
end
section
variable {X : Cx} {pins : List (Addr × Obj)} {σ : L2.St} {H : Hp} {s : Shared} {a : Addr} {kvs : List (NK × V)} {k : NK} {v : V} {u r : Value} {A : Around} {E : Value → Shared → Prop}
theorem n_put {Q : Unit → Shared → Prop} (I : Inv X pins σ H s) (x : DN X.prog X.w H a kvs) (few : kvs.length < sizeLine) (ry : RelV (nkV k) u) (rv : RelV v r)
    (z : ∀ s', Inv X pins σ (upd H a (dN X.prog X.w a (putK kvs k v))) s' → Q () s') : wpAny (model X.prog X.w) A (setItem (.ref a) u r) Q E s := by
  obtain ⟨_, hd, vs, kv, dd⟩ := x.dict I.hok
  have l1 := length_putK kvs k v
  refine wpAny_setItem_pairs (hsz := by rw [← kv.length]; omega) (nk_is ry) dd fun h' dd' hs => z _ ?_
  have he : ∃ q, h'.get? a = some q := let ⟨q, _, _, hq, _⟩ := dd'; ⟨q, hq⟩
  exact d_write I x.mut hs he (new_dN (by omega) hd (kv.put k rv) dd')
theorem n_get {Q : Value → Shared → Prop} (I : Inv X pins σ H s) (x : DN X.prog X.w H a kvs) (l : valV kvs k = some v) (ry : RelV (nkV k) u) (z : ∀ w' s', Inv X pins σ H s' → RelV v w' → Q w' s') :
    wpAny (model X.prog X.w) A (getItem (.ref a) u) Q E s := by
  obtain ⟨_, hd, vs, kv, dd⟩ := x.dict I.hok
  obtain ⟨w', hw, rw'⟩ := RelO.some_of (v := v) (o := valueAt vs k) (by rw [← l]; exact kv.val k)
  exact wpAny_getItem_of (nk_is ry) dd.mapOf hw (z w' _ (I.tok _) rw')
theorem n_pop {Q : Value → Shared → Prop} (I : Inv X pins σ H s) (x : DN X.prog X.w H a kvs) (l : valV kvs k = some v) (ry : RelV (nkV k) u) (hk : k ≠ none)
    (z : ∀ w' s', Inv X pins σ (upd H a (dN X.prog X.w a (dropK kvs k))) s' → RelV v w' → Q w' s') : wpAny (model X.prog X.w) A (call (.builtin "dict.pop") [.ref a, u]) Q E s := by
  obtain ⟨sz, hd, vs, kv, dd⟩ := x.dict I.hok
  obtain ⟨w', hw, rw'⟩ := RelO.some_of (v := v) (o := valueAt vs k) (by rw [← l]; exact kv.val k)
  have hp : (keyPart u).isSome = true := by
    match k, hk, ry with
    | none, hk, _ => exact absurd rfl hk
    | some (.inl i), _, ry =>
      obtain ⟨t, q⟩ := (show ∃ t, u = Value.int i t from ry)
      rw [q]
      rfl
    | some (.inr y), _, ry =>
      obtain ⟨t, q⟩ := (show ∃ t, u = Value.str y t from ry)
      rw [q]
      rfl
  refine call_meetsIn PySem.F.slot_dict_pop dd.typeIs PySem.F.entry_dict_pop (PySem.F.args_dict_pop_2 _ _) (meets_dict_pop_there (noneKind X.prog X.w) a (nk_is ry) [] (.inl rfl) hp) ⟨vs, w', dd, by rw [← kv.length]; exact sz, hw, fun h' dd' hs => z w' _ ?_ rw'⟩
  have he : ∃ q, h'.get? a = some q := let ⟨q, _, _, hq, _⟩ := dd'; ⟨q, hq⟩
  exact d_write I x.mut hs he (new_dN (Nat.le_trans (dropK_le kvs k) sz) hd (kv.drop k) dd')
end
section
variable {X : Cx} {pos pos' : Pos} {o i value e : Expr} {td ty tv : TE}
def tNewN (P : Program) (w : World) : TE := fun _ H Q => ∀ p, H p = none → Q (.ref p) (upd H p (dN P w p []))
theorem pe_newN : PE X (.Dict [] [] pos) (tNewN X.prog X.w) := ⟨fun pins s σ H Q I h =>
  wpAny_Dict_empty ⟨.ref s.heap.objs.size, _, I.laid (a := s.heap.objs.size) (o := dN X.prog X.w s.heap.objs.size []) (t' := s.toks) (fun _ _ q => Heap.get?_push_of_some _ q) (Nat.le_refl _)
    (new_dN (Nat.zero_le _) (beq_eq_false_iff_ne.mpr (Ne.symm (Nat.ne_of_lt I.big))) .nil (Heap.DictOf.new s.heap)), rfl, h _ (I.hok.fresh (Nat.le_refl _))⟩⟩
/-- d[y] = v -/
def sPutN (P : Program) (w : World) (td ty tv : TE) : TS := fun D σ H => tv σ H fun v H1 => td σ H1 fun x H2 => ty σ H2 fun y H3 => ∃ a kvs k, x = .ref a ∧ y = nkV k ∧ DN P w H3 a kvs ∧ kvs.length < sizeLine ∧ D.nx σ (upd H3 a (dN P w a (putK kvs k v)))
theorem ps_putN (ho : PE X o td) (hi : PE X i ty) (hv : PE X value tv) (hs : swapsWith value (some (.Subscript o i pos')) pos.line X.env = pure false := by rfl) : PS X (.Assign [.Subscript o i pos'] value pos) (sPutN X.prog X.w td ty tv) := by
  refine ⟨fun pins s σ H D I h => wpAny_Assign_Subscript (thn (hv.run pins s σ H _ I h) fun r s1 ⟨v, H1, I1, rv, q1⟩ => thn (ho.run pins s1 σ H1 _ I1 q1) fun u s2 ⟨x, H2, I2, rx, q2⟩ => thn (hi.run pins s2 σ H2 _ I2 q2) fun iv s3 ⟨y, H3, I3, ry, q3⟩ => ?_) hs⟩
  obtain ⟨a, kvs, k, ex, ey, x, few, q3⟩ := q3
  subst ex ey
  obtain rfl : u = Value.ref a := rx
  exact n_put I3 x few ry rv fun s4 I4 => ⟨σ, _, I4, q3⟩
def rInN (P : Program) (w : World) (neg : Bool) : R2 := fun x y H Q => ∃ a kvs k, y = .ref a ∧ x = nkV k ∧ DN P w H a kvs ∧ Q (.bl (if neg then !(valV kvs k).isSome else (valV kvs k).isSome)) H
theorem op_inN : OpR X (compareOp .In) (rInN X.prog X.w false) := by
  intro pins s σ H x y v u Q I rx ry h
  obtain ⟨a, kvs, k, rfl, rfl, d, q⟩ := h
  cases ry
  obtain ⟨_, hd, vs, kv, dd⟩ := d.dict I.hok
  refine wpAny_in_of (nk_is rx) hd dd.mapOf ?_
  rw [← (kv.val k).isSome_eq]
  exact ⟨.bl _, H, I.tok _, rfl, q⟩
theorem op_notInN : OpR X (compareOp .NotIn) (rInN X.prog X.w true) := by
  intro pins s σ H x y v u Q I rx ry h
  obtain ⟨a, kvs, k, rfl, rfl, d, q⟩ := h
  cases ry
  obtain ⟨_, hd, vs, kv, dd⟩ := d.dict I.hok
  refine wpAny_notIn_of (nk_is rx) hd dd.mapOf ?_
  rw [← (kv.val k).isSome_eq]
  exact ⟨.bl _, H, I.tok _, rfl, q⟩
/-- d[y] -/
def tGetN (P : Program) (w : World) (td ty : TE) : TE := fun σ H Q => td σ H fun x H1 => ty σ H1 fun y H2 => ∃ a kvs k v, x = .ref a ∧ y = nkV k ∧ DN P w H2 a kvs ∧ valV kvs k = some v ∧ Q v H2
theorem pe_getN (ho : PE X o td) (hi : PE X i ty) (hs : NoSl i) : PE X (.Subscript o i pos) (tGetN X.prog X.w td ty) := by
  refine ⟨fun pins s σ H Q I h => subD_of PySem.F.slot_dict_getitem.lookup hs (thn (ho.run pins s σ H _ I h) fun u s1 ⟨x, H1, I1, rx, q1⟩ => thn (hi.run pins s1 σ H1 _ I1 q1) fun iv s2 ⟨y, H2, I2, ry, q2⟩ => ?_)⟩
  obtain ⟨a, kvs, k, v, ex, ey, x, l, q⟩ := q2
  subst ex ey
  obtain rfl : u = Value.ref a := rx
  obtain ⟨_, _, vs, _, dd⟩ := x.dict I2.hok
  exact ⟨dd.typeIs, n_get I2 x l ry fun w' s3 I3 rw' => ⟨v, H2, I3, rw', q⟩⟩
theorem call_lenN : CallR X (.builtin "len") (fun xs H Q => ∃ a kvs, xs = [.ref a] ∧ DN X.prog X.w H a kvs ∧ Q (.int kvs.length) H) := by
  intro pins s σ H xs us Q I r h
  obtain ⟨a, kvs, rfl, x, q⟩ := h
  obtain ⟨u, rfl, ru⟩ := vals1 r
  cases ru
  obtain ⟨z, hd, vs, kv, dd⟩ := x.dict I.hok
  refine call_len_dict hd dd (by rw [← kv.length]; rw [sizeLine_eq] at z; omega) ?_
  rw [← kv.length]
  exact ⟨.int kvs.length, H, I.tok _, ⟨_, rfl⟩, q⟩
theorem call_dictN : CallR X (.type "dict") (fun xs H Q => ∃ a kvs, xs = [.ref a] ∧ DN X.prog X.w H a kvs ∧ ∀ p, H p = none → Q (.ref p) (upd H p (dN X.prog X.w p kvs))) := by
  intro pins s σ H xs us Q I r h
  obtain ⟨a, kvs, rfl, x, q⟩ := h
  obtain ⟨u, rfl, ru⟩ := vals1 r
  cases ru
  obtain ⟨z, hd, vs, kv, dd⟩ := x.dict I.hok
  refine kt_call_dict hd dd (by rw [← kv.length]; exact z) fun h' d' hs => ?_
  have hm : (s.heap.objs.size == sysModules) = false := beq_eq_false_iff_ne.mpr (Nat.ne_of_gt I.big)
  exact ⟨.ref _, _, I.laid (t' := s.toks) (fun b u e => (hs.2 b (Nat.ne_of_lt (Heap.lt_size e))).trans (Heap.get?_push_of_some _ e)) (Nat.le_refl _) (new_dN z hm kv d'), rfl, q _ (I.hok.fresh (Nat.le_refl _))⟩
/-- isinstance(d, c) -/
theorem call_isiN : CallR X (.builtin "isinstance") (fun xs H Q => ∃ a kvs T b, xs = [.ref a, .ty T] ∧ DN X.prog X.w H a kvs ∧ kitB "dict" T = some b ∧ Q (.bl b) H) := by
  intro pins s σ H xs us Q I r h
  obtain ⟨a, kvs, T, b, rfl, x, e, q⟩ := h
  obtain ⟨u1, u2, rfl, r1, r2⟩ := vals2 r
  cases (show u1 = Value.ref a from r1)
  cases (show u2 = Value.type T from r2)
  obtain ⟨o, ho, _, _, vs, _, i⟩ := x.obj I.hok
  have hc : o.cls = .type "dict" := by
    obtain ⟨es, ep, hx, _⟩ := i
    exact hx.1
  exact PySem.W.kia_one PySem.W.kitx_dict I.kIn ⟨o, ho, hc⟩ (kit_ty e) (fun z => nomatch z) fun tk => ⟨.bl b, H, I.tok tk, rfl, q⟩
/-- two ways to call the same -/
theorem call_or {id : Value} {r1 r2 : List V → Hp → VK → Prop} (h1 : CallR X id r1) (h2 : CallR X id r2) : CallR X id (fun xs H Q => r1 xs H Q ∨ r2 xs H Q) := by
  intro pins s σ H xs us Q I r h
  rcases h with h | h
  · exact h1 pins s σ H xs us Q I r h
  · exact h2 pins s σ H xs us Q I r h
/-- {}, its object fixed -/
def tNewF (P : Program) (w : World) : TE := fun _ H Q => ∀ p ob, H p = none → Q (.ref p) (upd H p (dF P w p ob []))
theorem pe_newF : PE X (.Dict [] [] pos) (tNewF X.prog X.w) := ⟨fun pins s σ H Q I h => by
  have dd := Heap.dictOf_iff.mp (Heap.DictOf.new (knd := noneKind X.prog X.w) s.heap)
  obtain ⟨o, e, i⟩ := dd
  have hm : (s.heap.objs.size == sysModules) = false := beq_eq_false_iff_ne.mpr (Ne.symm (Nat.ne_of_lt I.big))
  exact wpAny_Dict_empty ⟨.ref s.heap.objs.size, _, I.laid (a := s.heap.objs.size) (o := dF X.prog X.w s.heap.objs.size o []) (t' := s.toks) (fun _ _ q => Heap.get?_push_of_some _ q) (Nat.le_refl _)
    (ok_dF e ⟨hm, Nat.zero_le _, [], .nil, i⟩), rfl, h _ o (I.hok.fresh (Nat.le_refl _))⟩⟩
/-- dict(d), its object fixed -/
theorem call_dictF : CallR X (.type "dict") (fun xs H Q => ∃ a kvs, xs = [.ref a] ∧ DN X.prog X.w H a kvs ∧ ∀ p ob, H p = none → Q (.ref p) (upd H p (dF X.prog X.w p ob kvs))) := by
  intro pins s σ H xs us Q I r h
  obtain ⟨a, kvs, rfl, x, q⟩ := h
  obtain ⟨u, rfl, ru⟩ := vals1 r
  cases ru
  obtain ⟨z, hd, vs, kv, dd⟩ := x.dict I.hok
  refine kt_call_dict hd dd (by rw [← kv.length]; exact z) fun h' d' hs => ?_
  have hm : (s.heap.objs.size == sysModules) = false := beq_eq_false_iff_ne.mpr (Nat.ne_of_gt I.big)
  obtain ⟨o, e, i⟩ := Heap.dictOf_iff.mp d'
  exact ⟨.ref _, _, I.laid (t' := s.toks) (fun b u e => (hs.2 b (Nat.ne_of_lt (Heap.lt_size e))).trans (Heap.get?_push_of_some _ e)) (Nat.le_refl _) (ok_dF e ⟨hm, z, vs, kv, i⟩), rfl, q _ o (I.hok.fresh (Nat.le_refl _))⟩
end
end Dn
/-! such dicts: pop, the walk over the keys -/
namespace Dn
open PySem PySem.Spec PyProof.Rows L2
/-- d[y], told without the context -/
theorem pe_getNP {X : Cx} {P : Program} {w : World} {pos : Pos} {o i : Expr} {td ty : TE} (hP : X.prog = P) (hw : X.w = w) (ho : PE X o td) (hi : PE X i ty) (hs : NoSl i) : PE X (.Subscript o i pos) (tGetN P w td ty) := by
  subst hP hw
  exact pe_getN ho hi hs
/-- d.pop(k), k there and not None -/
def tPopN (P : Program) (w : World) (td ty : TE) : TE := fun σ H Q => td σ H fun x H1 => ∃ a kvs0, x = .ref a ∧ DN P w H1 a kvs0 ∧ ty σ H1 fun y H2 => ∃ kvs k v, DN P w H2 a kvs ∧ y = nkV (some k) ∧ valV kvs (some k) = some v ∧ Q v (upd H2 a (dN P w a (dropK kvs (some k))))
theorem pe_popN {X : Cx} {o e : Expr} {td ty : TE} {apos cpos : Pos} (ho : PE X o td) (he : PE X e ty) (m : M1 X o "pop" apos e cpos) : PE X (.Call (.Attribute o "pop" apos) [e] [] cpos) (tPopN X.prog X.w td ty) := by
  refine ⟨fun pins s σ H Q I h => wpAny_Call_method m.base m.few m.line PySem.F.plainAttrs_dict PySem.F.slot_dict_pop PySem.F.type_dict_pop (thn (ho.run pins s σ H _ I h) fun u s1 ⟨x, H1, I1, rx, q1⟩ => ?_)⟩
  obtain ⟨a, kvs0, ex, d0, q1⟩ := q1
  subst ex
  obtain rfl : u = Value.ref a := rx
  obtain ⟨_, _, vs, _, dd⟩ := d0.dict I1.hok
  refine ⟨dd.typeIs, dd.mapOf.noDict, ?_⟩
  rw [m.trees]
  refine Calls.callWith_builtin rfl (Calls.evalArgs_plain (Calls.spliced_cons (thn (he.run pins s1 σ H1 _ I1 q1) fun iv s2 ⟨y, H2, I2, ry, q2⟩ => Calls.spliced_nil ?_)))
  obtain ⟨kvs, k, v, d, ey, l, q2⟩ := q2
  subst ey
  exact n_pop I2 d l ry (fun z => nomatch z) fun w' s3 I3 rw' => ⟨v, _, I3, rw', q2⟩
/-- the keys of the dict at d -/
def ItN (P : Program) (w : World) (d : Addr) (ob : Obj) (kvs : List (NK × V)) : It :=
  ⟨fun i H => H d = some (dF P w d ob kvs) ∧ i < kvs.length, fun i H x H' => H' = H ∧ ∃ k v, kvs[i]? = some (k, v) ∧ x = nkV k, fun i H => H d = some (dF P w d ob kvs) ∧ kvs.length ≤ i⟩
theorem kv_at {κ : Type} : ∀ {kvs : List (κ × V)} {vs : List (κ × Value)} {i : Nat} {k : κ} {v : V}, KV kvs vs → kvs[i]? = some (k, v) → ∃ u, vs[i]? = some (k, u)
  | [], _, i, _, _, _, h => by simp at h
  | p :: ps, q :: qs, 0, k, v, .cons a _, h => by
    have e : p = (k, v) := by simpa using h
    subst e
    exact ⟨q.2, by rw [show k = q.1 from a.1]; rfl⟩
  | p :: ps, q :: qs, i + 1, k, v, .cons _ r, h => by
    obtain ⟨u, e⟩ := kv_at (i := i) r (by simpa using h)
    exact ⟨u, by simpa using e⟩
theorem dF_at {X : Cx} {pins : List (Addr × Obj)} {σ : L2.St} {H : Hp} {s : Shared} {d : Addr} {ob : Obj} {kvs : List (NK × V)} {es : Array DictEntry} {ep : Nat} (I : Inv X pins σ H s) (hd : H d = some (dF X.prog X.w d ob kvs)) (hod : ob.data = .dict es ep) :
    s.heap.get? d = some ob ∧ es.size = kvs.length ∧ ∃ vs, KV kvs vs ∧ s.heap.DictAt (noneKind X.prog X.w) d vs ep := by
  have z : ObjOk X.prog X.w H s.heap d (.ext fun h => h.get? d = some ob ∧ IsN X.prog X.w d kvs ob) := I.hok d _ hd
  obtain ⟨⟨e, _, _, vs, kv, es', ep', hx, hdt, r⟩, _⟩ := z
  rw [hod] at hdt
  cases hdt
  have l1 := r.2.1.length
  have l2 : kvs.length = vs.length := Paired.length kv
  rw [Array.length_toList] at l1
  exact ⟨e, by omega, vs, kv, ob, es, e, hx, hod, r⟩
theorem turn_keysN {P : Program} {w : World} {K : PySem.W.Frag} {tg : Expr} {d it : Addr} {ob : Obj} {es : Array DictEntry} {ep : Nat} {kvs : List (NK × V)} (hod : ob.data = .dict es ep) : Turn P w K tg (ItN P w d ob kvs) [it] it (fun i h => h.IsKeyIter it d i kvs.length ep) where
  mem := by simp
  obj := fun i h st b hb => by
    obtain ⟨oi, e, c, dd⟩ := st
    exact ⟨oi, by rw [List.mem_singleton.mp hb]; exact e, fun v z => by rw [dd] at z; cases z⟩
  keep := fun i h h' st k => st.at fun oi e => k it List.mem_cons_self oi e
  item := by
    intro X hP hw hK hc i pins s σ H E I hf st hg
    subst hP hw hK
    obtain ⟨hd, hi⟩ := hg
    obtain ⟨f0, f1, f2, f3, f4, f5⟩ := hf it List.mem_cons_self
    obtain ⟨e, sz, vs, kv, hm⟩ := dF_at I hd hod
    obtain ⟨⟨k, v⟩, hkv⟩ : ∃ p, kvs[i]? = some p := ⟨kvs[i], List.getElem?_eq_getElem hi⟩
    obtain ⟨u, hu⟩ := kv_at kv hkv
    have hl : kvs.length = vs.length := Paired.length kv
    rw [hl] at st
    refine wpAny_pyNext_dict_item st hm hu fun key h' hkey st' sb => ?_
    have I1 : Inv X pins σ H { s with heap := h' } := I.turned (t' := s.toks) (fun b q hb z => (sb.2 b hb).trans z) f0 f1 f3 f4 f5
    obtain ⟨oi, e', c, dd⟩ := id st'
    refine ⟨key, rfl, go_of (s := { s with heap := h' }) e' c dd (by decide) ⟨nkV k, H, I1, nk_rel hkey, ⟨rfl, k, v, hkv, rfl⟩, ?_, fun b hb => (hf b hb).1⟩⟩
    show h'.IsKeyIter it d (i + 1) kvs.length ep
    rw [hl]
    exact st'
  done := by
    intro X hP hw hK hc i pins s σ H E I hf st hg
    subst hP hw hK
    obtain ⟨hd, hi⟩ := hg
    obtain ⟨f0, f1, f2, f3, f4, f5⟩ := hf it List.mem_cons_self
    obtain ⟨e, sz, vs, kv, hm⟩ := dF_at I hd hod
    exact next_key_end (I.ok.hd hc) st e hod sz hi fun h' eb => ⟨rfl, I.turned (t' := s.toks) (fun b q hb z => eb b q hb z) f0 f1 f3 f4 f5⟩
  self := fun A i s Q E st h => wpAny_pyIter_keyiter st h
/-- for k in d: d's object is fixed -/
def iKeysN (P : Program) (w : World) (td : TE) : TI := fun σ H R => td σ H fun x H1 => ∃ d kvs, x = .ref d ∧ DN P w H1 d kvs ∧ ∀ ob, R (ItN P w d ob kvs) (upd H1 d (dF P w d ob kvs))
theorem pi_keysN {X : Cx} {tg e : Expr} {td : TE} (he : PE X e td) : PI X tg e (iKeysN X.prog X.w td) := by
  refine ⟨fun pins s σ H R I h => thn (he.run pins s σ H _ I h) fun u s1 ⟨x, H1, I1, rx, q⟩ => ?_⟩
  obtain ⟨d, kvs, ex, dn, q⟩ := q
  subst ex
  obtain rfl : u = Value.ref d := rx
  obtain ⟨ob, eo, isn⟩ := dn.obj I1.hok
  obtain ⟨hd, z, vs, kv, es, ep, hx, hdt, r⟩ := id isn
  have I2 : Inv X pins σ (upd H1 d (dF X.prog X.w d ob kvs)) s1 := d_write (h' := s1.heap) (t' := s1.toks) I1 dn.mut ⟨rfl, fun _ _ => rfl⟩ ⟨ob, eo⟩ (ok_dF eo isn)
  have sz : es.size = kvs.length := by
    have l1 := r.2.1.length
    have l2 : kvs.length = vs.length := Paired.length kv
    rw [Array.length_toList] at l1
    omega
  refine iter_keys hd eo hx hdt (pi_one (tk := s1.toks) I2 _ (turn_keysN hdt) ⟨_, Heap.get?_push_size _ rfl, rfl, ?_⟩ (q ob))
  rw [sz] <;> rfl
/-- .. over a dict whose object is fixed -/
def iKeysF (P : Program) (w : World) (td : TE) : TI := fun σ H R => td σ H fun x H1 => ∃ d ob kvs, x = .ref d ∧ H1 d = some (dF P w d ob kvs) ∧ R (ItN P w d ob kvs) H1
theorem pi_keysF {X : Cx} {tg e : Expr} {td : TE} (he : PE X e td) : PI X tg e (iKeysF X.prog X.w td) := by
  refine ⟨fun pins s σ H R I h => thn (he.run pins s σ H _ I h) fun u s1 ⟨x, H1, I1, rx, q⟩ => ?_⟩
  obtain ⟨d, ob, kvs, ex, hd, q⟩ := q
  subst ex
  obtain rfl : u = Value.ref d := rx
  have z : ObjOk X.prog X.w H1 s1.heap d (.ext fun h => h.get? d = some ob ∧ IsN X.prog X.w d kvs ob) := I1.hok d _ hd
  obtain ⟨⟨eo, hsm, _, vs, kv, es, ep, hx, hdt, r⟩, _⟩ := z
  have sz : es.size = kvs.length := by
    have l1 := r.2.1.length
    have l2 : kvs.length = vs.length := Paired.length kv
    rw [Array.length_toList] at l1
    omega
  refine iter_keys hsm eo hx hdt (pi_one (tk := s1.toks) I1 _ (turn_keysN hdt) ⟨_, Heap.get?_push_size _ rfl, rfl, ?_⟩ q)
  rw [sz] <;> rfl
theorem walk_keysN {P : Program} {w : World} {d : Addr} {ob : Obj} {kvs : List (NK × V)} : Walk (ItN P w d ob kvs) kvs.length (fun H => H d = some (dF P w d ob kvs)) (fun i H x H' => H' = H ∧ ∃ k v, kvs[i]? = some (k, v) ∧ x = nkV k) :=
  ⟨fun _ _ hi q => ⟨q, hi⟩, fun _ q => ⟨q, Nat.le_refl _⟩, fun _ _ _ _ _ _ y => y⟩
end Dn
/-! _law_same with dicts -/
namespace Lw2
open PySem PySem.Spec PyProof.Rows L2 Lw Dn
/-- x and y hold the same data, n deep; dicts too (y's objects fixed) -/
def Eqw (P : Program) (w : World) (H : Hp) : Nat → V → V → Prop
  | 0, x, y => x = y ∧ Atom x
  | n + 1, x, y => (x = y ∧ Atom x) ∨ (∃ (a b : Addr) (xs ys : List V), x = .ref a ∧ y = .ref b ∧ ((H a = some (.lst xs) ∧ H b = some (.lst ys)) ∨ (H a = some (.tup xs) ∧ H b = some (.tup ys))) ∧
      xs.length = ys.length ∧ xs.length ≤ 1000 ∧ ∀ (i : Nat) (u v : V), xs[i]? = some u → ys[i]? = some v → Eqw P w H n u v) ∨
      ∃ (a b : Addr) (xs ys : List (NK × V)) (ob : Obj), x = .ref a ∧ y = .ref b ∧ DN P w H a xs ∧ H b = some (dF P w b ob ys) ∧ xs.length = ys.length ∧ ys.length ≤ 1000 ∧
        ∀ (i : Nat) (k : NK) (v : V), ys[i]? = some (k, v) → ∃ u, valV xs k = some u ∧ valV ys k = some v ∧ Eqw P w H n u v
theorem Eqw.atom {P : Program} {w : World} {H : Hp} {x : V} (h : Atom x) : ∀ n, Eqw P w H n x x
  | 0 => ⟨rfl, h⟩
  | _ + 1 => .inl ⟨rfl, h⟩
theorem Eqw.same {P : Program} {w : World} {H H' : Hp} (s : Same H H') : ∀ {n : Nat} {x y : V}, Eqw P w H n x y → Eqw P w H' n x y
  | 0, _, _, h => h
  | n + 1, x, y, h => by
    rcases h with h | ⟨a, b, xs, ys, e1, e2, h1, h2, h3, h4⟩ | ⟨a, b, xs, ys, ob, e1, e2, h1, h2, h3, h4, h5⟩
    · exact .inl h
    · refine .inr (.inl ⟨a, b, xs, ys, e1, e2, ?_, h2, h3, fun i u v p q => Eqw.same s (h4 i u v p q)⟩)
      rcases h1 with ⟨p, q⟩ | ⟨p, q⟩
      · exact .inl ⟨s _ _ p, s _ _ q⟩
      · exact .inr ⟨s _ _ p, s _ _ q⟩
    · refine .inr (.inr ⟨a, b, xs, ys, ob, e1, e2, h1.same fun o e => s _ _ e, s _ _ h2, h3, h4, fun i k v e => ?_⟩)
      obtain ⟨u, z1, z2, z3⟩ := h5 i k v e
      exact ⟨u, z1, z2, Eqw.same s z3⟩
abbrev dictBody : List Stmt := match (defBody sSame).getD 4 (.Pass ⟨0, 0, 0, 0⟩) with
  | .If _ b _ _ => b
  | _ => []
def TyU (P : Program) (w : World) (K : PySem.W.Frag) (H : Hp) (x : V) (n : String) : Prop := TyX K H x (.type n) ∨ (n = "dict" ∧ ∃ a kvs, x = .ref a ∧ DN P w H a kvs)
theorem isiU {P : Program} {w : World} {K : PySem.W.Frag} {H : Hp} {x : V} {n T : String} {b : Bool} {Q : VK} (ty : TyU P w K H x n) (h : kitB n T = some b) (q : Q (.bl b) H) :
    rIsi K [x, .ty T] H Q ∨ ∃ a kvs T' b', [x, V.ty T] = [.ref a, .ty T'] ∧ DN P w H a kvs ∧ kitB "dict" T' = some b' ∧ Q (.bl b') H := by
  rcases ty with ty | ⟨rfl, a, kvs, rfl, d⟩
  · exact .inl (isi_of ty h q)
  · exact .inr ⟨a, kvs, T, b, rfl, d, h, q⟩
def spSame (P : Program) (w : World) (n : Nat) : Sp := fun vs H Q _ => ∃ x y : V, vs = [x, y] ∧ Eqw P w H n x y ∧ ∀ H', Same H H' → Q (.bl true) H'
section
variable {P : Program} {w : World} {K : PySem.W.Frag} {mg : Str → Option Value} {base : Heap}
theorem scSame : FnScope ["_law_actual", "_law_expected", "_law_key", "_law_k"] ["_law_actual", "_law_expected"] (defScope sSame) := ⟨rfl, rfl, rfl, by decide +kernel, rfl, by decide +kernel, by decide +kernel⟩
/-- one turn of _law_same's recursion -/
theorem ok_same_of {f : Addr} {fd : FuncData} (F : Fun K "_law_same" "_law_same" sSame f fd) (B : Bt mg) (b0 : Binds K fd ["_law_actual", "_law_expected"] []) (m0 : mg "_law_same" = some (.ref f)) (n : Nat)
    (G : ∀ m, n = m + 1 → FnOk P w K mg base CX0 n f fd ["_law_actual", "_law_expected"] (spSame P w m)) : FnOk P w K mg base CX0 (n + 1) f fd ["_law_actual", "_law_expected"] (spSame P w n) := by
  refine F.ok scSame (fun vs H Q E h => ?_) (fun cdv A outer s H vs Q E hr h => ?_)
  · obtain ⟨x, y, rfl, _⟩ := h
    rfl
  · obtain ⟨x, y, rfl, hE, k⟩ := h
    -- what is no atom
    obtain ⟨t5, d5, k5⟩ : ∃ t, PSs (cxOf CX0 P w K mg base ["_law_actual", "_law_expected", "_law_key", "_law_k"] "_law_same" (defScope sSame) f cdv A outer s H E).nox ((defBody sSame).drop 5) t ∧
        ∀ (m : Nat) (a b : Addr) (xs ys : List V), n = m + 1 → ((H a = some (.lst xs) ∧ H b = some (.lst ys)) ∨ (H a = some (.tup xs) ∧ H b = some (.tup ys))) →
          xs.length = ys.length → xs.length ≤ 1000 → (∀ (i : Nat) (u v : V), xs[i]? = some u → ys[i]? = some v → Eqw P w H m u v) → (x = .ref a ∧ y = .ref b) →
          t { nx := fun _ H' => Q .non H', rt := Q } [some (.ref a), some (.ref b), none, none] H := by
      cases n with
      | zero => exact ⟨_, pss_never, fun m _ _ _ _ e => nomatch e⟩
      | succ m =>
        have GS := G m rfl
        refine ⟨_, pss_cons (ps_if (pw_or (pt_cmpR op_ne (pe_callB (call_or call_isi call_isiN) (by rfl) B.isi (by decide +kernel) (pa_cons (pv 1) (pa_cons (pe_bltn (v := .ty "tuple") (by rfl) B.tuple (by decide +kernel) rfl) pa_nil)))
              (pe_callB (call_or call_isi call_isiN) (by rfl) B.isi (by decide +kernel) (pa_cons (pv 0) (pa_cons (pe_bltn (v := .ty "tuple") (by rfl) B.tuple (by decide +kernel) rfl) pa_nil))) (nomark _))
            (pw_or1 (pt_not (pt_val (pe_callB call_isiT (by rfl) B.isi (by decide +kernel) (pa_cons (pv 0) (pa_cons (pe_tup (pa_cons (pe_bltn (v := .ty "tuple") (by rfl) B.tuple (by decide +kernel) rfl) (pa_cons (pe_bltn (v := .ty "list") (by rfl) B.list (by decide +kernel) rfl) pa_nil))) pa_nil))))))).pt pss_never pss_nil)
          (pss_cons (ps_if (pt_cmpR op_ne (pe_callB call_len_seq (by rfl) B.len PySem.boot_len (pa_cons (pv 0) pa_nil)) (pe_callB call_len_seq (by rfl) B.len PySem.boot_len (pa_cons (pv 1) pa_nil)) (nomark _)) pss_never pss_nil)
          (pss_one (ps_ret (pe_cmpR op_eq (pe_callB call_len_seq (by rfl) B.len PySem.boot_len (pa_cons
            (pe_lc (own := [("_law_k", 3)]) (g := gName 3) (by rfl) scSame.nd (pi_range1 rfl B.range (pa_cons (pe_callB call_len_seq (by rfl) B.len PySem.boot_len (pa_cons (pv 1) pa_nil)) pa_nil))
              (blkOk_by (own := [("_law_k", 3)]) (N := ["_law_actual", "_law_expected", "_law_key", "_law_k"]) (sc := defScope sSame) (by decide +kernel)) (fun _ _ _ _ _ => pg_name (i := 3) scSame.nd rfl (Or.inl rfl))
              (fun _ _ _ _ _ => pts_one (pt_not (pt_val (pe_call GS hr rfl m0 F.kp b0 .nil pass0 (pa_cons (pe_ix (r := rIx K) ix_seq (pv 0) (pv 3) (fun _ _ => rfl)) (pa_cons (pe_ix (r := rIx K) ix_seq (pv 1) (pv 3) (fun _ _ => rfl)) pa_nil))))))
              (fun _ _ _ _ _ => pv 3)) pa_nil)) pe_int (nomark _))))), ?_⟩
        intro m' a b xs ys em hk hl hz hp hxy
        obtain rfl : m' = m := by omega
        -- both are of one kind
        obtain ⟨T, tx, ty, e1, e2⟩ : ∃ T : Bool, (∀ H', Same H H' → TyX K H' (.ref a) (.type (if T then "tuple" else "list"))) ∧ TyX K H (.ref b) (.type (if T then "tuple" else "list")) ∧ kitB (if T then "tuple" else "list") "tuple" = some T ∧
            ∀ H', Same H H' → (SqL K H' a xs ∧ SqL K H' b ys) ∨ (SqT K H' a xs ∧ SqT K H' b ys) := by
          rcases hk with ⟨p, q⟩ | ⟨p, q⟩
          · exact ⟨false, fun H' s => .base (.lst (s _ _ p)), .base (.lst q), by decide +kernel, fun H' s => .inl ⟨SqL.of (s _ _ p), SqL.of (s _ _ q)⟩⟩
          · exact ⟨true, fun H' s => .base (.tup (s _ _ p)), .base (.tup q), by decide +kernel, fun H' s => .inr ⟨SqT.of (s _ _ p), SqT.of (s _ _ q)⟩⟩
        have lenA : ∀ H', Same H H' → SqL K H' a xs ∨ SqT K H' a xs := fun H' s => (e2 H' s).elim (fun z => .inl z.1) fun z => .inr z.1
        have lenB : ∀ H', Same H H' → SqL K H' b ys ∨ SqT K H' b ys := fun H' s => (e2 H' s).elim (fun z => .inl z.2) fun z => .inr z.2
        have any : kitB (if T then "tuple" else "list") "list" = some (!T) := by cases T <;> decide +kernel
        refine ⟨_, rfl, isiU (.inl ty) e1 ⟨_, rfl, isiU (.inl (tx H (Same.refl H))) e1 ⟨rfl, _, rfl, ?_⟩⟩⟩
        rw [decide_eq_true (p := V.bl T = V.bl T) rfl]
        refine iteF ⟨_, rfl, (by show 2 ≤ sizeLine; decide), fun tp htp => ⟨_, tp, _, _, _, true, rfl, upd_same, .cons (.ty _) (.cons (.ty _) .nil), tx _ (same_new htp), kitAny_cons (kit_ty e1) (fun z => kitAny_cons (kit_ty any) (fun z' => by rw [z] at z'; cases z') (fun _ => rfl)) (fun _ => rfl), _, rfl, iteF ?_⟩⟩
        -- len(actual) != len(expected)
        refine ⟨_, rfl, a, xs, rfl, lenA _ (same_new htp), _, rfl, b, ys, rfl, lenB _ (same_new htp), rfl, _, rfl, iteNS (by rw [hl]) ?_⟩
        -- the comprehension's list stays empty
        refine ⟨_, rfl, b, ys, rfl, lenB _ (same_new htp), ys.length, rfl, (by omega), (by omega), fun D hD => ?_⟩
        have sD : Same H (upd (upd H tp (.tup [V.ty "tuple", V.ty "list"])) D (.lst [])) := (same_new htp).trans (same_new hD)
        refine lc_range (lo := 0) (n := ys.length) (fun i H' => Same (upd (upd H tp (.tup [V.ty "tuple", V.ty "list"])) D (.lst [])) H') (Same.refl _) ?_ ?_
        · intro i H' hi hs
          obtain ⟨u, hu⟩ : ∃ u, xs[i]? = some u := ⟨xs[i]'(by omega), List.getElem?_eq_getElem (by omega)⟩
          obtain ⟨v, hv⟩ : ∃ v, ys[i]? = some v := ⟨ys[i]'(by omega), List.getElem?_eq_getElem (by omega)⟩
          have s2 : Same H H' := sD.trans hs
          have ux : ∀ Q : VK, Q u H' → rIx K (.ref a) (.int (0 + (i : Int))) H' Q := fun Q q => by
            rcases e2 H' s2 with ⟨z, _⟩ | ⟨z, _⟩
            · exact .inl ⟨a, xs, _, u, rfl, rfl, z, at_of (Int.zero_add _) hu, q⟩
            · exact .inr (.inl ⟨a, xs, _, u, rfl, rfl, z, at_of (Int.zero_add _) hu, q⟩)
          have vx : ∀ Q : VK, Q v H' → rIx K (.ref b) (.int (0 + (i : Int))) H' Q := fun Q q => by
            rcases e2 H' s2 with ⟨_, z⟩ | ⟨_, z⟩
            · exact .inl ⟨b, ys, _, v, rfl, rfl, z, at_of (Int.zero_add _) hv, q⟩
            · exact .inr (.inl ⟨b, ys, _, v, rfl, rfl, z, at_of (Int.zero_add _) hv, q⟩)
          refine ⟨rfl, _, rfl, _, rfl, ux _ ⟨_, rfl, _, rfl, vx _ ⟨u, v, rfl, (hp i u v hu hv).same s2, fun H3 s3 => ⟨_, rfl, iteF (hs.trans s3)⟩⟩⟩⟩
        · intro H' hs
          refine ⟨D, [], rfl, .inl (SqL.of (hs _ _ upd_same)), rfl, ?_⟩
          exact k H' (sD.trans hs)
    obtain ⟨tD, dD, kD⟩ : ∃ t, PSs (cxOf CX0 P w K mg base ["_law_actual", "_law_expected", "_law_key", "_law_k"] "_law_same" (defScope sSame) f cdv A outer s H E).nox dictBody t ∧
        ∀ (m : Nat) (a b : Addr) (xs ys : List (NK × V)) (ob : Obj), n = m + 1 → DN P w H a xs → H b = some (dF P w b ob ys) → xs.length = ys.length → ys.length ≤ 1000 →
          (∀ (i : Nat) (k : NK) (v : V), ys[i]? = some (k, v) → ∃ u, valV xs k = some u ∧ valV ys k = some v ∧ Eqw P w H m u v) → ∀ D : Ends, D.rt = Q →
          t D [some (.ref a), some (.ref b), none, none] H := by
      cases n with
      | zero => exact ⟨_, pss_never, fun m _ _ _ _ _ e => nomatch e⟩
      | succ m =>
        have GS := G m rfl
        refine ⟨_, pss_cons (ps_if (pw_or (pt_not (pt_val (pe_callB (call_or call_isi call_isiN) (by rfl) B.isi (by decide +kernel) (pa_cons (pv 0) (pa_cons (pe_bltn (v := .ty "dict") (by rfl) B.dict (by decide +kernel) rfl) pa_nil))))) (pw_or1 (pt_cmpR op_ne (pe_callB call_lenN (by rfl) B.len PySem.boot_len (pa_cons (pv 0) pa_nil)) (pe_callB call_lenN (by rfl) B.len PySem.boot_len (pa_cons (pv 1) pa_nil)) (nomark _)))).pt pss_never pss_nil)
          (pss_one (ps_ret (pe_cmpR op_eq (pe_callB call_len_seq (by rfl) B.len PySem.boot_len (pa_cons
            (pe_lc (own := [("_law_key", 2)]) (g := gName 2) (by rfl) scSame.nd (pi_keysF (pv 1))
              (blkOk_by (own := [("_law_key", 2)]) (N := ["_law_actual", "_law_expected", "_law_key", "_law_k"]) (sc := defScope sSame) (by decide +kernel)) (fun _ _ _ _ _ => pg_name (i := 2) scSame.nd rfl (Or.inl rfl))
              (fun _ _ _ _ _ => pts_one (pw_or (pt_cmpR (r := rInN P w true) op_notInN (pv 2) (pv 0) (by rfl)) (pw_or1 (pt_not (pt_val (pe_call GS hr (by rfl) m0 F.kp b0 .nil pass0 (pa_cons (pe_getNP (P := P) (w := w) rfl rfl (pv 0) (pv 2) (fun _ _ => rfl)) (pa_cons (pe_getNP (P := P) (w := w) rfl rfl (pv 1) (pv 2) (fun _ _ => rfl)) pa_nil))))))).pt)
              (fun _ _ _ _ _ => pv 2)) pa_nil)) pe_int (nomark _)))), ?_⟩
        intro m' a b xs ys ob em hx hy hl hz hp D hD
        obtain rfl : m' = m := by omega
        have hy' : DN P w H b ys := .inr ⟨ob, hy⟩
        refine ⟨_, rfl, isiU (b := true) (.inr ⟨rfl, a, xs, rfl, hx⟩) (by decide +kernel) ⟨_, rfl, iteF ⟨_, rfl, a, xs, rfl, hx, _, rfl, b, ys, rfl, hy', rfl, _, rfl, iteNS (by rw [hl]) ?_⟩⟩⟩
        refine ⟨_, rfl, b, ob, ys, rfl, hy, fun D2 hD2 => ?_⟩
        refine lc_it walk_keysN (fun i H' => Same H H' ∧ H' D2 = some (.lst [])) ⟨same_new hD2, upd_same⟩ (fun i H' _ h => h.1 _ _ hy) ?_ ?_
        · rintro i x' H1 H2 hi ⟨s1, h1⟩ ⟨rfl, k', v, hkv, rfl⟩
          obtain ⟨u, l1, l2, eq⟩ := hp i k' v hkv
          have da : DN P w H2 a xs := hx.same fun o e => s1 _ _ e
          have db : DN P w H2 b ys := hy'.same fun o e => s1 _ _ e
          refine ⟨rfl, _, rfl, _, rfl, a, xs, k', rfl, rfl, da, _, rfl, ?_⟩
          show if (!(valV xs k').isSome) = true then _ else _
          rw [l1]
          exact iteF ⟨_, rfl, _, rfl, a, xs, k', u, rfl, rfl, da, l1, _, rfl, _, rfl, b, ys, k', v, rfl, rfl, db, l2, u, v, rfl, eq.same s1, fun H3 s3 => ⟨_, rfl, iteF ⟨s1.trans s3, s3 _ _ h1⟩⟩⟩
        · rintro H' ⟨s1, h1⟩
          refine ⟨D2, [], rfl, .inl (SqL.of h1), rfl, ?_⟩
          rw [hD]
          exact k H' s1
    refine ⟨_, pss_cons (ps_if (pt_cmp (pc_isN (pv 1))) (pss_one (ps_ret (pe_cmp (pc_isN (pv 0))))) pss_nil)
        (pss_cons (ps_if (pt_val (pe_callB (call_or call_isi call_isiN) (by rfl) B.isi (by decide +kernel) (pa_cons (pv 1) (pa_cons (pe_bltn (v := .ty "bool") (by rfl) B.bool (by decide +kernel) rfl) pa_nil)))) (pss_one (ps_ret (pe_and (pe_callB (call_or call_isi call_isiN) (by rfl) B.isi (by decide +kernel) (pa_cons (pv 0) (pa_cons (pe_bltn (v := .ty "bool") (by rfl) B.bool (by decide +kernel) rfl) pa_nil))) (pe_one (pe_cmpR op_eq (pv 0) (pv 1) (nomark _)))))) pss_nil)
        (pss_cons (ps_if (pt_val (pe_callB (call_or call_isi call_isiN) (by rfl) B.isi (by decide +kernel) (pa_cons (pv 1) (pa_cons (pe_bltn (v := .ty "int") (by rfl) B.int (by decide +kernel) rfl) pa_nil)))) (pss_one (ps_ret (pe_and (pe_callB (call_or call_isi call_isiN) (by rfl) B.isi (by decide +kernel) (pa_cons (pv 0) (pa_cons (pe_bltn (v := .ty "int") (by rfl) B.int (by decide +kernel) rfl) pa_nil))) (pe_and (pe_not (pe_callB (call_or call_isi call_isiN) (by rfl) B.isi (by decide +kernel) (pa_cons (pv 0) (pa_cons (pe_bltn (v := .ty "bool") (by rfl) B.bool (by decide +kernel) rfl) pa_nil)))) (pe_one (pe_cmpR op_eq (pv 0) (pv 1) (nomark _))))))) pss_nil)
        (pss_cons (ps_if (pt_val (pe_callB (call_or call_isi call_isiN) (by rfl) B.isi (by decide +kernel) (pa_cons (pv 1) (pa_cons (pe_bltn (v := .ty "str") (by rfl) B.str (by decide +kernel) rfl) pa_nil)))) (pss_one (ps_ret (pe_and (pe_callB (call_or call_isi call_isiN) (by rfl) B.isi (by decide +kernel) (pa_cons (pv 0) (pa_cons (pe_bltn (v := .ty "str") (by rfl) B.str (by decide +kernel) rfl) pa_nil))) (pe_one (pe_cmpR op_eq (pv 0) (pv 1) (nomark _)))))) pss_nil)
        (pss_cons (ps_if (pt_val (pe_callB (call_or call_isi call_isiN) (by rfl) B.isi (by decide +kernel) (pa_cons (pv 1) (pa_cons (pe_bltn (v := .ty "dict") (by rfl) B.dict (by decide +kernel) rfl) pa_nil)))) dD pss_nil) d5)))), ?_⟩
    have atom : ∀ x : V, Atom x → Q (.bl true) H → Q (.bl (decide (x = x))) H := fun x _ q => by
      rw [decide_eq_true rfl]
      exact q
    have base : (x = y ∧ Atom x) ∨ (∃ (m : Nat) (a b : Addr) (xs ys : List V), n = m + 1 ∧ x = .ref a ∧ y = .ref b ∧ ((H a = some (.lst xs) ∧ H b = some (.lst ys)) ∨ (H a = some (.tup xs) ∧ H b = some (.tup ys))) ∧
          xs.length = ys.length ∧ xs.length ≤ 1000 ∧ ∀ (i : Nat) (u v : V), xs[i]? = some u → ys[i]? = some v → Eqw P w H m u v) ∨
        ∃ (m : Nat) (a b : Addr) (xs ys : List (NK × V)) (ob : Obj), n = m + 1 ∧ x = .ref a ∧ y = .ref b ∧ DN P w H a xs ∧ H b = some (dF P w b ob ys) ∧ xs.length = ys.length ∧ ys.length ≤ 1000 ∧
          ∀ (i : Nat) (k : NK) (v : V), ys[i]? = some (k, v) → ∃ u, valV xs k = some u ∧ valV ys k = some v ∧ Eqw P w H m u v := by
      cases n with
      | zero => exact .inl hE
      | succ m =>
        rcases hE with z | ⟨a, b, xs, ys, z⟩ | ⟨a, b, xs, ys, ob, z⟩
        · exact .inl z
        · exact .inr (.inl ⟨m, a, b, xs, ys, rfl, z⟩)
        · exact .inr (.inr ⟨m, a, b, xs, ys, ob, rfl, z⟩)
    rcases base with ⟨rfl, ha⟩ | ⟨m, a, b, xs, ys, em, rfl, rfl, hk, hl, hz, hp⟩ | ⟨m, a, b, xs, ys, ob, em, rfl, rfl, hx, hy, hl, hz, hp⟩
    · cases x with
      | non =>
        refine ⟨_, rfl, _, rfl, iteT ⟨_, rfl, ?_⟩⟩
        exact k H (Same.refl H)
      | bl c =>
        refine ⟨_, rfl, _, rfl, iteF ⟨_, rfl, isiU (b := true) (.inl (.base (.bl c))) (by decide +kernel) ⟨_, rfl, iteT ⟨_, rfl, isiU (b := true) (.inl (.base (.bl c))) (by decide +kernel) ⟨_, rfl, iteT ⟨_, rfl, _, rfl, rfl, ?_⟩⟩⟩⟩⟩⟩
        exact atom _ trivial (k H (Same.refl H))
      | int c =>
        refine ⟨_, rfl, _, rfl, iteF ⟨_, rfl, isiU (b := false) (.inl (.base (.int c))) (by decide +kernel) ⟨_, rfl, iteF ⟨_, rfl, isiU (b := true) (.inl (.base (.int c))) (by decide +kernel) ⟨_, rfl, iteT ⟨_, rfl, isiU (b := true) (.inl (.base (.int c))) (by decide +kernel) ⟨_, rfl, iteT ⟨_, rfl, isiU (b := false) (.inl (.base (.int c))) (by decide +kernel) ⟨_, rfl, _, rfl, iteT ⟨_, rfl, _, rfl, rfl, ?_⟩⟩⟩⟩⟩⟩⟩⟩⟩⟩
        exact atom _ trivial (k H (Same.refl H))
      | str c =>
        refine ⟨_, rfl, _, rfl, iteF ⟨_, rfl, isiU (b := false) (.inl (.base (.str c))) (by decide +kernel) ⟨_, rfl, iteF ⟨_, rfl, isiU (b := false) (.inl (.base (.str c))) (by decide +kernel) ⟨_, rfl, iteF ⟨_, rfl, isiU (b := true) (.inl (.base (.str c))) (by decide +kernel) ⟨_, rfl, iteT ⟨_, rfl, isiU (b := true) (.inl (.base (.str c))) (by decide +kernel) ⟨_, rfl, iteT ⟨_, rfl, _, rfl, rfl, ?_⟩⟩⟩⟩⟩⟩⟩⟩⟩⟩
        exact atom _ trivial (k H (Same.refl H))
      | _ => exact ha.elim
    · have q := k5 m a b xs ys em hk hl hz hp ⟨rfl, rfl⟩
      rcases hk with ⟨p1, p2⟩ | ⟨p1, p2⟩
      · exact ⟨_, rfl, _, rfl, iteF ⟨_, rfl, isiU (b := false) (.inl (.base (.lst p2))) (by decide +kernel) ⟨_, rfl, iteF ⟨_, rfl, isiU (b := false) (.inl (.base (.lst p2))) (by decide +kernel) ⟨_, rfl, iteF ⟨_, rfl, isiU (b := false) (.inl (.base (.lst p2))) (by decide +kernel) ⟨_, rfl, iteF ⟨_, rfl, isiU (b := false) (.inl (.base (.lst p2))) (by decide +kernel) ⟨_, rfl, iteF q⟩⟩⟩⟩⟩⟩⟩⟩⟩
      · exact ⟨_, rfl, _, rfl, iteF ⟨_, rfl, isiU (b := false) (.inl (.base (.tup p2))) (by decide +kernel) ⟨_, rfl, iteF ⟨_, rfl, isiU (b := false) (.inl (.base (.tup p2))) (by decide +kernel) ⟨_, rfl, iteF ⟨_, rfl, isiU (b := false) (.inl (.base (.tup p2))) (by decide +kernel) ⟨_, rfl, iteF ⟨_, rfl, isiU (b := false) (.inl (.base (.tup p2))) (by decide +kernel) ⟨_, rfl, iteF q⟩⟩⟩⟩⟩⟩⟩⟩⟩
    · have q := kD m a b xs ys ob em hx hy hl hz hp
      exact ⟨_, rfl, _, rfl, iteF ⟨_, rfl, isiU (b := false) (.inr ⟨rfl, b, ys, rfl, .inr ⟨ob, hy⟩⟩) (by decide +kernel) ⟨_, rfl, iteF ⟨_, rfl, isiU (b := false) (.inr ⟨rfl, b, ys, rfl, .inr ⟨ob, hy⟩⟩) (by decide +kernel) ⟨_, rfl, iteF ⟨_, rfl, isiU (b := false) (.inr ⟨rfl, b, ys, rfl, .inr ⟨ob, hy⟩⟩) (by decide +kernel) ⟨_, rfl, iteF ⟨_, rfl, isiU (b := true) (.inr ⟨rfl, b, ys, rfl, .inr ⟨ob, hy⟩⟩) (by decide +kernel) ⟨_, rfl, iteT (q _ rfl)⟩⟩⟩⟩⟩⟩⟩⟩⟩
theorem ok_same {f : Addr} {fd : FuncData} (F : Fun K "_law_same" "_law_same" sSame f fd) (B : Bt mg) (b0 : Binds K fd ["_law_actual", "_law_expected"] []) (m0 : mg "_law_same" = some (.ref f)) :
    ∀ n : Nat, FnOk P w K mg base CX0 (n + 1) f fd ["_law_actual", "_law_expected"] (spSame P w n) := by
  intro n
  induction n with
  | zero => exact ok_same_of F B b0 m0 0 fun m e => nomatch e
  | succ n ih =>
    refine ok_same_of F B b0 m0 (n + 1) fun m e => ?_
    obtain rfl : n = m := by omega
    exact ih
end
end Lw2
/-! names, Columns and the law's way to make them -/
namespace Nm
open PySem PySem.Spec PyProof.Rows L2 Lw Xv Lh Ow
abbrev sErr : Stmt := inClass (Lw.top 3) 0
abbrev sIsName : Stmt := Lw.top 11
abbrev sInit : Stmt := inClass (Lw.top 33) 0
abbrev sLen : Stmt := inClass (Lw.top 33) 2
abbrev sCon : Stmt := inClass (Lw.top 33) 3
abbrev sEq : Stmt := inClass (Lw.top 33) 4
def wordL : List V := [.str "and", .str "case", .str "else", .str "is", .str "missing", .str "must", .str "not", .str "or"]
def abc : Str := "abcdefghijklmnopqrstuvwxyz"
def lets (z : Str) : Bool := z.cps.toList.all fun c => decide (c ∈ abc.cps.toList)
/-- the text may be a name -/
def okS (z : Str) : Bool := !inV (.str z) wordL && (decide (1 ≤ z.length) && decide (z.length ≤ 8) && lets z)
def okV : V → Bool
  | .str z => okS z
  | _ => false
/-- a text, or a thing of another kind that is known -/
def Itm (K : PySem.W.Frag) (H : Hp) (x : V) : Prop := (∃ z, x = .str z ∧ z.length ≤ 9) ∨ ∃ T : String, okV x = false ∧ kitB T "str" = some false ∧ ∀ H', Same H H' → TyX K H' x (.type T)
theorem Itm.same {K : PySem.W.Frag} {H H' : Hp} {x : V} (h : Itm K H x) (s : Same H H') : Itm K H' x := by
  rcases h with h | ⟨T, h1, h2, h3⟩
  · exact .inl h
  · exact .inr ⟨T, h1, h2, fun H2 s2 => h3 H2 (s.trans s2)⟩
/-- x is no name, or stands ahead of k -/
def badV (xs : List V) (k : Nat) (x : V) : Bool := !okV x || inV x (xs.take k)
def badK (xs : List V) (k : Nat) : Bool := match xs[k]? with
  | some x => badV xs k x
  | none => false
/-- what is due of these arguments -/
def due (xs : List V) : Option Int := if xs.length = 0 ∨ 4 < xs.length then some (-1) else ((List.range xs.length).find? (badK xs)).map Int.ofNat
theorem due_m {xs : List V} (h : xs.length = 0 ∨ 4 < xs.length) : due xs = some (-1) := if_pos h
theorem due_k {xs : List V} {k : Nat} (h : ¬ (xs.length = 0 ∨ 4 < xs.length)) (hk : k < xs.length) (b : badK xs k = true) (l : ∀ j, j < k → badK xs j = false) : due xs = some (k : Int) := by
  unfold due
  rw [if_neg h]
  have e : (List.range xs.length).find? (badK xs) = some k := by
    rw [List.find?_range_eq_some]
    exact ⟨b, by simpa using hk, fun j hj => by rw [l j hj]; rfl⟩
  rw [e]
  rfl
theorem due_0 {xs : List V} (h : ¬ (xs.length = 0 ∨ 4 < xs.length)) (l : ∀ j, j < xs.length → badK xs j = false) : due xs = none := by
  unfold due
  rw [if_neg h]
  have e : (List.range xs.length).find? (badK xs) = none := by
    rw [List.find?_range_eq_none]
    exact fun j hj => by rw [l j hj]; rfl
  rw [e]
  rfl
theorem due_no {xs : List V} (h : due xs = none) : ¬ (xs.length = 0 ∨ 4 < xs.length) ∧ ∀ j, j < xs.length → badK xs j = false := by
  unfold due at h
  by_cases c : xs.length = 0 ∨ 4 < xs.length
  · rw [if_pos c] at h
    cases h
  · rw [if_neg c] at h
    refine ⟨c, fun j hj => ?_⟩
    have e : (List.range xs.length).find? (badK xs) = none := by
      cases q : (List.range xs.length).find? (badK xs) with
      | none => rfl
      | some k =>
        rw [q] at h
        cases h
    rw [List.find?_range_eq_none] at e
    have z := e j hj
    simpa using z
theorem okV_str {x : V} (h : okV x = true) : ∃ z, x = .str z ∧ okS z = true := by
  cases x with
  | str z => exact ⟨z, rfl, h⟩
  | _ => cases h
theorem flat_take {xs : List V} {k : Nat} (l : ∀ j, j < k → badK xs j = false) : (xs.take k).all flatV = true := by
  rw [List.all_eq_true]
  intro x hx
  obtain ⟨j, hj, e⟩ := List.getElem_of_mem hx
  rw [List.length_take] at hj
  have b := l j (by omega)
  have e2 : xs[j]? = some x := by
    rw [List.getElem_take] at e
    rw [← e]
    exact List.getElem?_eq_getElem (by omega)
  unfold badK at b
  rw [e2] at b
  have b2 : (!okV x || inV x (xs.take j)) = false := b
  rw [Bool.or_eq_false_iff] at b2
  obtain ⟨z, rfl, _⟩ := okV_str (x := x) (by simpa using b2.1)
  rfl
theorem all_ok {xs : List V} (l : ∀ j, j < xs.length → badK xs j = false) {j : Nat} {x : V} (e : xs[j]? = some x) : okV x = true := by
  have b := l j (List.getElem?_eq_some_iff.mp e).1
  unfold badK at b
  rw [e] at b
  have b2 : (!okV x || inV x (xs.take j)) = false := b
  rw [Bool.or_eq_false_iff] at b2
  simpa using b2.1
theorem badK_at {xs : List V} {k : Nat} {x : V} (e : xs[k]? = some x) : badK xs k = badV xs k x := by
  unfold badK
  rw [e]
theorem cut_take {xs : List V} {k : Nat} (h : k ≤ xs.length) : cutV xs none (some (k : Int)) = xs.take k := by
  have e0 : HT.sIx xs.length 0 none = 0 := rfl
  have e1 : HT.sIx xs.length xs.length (some (k : Int)) = k := by
    unfold HT.sIx
    show (if (k : Int) < 0 then _ else _) = k
    rw [if_neg (by omega)]
    show min (k : Int).toNat xs.length = k
    omega
  unfold cutV
  rw [e0, e1]
  simp
/-- names of kinds.py -/
structure Kd (K : PySem.W.Frag) (mg : Str → Option Value) : Prop where
  w : ∃ a, mg "WORDS" = some (.ref a) ∧ ∀ H, SqT K H a wordL
  l : ∃ t, mg "LETTERS" = some (.str abc t)
  m : ∃ t, mg "MOST_LETTERS" = some (.int 8 t)
  c : ∃ t, mg "MOST_COLUMNS" = some (.int 4 t)
  all : mg "all" = none
  enum : mg "enumerate" = none
theorem same_put {H H' : Hp} {D : Addr} {o : HO} (s : Same H H') (n : H D = none) : Same H (L2.upd H' D o) := fun b u e => by
  rw [upd_ne (ne_of_none e n)]
  exact s b u e
def spIsName (K : PySem.W.Frag) : Sp := fun vs H Q _ => ∃ x, vs = [x] ∧ ((∃ z, x = .str z ∧ z.length ≤ 9) ∨ ∃ T : String, okV x = false ∧ kitB T "str" = some false ∧ TyX K H x (.type T)) ∧ ∀ H', Same H H' → Q (.bl (okV x)) H'
section
variable {P : Program} {w : World} {K : PySem.W.Frag} {mg : Str → Option Value} {base : Heap}
theorem scIsName : FnScope ["value", "letter"] ["value"] (defScope sIsName) := ⟨rfl, rfl, rfl, by decide +kernel, rfl, by decide +kernel, by decide +kernel⟩
theorem okIsName {f : Addr} {fd : FuncData} (F : Fun K "is_name" "is_name" sIsName f fd) (B : Bt mg) (D : Kd K mg) : FnOk P w K mg base CX0 1 f fd ["value"] (spIsName K) := by
  obtain ⟨aw, mw, hw⟩ := D.w
  obtain ⟨tl, ml⟩ := D.l
  obtain ⟨tm, mm⟩ := D.m
  refine F.ok scIsName (fun vs H Q E h => ?_) (fun cdv A outer s H vs Q E hr h => ?_)
  · obtain ⟨x, rfl, _⟩ := h
    rfl
  · obtain ⟨x, rfl, hx, k⟩ := h
    refine ⟨_, pss_cons (ps_if (pw_or (pt_not (pt_val (pe_callB call_isi (by rfl) B.isi (by decide +kernel) (pa_cons (pv 0) (pa_cons (pe_bltn (v := .ty "str") (by rfl) B.str (by decide +kernel) rfl) pa_nil)))))
          (pw_or1 (pt_cmpR op_in_seq (pv 0) (pe_glob (v := .ref aw) (by rfl) mw rfl) (by rfl)))).pt (pss_one (ps_ret pe_bl)) pss_nil)
        (pss_one (ps_ret (pe_and (pe_chain op_le op_le pe_int (pe_callB call_len_str (by rfl) B.len PySem.boot_len (pa_cons (pv 0) pa_nil)) (pe_glob (v := .int 8) (by rfl) mm ⟨tm, rfl⟩))
          (pe_one (pe_callB (cr_all rfl) (by rfl) D.all (by decide +kernel) (pa_cons
            (pe_lc (own := [("letter", 1)]) (g := gName 1) (by rfl) scIsName.nd (pi_str (pv 0))
              (blkOk_by (own := [("letter", 1)]) (N := ["value", "letter"]) (sc := defScope sIsName) (by decide +kernel)) (fun _ _ _ _ _ => pg_name (i := 1) scIsName.nd rfl (Or.inl rfl))
              (fun _ _ _ _ _ => pts_nil)
              (fun _ _ _ _ _ => pe_cmpR op_in_sign (pv 1) (pe_glob (v := .str abc) (by rfl) ml ⟨tl, rfl⟩) (by rfl))) pa_nil)))))), ?_⟩
    rcases hx with ⟨z, rfl, hz⟩ | ⟨T, hf, hT, ty⟩
    · refine ⟨_, rfl, _, _, _, _, true, rfl, .ty _, .base (.str z), kit_ty (by decide +kernel), true, rfl, iteF ?_⟩
      refine ⟨_, rfl, aw, wordL, rfl, .inr (hw H), rfl, (by decide +kernel), _, rfl, ?_⟩
      refine ite2 (fun hw1 => ?_) (fun hw1 => ?_)
      · have e : okV (.str z) = false := by
          show (!inV (.str z) wordL && _) = false
          rw [show inV (.str z) wordL = true from hw1]
          rfl
        rw [← e]
        exact k H (Same.refl H)
      · have e : inV (.str z) wordL = false := by simpa using hw1
        have sl := sizeLine_eq
        have ev : okV (.str z) = (decide (1 ≤ z.length) && decide (z.length ≤ 8) && lets z) := by
          show (!inV (.str z) wordL && _) = _
          rw [e]
          rfl
        refine ⟨_, rfl, z, rfl, by omega, _, _, rfl, rfl, _, rfl, ?_⟩
        have i1 : (decide ((1 : Int) ≤ (z.length : Int))) = decide (1 ≤ z.length) := by
          apply decide_eq_decide.mpr
          omega
        have i2 : (decide ((z.length : Int) ≤ (8 : Int))) = decide (z.length ≤ 8) := by
          apply decide_eq_decide.mpr
          omega
        rw [i1]
        by_cases c1 : 1 ≤ z.length
        · rw [decide_eq_true c1]
          refine iteT ⟨_, _, rfl, rfl, _, rfl, ?_⟩
          rw [i2]
          by_cases c2 : z.length ≤ 8
          · rw [decide_eq_true c2]
            refine iteT ⟨_, rfl, z, rfl, fun D hD => ?_⟩
            rw [decide_eq_true c1, decide_eq_true c2] at ev
            have hl : z.cps.toList.length = z.length := by simp [Str.length]
            refine lc_it walk_str (fun i H' => ∃ bs : List Bool, bs.length = i ∧ bs.all id = (z.cps.toList.take i).all (fun c => decide (c ∈ abc.cps.toList)) ∧ Same H H' ∧ H' D = some (.lst (bs.map V.bl))) ?_ ?_ ?_ ?_
            · exact ⟨[], rfl, rfl, same_new hD, upd_same⟩
            · exact fun _ _ _ _ => trivial
            · rintro i x H1 H2 hi ⟨bs, h1, h2, h3, h4⟩ ⟨rfl, c, hc, rfl⟩
              refine ⟨rfl, _, rfl, c, abc, rfl, rfl, _, h4, ?_, bs ++ [decide (c ∈ abc.cps.toList)], ?_, ?_, same_put h3 hD, ?_⟩
              · rw [List.length_map, h1]
                have : z.cps.size = z.length := rfl
                omega
              · rw [List.length_append, h1]
                rfl
              · have e1 : z.cps.toList[i]? = some c := by simpa using hc
                rw [List.all_append, h2, List.take_add_one, e1]
                simp
              · rw [upd_same, List.map_append]
                rfl
            · rintro H' ⟨bs, h1, h2, h3, h4⟩
              refine ⟨D, bs, rfl, SqL.of h4, ?_⟩
              have e2 : bs.all id = lets z := by
                rw [h2]
                have : z.cps.size = z.length := rfl
                rw [List.take_of_length_le (by omega)]
                rfl
              rw [e2]
              rw [Bool.true_and, Bool.true_and] at ev
              rw [← ev]
              exact k H' h3
          · rw [decide_eq_false c2]
            rw [decide_eq_false c2, Bool.and_false, Bool.false_and] at ev
            refine iteF ?_
            have z2 := k H (Same.refl H)
            rw [ev] at z2
            exact z2
        · rw [decide_eq_false c1]
          rw [decide_eq_false c1, Bool.false_and, Bool.false_and] at ev
          refine iteF ⟨_, rfl, iteF ?_⟩
          have z2 := k H (Same.refl H)
          rw [ev] at z2
          exact z2
    · refine ⟨_, rfl, _, _, _, _, false, rfl, .ty _, ty, kit_ty hT, false, rfl, iteT ?_⟩
      rw [← hf]
      exact k H (Same.refl H)
end
end Nm
namespace Nm
open PySem PySem.Spec PyProof.Rows L2 Lw Xv Lh Ow
/-- the columns at o: these names, in the tuple at p -/
def CoAt (H : Hp) (C o p : Addr) (zs : List Str) : Prop := (∃ dx, H o = some (.ins C dx [("names", .ref p)])) ∧ H p = some (.tup (zs.map V.str))
theorem CoAt.same {H H' : Hp} {C o p : Addr} {zs : List Str} (h : CoAt H C o p zs) (s : Same H H') : CoAt H' C o p zs := by
  obtain ⟨⟨dx, e⟩, e2⟩ := h
  exact ⟨⟨dx, s _ _ e⟩, s _ _ e2⟩
theorem flat_strs (zs : List Str) : (zs.map V.str).all flatV = true := by
  rw [List.all_eq_true]
  intro x hx
  obtain ⟨z, _, rfl⟩ := List.mem_map.mp hx
  rfl
theorem inV_strs (z : Str) (zs : List Str) : inV (.str z) (zs.map V.str) = decide (z ∈ zs) := by
  induction zs with
  | nil => rfl
  | cons y ys ih =>
    show (eqV (.str y) (.str z) || inV (.str z) (ys.map V.str)) = _
    rw [ih]
    by_cases e : y = z
    · subst e
      simp [eqV]
    · have e2 : (y == z) = false := by simpa using e
      have e3 : ¬ z = y := fun q => e q.symm
      show ((y == z) || _) = _
      rw [e2]
      simp [e3]
theorem dp_strs {K : PySem.W.Frag} {H : Hp} : ∀ zs : List Str, DpAll K H (zs.map V.str) (zs.map PyData.str)
  | [] => .nil
  | z :: zs => .cons (.str z) (dp_strs zs)
theorem eqv_strs : ∀ zs ws : List Str, PyData.eqvAll (zs.map .str) (ws.map .str) = decide (zs = ws)
  | [], [] => by simp [PyData.eqvAll]
  | [], _ :: _ => by simp [PyData.eqvAll]
  | _ :: _, [] => by simp [PyData.eqvAll]
  | z :: zs, w :: ws => by
    show (PyData.eqv (.str z) (.str w) && PyData.eqvAll (zs.map .str) (ws.map .str)) = _
    rw [eqv_strs zs ws]
    have e : PyData.eqv (.str z) (.str w) = (z == w) := by simp [PyData.eqv]
    rw [e]
    by_cases h : z = w
    · subst h
      simp
    · have e2 : (z == w) = false := by simpa using h
      rw [e2]
      simp [h]
theorem strOk_of {z : Str} (h : okS z = true) : PyData.strOk z = true := by
  unfold okS at h
  rw [Bool.and_eq_true, Bool.and_eq_true] at h
  have l := h.2.2
  unfold lets at l
  unfold PyData.strOk
  rw [← Array.all_toList, List.all_eq_true]
  rw [List.all_eq_true] at l
  intro c hc
  have m := of_decide_eq_true (l c hc)
  have a : ∀ c ∈ abc.cps.toList, c < 0x110000 := by decide +kernel
  exact decide_eq_true (a c m)
theorem lay_strs : ∀ {zs : List Str}, (∀ z ∈ zs, okS z = true) → PyData.canLayAll0 (zs.map .str) = true
  | [], _ => rfl
  | z :: zs, h => by
    show (PyData.canLay0 (.str z) && PyData.canLayAll0 (zs.map .str)) = true
    rw [lay_strs fun y hy => h y (List.mem_cons_of_mem _ hy)]
    show (PyData.strOk z && true) = true
    rw [strOk_of (h z List.mem_cons_self)]
    rfl
theorem dep_strs : ∀ zs : List Str, PyData.depthAll (zs.map .str) = 0
  | [] => rfl
  | z :: zs => by
    show max (PyData.depth (.str z)) (PyData.depthAll (zs.map .str)) = 0
    rw [dep_strs zs]
    rfl
theorem shaped_strs {zs : List Str} (h : ∀ z ∈ zs, okS z = true) : SeqAt.shaped (.tuple (zs.map .str)) = true := by
  unfold SeqAt.shaped
  rw [show PyData.canLay0 (.tuple (zs.map .str)) = true from lay_strs h]
  rw [show PyData.depth (.tuple (zs.map .str)) = 1 from by show PyData.depthAll _ + 1 = 1; rw [dep_strs]]
  rfl
/-- what the class Columns must have -/
structure Cf (K : PySem.W.Frag) (mg : Str → Option Value) (C : Addr) : Prop where
  cl : Cls K C
  ha : PySem.W.findIn K (.ref C) "__class__" = some (some (.builtin "object.__class__"))
  hn : PySem.W.specialIn K (.builtin "object.__class__") "__get__" = some (some (.builtin "getset_descriptor.__get__"))
  ht : PySem.W.takesIn K (.builtin "object.__class__") = some true
  hm : PySem.W.mroIn K C (.type "object") = some true
  no : NoAttr K C "names"
  g : mg "Columns" = some (.ref C)
  kt : PySem.W.kitOne K (.type "tuple") (.ref C) = some false
def spLen (C : Addr) : Sp := fun vs H Q _ => ∃ o p zs, vs = [.ref o] ∧ CoAt H C o p zs ∧ Q (.int zs.length) H
def spCon (K : PySem.W.Frag) (C : Addr) : Sp := fun vs H Q _ => ∃ o p zs x, vs = [.ref o, x] ∧ CoAt H C o p zs ∧ ((∃ z, x = .str z ∧ Q (.bl (decide (z ∈ zs))) H) ∨ ∃ T : String, kitB T "str" = some false ∧ TyX K H x (.type T) ∧ Q (.bl false) H)
def spEq (C : Addr) : Sp := fun vs H Q _ => ∃ o p zs x, vs = [.ref o, x] ∧ CoAt H C o p zs ∧ (∀ z ∈ zs, okS z = true) ∧
  ((∃ o' p' ws, x = .ref o' ∧ CoAt H C o' p' ws ∧ (∀ z ∈ ws, okS z = true) ∧ Q (.bl (decide (zs = ws))) H) ∨ ∃ a xs, x = .ref a ∧ H a = some (.tup xs) ∧ Q (.bl false) H)
section
variable {P : Program} {w : World} {K : PySem.W.Frag} {mg : Str → Option Value} {base : Heap} {C : Addr}
theorem scLen : FnScope ["self"] ["self"] (defScope sLen) := ⟨rfl, rfl, rfl, by decide +kernel, rfl, by decide +kernel, by decide +kernel⟩
theorem okLen {f : Addr} {fd : FuncData} (F : Fun K "__len__" "Columns.__len__" sLen f fd) (B : Bt mg) (D : Cf K mg C) : FnOk P w K mg base CX0 1 f fd ["self"] (spLen C) := by
  refine F.ok scLen (fun vs H Q E h => ?_) (fun cdv A outer s H vs Q E hr h => ?_)
  · obtain ⟨o, p, zs, rfl, _⟩ := h
    rfl
  · obtain ⟨o, p, zs, rfl, ⟨⟨dx, ho⟩, hp⟩, k⟩ := h
    refine ⟨_, pss_one (ps_ret (pe_callB call_len_seq (by rfl) B.len PySem.boot_len (pa_cons (pe_fld (pv 0) (by rfl)) pa_nil))), ?_⟩
    refine ⟨_, rfl, o, C, dx, _, _, rfl, ho, D.cl, D.no, rfl, p, _, rfl, .inr (SqT.of hp), ?_⟩
    rw [List.length_map]
    exact k
theorem scCon : FnScope ["self", "name"] ["self", "name"] (defScope sCon) := ⟨rfl, rfl, rfl, by decide +kernel, rfl, by decide +kernel, by decide +kernel⟩
theorem okCon {f : Addr} {fd : FuncData} (F : Fun K "__contains__" "Columns.__contains__" sCon f fd) (B : Bt mg) (D : Cf K mg C) : FnOk P w K mg base CX0 1 f fd ["self", "name"] (spCon K C) := by
  refine F.ok scCon (fun vs H Q E h => ?_) (fun cdv A outer s H vs Q E hr h => ?_)
  · obtain ⟨o, p, zs, x, rfl, _⟩ := h
    rfl
  · obtain ⟨o, p, zs, x, rfl, ⟨⟨dx, ho⟩, hp⟩, k⟩ := h
    refine ⟨_, pss_one (ps_ret (pe_and (pe_callB call_isi (by rfl) B.isi (by decide +kernel) (pa_cons (pv 1) (pa_cons (pe_bltn (v := .ty "str") (by rfl) B.str (by decide +kernel) rfl) pa_nil)))
      (pe_one (pe_cmpR op_in_seq (pv 1) (pe_fld (pv 0) (by rfl)) (by rfl))))), ?_⟩
    rcases k with ⟨z, rfl, k⟩ | ⟨T, hT, ty, k⟩
    · refine ⟨_, rfl, _, _, _, _, true, rfl, .ty _, .base (.str z), kit_ty (by decide +kernel), _, rfl, iteT ⟨_, rfl, _, rfl, o, C, dx, _, _, rfl, ho, D.cl, D.no, rfl, p, _, rfl, .inr (SqT.of hp), rfl, flat_strs zs, ?_⟩⟩
      show Q (.bl (inV (.str z) (zs.map V.str))) H
      rw [inV_strs]
      exact k
    · exact ⟨_, rfl, _, _, _, _, false, rfl, .ty _, ty, kit_ty hT, _, rfl, iteF k⟩
theorem scEq : FnScope ["self", "other"] ["self", "other"] (defScope sEq) := ⟨rfl, rfl, rfl, by decide +kernel, rfl, by decide +kernel, by decide +kernel⟩
theorem okEq {f : Addr} {fd : FuncData} (F : Fun K "__eq__" "Columns.__eq__" sEq f fd) (B : Bt mg) (D : Cf K mg C) : FnOk P w K mg base CX0 1 f fd ["self", "other"] (spEq C) := by
  refine F.ok scEq (fun vs H Q E h => ?_) (fun cdv A outer s H vs Q E hr h => ?_)
  · obtain ⟨o, p, zs, x, rfl, _⟩ := h
    rfl
  · obtain ⟨o, p, zs, x, rfl, ⟨⟨dx, ho⟩, hp⟩, hz, k⟩ := h
    refine ⟨_, pss_one (ps_ret (pe_and (pe_callB call_isi (by rfl) B.isi (by decide +kernel) (pa_cons (pv 1) (pa_cons (pe_glob (v := .ref C) (by rfl) D.g rfl) pa_nil)))
      (pe_one (pe_cmpR (op_eqD hr.units) (pe_fld (pv 0) (by rfl)) (pe_fld (pv 1) (by rfl)) (by rfl))))), ?_⟩
    rcases k with ⟨o', p', ws, rfl, ⟨⟨dx', ho'⟩, hp'⟩, hw, k⟩ | ⟨a, xs, rfl, ha, k⟩
    · refine ⟨_, rfl, _, _, _, _, true, rfl, .own C, .base (.ins ho' D.cl D.ha D.hn D.ht D.hm), ?_, _, rfl, iteT ⟨_, rfl, o, C, dx, _, _, rfl, ho, D.cl, D.no, rfl, _, rfl, o', C, dx', _, _, rfl, ho', D.cl, D.no, rfl,
        _, _, .tup (SqT.of hp) (dp_strs zs), .tup (SqT.of hp') (dp_strs ws), shaped_strs hz, shaped_strs hw, ?_⟩⟩
      · unfold PySem.W.kitOne
        rw [if_pos (by simp)]
      · have e : PyData.eqv (.tuple (zs.map .str)) (.tuple (ws.map .str)) = decide (zs = ws) := by
          rw [← eqv_strs zs ws]
          simp [PyData.eqv]
        rw [e]
        exact k
    · exact ⟨_, rfl, _, _, _, _, false, rfl, .own C, .base (.tup ha), D.kt, _, rfl, iteF k⟩
end
end Nm
namespace Nm
open PySem PySem.Spec PyProof.Rows L2 Lw Xv Lh Ow
/-- what the class BadColumns must have -/
structure Ef (K : PySem.W.Frag) (mg : Str → Option Value) (CB fI : Addr) : Prop where
  T : OexC K CB
  iC : PySem.W.findIn K (.ref CB) "__init__" = some (some (.ref fI))
  tI : PySem.W.typeIn K (.ref fI) = some (.type "function")
  n1 : PySem.W.findIn K (.ref CB) "index" = some none
  g : mg "BadColumns" = some (.ref CB)
def spErr (CB : Addr) : Sp := fun vs H Q _ => ∃ (a : Addr) (y : V), vs = [.ref a, y] ∧ H a = some (exo a CB none) ∧ ∀ d, H d = none → d ≠ a → Q .non (upd (upd H d (exd d [("index", y)])) a (exo a CB (some d)))
/-- what Columns.__init__ promises, the arguments' tuple made -/
def spInit (K : PySem.W.Frag) (C CB : Addr) : Sp := fun vs H Q E => ∃ o p dx xs, vs = [.ref o, .ref p] ∧ H o = some (.ins C dx []) ∧ H p = some (.tup xs) ∧ xs.length ≤ 5 ∧ (∀ x ∈ xs, Itm K H x) ∧
  (due xs = none → ∀ H', Same H H' → Q .non (upd H' o (.ins C dx [("names", .ref p)]))) ∧
  ∀ i, due xs = some i → ∀ d H', Same H H' → H' d = some (.xd [("index", .int i)]) → E (.ref CB) (some d) H'
section
variable {P : Program} {w : World} {K : PySem.W.Frag} {mg : Str → Option Value} {base : Heap} {C CB : Addr}
theorem scErr : FnScope ["self", "index"] ["self", "index"] (defScope sErr) := ⟨rfl, rfl, rfl, by decide +kernel, rfl, by decide +kernel, by decide +kernel⟩
theorem okErr {f : Addr} {fd : FuncData} (F : Fun K "__init__" "BadColumns.__init__" sErr f fd) (D : Ef K mg CB f) : FnOk P w K mg base CX0 1 f fd ["self", "index"] (spErr CB) := by
  refine F.ok scErr (fun vs H Q E h => ?_) (fun cdv A outer s H vs Q E hr h => ?_)
  · obtain ⟨a, y, rfl, _⟩ := h
    rfl
  · obtain ⟨a, y, rfl, ha, k⟩ := h
    refine ⟨_, pss_one (ps_ost (pv 0) (pv 1)), ?_⟩
    exact ⟨_, rfl, _, rfl, a, CB, rfl, D.T, D.n1, .inl ⟨ha, fun dx hn ne => k dx hn ne⟩⟩
theorem scInit : FnScope ["self", "names", "index", "name"] ((["self"] : List Str) ++ (["names"] : List Str)) (defScope sInit) := ⟨rfl, rfl, rfl, by decide +kernel, rfl, by decide +kernel, by decide +kernel⟩
/-- the exception that is made and leaves -/
theorem raise_in {H : Hp} {y : V} {E : XK} (k : ∀ d H', Same H H' → H' d = some (.xd [("index", y)]) → E (.ref CB) (some d) H') {H1 : Hp} (s : Same H H1) {a : Addr} (ha : H1 a = none) :
    spErr CB (.ref a :: ([y] ++ [])) (upd H1 a (exo a CB none)) (fun v H2 => v = .non ∧ ∃ (d : Addr) (fs : List (Str × V)), H2 a = some (exo a CB (some d)) ∧ H2 d = some (exd d fs) ∧ H1 d = none ∧ E (.ref CB) (some d) (upd (del H2 a) d (.xd fs))) (fun _ _ _ => False) := by
  refine ⟨a, y, rfl, upd_same, fun d hd ne => ⟨rfl, d, _, upd_same, by rw [upd_ne ne, upd_same], ?_, k d _ ?_ upd_same⟩⟩
  · rw [upd_ne ne] at hd
    exact hd
  · rw [upd_ne ne] at hd
    intro b o e
    have e1 := s b o e
    have nb : b ≠ a := ne_of_none e1 ha
    have nd : b ≠ d := ne_of_none e1 hd
    rw [upd_ne nd, del_ne nb, upd_ne nb, upd_ne nd, upd_ne nb]
    exact e1
theorem okInit {f fE fN : Addr} {fd fdE fdN : FuncData} (F : Fun K "__init__" "Columns.__init__" sInit f fd) (B : Bt mg) (D : Kd K mg) (DC : Cf K mg C) (DE : Ef K mg CB fE)
    (FE : Fun K "__init__" "BadColumns.__init__" sErr fE fdE) (bE : Binds K fdE ["self", "index"] []) (FN : Fun K "is_name" "is_name" sIsName fN fdN) (bN : Binds K fdN ["value"] []) (mN : mg "is_name" = some (.ref fN)) :
    FnR P w K mg base (L2.CX P w) 3 f (fun vs H Q E => ∃ ws rest, vs = ws ++ rest ∧ ws.length = (["self"] : List Str).length ∧ rest.length ≤ sizeLine ∧ ∀ p, H p = none → spInit K C CB (ws ++ [V.ref p]) (upd H p (.tup rest)) Q E) := by
  have GE : FnOk P w K mg base CX0 1 fE fdE ["self", "index"] (spErr CB) := okErr FE DE
  have GN : FnOk P w K mg base CX0 1 fN fdN ["value"] (spIsName K) := okIsName FN B D
  obtain ⟨tc, mc⟩ := D.c
  obtain ⟨oc, od, kV, doc, pm, an, cdv, ct, osl, rfl, lk, hcd⟩ := F.ex
  refine StX.fn_star lk hcd scInit StX.cxUp (StX.bind_star1 (B := fun l => bindArgs (PySem.W.fnOf "__init__" "Columns.__init__" (defArgs sInit) (defBody sInit) (defScope sInit) .none kV doc pm an cdv ct) ⟨l, []⟩) (p1 := "self") (pv := "names") (fun _ => rfl) (fun _ _ _ => rfl)) (fun A outer s H vs Q E hr h => ?_)
  obtain ⟨o, p, dx, xs, rfl, ho, hp, hz, hit, k0, k1⟩ := h
  refine ⟨_, pss_cons (ps_if (pw_or (pt_not (pt_truth (pv 1) (fun _ => rfl))) (pw_or1 (pt_cmpR op_gt (pe_callB call_len_seq (by rfl) B.len PySem.boot_len (pa_cons (pv 1) pa_nil)) (pe_glob (v := .int 4) (by rfl) mc ⟨tc, rfl⟩) (nomark _)))).pt
      (pss_one (ps_raise rfl (takes_of rfl rfl rfl rfl) (pmk_oex DE.T DE.iC DE.tI GE hr bE .nil pass0 (by rfl) DE.g (pa_cons (pe_un un_neg pe_int) pa_nil)))) pss_nil)
    (pss_cons (ps_for (passes_of rfl) rfl (pi_enumT (by rfl) D.enum (pa_cons (pv 1) pa_nil)) (pg_tup rfl (pgs_cons (pg_name (i := 2) scInit.nd rfl (Or.inl rfl)) (pgs_cons (pg_name (i := 3) scInit.nd rfl (Or.inl rfl)) pgs_nil)))
      (pss_one (ps_if (pw_or (pt_not (pt_val (pe_call GN (hr.mono (by decide)) (by rfl) mN FN.kp bN .nil pass0 (pa_cons (pv 3) pa_nil))))
          (pw_or1 (pt_cmpR op_in_seq (pv 3) (pe_slice sl_tup (pv 1) po_none (po_some (pv 2))) (by rfl)))).pt
        (pss_one (ps_raise rfl (takes_of rfl rfl rfl rfl) (pmk_oex DE.T DE.iC DE.tI GE hr bE .nil pass0 (by rfl) DE.g (pa_cons (pv 2) pa_nil)))) pss_nil)))
    (pss_one (ps_fld (pv 0) (pv 1) (by rfl)))), ?_⟩
  refine ⟨_, rfl, _, .inr (.inl ⟨xs, SqT.of hp, rfl⟩), ?_⟩
  have four : decide ((4 : Int) < (xs.length : Int)) = decide (4 < xs.length) := by
    apply decide_eq_decide.mpr
    omega
  cases e0 : xs.isEmpty with
  | true =>
    have l0 : xs.length = 0 := by simpa using e0
    exact iteT ⟨_, rfl, by decide, fun a ha => raise_in (k1 (-1) (due_m (.inl l0))) (Same.refl H) ha⟩
  | false =>
    have l0 : xs.length ≠ 0 := by
      intro z
      have : xs.isEmpty = true := by simpa using z
      rw [this] at e0
      cases e0
    refine iteF ⟨_, rfl, p, xs, rfl, .inr (SqT.of hp), _, _, rfl, rfl, _, rfl, ?_⟩
    refine ite2 (fun h4 => ?_) (fun h4 => ?_)
    · have l4 : 4 < xs.length := by
        have := of_decide_eq_true h4
        omega
      exact ⟨_, rfl, by decide, fun a ha => raise_in (k1 (-1) (due_m (.inr l4))) (Same.refl H) ha⟩
    · have n4 : ¬ (xs.length = 0 ∨ 4 < xs.length) := by
        rintro (z | z)
        · exact l0 z
        · exact h4 (decide_eq_true (by omega))
      refine ⟨_, rfl, p, xs, rfl, SqT.of hp, for_enumT (fun i σ H' => (∃ u v, σ = [some (.ref o), some (.ref p), u, v]) ∧ Same H H' ∧ ∀ j, j < i → badK xs j = false) ⟨⟨_, _, rfl⟩, Same.refl H, fun j hj => by omega⟩ (fun i σ H' _ hp' => SqT.of (hp'.2.1 _ _ hp)) ?_ ?_⟩
      · rintro i x T σ H' hx ⟨⟨u, v, rfl⟩, s1, hb⟩ hT
        have hi : i < xs.length := (List.getElem?_eq_some_iff.mp hx).1
        have s2 : Same H (upd H' T (.tup [.int (i : Nat), x])) := s1.trans (same_new hT)
        refine ⟨T, _, rfl, SqT.of upd_same, rfl, _, _, rfl, _, _, rfl, rfl, ?_⟩
        have hxm : Itm K H x := hit x (List.mem_of_getElem? hx)
        refine ⟨_, rfl, x, rfl, ?_, fun H3 s3 => ⟨_, rfl, ?_⟩⟩
        · rcases hxm with z | ⟨T', z1, z2, z3⟩
          · exact .inl z
          · exact .inr ⟨T', z1, z2, z3 _ s2⟩
        · have s4 := s2.trans s3
          have bk : badK xs i = badV xs i x := badK_at hx
          unfold badV at bk
          cases ok : okV x with
          | false =>
            rw [ok] at bk
            exact iteT ⟨_, rfl, (by show 1 ≤ 1000; decide), fun a ha => raise_in (k1 i (due_k n4 hi bk hb)) s4 ha⟩
          | true =>
            rw [ok] at bk
            obtain ⟨z, rfl, _⟩ := okV_str ok
            have nw : ¬ (HT.sIx xs.length 0 none = 0 ∧ HT.sIx xs.length xs.length (some (i : Int)) = xs.length) := by
              rintro ⟨_, q⟩
              rw [HT.sIx_nat] at q
              omega
            refine iteF ⟨_, rfl, _, rfl, _, rfl, i, rfl, p, xs, rfl, SqT.of (s4 _ _ hp), nw, fun q hq => ?_⟩
            rw [cut_take (by omega)]
            refine ⟨q, xs.take i, rfl, .inr (SqT.of upd_same), rfl, flat_take hb, _, rfl, ?_⟩
            have s5 := same_put (o := .tup (xs.take i)) s4 (s4.free hq)
            refine ite2 (fun c => ?_) (fun c => ?_)
            · refine ⟨_, rfl, (by show 1 ≤ 1000; decide), fun a ha => raise_in (k1 i (due_k n4 hi (by rw [bk, show inV (.str z) (xs.take i) = true from c]; rfl) hb)) s5 ha⟩
            · have c2 : inV (.str z) (xs.take i) = false := by
                have c' : ¬ inV (.str z) (xs.take i) = true := c
                simpa using c'
              refine ⟨⟨_, _, rfl⟩, s5, fun j hj => ?_⟩
              by_cases e : j = i
              · subst e
                rw [bk, c2]
                rfl
              · exact hb j (by omega)
      · rintro σ H' ⟨⟨u, v, rfl⟩, s1, hb⟩
        refine ⟨_, rfl, _, rfl, o, C, dx, [], rfl, s1 _ _ ho, DC.cl, DC.no, by decide, ?_⟩
        exact k0 (due_0 n4 hb) H' s1
end
end Nm
namespace Nm
open PySem PySem.Spec PyProof.Rows L2 Lw Xv Lh Ow
abbrev sCols : Stmt := Lw.top 49
theorem strs_of : ∀ {xs : List V}, (∀ x ∈ xs, okV x = true) → ∃ zs : List Str, xs = zs.map V.str ∧ ∀ z ∈ zs, okS z = true
  | [], _ => ⟨[], rfl, fun _ h => by cases h⟩
  | x :: xs, h => by
    obtain ⟨zs, e, hz⟩ := strs_of (xs := xs) fun y hy => h y (List.mem_cons_of_mem _ hy)
    obtain ⟨z, rfl, ok⟩ := okV_str (h x List.mem_cons_self)
    refine ⟨z :: zs, by rw [e]; rfl, fun y hy => ?_⟩
    rcases List.mem_cons.mp hy with rfl | hy
    · exact ok
    · exact hz y hy
/-- what stands where Columns(*xs) was called: the columns, or the exception -/
structure Ends1 (C CB : Addr) (H : Hp) (xs : List V) (Q : VK) (E : XK) : Prop where
  q : due xs = none → ∀ (o p : Addr) (zs : List Str) (H' : Hp), H o = none → H p = none → xs = zs.map V.str → (∀ z ∈ zs, okS z = true) → Same H H' → CoAt H' C o p zs → Q (.ref o) H'
  e : ∀ i, due xs = some i → ∀ (d : Addr) (H' : Hp), Same H H' → H' d = some (.xd [("index", .int i)]) → E (.ref CB) (some d) H'
abbrev spNew (K : PySem.W.Frag) (C CB : Addr) : Sp := fun vs H Q E => ∃ ws rest, vs = ws ++ rest ∧ ws.length = (["self"] : List Str).length ∧ rest.length ≤ sizeLine ∧ ∀ p, H p = none → spInit K C CB (ws ++ [V.ref p]) (upd H p (.tup rest)) Q E
theorem mk_in {K : PySem.W.Frag} {C CB : Addr} {H : Hp} {xs : List V} {Q : VK} {E : XK} (hit : ∀ x ∈ xs, Itm K H x) (hz : xs.length ≤ 5) (k : Ends1 C CB H xs Q E) :
    ∀ o dx, H o = none → H dx = none → dx ≠ o → spNew K C CB (V.ref o :: xs) (upd (upd H dx (.own o)) o (.ins C dx [])) (fun v H2 => v = .non ∧ Q (.ref o) H2) E := by
  intro o dx ho hdx hne
  refine ⟨[.ref o], xs, rfl, rfl, by rw [sizeLine_eq]; omega, fun p hp => ?_⟩
  have po : p ≠ o := fun e => by
    rw [e, upd_same] at hp
    cases hp
  have s1 : Same H (upd (upd (upd H dx (.own o)) o (.ins C dx [])) p (.tup xs)) := by
    have a : Same H (upd (upd H dx (.own o)) o (.ins C dx [])) := same_put (same_new hdx) ho
    exact same_put a (a.free hp)
  refine ⟨o, p, dx, xs, rfl, by rw [upd_ne po.symm, upd_same], upd_same, hz, fun x hx => (hit x hx).same s1, fun hd H' s2 => ?_, fun i hd d H' s2 hx => k.e i hd d H' (s1.trans s2) hx⟩
  obtain ⟨zs, ez, ok⟩ := strs_of (xs := xs) fun x hx => by
    obtain ⟨j, hj, e⟩ := List.getElem_of_mem hx
    exact all_ok (due_no hd).2 (j := j) (by rw [← e]; exact List.getElem?_eq_getElem hj)
  refine ⟨rfl, k.q hd o p zs _ ho (((same_put (same_new hdx) ho : Same H (upd (upd H dx (.own o)) o (.ins C dx [])))).free hp) ez ok (same_put (s1.trans s2) ho) ⟨⟨dx, upd_same⟩, ?_⟩⟩
  rw [upd_ne po, ← ez]
  exact s2 _ _ upd_same
/-- C() by a promise of C's __init__ -/
theorem pe_makeR0 {X : Cx} {CX : CXT} {k : Nat} {f C : Addr} {sp : Sp} {E : XK} {x : Str} {p pos : Pos} (M : Mk X.K C f) (F : FnR X.prog X.w X.K X.mg X.base CX k f sp) (hr : Room (k + 1) X.A) (hg : Gl X x) (hm : X.mg x = some (.ref C)) (hx : Passes CX X E)
    (hdb : (x == ("__debug__" : Str)) = false := by decide) : PE X (.Call (.Name x p) [] [] pos) (StX.tMakeR C sp E tNil) := by
  refine ⟨fun pins s σ H Q I h => ?_⟩
  refine wpAny_Call_Name_kw (ld_glob I hg hm (PySem.W.callWith_K0 I.kIn M.kp ?_) hdb)
  exact StX.run_makeR (us := []) M F hr hx I .nil h
def spMade (K : PySem.W.Frag) (C CB : Addr) (ok : Nat → Bool) : Sp := fun vs H Q E => ∃ l xs, vs = [.ref l] ∧ H l = some (.lst xs) ∧ ok xs.length = true ∧ xs.length ≤ 5 ∧ (∀ x ∈ xs, Itm K H x) ∧ Ends1 C CB H xs Q E
section
variable {P : Program} {w : World} {K : PySem.W.Frag} {mg : Str → Option Value} {base : Heap} {C CB : Addr}
theorem scCols : FnScope ["_law_names_here"] ["_law_names_here"] (defScope sCols) := ⟨rfl, rfl, rfl, by decide +kernel, rfl, by decide +kernel, by decide +kernel⟩
theorem okCols {f fI : Addr} {fd : FuncData} (F : Fun K "_law_columns" "_law_columns" sCols f fd) (B : Bt mg) (DC : Cf K mg C) (M : Mk K C fI) (GI : FnR P w K mg base (L2.CX P w) 3 fI (spNew K C CB)) :
    FnOk P w K mg base (L2.CX P w) 5 f fd ["_law_names_here"] (spMade K C CB fun n => decide (1 ≤ n) && decide (n ≤ 4)) := by
  refine F.okX scCols (fun vs H Q E h => ?_) (fun cdv A outer s H vs Q E hr h => ?_)
  · obtain ⟨l, xs, rfl, _⟩ := h
    rfl
  · obtain ⟨l, xs, rfl, hl, hn, hz, hit, k⟩ := h
    have px : Passes (L2.CX P w) (cxOf (L2.CX P w) P w K mg base ["_law_names_here"] "_law_columns" (defScope sCols) f cdv A outer s H E) E := passes_call (takes_of rfl rfl rfl rfl) fun _ _ _ _ h => h
    refine ⟨_, pss_cons (ps_if (pt_cmpR op_eq (pe_callB call_len_seq (by rfl) B.len PySem.boot_len (pa_cons (pv 0) pa_nil)) pe_int (nomark _)) (pss_one (ps_ret (StX.pe_makeR M GI hr (by rfl) DC.g px (pa_cons (pe_ix ix_list (pv 0) pe_int (fun _ _ => rfl)) pa_nil)))) pss_nil)
      (pss_cons (ps_if (pt_cmpR op_eq (pe_callB call_len_seq (by rfl) B.len PySem.boot_len (pa_cons (pv 0) pa_nil)) pe_int (nomark _)) (pss_one (ps_ret (StX.pe_makeR M GI hr (by rfl) DC.g px (pa_cons (pe_ix ix_list (pv 0) pe_int (fun _ _ => rfl)) (pa_cons (pe_ix ix_list (pv 0) pe_int (fun _ _ => rfl)) pa_nil))))) pss_nil)
      (pss_cons (ps_if (pt_cmpR op_eq (pe_callB call_len_seq (by rfl) B.len PySem.boot_len (pa_cons (pv 0) pa_nil)) pe_int (nomark _)) (pss_one (ps_ret (StX.pe_makeR M GI hr (by rfl) DC.g px (pa_cons (pe_ix ix_list (pv 0) pe_int (fun _ _ => rfl)) (pa_cons (pe_ix ix_list (pv 0) pe_int (fun _ _ => rfl)) (pa_cons (pe_ix ix_list (pv 0) pe_int (fun _ _ => rfl)) pa_nil)))))) pss_nil)
      (pss_one (ps_ret (StX.pe_makeR M GI hr (by rfl) DC.g px (pa_cons (pe_ix ix_list (pv 0) pe_int (fun _ _ => rfl)) (pa_cons (pe_ix ix_list (pv 0) pe_int (fun _ _ => rfl)) (pa_cons (pe_ix ix_list (pv 0) pe_int (fun _ _ => rfl)) (pa_cons (pe_ix ix_list (pv 0) pe_int (fun _ _ => rfl)) pa_nil))))))))), ?_⟩
    have mk := mk_in hit hz k
    have sl := SqL.of (K := K) hl
    match xs, hn with
    | [], hn => cases hn
    | [x0], _ =>
      exact ⟨_, rfl, l, _, rfl, .inl sl, rfl, _, rfl, iteT ⟨_, rfl, l, _, 0, _, rfl, rfl, sl, at_of (j := 0) rfl rfl, mk⟩⟩
    | [x0, x1], _ => exact ⟨_, rfl, l, _, rfl, .inl sl, rfl, _, rfl, iteF ⟨_, rfl, l, _, rfl, .inl sl, rfl, _, rfl, iteT ⟨_, rfl, l, _, 0, _, rfl, rfl, sl, at_of (j := 0) rfl rfl, _, rfl, l, _, 1, _, rfl, rfl, sl, at_of (j := 1) rfl rfl, mk⟩⟩⟩
    | [x0, x1, x2], _ => exact ⟨_, rfl, l, _, rfl, .inl sl, rfl, _, rfl, iteF ⟨_, rfl, l, _, rfl, .inl sl, rfl, _, rfl, iteF ⟨_, rfl, l, _, rfl, .inl sl, rfl, _, rfl, iteT ⟨_, rfl, l, _, 0, _, rfl, rfl, sl, at_of (j := 0) rfl rfl, _, rfl, l, _, 1, _, rfl, rfl, sl, at_of (j := 1) rfl rfl, _, rfl, l, _, 2, _, rfl, rfl, sl, at_of (j := 2) rfl rfl, mk⟩⟩⟩⟩
    | [x0, x1, x2, x3], _ => exact ⟨_, rfl, l, _, rfl, .inl sl, rfl, _, rfl, iteF ⟨_, rfl, l, _, rfl, .inl sl, rfl, _, rfl, iteF ⟨_, rfl, l, _, rfl, .inl sl, rfl, _, rfl, iteF ⟨_, rfl, l, _, 0, _, rfl, rfl, sl, at_of (j := 0) rfl rfl, _, rfl, l, _, 1, _, rfl, rfl, sl, at_of (j := 1) rfl rfl, _, rfl, l, _, 2, _, rfl, rfl, sl, at_of (j := 2) rfl rfl, _, rfl, l, _, 3, _, rfl, rfl, sl, at_of (j := 3) rfl rfl, mk⟩⟩⟩⟩
    | _ :: _ :: _ :: _ :: _ :: r, hn =>
      exfalso
      have hn' := of_decide_eq_true (Bool.and_eq_true_iff.mp hn).2
      simp only [List.length_cons] at hn'
      omega
end
end Nm
namespace Nm
open PySem PySem.Spec PyProof.Rows L2 Lw Xv Lh Ow
/-- isinstance(e, c), e the exception that the suite holds, with its fields -/
def rIsF (K : PySem.W.Frag) (CB a : Addr) (cls : Value) (d : Option Addr) : List V → Hp → VK → Prop := fun xs H Q => ∃ (dd : Addr) (fs : List (Str × V)) (c : V) (cv : Value) (b : Bool), cls = .ref CB ∧ d = some dd ∧ H dd = some (.xd fs) ∧ xs = [.ref a, c] ∧ ClsV c cv ∧ PySem.W.kitOne K (.ref CB) cv = some b ∧ Q (.bl b) H
theorem call_isF {X : Cx} {a CB : Addr} {oe : Obj} {cls : Value} {d : Option Addr} {pn : List (Addr × Obj)} (T : ExcC X.K CB) (hz : Zc cls d oe) (hf : ∃ vs, oe.data = .fields vs) : CallR (X.suite a ((a, oe) :: pn)) (.builtin "isinstance") (rIsF X.K CB a cls d) := by
  intro pins s σ H xs us Q I r h
  obtain ⟨dd, fs, c, cv, b, e1, e2, hx, rfl, hc, ek, q⟩ := h
  subst e1 e2
  obtain ⟨u1, u2, rfl, r1, r2⟩ := vals2 r
  obtain rfl := hc.eq r2
  cases (show u1 = Value.ref a from r1)
  obtain ⟨ha, _⟩ := I.pin (a, oe) (List.mem_append_left _ List.mem_cons_self)
  obtain ⟨vs, hd⟩ := hf
  have ox : ObjOk X.prog X.w H s.heap dd (.xd fs) := I.hok dd _ hx
  obtain ⟨mA, hns, _⟩ := ox
  obtain ⟨od, ho, _⟩ := lookIn_ns hns
  have J : PySem.W.InstAt s.heap a oe CB (some od) := ⟨ha, hz.1, by unfold PySem.W.notCls; rw [hd] <;> rfl, by rw [hz.2]; exact ho⟩
  have hcl : (PySem.W.clsIn X.K CB).isSome = true := by
    obtain ⟨cd, e, _⟩ := PySem.W.any_some T.hd
    rw [e]
    rfl
  exact PySem.W.kia_one (PySem.W.kitx_exc hcl T.hg T.hk T.hs T.ha T.hn T.ht T.hm) I.kIn J ek (fun z => nomatch z) fun tk => ⟨.bl b, H, I.kept (t' := tk) fun _ _ z => z, rfl, q⟩
theorem map_inj : ∀ {zs ws : List Str}, zs.map V.str = ws.map V.str → zs = ws
  | [], [], _ => rfl
  | [], _ :: _, h => by cases h
  | _ :: _, [], h => by cases h
  | z :: zs, w :: ws, h => by
    rw [List.map_cons, List.map_cons] at h
    obtain ⟨h1, h2⟩ := List.cons.inj h
    rw [V.str.inj h1, map_inj h2]
theorem take_bad {zs : List Str} {j : Nat} {z : Str} (e : zs[j]? = some z) (ok : okS z = true) : badK (zs.map V.str) j = decide (z ∈ zs.take j) := by
  have e2 : (zs.map V.str)[j]? = some (.str z) := by rw [List.getElem?_map, e]; rfl
  rw [badK_at e2]
  unfold badV
  rw [show okV (.str z) = true from ok, ← List.map_take, inV_strs]
  rfl
/-- the names may stand together -/
def Fine (zs : List Str) : Prop := (∀ z ∈ zs, okS z = true) ∧ zs.Nodup ∧ ¬ (zs.length = 0 ∨ 4 < zs.length)
theorem nodup_take {zs : List Str} : zs.Nodup ↔ ∀ j z, zs[j]? = some z → z ∉ zs.take j := by
  constructor
  · intro n j z e m
    obtain ⟨i, hi, ei⟩ := List.getElem_of_mem m
    rw [List.length_take] at hi
    rw [List.getElem_take] at ei
    obtain ⟨hj, ej⟩ := List.getElem?_eq_some_iff.mp e
    have p := List.pairwise_iff_getElem.mp n i j (by omega) hj (by omega)
    exact p (ei.trans ej.symm)
  · intro h
    refine List.pairwise_iff_getElem.mpr fun i j hi hj hij e => ?_
    refine h j zs[j] (List.getElem?_eq_getElem hj) ?_
    rw [← e]
    refine List.mem_iff_getElem.mpr ⟨i, by rw [List.length_take]; omega, ?_⟩
    rw [List.getElem_take]
theorem fine_due {zs : List Str} (f : Fine zs) : due (zs.map V.str) = none := by
  obtain ⟨h1, h2, h3⟩ := f
  refine due_0 (by rw [List.length_map]; exact h3) fun j hj => ?_
  rw [List.length_map] at hj
  have e := List.getElem?_eq_getElem hj
  rw [take_bad e (h1 _ (List.getElem_mem hj))]
  exact decide_eq_false (nodup_take.mp h2 j _ e)
theorem due_fine {xs : List V} (h : due xs = none) : ∃ zs, xs = zs.map V.str ∧ Fine zs := by
  obtain ⟨h3, h4⟩ := due_no h
  obtain ⟨zs, rfl, ok⟩ := strs_of (xs := xs) fun x hx => by
    obtain ⟨j, hj, e⟩ := List.getElem_of_mem hx
    exact all_ok h4 (j := j) (by rw [← e]; exact List.getElem?_eq_getElem hj)
  refine ⟨zs, rfl, ok, nodup_take.mpr fun j z e => ?_, by rw [List.length_map] at h3; exact h3⟩
  have hj := (List.getElem?_eq_some_iff.mp e).1
  have b := h4 j (by rw [List.length_map]; exact hj)
  rw [take_bad e (ok z (List.mem_of_getElem? e))] at b
  exact of_decide_eq_false b
theorem Fine.rev {zs : List Str} (f : Fine zs) : Fine zs.reverse := ⟨fun z h => f.1 z (List.mem_reverse.mp h), List.pairwise_reverse.mpr (f.2.1.imp fun h e => h e.symm), by rw [List.length_reverse]; exact f.2.2⟩
theorem Fine.pal {zs : List Str} (f : Fine zs) : decide (zs = zs.reverse) = decide (zs.length = 1) := by
  obtain ⟨_, n, l⟩ := f
  by_cases h : zs.length = 1
  · obtain ⟨z, rfl⟩ := List.length_eq_one_iff.mp h
    simp
  · rw [decide_eq_false h]
    refine decide_eq_false fun e => ?_
    have h0 : 0 < zs.length := by omega
    have hr : 0 < zs.reverse.length := by rw [List.length_reverse]; exact h0
    have e1 : zs[0] = zs.reverse[0] := by
      have a : zs[0]? = zs.reverse[0]? := by rw [← e]
      rw [List.getElem?_eq_getElem h0, List.getElem?_eq_getElem hr] at a
      exact Option.some.inj a
    rw [List.getElem_reverse] at e1
    have p := List.pairwise_iff_getElem.mp n 0 (zs.length - 1 - 0) h0 (by omega) (by omega)
    exact p e1
theorem no_line (z : Str) : okS (z ++ "\n") = false := by
  have e : (z ++ "\n" : Str).cps.toList = z.cps.toList ++ [10] := TL.tl_append z "\n"
  unfold okS lets
  rw [e, List.all_append]
  have n : ([10].all fun c => decide (c ∈ abc.cps.toList)) = false := by decide +kernel
  rw [n, Bool.and_false, Bool.and_false, Bool.and_false]
end Nm
namespace Nm
open PySem PySem.Spec PyProof.Rows L2 Lw Xv Lh Ow
abbrev sName : Stmt := Lw.top 38
/-- a number of a draw finds an item -/
theorem pick {xs : List V} {r : Int} (h0 : 0 ≤ r) (h1 : r < (xs.length : Int)) : ∃ x, atI xs r = some x ∧ x ∈ xs := by
  obtain ⟨j, rfl⟩ := Int.eq_ofNat_of_zero_le h0
  have hj : j < xs.length := by omega
  exact ⟨xs[j], atI_nat (List.getElem?_eq_getElem hj), List.getElem_mem hj⟩
def spareL : List V := [.str "ka", .str "kb", .str "kc", .str "kd", .str "ke", .str "kf"]
theorem spare_all : spareL.all flatV = true ∧ ∀ x ∈ spareL, ∃ z, x = .str z ∧ okS z = true := by
  refine ⟨by decide +kernel, fun x hx => ?_⟩
  unfold spareL at hx
  simp only [List.mem_cons, List.not_mem_nil, or_false] at hx
  rcases hx with rfl | rfl | rfl | rfl | rfl | rfl <;> exact ⟨_, rfl, by decide +kernel⟩
theorem inV_bar (z : Str) (ts : List Str) : inV (.str z) (ts.map V.str ++ wordL) = (decide (z ∈ ts) || inV (.str z) wordL) := by
  unfold inV
  rw [List.any_append]
  have e := inV_strs z ts
  unfold inV at e
  rw [e]
theorem else_put {p D : Addr} {H H' : Hp} {o : HO} (e : Else p H H') (n : H D = none) : Else p H (L2.upd H' D o) := fun b u h nb => by
  rw [upd_ne (ne_of_none h n)]
  exact e b u h nb
theorem else_at {p b : Addr} {H H' : Hp} {o : HO} (e : Else p H H') (h : H b = some o) (n : b ≠ p) : H' b = some o := e b o h n
/-- another name than those at t -/
def spName : Sp := fun vs H Q _ => ∃ (p q t : Addr) (ts : List Str), vs = [.ref p, .ref t] ∧ HandAt H p q ∧ H t = some (.lst (ts.map V.str)) ∧ ts.length ≤ 5 ∧ t ≠ p ∧ ∀ z H', okS z = true → z ∉ ts → HandAt H' p q → Else p H H' → Q (.str z) H'
def spareS : List Str := ["ka", "kb", "kc", "kd", "ke", "kf"]
theorem len_sub : ∀ {l m : List Str}, l.Nodup → (∀ x ∈ l, x ∈ m) → l.length ≤ m.length
  | [], _, _, _ => Nat.zero_le _
  | a :: l, m, n, h => by
    obtain ⟨n1, n2⟩ := List.nodup_cons.mp n
    have i := len_sub (l := l) (m := m.erase a) n2 fun x hx => (List.mem_erase_of_ne (fun e => n1 (by rw [← e]; exact hx))).mpr (h x (List.mem_cons_of_mem _ hx))
    have e := List.length_erase_of_mem (h a List.mem_cons_self)
    have p : 0 < m.length := List.length_pos_of_mem (h a List.mem_cons_self)
    rw [List.length_cons]
    omega
theorem spare_left {ts : List Str} (h : ts.length ≤ 5) : ∃ z ∈ spareS, z ∉ ts := by
  refine Classical.byContradiction fun c => ?_
  have a : ∀ x ∈ spareS, x ∈ ts := fun x hx => Classical.byContradiction fun n => c ⟨x, hx, n⟩
  have l := len_sub (by decide +kernel) a
  have : spareS.length = 6 := rfl
  omega
theorem okS_len {z : Str} (h : okS z = true) : z.length ≤ 9 := by
  unfold okS at h
  rw [Bool.and_eq_true, Bool.and_eq_true, Bool.and_eq_true] at h
  have := of_decide_eq_true h.2.1.2
  omega
def Sign (y : Str) : Prop := ∃ c, y = ⟨#[c]⟩ ∧ c ∈ abc.cps.toList
theorem join_signs : ∀ {ys : List Str}, (∀ y ∈ ys, Sign y) → (TL.joinL [] (ys.map TL.tl)).length = ys.length ∧ ∀ c ∈ TL.joinL [] (ys.map TL.tl), c ∈ abc.cps.toList
  | [], _ => ⟨rfl, fun c h => by cases h⟩
  | [y], h => by
    obtain ⟨c, rfl, hc⟩ := h y List.mem_cons_self
    refine ⟨rfl, fun d hd => ?_⟩
    have e : d = c := List.mem_singleton.mp hd
    rw [e]
    exact hc
  | y :: z :: r, h => by
    obtain ⟨i1, i2⟩ := join_signs (ys := z :: r) fun x hx => h x (List.mem_cons_of_mem _ hx)
    obtain ⟨c, rfl, hc⟩ := h y List.mem_cons_self
    have e : TL.joinL [] ((⟨#[c]⟩ :: z :: r : List Str).map TL.tl) = c :: TL.joinL [] ((z :: r).map TL.tl) := rfl
    rw [e]
    refine ⟨by rw [List.length_cons, i1]; rfl, fun d hd => ?_⟩
    rcases List.mem_cons.mp hd with rfl | hd
    · exact hc
    · exact i2 d hd
theorem joined {ys : List Str} (h : ∀ y ∈ ys, Sign y) : (Txt.join "" ys).length = ys.length ∧ lets (Txt.join "" ys) = true := by
  have e : TL.tl (Txt.join "" ys) = TL.joinL [] (ys.map TL.tl) := by
    rw [TL.join_eq, TL.tl_join]
    rfl
  obtain ⟨i1, i2⟩ := join_signs h
  refine ⟨by rw [TL.len_tl, e, i1], ?_⟩
  unfold lets
  rw [show (Txt.join "" ys).cps.toList = TL.joinL [] (ys.map TL.tl) from e, List.all_eq_true]
  exact fun c hc => decide_eq_true (i2 c hc)
section
variable {P : Program} {w : World} {K : PySem.W.Frag} {mg : Str → Option Value} {base : Heap}
abbrev nName : List Str := ["_law_hand_here", "_law_taken", "_law_letters", "_law_size", "_law_word", "_law_barred", "_law_spare", "_law_k", "_law_other"]
theorem scName : FnScope nName ["_law_hand_here", "_law_taken"] (defScope sName) := ⟨rfl, rfl, rfl, by decide +kernel, rfl, by decide +kernel, by decide +kernel⟩
theorem okName {f fD : Addr} {fd fdD : FuncData} (F : Fun K "_law_name" "_law_name" sName f fd) (B : Bt mg) (GD : FnOk P w K mg base CX0 2 fD fdD ["_law_hand_here", "_law_many"] spDraw) (kD : PySem.W.keepIn K (.ref fD) = true) (bD : Binds K fdD ["_law_hand_here", "_law_many"] []) (mD : mg "_law_draw" = some (.ref fD)) :
    FnOk P w K mg base CX0 3 f fd ["_law_hand_here", "_law_taken"] spName := by
  refine F.ok scName (fun vs H Q E h => ?_) (fun cdv A outer s H vs Q E hr h => ?_)
  · obtain ⟨p, q, t, ts, rfl, _⟩ := h
    rfl
  · obtain ⟨p, q, t, ts, rfl, hA, ht, tsz, tp, k⟩ := h
    refine ⟨_, pss_cons (ps_set (i := 2) scName.nd rfl (Or.inr rfl) pe_str)
      (pss_cons (ps_set (i := 3) scName.nd rfl (Or.inl rfl) (pe_ix ix_list (pe_lst (pa_cons pe_int (pa_cons pe_int (pa_cons pe_int (pa_cons pe_int pa_nil))))) (pe_call GD hr (by rfl) mD kD bD .nil pass0 (pa_cons (pv 0) (pa_cons pe_int pa_nil))) (fun _ _ => rfl)))
      (pss_cons (ps_set (i := 4) scName.nd rfl (Or.inl rfl) (pe_join pe_str
          (pe_lc (own := [("_law_k", 7)]) (g := gName 7) (by rfl) scName.nd (pi_range1 rfl B.range (pa_cons (pv 3) pa_nil))
              (blkOk_by (own := [("_law_k", 7)]) (N := nName) (sc := defScope sName) (by decide +kernel)) (fun _ _ _ _ _ => pg_name (i := 7) scName.nd rfl (Or.inl rfl))
              (fun _ _ _ _ _ => pts_nil)
              (fun _ _ _ _ _ => pe_ix ix_str (pv 2) (pe_call GD hr (by rfl) mD kD bD .nil pass0 (pa_cons (pv 0) (pa_cons pe_int pa_nil))) (fun _ _ => rfl)))))
      (pss_cons (ps_set (i := 5) scName.nd rfl (Or.inr rfl) (pe_op op_cat (pv 1) (pe_lst (pa_cons pe_str (pa_cons pe_str (pa_cons pe_str (pa_cons pe_str (pa_cons pe_str (pa_cons pe_str (pa_cons pe_str (pa_cons pe_str pa_nil)))))))))))
      (pss_cons (ps_if (pt_cmpR op_in_seq (pv 4) (pv 5) (by rfl))
        (pss_cons (ps_setLc (i := 6) (own := [("_law_other", 8)]) (g := gName 8) (by rfl) scName.nd rfl (by rfl) (by rfl) (pi_list (pe_lst (pa_cons pe_str (pa_cons pe_str (pa_cons pe_str (pa_cons pe_str (pa_cons pe_str (pa_cons pe_str pa_nil))))))))
              (blkOk_by (own := [("_law_other", 8)]) (N := nName) (sc := defScope sName) (by decide +kernel)) (fun _ _ _ _ _ => pg_name (i := 8) scName.nd rfl (Or.inl rfl))
              (fun _ _ _ _ _ => pts_one (pt_cmpR (r := rIn K true) op_notIn_seq (pv 8) (pv 5) (by rfl)))
              (fun _ _ _ _ _ => pv 8))
          (pss_one (ps_ret (pe_ix ix_list (pv 6) pe_int (fun _ _ => rfl))))) pss_nil)
      (pss_one (ps_ret (pv 4))))))), ?_⟩
    -- [1, 2, 3, 8][draw(hand, 4)]
    refine ⟨(by show 4 ≤ sizeLine; decide), fun b hb => ?_⟩
    obtain ⟨np, nq⟩ := hA.np hb
    refine ⟨_, rfl, p, q, 4, rfl, hA.upd np nq, by decide, by decide, fun r H1 r0 r1 hA1 e1 => ?_⟩
    obtain ⟨x, hx, hm⟩ := pick (xs := [V.int 1, .int 2, .int 3, .int 8]) r0 r1
    obtain ⟨n, rfl, n1, n8⟩ : ∃ n : Nat, x = V.int (n : Int) ∧ 1 ≤ n ∧ n ≤ 8 := by
      simp only [List.mem_cons, List.not_mem_nil, or_false] at hm
      rcases hm with rfl | rfl | rfl | rfl
      · exact ⟨1, rfl, by decide, by decide⟩
      · exact ⟨2, rfl, by decide, by decide⟩
      · exact ⟨3, rfl, by decide, by decide⟩
      · exact ⟨8, rfl, by decide, by decide⟩
    refine ⟨b, _, _, _, rfl, rfl, SqL.of (else_at e1 (b := b) upd_same np), hx, ?_⟩
    have E1 : Else p H H1 := (Else.of (same_new hb)).trans e1
    -- the word
    refine ⟨⟨_, rfl⟩, _, rfl, n, rfl, by omega, by omega, fun D hD => ?_⟩
    obtain ⟨hDp, hDq⟩ := hA1.np hD
    have hD0 : H D = none := E1.none hD hDp
    have sl := sizeLine_eq
    refine lc_range (lo := 0) (n := n) (fun i H' => ∃ ys : List Str, ys.length = i ∧ (∀ y ∈ ys, Sign y) ∧ HandAt H' p q ∧ Else p H H' ∧ H' D = some (.lst (ys.map V.str))) ⟨[], rfl, (fun y h => by cases h), hA1.upd hDp hDq, E1.new hD, upd_same⟩ ?_ ?_
    · rintro i H2 hi ⟨ys, hy, sg, hA2, E2, h2⟩
      refine ⟨rfl, _, rfl, _, rfl, p, q, 26, rfl, hA2, by decide, by decide, fun r H3 r0 r1 hA3 e3 => ?_⟩
      have hj : ∃ c, atI abc.cps.toList r = some c ∧ c ∈ abc.cps.toList := by
        obtain ⟨j, rfl⟩ := Int.eq_ofNat_of_zero_le r0
        have l26 : abc.cps.toList.length = 26 := by decide +kernel
        have hj : j < abc.cps.toList.length := by omega
        exact ⟨abc.cps.toList[j], atI_nat (List.getElem?_eq_getElem hj), List.getElem_mem hj⟩
      obtain ⟨c, hc, hcm⟩ := hj
      refine ⟨abc, r, c, rfl, rfl, (by show abc.length ≤ sizeLine; rw [sl]; decide +kernel), hc, _, else_at e3 h2 hDp, ?_, ys ++ [⟨#[c]⟩], ?_, ?_, ?_, ?_, ?_⟩
      · rw [List.length_map]
        omega
      · rw [List.length_append, hy]
        rfl
      · intro y hy'
        rcases List.mem_append.mp hy' with z | z
        · exact sg y z
        · rw [List.mem_singleton.mp z]
          exact ⟨c, rfl, hcm⟩
      · exact hA3.upd hDp hDq
      · exact else_put (E2.trans e3) hD0
      · rw [upd_same, List.map_append]
        rfl
    · rintro H2 ⟨ys, hy, sg, hA2, E2, h2⟩
      obtain ⟨jl, jt⟩ := joined sg
      rw [hy] at jl
      have sm : ∀ zs : List Str, (∀ y ∈ zs, Sign y) → (zs.map (·.length)).sum = zs.length := by
        intro zs
        induction zs with
        | nil => intro _; rfl
        | cons z zs ih =>
          intro hz
          obtain ⟨c, rfl, _⟩ := hz z List.mem_cons_self
          rw [List.map_cons, List.sum_cons, ih fun y hy => hz y (List.mem_cons_of_mem _ hy), List.length_cons]
          show 1 + zs.length = zs.length + 1
          omega
      refine ⟨"", D, ys, rfl, rfl, .inl (SqL.of h2), ?_, ?_⟩
      · rw [sm ys sg, hy]
        show n + n * 0 ≤ 16777216
        omega
      · -- barred
        have t2 := E2 t _ ht tp
        have few : (ts.map V.str).length ≤ 5 := by
          rw [List.length_map]
          exact tsz
        have flat : (ts.map V.str ++ wordL).all flatV = true := by
          rw [List.all_append, flat_strs]
          decide +kernel
        refine ⟨_, rfl, (by show 8 ≤ sizeLine; decide), fun g hg => ?_⟩
        refine ⟨t, g, ts.map V.str, wordL, rfl, rfl, same_new hg _ _ t2, upd_same, (by show (ts.map V.str).length + 8 ≤ sizeLine; omega), fun g2 hg2 => ?_⟩
        have s3 : Same H2 (upd (upd H2 g (.lst wordL)) g2 (.lst (ts.map V.str ++ wordL))) := (same_new hg).trans (same_new hg2)
        refine ⟨_, rfl, _, rfl, g2, _, rfl, .inl (SqL.of upd_same), rfl, flat, _, rfl, ?_⟩
        have A3 := hA2.same s3
        have E3 := E2.trans (Else.of (p := p) s3)
        have g2s : (upd (upd H2 g (.lst wordL)) g2 (.lst (ts.map V.str ++ wordL))) g2 = some (.lst (ts.map V.str ++ wordL)) := upd_same
        refine ite2 (fun hw => ?_) (fun hw => ?_)
        · -- a spare one
          refine ⟨(by show 6 ≤ sizeLine; decide), fun t2 ht2 => ⟨t2, rfl, ⟨spareL, SqL.of upd_same⟩, fun D2 hD2 => ?_⟩⟩
          have n2 : t2 ≠ p := (A3.np ht2).1
          have A4 := A3.same (same_new (o := .lst spareL) ht2)
          refine lc_list (K := K) (a := t2) (xs := spareL) (fun i H' => Same (upd (upd (upd H2 g (.lst wordL)) g2 (.lst (ts.map V.str ++ wordL))) t2 (.lst spareL)) H' ∧ H' D2 = some (.lst ((spareL.take i).filter fun x => !inV x (ts.map V.str ++ wordL)))) ⟨same_new hD2, upd_same⟩ (fun i H' _ h => SqL.of (h.1 _ _ upd_same)) ?_ ?_
          · rintro i x H' hx ⟨s4, h4⟩
            have f1 : flatV x = true := List.all_eq_true.mp spare_all.1 x (List.mem_of_getElem? hx)
            have tk : (spareL.take (i + 1)).filter (fun x => !inV x (ts.map V.str ++ wordL)) = (spareL.take i).filter (fun x => !inV x (ts.map V.str ++ wordL)) ++ [x].filter (fun x => !inV x (ts.map V.str ++ wordL)) := by
              rw [List.take_add_one, hx, List.filter_append]
              rfl
            refine ⟨rfl, _, rfl, _, rfl, g2, _, rfl, .inl (SqL.of (s4 _ _ (same_new ht2 _ _ g2s))), f1, flat, _, rfl, ?_⟩
            show if (!inV x (ts.map V.str ++ wordL)) = true then _ else _
            cases ci : inV x (ts.map V.str ++ wordL) with
            | false =>
              refine iteT ⟨_, rfl, _, h4, ?_, same_put s4 hD2, ?_⟩
              · have l1 := List.length_filter_le (fun x => !inV x (ts.map V.str ++ wordL)) (spareL.take i)
                rw [List.length_take] at l1
                have : spareL.length = 6 := rfl
                omega
              · rw [upd_same, tk]
                have e : [x].filter (fun x => !inV x (ts.map V.str ++ wordL)) = [x] := by simp [ci]
                rw [e]
            | true =>
              refine iteF ⟨s4, ?_⟩
              rw [h4, tk]
              have e : [x].filter (fun x => !inV x (ts.map V.str ++ wordL)) = [] := by simp [ci]
              rw [e, List.append_nil]
          · rintro H' ⟨s4, h4⟩
            rw [List.take_of_length_le (Nat.le_refl _)] at h4
            obtain ⟨z1, hz1, nz1⟩ := spare_left tsz
            have m1 : V.str z1 ∈ spareL.filter fun x => !inV x (ts.map V.str ++ wordL) := by
              refine List.mem_filter.mpr ⟨List.mem_map.mpr ⟨z1, hz1, rfl⟩, ?_⟩
              show (!inV (.str z1) (ts.map V.str ++ wordL)) = true
              have w1 : inV (.str z1) wordL = false := by
                have all : ∀ z ∈ spareS, inV (.str z) wordL = false := by decide +kernel
                exact all z1 hz1
              rw [inV_bar, w1, decide_eq_false nz1]
              rfl
            obtain ⟨x, r, er⟩ : ∃ x r, (spareL.filter fun x => !inV x (ts.map V.str ++ wordL)) = x :: r := by
              cases e : spareL.filter fun x => !inV x (ts.map V.str ++ wordL) with
              | nil =>
                rw [e] at m1
                cases m1
              | cons x r => exact ⟨x, r, rfl⟩
            have mx : x ∈ spareL.filter fun x => !inV x (ts.map V.str ++ wordL) := by
              rw [er]
              exact List.mem_cons_self
            obtain ⟨mx1, mx2⟩ := List.mem_filter.mp mx
            obtain ⟨z, rfl, okz⟩ := spare_all.2 x mx1
            have nz : z ∉ ts := by
              intro hm
              have mx3 : (!inV (.str z) (ts.map V.str ++ wordL)) = true := mx2
              rw [inV_bar, decide_eq_true hm] at mx3
              cases mx3
            rw [er] at h4
            refine ⟨_, rfl, D2, _, _, _, rfl, rfl, SqL.of h4, at_of (j := 0) rfl rfl, ?_⟩
            exact k z H' okz nz (A4.same s4) (E3.trans ((Else.of (same_new ht2)).trans (Else.of s4)))
        · refine ⟨_, rfl, ?_⟩
          have hw' : inV (.str (Txt.join "" ys)) (ts.map V.str ++ wordL) = false := by
            have c : ¬ inV (.str (Txt.join "" ys)) (ts.map V.str ++ wordL) = true := hw
            simpa using c
          rw [inV_bar, Bool.or_eq_false_iff] at hw'
          refine k _ _ ?_ (of_decide_eq_false hw'.1) A3 E3
          unfold okS
          rw [hw'.2, jt, jl]
          simp
          omega
end
end Nm
namespace Nm
open PySem PySem.Spec PyProof.Rows L2 Lw Xv Lh Ow
abbrev sNames : Stmt := Lw.top 39
abbrev sUnit : Stmt := Lw.top 40
/-- n unlike names in a new list -/
def spNames : Sp := fun vs H Q _ => ∃ (p q : Addr) (n : Nat), vs = [.ref p, .int n] ∧ HandAt H p q ∧ n ≤ 5 ∧
  ∀ (l : Addr) (zs : List Str) (H' : Hp), H l = none → l ≠ p → H' l = some (.lst (zs.map V.str)) → zs.length = n → zs.Nodup → (∀ z ∈ zs, okS z = true) → HandAt H' p q → Else p H H' → Q (.ref l) H'
def spUnit : Sp := fun vs H Q _ => ∃ (p q : Addr), vs = [.ref p] ∧ HandAt H p q ∧ ∀ (u : Int) (H' : Hp), 1 ≤ u → HandAt H' p q → Else p H H' → Q (.int u) H'
section
variable {P : Program} {w : World} {K : PySem.W.Frag} {mg : Str → Option Value} {base : Heap}
theorem scNames : FnScope ["_law_hand_here", "_law_many", "_law_found", "_law_k"] ["_law_hand_here", "_law_many"] (defScope sNames) := ⟨rfl, rfl, rfl, by decide +kernel, rfl, by decide +kernel, by decide +kernel⟩
theorem okNames {f fN : Addr} {fd fdN : FuncData} (F : Fun K "_law_names" "_law_names" sNames f fd) (B : Bt mg) (GN : FnOk P w K mg base CX0 3 fN fdN ["_law_hand_here", "_law_taken"] spName) (kN : PySem.W.keepIn K (.ref fN) = true) (bN : Binds K fdN ["_law_hand_here", "_law_taken"] []) (mN : mg "_law_name" = some (.ref fN)) :
    FnOk P w K mg base CX0 4 f fd ["_law_hand_here", "_law_many"] spNames := by
  refine F.ok scNames (fun vs H Q E h => ?_) (fun cdv A outer s H vs Q E hr h => ?_)
  · obtain ⟨p, q, n, rfl, _⟩ := h
    rfl
  · obtain ⟨p, q, n, rfl, hA, hn, k⟩ := h
    refine ⟨_, (pss_cons (ps_set (i := 2) scNames.nd rfl (Or.inl rfl) (pe_lst pa_nil))
      (pss_cons (ps_for PassesOwn.never rfl (pi_range1 (by rfl) B.range (pa_cons (pv 1) pa_nil)) (pg_name (i := 3) scNames.nd rfl (Or.inl rfl)) (pss_one (ps_expr (pe_bm PySem.F.plainAttrs_list PySem.F.slot_list_append PySem.F.type_list_append mt_append (pv 2) (pa_cons (pe_call GN hr (by rfl) mN kN bN .nil pass0 (pa_cons (pv 0) (pa_cons (pv 2) pa_nil))) pa_nil)))))
      (pss_one (ps_ret (pv 2))))), ?_⟩
    refine ⟨Nat.zero_le _, fun l hl => ?_⟩
    obtain ⟨lp, lq⟩ := hA.np hl
    have sl := sizeLine_eq
    refine ⟨_, rfl, n, rfl, by omega, by omega, for_range (lo := 0) (n := n) (fun i σ H' => (∃ v, σ = [some (.ref p), some (.int n), some (.ref l), v]) ∧ HandAt H' p q ∧ Else p H H' ∧ ∃ zs : List Str, H' l = some (.lst (zs.map V.str)) ∧ zs.length = i ∧ zs.Nodup ∧ ∀ z ∈ zs, okS z = true)
      ⟨⟨_, rfl⟩, hA.upd lp lq, Else.of (same_new hl), [], upd_same, rfl, List.nodup_nil, fun z h => by cases h⟩ ?_ ?_⟩
    · rintro i σ H1 hi ⟨⟨v, rfl⟩, hA1, e1, zs, h1, hz, nd, ok⟩
      refine ⟨_, rfl, .inl ⟨rfl, _, SqL.of h1⟩, _, rfl, _, rfl, p, q, l, zs, rfl, hA1, h1, by omega, lp, fun z H2 okz nz hA2 e2 => ?_⟩
      have h2 := e2 _ _ h1 lp
      refine ⟨l, _, _, rfl, rfl, h2, by rw [List.length_map]; omega, ⟨_, rfl⟩, hA2.upd lp lq, else_put (e1.trans e2) hl, zs ++ [z], ?_, ?_, ?_, ?_⟩
      · rw [upd_same, List.map_append]
        rfl
      · rw [List.length_append, hz]
        rfl
      · refine List.nodup_append.mpr ⟨nd, by simp, fun a ha b hb => ?_⟩
        rw [List.mem_singleton.mp hb]
        exact fun e => nz (by rw [← e]; exact ha)
      · intro y hy
        rcases List.mem_append.mp hy with h | h
        · exact ok y h
        · rw [List.mem_singleton.mp h]
          exact okz
    · rintro σ H1 ⟨⟨v, rfl⟩, hA1, e1, zs, h1, hz, nd, ok⟩
      exact ⟨_, rfl, k l zs H1 hl lp h1 hz nd ok hA1 e1⟩
theorem scUnit : FnScope ["_law_hand_here", "_law_pick"] ["_law_hand_here"] (defScope sUnit) := ⟨rfl, rfl, rfl, by decide +kernel, rfl, by decide +kernel, by decide +kernel⟩
theorem okUnit {f fD : Addr} {fd fdD : FuncData} (F : Fun K "_law_unit" "_law_unit" sUnit f fd) (GD : FnOk P w K mg base CX0 2 fD fdD ["_law_hand_here", "_law_many"] spDraw) (kD : PySem.W.keepIn K (.ref fD) = true) (bD : Binds K fdD ["_law_hand_here", "_law_many"] []) (mD : mg "_law_draw" = some (.ref fD)) :
    FnOk P w K mg base CX0 3 f fd ["_law_hand_here"] spUnit := by
  refine F.ok scUnit (fun vs H Q E h => ?_) (fun cdv A outer s H vs Q E hr h => ?_)
  · obtain ⟨p, q, rfl, _⟩ := h
    rfl
  · obtain ⟨p, q, rfl, hA, k⟩ := h
    refine ⟨_, (pss_cons (ps_set (i := 1) scUnit.nd rfl (Or.inl rfl) (pe_call GD hr (by rfl) mD kD bD .nil pass0 (pa_cons (pv 0) (pa_cons pe_int pa_nil))))
      (pss_cons (ps_if (pt_cmpR op_eq (pv 1) pe_int (nomark _)) (pss_one (ps_ret (pe_op op_add (pe_op op_pow pe_int pe_int) pe_int))) pss_nil)
      (pss_cons (ps_if (pt_cmpR op_eq (pv 1) pe_int (nomark _)) (pss_one (ps_ret (pe_op op_add (pe_op op_pow pe_int pe_int) (pe_call GD hr (by rfl) mD kD bD .nil pass0 (pa_cons (pv 0) (pa_cons (pe_op op_pow pe_int pe_int) pa_nil)))))) pss_nil)
      (pss_one (ps_ret pe_int))))), ?_⟩
    refine ⟨_, rfl, p, q, 5, rfl, hA, by decide, by decide, fun r H1 r0 r1 hA1 e1 => ?_⟩
    refine ⟨_, rfl, rfl, _, rfl, ite2 (fun c => ?_) (fun c => ?_)⟩
    · exact ⟨_, _, rfl, rfl, ⟨by decide, by decide, by decide⟩, _, _, rfl, rfl, k _ H1 (by decide +kernel) hA1 e1⟩
    · refine ⟨_, rfl, rfl, _, rfl, ite2 (fun c => ?_) (fun c => ?_)⟩
      · refine ⟨_, _, rfl, rfl, ⟨by decide, by decide, by decide⟩, _, rfl, _, _, rfl, rfl, ⟨by decide, by decide, by decide⟩, p, q, _, rfl, hA1, by decide +kernel, by decide +kernel, fun r2 H2 r20 r21 hA2 e2 => ?_⟩
        refine ⟨_, _, rfl, rfl, k _ H2 ?_ hA2 (e1.trans e2)⟩
        have : (1 : Int) ≤ 10 ^ (60 : Int).toNat := by decide +kernel
        omega
      · exact k 1 H1 (by decide) hA1 e1
end
end Nm
/-! the head with tables; what is asked of classes, names and tables, by Bools -/
namespace Lh
open PySem PySem.Spec PyProof.Rows L2
abbrev AlC : Type := AlB × List (Option (List (Option (Str × Int))))
def obsC (n : Nat) (fn : List He.DefD) (ex : PySem.W.Frag → Bool) (ts : List He.Tab) (g : Addr → Option Obj) : AlC := (obsB n fn ex g, ts.map fun t => He.dicW (He.frG g (He.asD g n)) (t.1 (He.frG g (He.asD g n))))
def hookC (n : Nat) (fn : List He.DefD) (ex : PySem.W.Frag → Bool) (ts : List He.Tab) : PySem.W.Hook where
  α := AlC
  obs := fun s => obsC n fn ex ts s.heap.get?
  val := fun w => ((He.valD fn, true), ts.map fun t : He.Tab => some (He.keysIn w.params t.2))
  says := fun w h => ∃ K : PySem.W.Frag, K.In h ∧ He.SaysD [] fn K ∧ ex K = true ∧ (ts.map fun t => He.dicW K (t.1 K)) = ts.map fun t => some (He.keysIn w.params t.2)
  of := fun _ _ e => ⟨_, He.frG_in, congrArg Prod.fst (congrArg Prod.fst e), congrArg Prod.snd (congrArg Prod.fst e), congrArg Prod.snd e⟩
  keeps := fun _ _ _ ⟨K, hK, c⟩ k => ⟨K, PySem.W.Frag.In.keeps hK k, c⟩
theorem obsC_eq {n : Nat} {fn : List He.DefD} {ex : PySem.W.Frag → Bool} {ts : List He.Tab} {g : Addr → Option Obj} {s : Shared} (h : ∀ a, g a = s.heap.get? a) : obsC n fn ex ts g = (hookC n fn ex ts).obs s := by
  have e : g = s.heap.get? := funext h
  rw [e]
  rfl
/-- the module's name holds this value -/
def valB (K : PySem.W.Frag) (x : Str) (v : V) : Bool := match PySem.W.nsIn K mainGlobals x with
  | some (some u) => He.relB v u
  | _ => false
theorem valB_ok {K : PySem.W.Frag} {h : Heap} {mg : Str → Option Value} (X : K.In h) (G : h.Ns mainGlobals mg) {x : Str} {v : V} (c : valB K x v = true) : ∃ u, mg x = some u ∧ RelV v u := by
  unfold valB at c
  split at c
  · rename_i u e
    exact ⟨u, PySem.W.mg_of X G e, He.relB_ok c⟩
  · cases c
/-- a plain class | made by its own __init__ | a method of it -/
def clsB (K : PySem.W.Frag) (C : Addr) : Bool := PySem.W.plainGet K C Str.empty && (PySem.W.hasDictIn K C && (PySem.W.plainOver K C && He.eqO (PySem.W.findIn K (.ref C) "__setattr__") (some (some (.builtin "object.__setattr__")))))
theorem clsB_ok {K : PySem.W.Frag} {C : Addr} (h : clsB K C = true) : Cls K C := by
  obtain ⟨h1, h⟩ := He.ba h
  obtain ⟨h2, h⟩ := He.ba h
  obtain ⟨h3, h4⟩ := He.ba h
  exact ⟨h1, h2, h3, He.eqO_ok h4⟩
def noB (K : PySem.W.Frag) (C : Addr) (fs : List Str) : Bool := fs.all fun f => He.eqO (PySem.W.findIn K (.ref C) f) (some none)
theorem noB_ok {K : PySem.W.Frag} {C : Addr} {fs : List Str} (h : noB K C fs = true) {f : Str} (m : f ∈ fs) : NoAttr K C f := He.eqO_ok (List.all_eq_true.mp h f m)
def mkeB (K : PySem.W.Frag) (C : Addr) : Bool := PySem.W.makesIn K C && (He.eqO (PySem.W.findIn K (.ref C) "__init__") (some (some (.ref (He.ma K C "__init__")))) && (PySem.W.isFn K (.ref (He.ma K C "__init__")) && PySem.W.keepIn K (.ref C)))
theorem mkeB_ok {K : PySem.W.Frag} {C : Addr} (h : mkeB K C = true) : Mk K C (He.ma K C "__init__") := by
  obtain ⟨h1, h⟩ := He.ba h
  obtain ⟨h2, h⟩ := He.ba h
  obtain ⟨h3, h4⟩ := He.ba h
  exact ⟨h1, He.eqO_ok h2, h3, h4⟩
def mthB (K : PySem.W.Frag) (C : Addr) (m : Str) : Bool := He.eqO (PySem.W.findIn K (.ref C) m) (some (some (.ref (He.ma K C m)))) && (PySem.W.isFn K (.ref (He.ma K C m)) && PySem.W.keepIn K (.ref (He.ma K C m)))
theorem mthB_ok {K : PySem.W.Frag} {C : Addr} {m : Str} (h : mthB K C m = true) : Meth K C m (He.ma K C m) := by
  obtain ⟨h1, h⟩ := He.ba h
  obtain ⟨h2, h3⟩ := He.ba h
  exact ⟨He.eqO_ok h1, h2, h3⟩
/-- what == and isinstance ask of the class at C -/
def eqcB (K : PySem.W.Frag) (C : Addr) : Bool := He.eqO (PySem.W.findIn K (.ref C) "__class__") (some (some (.builtin "object.__class__"))) && (decide (PySem.W.mroIn K C (.type "object") = some true) && decide (PySem.W.kitOne K (.type "tuple") (.ref C) = some false))
/-- isinstance of a caught exception of C, by the class D; the clause names C -/
def cauB (K : PySem.W.Frag) (C D : Addr) : Bool := decide (PySem.W.exmOne K (.ref C) (.ref C) = some true) && decide (PySem.W.kitOne K (.ref C) (.ref D) = some true)
theorem ns_absent {K : PySem.W.Frag} {a : Addr} {P : Params} {ks : List Str} {z : Str} (h : He.dicW K a = some (He.keysIn P ks)) (hz : z ∉ ks) : PySem.W.nsIn K a z = some none := by
  unfold He.dicW at h
  unfold PySem.W.nsIn
  cases q : K.lookup a with
  | none =>
    rw [q] at h
    cases h
  | some o =>
    obtain ⟨oc, od, dt, osl⟩ := o
    rw [q] at h
    cases oc with
    | type c =>
      cases od with
      | none =>
        cases dt with
        | dict es n =>
          have h1 : (match decide (c = "dict") && (osl.isEmpty && !(a == sysModules)) with
            | true => some (es.toList.map He.keyOf)
            | false => none) = some (He.keysIn P ks) := h
          split at h1
          · have h2 := Option.some.inj h1
            have key : ∀ e ∈ es.toList, ∃ k t, e.key = .str k t ∧ k ∈ ks := fun e he => by
              have m : He.keyOf e ∈ He.keysIn P ks := by
                rw [← h2]
                exact List.mem_map.mpr ⟨e, he, rfl⟩
              obtain ⟨k, hk, e2⟩ := List.mem_map.mp m
              unfold He.keyOf at e2
              split at e2
              · rename_i x t qq
                have e3 : k = x := (Prod.mk.inj (Option.some.inj e2)).1
                subst e3
                exact ⟨k, t, qq, hk⟩
              · cases e2
            show (match es.toList.find? (·.key.isStr z) with
              | some e => some (some e.val)
              | none => if es.toList.any (·.refKey) then none else some none) = some none
            have e1 : es.toList.find? (·.key.isStr z) = none := by
              rw [List.find?_eq_none]
              intro e he
              obtain ⟨k, t, e2, hk⟩ := key e he
              rw [e2]
              have : k ≠ z := fun y => hz (y ▸ hk)
              simp [Value.isStr, this]
            have e3 : es.toList.any (·.refKey) = false := by
              rw [List.any_eq_false]
              intro e he
              obtain ⟨k, t, e2, hk⟩ := key e he
              simp [DictEntry.refKey, e2]
            rw [e1]
            simp only [e3]
            rfl
          · cases h1
        | _ => cases h
      | some b => cases dt <;> cases h
    | _ => cases od <;> cases dt <;> cases h
def sizeKeys : List Str := ["atmost", "missing", "must", "not", "and", "or", "case"]
def sizeDv : List (Str × He.Dv) := [("atmost", .int 4), ("missing", .int 2), ("must", .int 4), ("not", .int 2), ("and", .int 2), ("or", .int 2), ("case", .int 3)]
end Lh
/-! what an own exception class with an own __init__ is asked for, by Bools over the written part -/
namespace Lx
open PySem PySem.Spec PyProof.Rows L2 Lw Xv Lh
def mkB (K : PySem.W.Frag) (C : Addr) : Bool := match K.lookup C with
  | some ⟨.type t, _, .cls cd, sl⟩ => (match cd.mro, sl.toList with
    | .ref C' :: bm, [_, _, _, _, some (.builtin n), _] => decide (t = "type") && (decide (C' = C) && (decide (n = "ValueError.__new__") && (!cd.hasDel && (cd.hasDict && HandSPX.refsVE bm))))
    | _, _ => false)
  | _ => false
theorem mkB_ok {K : PySem.W.Frag} {C : Addr} (h : mkB K C = true) : ∃ nm q N bs bm sn sub ab col dd k0 k1 k2 k3 k5, K.lookup C = some (excClassObj nm q C N bs bm true sn sub ab col dd k0 k1 k2 k3 k5 "ValueError.__new__") ∧ PySem.HandSPX.refsVE bm = true := by
  unfold mkB at h
  split at h
  · rename_i t od cd sl ho
    split at h
    · rename_i C' bm k0 k1 k2 k3 n k5 hm hs
      obtain ⟨h1, h⟩ := He.ba h
      obtain ⟨h2, h⟩ := He.ba h
      obtain ⟨h3, h⟩ := He.ba h
      obtain ⟨h4, h⟩ := He.ba h
      obtain ⟨h5, h6⟩ := He.ba h
      have e1 := of_decide_eq_true h1
      have e2 := of_decide_eq_true h2
      have e3 := of_decide_eq_true h3
      have e4 : cd.hasDel = false := by
        cases z : cd.hasDel with
        | false => rfl
        | true =>
          rw [z] at h4
          cases h4
      obtain ⟨nm, bs, mro, ns, qn, hd, sn, sub, ab, col, del⟩ := cd
      dsimp only at hm e4 h5
      subst hm e1 e2 e3 e4 h5
      have es : sl = #[k0, k1, k2, k3, some (.builtin "ValueError.__new__"), k5] := by
        obtain ⟨l⟩ := sl
        dsimp only at hs
        rw [hs]
      subst es
      exact ⟨nm, qn, ns, bs, bm, sn, sub, ab, col, od, k0, k1, k2, k3, k5, ho, h6⟩
    · cases h
  · cases h
def xB (K : PySem.W.Frag) (C : Addr) : Bool := He.eqO (PySem.W.findIn K (.ref C) "__getattribute__") (some (some (.builtin "BaseException.__getattribute__"))) && (He.eqO (PySem.W.findIn K (.ref C) "__getattr__") (some none) &&
  (decide (PySem.W.subIn K (.ref C) (.type "BaseException") = some true) && (PySem.W.hasDictIn K C && (He.eqO (PySem.W.findIn K (.ref C) "__class__") (some (some (.builtin "object.__class__"))) &&
  (decide (PySem.W.mroIn K C (.type "object") = some true) && PySem.W.keepIn K (.ref C))))))
def gB (K : PySem.W.Frag) : Bool := He.eqO (PySem.W.specialIn K (.builtin "object.__class__") "__get__") (some (some (.builtin "getset_descriptor.__get__"))) && decide (PySem.W.takesIn K (.builtin "object.__class__") = some true)
structure XB (K : PySem.W.Frag) (C : Addr) : Prop where
  e : ExcC K C
  f : XfC K C
  k : PySem.W.keepIn K (.ref C) = true
theorem xB_ok {K : PySem.W.Frag} {C : Addr} (h : xB K C = true) (g : gB K = true) : XB K C := by
  obtain ⟨h1, h⟩ := He.ba h
  obtain ⟨h2, h⟩ := He.ba h
  obtain ⟨h3, h⟩ := He.ba h
  obtain ⟨h4, h⟩ := He.ba h
  obtain ⟨h5, h⟩ := He.ba h
  obtain ⟨h6, h7⟩ := He.ba h
  obtain ⟨g1, g2⟩ := He.ba g
  exact ⟨⟨He.eqO_ok h1, He.eqO_ok h2, of_decide_eq_true h3, h4, He.eqO_ok h5, He.eqO_ok g1, of_decide_eq_true g2, of_decide_eq_true h6⟩, ⟨He.eqO_ok h1, He.eqO_ok h2, of_decide_eq_true h3, h4⟩, h7⟩
def iB (K : PySem.W.Frag) (C : Addr) (fs : List Str) : Bool := mkB K C && (He.eqO (PySem.W.findIn K (.ref C) "__setattr__") (some (some (.builtin "object.__setattr__"))) && (decide (PySem.W.typeIn K (.ref C) = some (.type "type")) &&
  (He.eqO (PySem.W.findIn K (.ref C) "__init__") (some (some (.ref (He.ma K C "__init__")))) && (decide (PySem.W.typeIn K (.ref (He.ma K C "__init__")) = some (.type "function")) && fs.all fun f => He.eqO (PySem.W.findIn K (.ref C) f) (some none)))))
theorem iB_ok {K : PySem.W.Frag} {C : Addr} {fs : List Str} (h : iB K C fs = true) (x : XB K C) : XMk K C (He.ma K C "__init__") ∧ ∀ f ∈ fs, PySem.W.findIn K (.ref C) f = some none := by
  obtain ⟨h1, h⟩ := He.ba h
  obtain ⟨h2, h⟩ := He.ba h
  obtain ⟨h3, h⟩ := He.ba h
  obtain ⟨h4, h⟩ := He.ba h
  obtain ⟨h5, h6⟩ := He.ba h
  exact ⟨⟨⟨mkB_ok h1, He.eqO_ok h2, x.e.hs, of_decide_eq_true h3, x.k⟩, He.eqO_ok h4, of_decide_eq_true h5⟩, fun f hf => He.eqO_ok (List.all_eq_true.mp h6 f hf)⟩
end Lx
set_option pp.maxSteps 12
set_option pp.deepTerms false
namespace Te
open PySem PySem.Spec PyProof.Rows L2 Lw Xv Lh Ow Lx Nm
abbrev R : PySem.W.OpenRow := PySem.W.OpenLaw.row PySem.Challenge.rw_batchtests_k09_wrong_parts
def fn : List He.DefD := [dd ("_law_hand", none) "_law_hand" "_law_hand" (Lw.top 35),
  dd ("_law_mixed", none) "_law_mixed" "_law_mixed" (Lw.top 36),
  dd ("_law_draw", none) "_law_draw" "_law_draw" (Lw.top 37),
  dd ("_law_name", none) "_law_name" "_law_name" (Lw.top 38),
  dd ("_law_names", none) "_law_names" "_law_names" (Lw.top 39),
  dd ("_law_unit", none) "_law_unit" "_law_unit" (Lw.top 40),
  dd ("_law_number", none) "_law_number" "_law_number" (Lw.top 41),
  dd ("_law_literal", none) "_law_literal" "_law_literal" (Lw.top 42),
  dd ("_law_pool", none) "_law_pool" "_law_pool" (Lw.top 43),
  dd ("_law_part", none) "_law_part" "_law_part" (Lw.top 44),
  dd ("_law_wrap", none) "_law_wrap" "_law_wrap" (Lw.top 45),
  dd ("_law_world", none) "_law_world" "_law_world" (Lw.top 46),
  dd ("_law_columns", none) "_law_columns" "_law_columns" (Lw.top 49),
  dd ("_law_same", none) "_law_same" "_law_same" (Lw.top 48),
  dd ("_law_inner", none) "_law_inner" "_law_inner" (Lw.top 52),
  dd ("_law_places", none) "_law_places" "_law_places" (Lw.top 47),
  dd ("_law_replaced", none) "_law_replaced" "_law_replaced" (Lw.top 50),
  dd ("_law_reserved", none) "_law_reserved" "_law_reserved" (Lw.top 51),
  dd ("_law_is_code", none) "_law_is_code" "_law_is_code" (Lw.top 53),
  dd ("_law_number_fits", none) "_law_number_fits" "_law_number_fits" (Lw.top 54),
  dd ("_law_branches_fit", none) "_law_branches_fit" "_law_branches_fit" (Lw.top 55),
  dd ("_law_form_fits", none) "_law_form_fits" "_law_form_fits" (Lw.top 56),
  dd ("_law_terms_fit", none) "_law_terms_fit" "_law_terms_fit" (Lw.top 57),
  dd ("_law_fault", none) "_law_fault" "_law_fault" (Lw.top 58),
  dd ("_law_strange", none) "_law_strange" "_law_strange" (Lw.top 59),
  dd ("law", none) "law" "law" (Lw.top 60),
  dd ("BadColumns", some "__init__") "__init__" "BadColumns.__init__" (inClass (Lw.top 3) 0),
  dd ("is_name", none) "is_name" "is_name" (Lw.top 11),
  dd ("Columns", some "__init__") "__init__" "Columns.__init__" (inClass (Lw.top 33) 0),
  dd ("Columns", some "__contains__") "__contains__" "Columns.__contains__" (inClass (Lw.top 33) 3),
  dd ("BadPart", some "__init__") "__init__" "BadPart.__init__" (inClass (Lw.top 4) 0),
  dd ("is_integer", none) "is_integer" "is_integer" (Lw.top 10),
  dd ("is_triple", none) "is_triple" "is_triple" (Lw.top 13),
  dd ("has_terms", none) "has_terms" "has_terms" (Lw.top 14),
  dd ("is_term", none) "is_term" "is_term" (Lw.top 15),
  dd ("fault_of", none) "fault_of" "fault_of" (Lw.top 20),
  dd ("has_form", none) "has_form" "has_form" (Lw.top 21),
  dd ("is_tuple_up_to", none) "is_tuple_up_to" "is_tuple_up_to" (Lw.top 22),
  dd ("is_pair", none) "is_pair" "is_pair" (Lw.top 23),
  dd ("has_right_terms", none) "has_right_terms" "has_right_terms" (Lw.top 24),
  dd ("literal_of", none) "literal_of" "literal_of" (Lw.top 25),
  dd ("inner_parts", none) "inner_parts" "inner_parts" (Lw.top 26),
  dd ("check_part", none) "check_part" "check_part" (Lw.top 30),
  dd ("Condition", some "__init__") "__init__" "Condition.__init__" (inClass (Lw.top 29) 0)]
def fnNames : List Str := (["_law_hand", "_law_mixed", "_law_draw", "_law_name", "_law_names", "_law_unit", "_law_number", "_law_literal", "_law_pool", "_law_part", "_law_wrap", "_law_world", "_law_columns", "_law_same", "_law_inner", "_law_places", "_law_replaced", "_law_reserved", "_law_is_code", "_law_number_fits", "_law_branches_fit", "_law_form_fits", "_law_terms_fit", "_law_fault", "_law_strange"] : List Str) ++ (["law", "is_name", "is_integer", "is_triple", "has_terms", "is_term", "fault_of", "has_form", "is_tuple_up_to", "is_pair", "has_right_terms", "literal_of", "inner_parts", "check_part"] : List Str)
abbrev aColumns (K : PySem.W.Frag) : Addr := He.ga K "Columns"
abbrev aBadColumns (K : PySem.W.Frag) : Addr := He.ga K "BadColumns"
abbrev aBadPart (K : PySem.W.Frag) : Addr := He.ga K "BadPart"
abbrev aCondition (K : PySem.W.Frag) : Addr := He.ga K "Condition"
abbrev aBatchError (K : PySem.W.Frag) : Addr := He.ga K "BatchError"
def wordDv : List He.Dv := [.str "and", .str "case", .str "else", .str "is", .str "missing", .str "must", .str "not", .str "or"]
def ex (K : PySem.W.Frag) : Bool := btNames.all (freeB K) && ((["all", "enumerate", "min"] : List Str).all (freeB K) && (fnNames.all (gloB K) && ((["WORDS", "SIZES", "Columns", "BadColumns", "BadPart", "Condition", "BatchError"] : List Str).all (gloB K) && (He.tupB K "WORDS" wordDv && (valB K "LETTERS" (.str abc) && (valB K "MOST_LETTERS" (.int 8) && (valB K "MOST_COLUMNS" (.int 4) && (gB K && (xB K (aBadColumns K) && (iB K (aBadColumns K) ["index"] && (clsB K (aColumns K) && (eqcB K (aColumns K) && (noB K (aColumns K) ["names"] && (mkeB K (aColumns K) && (mthB K (aColumns K) "__contains__" && (valB K "MOST_JOINED" (.int 4) && (valB K "MOST_BRANCHES" (.int 3) && (He.valsB K (He.ga K "SIZES") sizeDv && (xB K (aBadPart K) && (iB K (aBadPart K) ["place", "why"] && (clsB K (aCondition K) && (noB K (aCondition K) ["columns", "part"] && (mkeB K (aCondition K) && (cauB K (aBadPart K) (aBatchError K)))))))))))))))))))))))))
def tabs : List He.Tab := [(fun K => He.ga K "SIZES", sizeKeys)]
abbrev hk : PySem.W.Hook := hookC 6 fn ex tabs
def ob (s : PySem.W.SharedT) : AlC := obsC 6 fn ex tabs (HandSHeadRun.getT s)
theorem ob_eq (s : PySem.W.SharedT) : ob s = hk.obs s.abs := obsC_eq (HandSHeadRun.getT_eq s)
theorem run0 (w : World) : HandSHeadRun.RunEq R (PySem.W.view R.prog [60]) hk ob 20000 ((["_wall", "BatchError", "BadColumns", "BadPart", "NoPlace", "LETTERS", "MOST_LETTERS", "WORDS", "is_integer", "is_name", "is_triple", "has_terms", "is_term", "MOST_JOINED", "MOST_BRANCHES", "SIZES", "fault_of", "has_form", "is_tuple_up_to", "is_pair", "has_right_terms", "literal_of", "inner_parts", "part_at", "Condition"] : List PySem.Str) ++ (["check_part", "MOST_COLUMNS", "Columns", "_law_hand", "_law_mixed", "_law_draw", "_law_name", "_law_names", "_law_unit", "_law_number", "_law_literal", "_law_pool", "_law_part", "_law_wrap", "_law_world", "_law_places", "_law_same", "_law_columns", "_law_replaced", "_law_reserved", "_law_inner", "_law_is_code", "_law_number_fits", "_law_branches_fit", "_law_form_fits"] : List PySem.Str) ++ (["_law_terms_fit", "_law_fault", "_law_strange"] : List PySem.Str)) (w.withFollow "special-get-raises" false) := by
  intro os
  kernel_rfl
theorem run1 (w : World) : HandSHeadRun.RunEq R (PySem.W.view R.prog [60]) hk ob 20000 ((["_wall", "BatchError", "BadColumns", "BadPart", "NoPlace", "LETTERS", "MOST_LETTERS", "WORDS", "is_integer", "is_name", "is_triple", "has_terms", "is_term", "MOST_JOINED", "MOST_BRANCHES", "SIZES", "fault_of", "has_form", "is_tuple_up_to", "is_pair", "has_right_terms", "literal_of", "inner_parts", "part_at", "Condition"] : List PySem.Str) ++ (["check_part", "MOST_COLUMNS", "Columns", "_law_hand", "_law_mixed", "_law_draw", "_law_name", "_law_names", "_law_unit", "_law_number", "_law_literal", "_law_pool", "_law_part", "_law_wrap", "_law_world", "_law_places", "_law_same", "_law_columns", "_law_replaced", "_law_reserved", "_law_inner", "_law_is_code", "_law_number_fits", "_law_branches_fit", "_law_form_fits"] : List PySem.Str) ++ (["_law_terms_fit", "_law_fault", "_law_strange"] : List PySem.Str)) (w.withFollow "special-get-raises" true) := by
  intro os
  kernel_rfl
theorem run (w : World) : HandSHeadRun.RunEq R (PySem.W.view R.prog [60]) hk ob 20000 ((["_wall", "BatchError", "BadColumns", "BadPart", "NoPlace", "LETTERS", "MOST_LETTERS", "WORDS", "is_integer", "is_name", "is_triple", "has_terms", "is_term", "MOST_JOINED", "MOST_BRANCHES", "SIZES", "fault_of", "has_form", "is_tuple_up_to", "is_pair", "has_right_terms", "literal_of", "inner_parts", "part_at", "Condition"] : List PySem.Str) ++ (["check_part", "MOST_COLUMNS", "Columns", "_law_hand", "_law_mixed", "_law_draw", "_law_name", "_law_names", "_law_unit", "_law_number", "_law_literal", "_law_pool", "_law_part", "_law_wrap", "_law_world", "_law_places", "_law_same", "_law_columns", "_law_replaced", "_law_reserved", "_law_inner", "_law_is_code", "_law_number_fits", "_law_branches_fit", "_law_form_fits"] : List PySem.Str) ++ (["_law_terms_fit", "_law_fault", "_law_strange"] : List PySem.Str)) w := PySem.W.byRow2 "special-get-raises" (P := fun w => HandSHeadRun.RunEq R (PySem.W.view R.prog [60]) hk ob 20000 ((["_wall", "BatchError", "BadColumns", "BadPart", "NoPlace", "LETTERS", "MOST_LETTERS", "WORDS", "is_integer", "is_name", "is_triple", "has_terms", "is_term", "MOST_JOINED", "MOST_BRANCHES", "SIZES", "fault_of", "has_form", "is_tuple_up_to", "is_pair", "has_right_terms", "literal_of", "inner_parts", "part_at", "Condition"] : List PySem.Str) ++ (["check_part", "MOST_COLUMNS", "Columns", "_law_hand", "_law_mixed", "_law_draw", "_law_name", "_law_names", "_law_unit", "_law_number", "_law_literal", "_law_pool", "_law_part", "_law_wrap", "_law_world", "_law_places", "_law_same", "_law_columns", "_law_replaced", "_law_reserved", "_law_inner", "_law_is_code", "_law_number_fits", "_law_branches_fit", "_law_form_fits"] : List PySem.Str) ++ (["_law_terms_fit", "_law_fault", "_law_strange"] : List PySem.Str)) w) run0 run1 w
end Te
/-! tree values: what stands at a value, told as data -/
namespace Tv
open PySem PySem.Spec PyProof.Rows L2
inductive T where
  | non | bl (b : Bool) | int (i : Int) | str (x : Str)
  | tup (ts : List T) | lst (ts : List T) | dic (kvs : List (T × T)) | obj (C : Addr) (fs : List (Str × T)) | op (v : V)
  /-- an exception, held at a, whose dict stands at d -/
  | exc (a d : Addr) (us : List (Str × T))
  /-- an object at o, of the class C -/
  | mk (o C : Addr) (us : List (Str × T))
/-- a key of a dict as data -/
def keyT : Key → T
  | .inl i => .int i
  | .inr x => .str x
mutual
inductive Rep (K : PySem.W.Frag) (G : Hp) : V → T → Prop
  | non : Rep K G .non .non
  | bl (b : Bool) : Rep K G (.bl b) (.bl b)
  | int (i : Int) : Rep K G (.int i) (.int i)
  | str (x : Str) : Rep K G (.str x) (.str x)
  | tup {a : Addr} {vs : List V} {ts : List T} : SqT K G a vs → RepL K G vs ts → Rep K G (.ref a) (.tup ts)
  | lst {a : Addr} {vs : List V} {ts : List T} : G a = some (.lst vs) → RepL K G vs ts → Rep K G (.ref a) (.lst ts)
  | dicK {a : Addr} {kvs : List (Key × V)} {ts : List T} : G a = some (.dK kvs) → RepL K G (kvs.map (·.2)) ts → Rep K G (.ref a) (.dic ((kvs.map fun q => keyT q.1).zip ts))
  | dicT {a : Addr} {kvs : List (List Key × V)} {ts : List T} : G a = some (.dT kvs) → RepL K G (kvs.map (·.2)) ts → Rep K G (.ref a) (.dic ((kvs.map fun q => T.tup (q.1.map keyT)).zip ts))
  | obj {a dx C : Addr} {fs : List (Str × V)} {ts : List T} : G a = some (.ins C dx fs) → RepL K G (fs.map (·.2)) ts → Rep K G (.ref a) (.obj C ((fs.map (·.1)).zip ts))
  | op (v : V) : Rep K G v (.op v)
  | exc {a d : Addr} {fs : List (Str × V)} {ts : List T} : G d = some (.xd fs) → RepL K G (fs.map (·.2)) ts → Rep K G (.ref a) (.exc a d ((fs.map (·.1)).zip ts))
  | mk {o dx C : Addr} {fs : List (Str × V)} {ts : List T} : G o = some (.ins C dx fs) → RepL K G (fs.map (·.2)) ts → Rep K G (.ref o) (.mk o C ((fs.map (·.1)).zip ts))
inductive RepL (K : PySem.W.Frag) (G : Hp) : List V → List T → Prop
  | nil : RepL K G [] []
  | cons {v : V} {vs : List V} {t : T} {ts : List T} : Rep K G v t → RepL K G vs ts → RepL K G (v :: vs) (t :: ts)
end
theorem sqT_same {K : PySem.W.Frag} {H H' : Hp} {a : Addr} {xs : List V} (e : Same H H') (h : SqT K H a xs) : SqT K H' a xs := by
  rcases h with (h | ⟨o, h⟩) | h
  · exact .inl (.inl (e _ _ h))
  · exact .inl (.inr ⟨o, e _ _ h⟩)
  · exact .inr h
mutual
theorem Rep.mono {K : PySem.W.Frag} {G G' : Hp} (e : Same G G') : ∀ {v : V} {t : T}, Rep K G v t → Rep K G' v t
  | _, _, .non => .non
  | _, _, .bl b => .bl b
  | _, _, .int i => .int i
  | _, _, .str x => .str x
  | _, _, .tup h l => .tup (sqT_same e h) (RepL.mono e l)
  | _, _, .lst h l => .lst (e _ _ h) (RepL.mono e l)
  | _, _, .dicK h l => .dicK (e _ _ h) (RepL.mono e l)
  | _, _, .dicT h l => .dicT (e _ _ h) (RepL.mono e l)
  | _, _, .obj h l => .obj (e _ _ h) (RepL.mono e l)
  | _, _, .op v => .op v
  | _, _, .exc h l => .exc (e _ _ h) (RepL.mono e l)
  | _, _, .mk h l => .mk (e _ _ h) (RepL.mono e l)
theorem RepL.mono {K : PySem.W.Frag} {G G' : Hp} (e : Same G G') : ∀ {vs : List V} {ts : List T}, RepL K G vs ts → RepL K G' vs ts
  | _, _, .nil => .nil
  | _, _, .cons h l => .cons (Rep.mono e h) (RepL.mono e l)
end
section
variable {K : PySem.W.Frag} {G : Hp}
theorem RepL.length : ∀ {vs : List V} {ts : List T}, RepL K G vs ts → vs.length = ts.length
  | _, _, .nil => rfl
  | _, _, .cons _ l => congrArg Nat.succ l.length
theorem RepL.append : ∀ {vs ws : List V} {ts us : List T}, RepL K G vs ts → RepL K G ws us → RepL K G (vs ++ ws) (ts ++ us)
  | _, _, _, _, .nil, m => m
  | _, _, _, _, .cons h l, m => .cons h (l.append m)
theorem RepL.get : ∀ {vs : List V} {ts : List T} {i : Nat} {t : T}, RepL K G vs ts → ts[i]? = some t → ∃ v, vs[i]? = some v ∧ Rep K G v t
  | _, _, _, _, .nil, e => by simp at e
  | _, _, 0, _, .cons h _, e => by
    rw [List.getElem?_cons_zero] at e
    cases e
    exact ⟨_, rfl, h⟩
  | _, _, i + 1, t, .cons _ l, e => by
    rw [List.getElem?_cons_succ] at e
    obtain ⟨v, h1, h2⟩ := l.get e
    exact ⟨v, by rw [List.getElem?_cons_succ]; exact h1, h2⟩
theorem RepL.getV : ∀ {vs : List V} {ts : List T} {i : Nat} {v : V}, RepL K G vs ts → vs[i]? = some v → ∃ t, ts[i]? = some t ∧ Rep K G v t
  | _, _, _, _, .nil, e => by simp at e
  | _, _, 0, _, .cons h _, e => by
    rw [List.getElem?_cons_zero] at e
    cases e
    exact ⟨_, rfl, h⟩
  | _, _, i + 1, t, .cons _ l, e => by
    rw [List.getElem?_cons_succ] at e
    obtain ⟨v, h1, h2⟩ := l.getV e
    exact ⟨v, by rw [List.getElem?_cons_succ]; exact h1, h2⟩
theorem RepL.take : ∀ {vs : List V} {ts : List T} (n : Nat), RepL K G vs ts → RepL K G (vs.take n) (ts.take n)
  | _, _, 0, _ => .nil
  | _, _, _ + 1, .nil => .nil
  | _, _, n + 1, .cons h l => .cons h (l.take n)
theorem RepL.drop : ∀ {vs : List V} {ts : List T} (n : Nat), RepL K G vs ts → RepL K G (vs.drop n) (ts.drop n)
  | _, _, 0, h => h
  | _, _, _ + 1, .nil => .nil
  | _, _, n + 1, .cons _ l => l.drop n
theorem RepL.reverse : ∀ {vs : List V} {ts : List T}, RepL K G vs ts → RepL K G vs.reverse ts.reverse
  | _, _, .nil => .nil
  | _, _, .cons h l => by
    rw [List.reverse_cons, List.reverse_cons]
    exact l.reverse.append (.cons h .nil)
theorem RepL.set : ∀ {vs : List V} {ts : List T} {v : V} {t : T} (n : Nat), RepL K G vs ts → Rep K G v t → RepL K G (vs.set n v) (ts.set n t)
  | _, _, _, _, _, .nil, _ => .nil
  | _, _, _, _, 0, .cons _ l, h => .cons h l
  | _, _, _, _, n + 1, .cons g l, h => .cons g (l.set n h)
/-- texts | numbers -/
theorem repL_strs : ∀ (xs : List Str), RepL K G (xs.map V.str) (xs.map T.str)
  | [] => .nil
  | x :: xs => .cons (.str x) (repL_strs xs)
theorem repL_ints : ∀ (xs : List Int), RepL K G (xs.map V.int) (xs.map T.int)
  | [] => .nil
  | x :: xs => .cons (.int x) (repL_ints xs)
theorem RepL.strs : ∀ {xs : List Str} {vs : List V}, RepL K G vs (xs.map T.str) → vs = xs.map V.str
  | [], _, .nil => rfl
  | _ :: _, _, .cons (.str _) l => congrArg _ l.strs
theorem RepL.ints : ∀ {xs : List Int} {vs : List V}, RepL K G vs (xs.map T.int) → vs = xs.map V.int
  | [], _, .nil => rfl
  | _ :: _, _, .cons (.int _) l => congrArg _ l.ints
end
/-! what does not belong to the readable heap: things that others change (the hand of drawn numbers) -/
def sans (ad : Addr → Bool) (H : Hp) : Hp := fun a => if ad a = true then none else H a
theorem sans_some {ad : Addr → Bool} {H : Hp} {a : Addr} {o : HO} (h : sans ad H a = some o) : ad a = false ∧ H a = some o := by
  unfold sans at h
  split at h
  · cases h
  · rename_i q
    exact ⟨by simpa using q, h⟩
theorem sans_of {ad : Addr → Bool} {H : Hp} {a : Addr} (h : ad a = false) : sans ad H a = H a := by
  unfold sans
  rw [h]
  rfl
theorem sans_none {ad : Addr → Bool} {H : Hp} {a : Addr} (h : H a = none) : sans ad H a = none := by
  unfold sans
  split
  · rfl
  · exact h
theorem sans_same {ad : Addr → Bool} {H : Hp} : Same (sans ad H) H := fun _ _ h => (sans_some h).2
structure Rs where
  ad : Addr → Bool
  inv : Hp → Prop
  al : ∀ {H a}, inv H → ad a = true → H a ≠ none
  loc : ∀ {H H'}, inv H → (∀ a, ad a = true → H' a = H a) → inv H'
/-- nothing is set apart -/
def R0 : Rs := ⟨fun _ => false, fun _ => True, fun _ h => (Bool.noConfusion h), fun _ _ => trivial⟩
/-- F: what will never be changed again -/
structure Ok (R : Rs) (F H : Hp) : Prop where
  sub : Same F (sans R.ad H)
  inv : R.inv H
structure Step (R : Rs) (F H F' H' : Hp) : Prop where
  f : Same F F'
  g : Same (sans R.ad H) (sans R.ad H')
  n : ∀ a o, F' a = some o → F a = none → sans R.ad H a = none
  ok : Ok R F' H'
section
variable {R : Rs} {F H F' H' F'' H'' : Hp}
theorem Step.refl (h : Ok R F H) : Step R F H F H := ⟨Same.refl _, Same.refl _, fun a o e z => (by rw [z] at e; cases e), h⟩
theorem Step.trans (x : Step R F H F' H') (y : Step R F' H' F'' H'') : Step R F H F'' H'' := by
  refine ⟨x.f.trans y.f, x.g.trans y.g, fun a o e z => ?_, y.ok⟩
  cases q : F' a with
  | some u => exact x.n a u q z
  | none => exact x.g.free (y.n a o e q)
theorem Ok.adNew (h : Ok R F H) {p : Addr} (e : H p = none) : R.ad p = false := by
  cases q : R.ad p with
  | false => rfl
  | true => exact absurd e (R.al h.inv q)
/-- a new object, not (yet) kept as it is -/
theorem Step.new (h : Ok R F H) {p : Addr} (e : H p = none) (o : HO) : Step R F H F (upd H p o) := by
  have ap := h.adNew e
  have g : Same (sans R.ad H) (sans R.ad (upd H p o)) := fun a u z => by
    obtain ⟨z1, z2⟩ := sans_some z
    rw [sans_of z1, upd_ne (ne_of_none z2 e)]
    exact z2
  refine ⟨Same.refl _, g, fun a u x z => (by rw [z] at x; cases x), h.sub.trans g, R.loc h.inv (fun a q => upd_ne ?_)⟩
  rintro rfl
  rw [ap] at q
  cases q
theorem Ok.free (h : Ok R F H) {p : Addr} (e : H p = none) : F p = none := h.sub.free (sans_none e)
/-- an object that is not in F is kept as it is from now on -/
theorem Step.keep (h : Ok R F H) {p : Addr} {o : HO} (e : H p = some o) (ap : R.ad p = false) (fp : F p = none) : Same F (upd F p o) ∧ Ok R (upd F p o) H := by
  refine ⟨fun a u z => by rw [upd_ne (ne_of_none z fp)]; exact z, ⟨fun a u z => ?_, h.inv⟩⟩
  unfold upd at z
  split at z
  · rename_i q
    cases z
    rw [q, sans_of ap]
    exact e
  · exact h.sub a u z
/-- a new object, kept -/
theorem Step.newKeep (h : Ok R F H) {p : Addr} (e : H p = none) (o : HO) : Step R F H (upd F p o) (upd H p o) := by
  have s := Step.new h e o
  have k := Step.keep s.ok (p := p) (o := o) upd_same (h.adNew e) (h.free e)
  refine ⟨k.1, s.g, fun a u x z => ?_, k.2⟩
  unfold upd at x
  split at x
  · rename_i q
    rw [q]
    exact sans_none e
  · rw [z] at x
    cases x
end
section
variable {R : Rs} {F0 H0 F H : Hp}
/-- an object that is not in F, and was not there at the start, is changed -/
theorem Step.mut (s : Step R F0 H0 F H) {a : Addr} {o : HO} (fa : F a = none) (ra : R.ad a = false) (h0 : H0 a = none) : Step R F0 H0 F (upd H a o) := by
  refine ⟨s.f, fun b u z => ?_, s.n, fun b u z => ?_, R.loc s.ok.inv fun b q => upd_ne ?_⟩
  · have y := s.g b u z
    obtain ⟨z1, z2⟩ := sans_some z
    rw [sans_of z1] at y ⊢
    rw [upd_ne (ne_of_none z2 h0)]
    exact y
  · have y := s.ok.sub b u z
    obtain ⟨z1, z2⟩ := sans_some y
    rw [sans_of z1, upd_ne (ne_of_none z fa)]
    exact z2
  · rintro rfl
    rw [ra] at q
    cases q
end
/-! which objects may be read, and how long -/
inductive Kd | S | B | M
  deriving DecidableEq
def join (F G : Hp) : Hp := fun a => match F a with
  | some o => some o
  | none => G a
theorem same_join {F G : Hp} : Same F (join F G) := fun a o h => by
  unfold join
  rw [h]
theorem join_same {F G H : Hp} (a : Same F H) (b : Same G H) : Same (join F G) H := fun c o h => by
  unfold join at h
  split at h
  · rename_i u q
    cases h
    exact a _ _ q
  · exact b _ _ h
theorem join_right {F G H : Hp} (a : Same F H) (b : Same G H) : Same G (join F G) := fun c o h => by
  unfold join
  split
  · rename_i u q
    have x := a _ _ q
    rw [b _ _ h] at x
    rw [x]
  · exact h
/-- S: what may be kept; B: also what was there at the def's entry; M: all that is there now -/
def base (κ : Kd) (R : Rs) (H0 F H : Hp) : Hp := match κ with
  | .S => F
  | .B => join F (sans R.ad H0)
  | .M => sans R.ad H
section
variable {R : Rs} {F0 H0 F H F' H' : Hp}
theorem base_step (κ : Kd) (e : Step R F0 H0 F H) (s : Step R F H F' H') : Same (base κ R H0 F H) (base κ R H0 F' H') := by
  cases κ with
  | S => exact s.f
  | M => exact s.g
  | B => exact join_same (s.f.trans same_join) (join_right s.ok.sub (e.g.trans s.g))
def Kd.le : Kd → Kd → Bool
  | .S, _ => true
  | .B, .B => true
  | .B, .M => true
  | .M, .M => true
  | _, _ => false
theorem base_le {κ μ : Kd} (h : κ.le μ = true) (e : Step R F0 H0 F H) : Same (base κ R H0 F H) (base μ R H0 F H) := by
  cases κ <;> cases μ <;> first | exact Same.refl _ | exact same_join | exact e.ok.sub | exact join_same e.ok.sub e.g | cases h
theorem base_H {κ : Kd} (e : Step R F0 H0 F H) : Same (base κ R H0 F H) H := (base_le (μ := .M) (by cases κ <;> rfl) e).trans sans_same
end
/-! the slots -/
inductive Cell | un | rd (t : T) | val (t : T) | own (t : T)
/-- an object that is only known here, its items kept -/
def OwnAt (K : PySem.W.Frag) (F H : Hp) (a : Addr) : T → Prop
  | .lst ts => ∃ vs, H a = some (.lst vs) ∧ RepL K F vs ts
  | .dic ts => (∃ (kvs : List (Key × V)) (us : List T), H a = some (.dK kvs) ∧ RepL K F (kvs.map (·.2)) us ∧ ts = (kvs.map fun q => keyT q.1).zip us) ∨
      (∃ (kvs : List (List Key × V)) (us : List T), H a = some (.dT kvs) ∧ RepL K F (kvs.map (·.2)) us ∧ ts = (kvs.map fun q => T.tup (q.1.map keyT)).zip us)
  | .obj C ts => ∃ (dx : Addr) (fs : List (Str × V)) (us : List T), H a = some (.ins C dx fs) ∧ RepL K F (fs.map (·.2)) us ∧ ts = (fs.map (·.1)).zip us
  | .mk o C ts => a = o ∧ ∃ (dx : Addr) (fs : List (Str × V)) (us : List T), H a = some (.ins C dx fs) ∧ RepL K F (fs.map (·.2)) us ∧ ts = (fs.map (·.1)).zip us
  | _ => False
theorem OwnAt.obj_ {K : PySem.W.Frag} {F H : Hp} {a : Addr} {t : T} (h : OwnAt K F H a t) : ∃ o, H a = some o := by
  cases t with
  | lst ts =>
    obtain ⟨vs, h, _⟩ := h
    exact ⟨_, h⟩
  | dic ts =>
    rcases h with ⟨_, _, h, _⟩ | ⟨_, _, h, _⟩ <;> exact ⟨_, h⟩
  | obj C ts =>
    obtain ⟨_, _, _, h, _⟩ := h
    exact ⟨_, h⟩
  | mk o C ts =>
    obtain ⟨_, _, _, _, h, _⟩ := h
    exact ⟨_, h⟩
  | _ => exact h.elim
theorem OwnAt.mono {K : PySem.W.Frag} {F H F' H' : Hp} {a : Addr} {t : T} (h : OwnAt K F H a t) (f : Same F F') (g : ∀ o, H a = some o → H' a = some o) : OwnAt K F' H' a t := by
  cases t with
  | lst ts =>
    obtain ⟨vs, h, l⟩ := h
    exact ⟨vs, g _ h, l.mono f⟩
  | dic ts =>
    rcases h with ⟨k, u, h, l, e⟩ | ⟨k, u, h, l, e⟩
    · exact .inl ⟨k, u, g _ h, l.mono f, e⟩
    · exact .inr ⟨k, u, g _ h, l.mono f, e⟩
  | obj C ts =>
    obtain ⟨x, k, u, h, l, e⟩ := h
    exact ⟨x, k, u, g _ h, l.mono f, e⟩
  | mk o C ts =>
    obtain ⟨z, x, k, u, h, l, e⟩ := h
    exact ⟨z, x, k, u, g _ h, l.mono f, e⟩
  | _ => exact h.elim
theorem OwnAt.rep {K : PySem.W.Frag} {F H G : Hp} {a : Addr} {t : T} (h : OwnAt K F H a t) (f : Same F G) (g : ∀ o, H a = some o → G a = some o) : Rep K G (.ref a) t := by
  cases t with
  | lst ts =>
    obtain ⟨vs, h, l⟩ := h
    exact .lst (g _ h) (l.mono f)
  | dic ts =>
    rcases h with ⟨k, u, h, l, e⟩ | ⟨k, u, h, l, e⟩
    · rw [e]
      exact .dicK (g _ h) (l.mono f)
    · rw [e]
      exact .dicT (g _ h) (l.mono f)
  | obj C ts =>
    obtain ⟨x, k, u, h, l, e⟩ := h
    rw [e]
    exact .obj (g _ h) (l.mono f)
  | mk o C ts =>
    obtain ⟨rfl, x, k, u, h, l, e⟩ := h
    rw [e]
    exact .mk (g _ h) (l.mono f)
  | _ => exact h.elim
def CellOk (K : PySem.W.Frag) (R : Rs) (H0 F H : Hp) : Cell → Option V → Prop
  | .un, _ => True
  | .rd t, s => ∃ v, s = some v ∧ Rep K (base .B R H0 F H) v t
  | .val t, s => ∃ v, s = some v ∧ Rep K F v t
  | .own t, s => ∃ a, s = some (.ref a) ∧ F a = none ∧ R.ad a = false ∧ H0 a = none ∧ OwnAt K F H a t
structure Sl (K : PySem.W.Frag) (R : Rs) (H0 F H : Hp) (env : List Cell) (σ : List (Option V)) : Prop where
  len : σ.length = env.length
  ok : ∀ (i : Nat) (c : Cell), env[i]? = some c → ∃ s, σ[i]? = some s ∧ CellOk K R H0 F H c s
  ds : ∀ (i j : Nat) (ti tj : T) (a : Addr), env[i]? = some (.own ti) → env[j]? = some (.own tj) → σ[i]? = some (some (.ref a)) → σ[j]? = some (some (.ref a)) → i = j
section
variable {K : PySem.W.Frag} {R : Rs} {F0 H0 F H F' H' : Hp} {env : List Cell} {σ : List (Option V)}
theorem CellOk.step {c : Cell} {s : Option V} (h : CellOk K R H0 F H c s) (e : Step R F0 H0 F H) (x : Step R F H F' H') : CellOk K R H0 F' H' c s := by
  cases c with
  | un => trivial
  | rd t =>
    obtain ⟨v, h1, h2⟩ := h
    exact ⟨v, h1, h2.mono (base_step .B e x)⟩
  | val t =>
    obtain ⟨v, h1, h2⟩ := h
    exact ⟨v, h1, h2.mono x.f⟩
  | own t =>
    obtain ⟨a, h1, h2, h3, h4, h5⟩ := h
    refine ⟨a, h1, ?_, h3, h4, h5.mono x.f fun o z => ?_⟩
    · cases q : F' a with
      | none => rfl
      | some o =>
        obtain ⟨u, hu⟩ := h5.obj_
        have := x.n a o q h2
        rw [sans_of h3, hu] at this
        cases this
    · have := x.g a o (by rw [sans_of h3]; exact z)
      exact (sans_some this).2
theorem Sl.step (h : Sl K R H0 F H env σ) (e : Step R F0 H0 F H) (x : Step R F H F' H') : Sl K R H0 F' H' env σ :=
  ⟨h.len, fun i c q => by
    obtain ⟨s, h1, h2⟩ := h.ok i c q
    exact ⟨s, h1, h2.step e x⟩, h.ds⟩
end
end Tv
/-! judgements over tree values -/
namespace Tv
open PySem PySem.Spec PyProof.Rows L2
abbrev WE := List Cell → (T → Prop) → Prop
abbrev WT := List Cell → (Bool → Prop) → Prop
abbrev WA := List Cell → (List T → Prop) → Prop
structure New (K : PySem.W.Frag) (R : Rs) (H F' H' : Hp) (v : V) (t : T) : Prop where
  ex : ∃ a, v = .ref a ∧ H a = none ∧ R.ad a = false ∧ F' a = none ∧ OwnAt K F' H' a t
/-- what a def hands back: a new object that nobody else knows (n), or a thing that is kept -/
def Res (n : Bool) (K : PySem.W.Frag) (R : Rs) (H F' H' : Hp) (v : V) (t : T) : Prop := if n = true then New K R H F' H' v t else Rep K F' v t
theorem New.keep {K : PySem.W.Frag} {R : Rs} {F H F' H' : Hp} {v : V} {t : T} (h : New K R H F' H' v t) (s : Step R F H F' H') : ∃ F'', Step R F H F'' H' ∧ Rep K F'' v t := by
  obtain ⟨a, rfl, h0, ha, hf, ho⟩ := h.ex
  obtain ⟨o, hu⟩ := ho.obj_
  have k := Step.keep s.ok hu ha hf
  refine ⟨upd F' a o, ⟨s.f.trans k.1, s.g, fun b u x z => ?_, k.2⟩, ho.rep k.1 fun u hu' => ?_⟩
  · unfold L2.upd at x
    split at x
    · rename_i q
      rw [q]
      exact sans_none h0
    · exact s.n b u x z
  · rw [hu] at hu'
    cases hu'
    exact upd_same
section
variable (K : PySem.W.Frag) (R : Rs)
/-- worth what w says, readable as κ says -/
def EvE (κ : Kd) (te : TE) (w : WE) : Prop := ∀ {F0 H0 F H : Hp} {σ : List (Option V)} {env : List Cell} {Q : VK} {P : T → Prop}, Step R F0 H0 F H → Sl K R H0 F H env σ → w env P →
  (∀ {t v F' H'}, P t → Step R F H F' H' → Rep K (base κ R H0 F' H') v t → Q v H') → te σ H Q
def EvN (te : TE) (w : WE) : Prop := ∀ {F0 H0 F H : Hp} {σ : List (Option V)} {env : List Cell} {Q : VK} {P : T → Prop}, Step R F0 H0 F H → Sl K R H0 F H env σ → w env P →
  (∀ {t v F' H'}, P t → Step R F H F' H' → New K R H F' H' v t → Q v H') → te σ H Q
def EvT (tt : TT) (w : WT) : Prop := ∀ {F0 H0 F H : Hp} {σ : List (Option V)} {env : List Cell} {Q : Bool → Hp → Prop} {P : Bool → Prop}, Step R F0 H0 F H → Sl K R H0 F H env σ → w env P →
  (∀ {b F' H'}, P b → Step R F H F' H' → Q b H') → tt σ H Q
inductive RepA (H0 F H : Hp) : List Kd → List V → List T → Prop
  | nil : RepA H0 F H [] [] []
  | cons {κ : Kd} {κs : List Kd} {v : V} {vs : List V} {t : T} {ts : List T} : Rep K (base κ R H0 F H) v t → RepA H0 F H κs vs ts → RepA H0 F H (κ :: κs) (v :: vs) (t :: ts)
def EvA (κs : List Kd) (ta : TA) (w : WA) : Prop := ∀ {F0 H0 F H : Hp} {σ : List (Option V)} {env : List Cell} {Q : List V → Hp → Prop} {P : List T → Prop}, Step R F0 H0 F H → Sl K R H0 F H env σ → w env P →
  (∀ {ts vs F' H'}, P ts → Step R F H F' H' → RepA K R H0 F' H' κs vs ts → Q vs H') → ta σ H Q
end
structure PEv (κ : Kd) (R : Rs) (X : Cx) (e : Expr) (w : WE) : Prop where
  ex : ∃ te, PE X e te ∧ EvE X.K R κ te w
structure PEn (R : Rs) (X : Cx) (e : Expr) (w : WE) : Prop where
  ex : ∃ te, PE X e te ∧ EvN X.K R te w
structure PTv (R : Rs) (X : Cx) (e : Expr) (w : WT) : Prop where
  ex : ∃ tt, PT X e tt ∧ EvT X.K R tt w
structure PWv (R : Rs) (X : Cx) (e : Expr) (w : WT) : Prop where
  ex : ∃ tt, PW X e tt ∧ EvT X.K R tt w
structure PAv (κs : List Kd) (R : Rs) (X : Cx) (es : List Expr) (w : WA) : Prop where
  ex : ∃ ta, PA X es ta ∧ EvA X.K R κs ta w
section
variable {R : Rs} {X : Cx} {κ μ : Kd}
theorem PWv.pt {e : Expr} {w : WT} (h : PWv R X e w) : PTv R X e w := by
  obtain ⟨t, h1, h2⟩ := h.ex
  exact ⟨t, h1.pt, h2⟩
theorem PEv.up {e : Expr} {w : WE} (h : PEv κ R X e w) (l : κ.le μ = true) : PEv μ R X e w := by
  obtain ⟨t, h1, h2⟩ := h.ex
  refine ⟨t, h1, fun s sl hw k => h2 s sl hw fun p x r => k p x (r.mono (base_le l (s.trans x)))⟩
theorem PEn.up {e : Expr} {w : WE} (h : PEn R X e w) : PEv κ R X e w := by
  obtain ⟨t, h1, h2⟩ := h.ex
  refine PEv.up (κ := .S) ⟨t, h1, fun s sl hw k => h2 s sl hw fun p x r => ?_⟩ (by cases κ <;> rfl)
  obtain ⟨F'', y, z⟩ := r.keep x
  exact k p y z
/-! names, constants -/
def cellOf : Kd → T → Cell
  | .S, t => .val t
  | _, t => .rd t
def wV (κ : Kd) (i : Nat) : WE := fun env P => match env[i]? with
  | some (.val t) => P t
  | some (.rd t) => κ ≠ .S ∧ P t
  | some (.own t) => κ = .M ∧ P t
  | _ => False
theorem pv_ (i : Nat) {e : Expr} (h : PE X e (tVar i)) : PEv κ R X e (wV κ i) := by
  refine ⟨_, h, fun {F0 H0 F H σ env Q P} s sl hw k => ?_⟩
  unfold wV at hw
  split at hw
  · rename_i t q
    obtain ⟨c, h1, v, rfl, h2⟩ := sl.ok i _ q
    exact ⟨v, h1, k hw (Step.refl s.ok) (h2.mono (base_le (κ := .S) (by cases κ <;> rfl) s))⟩
  · rename_i t q
    obtain ⟨c, h1, v, rfl, h2⟩ := sl.ok i _ q
    obtain ⟨n, hw⟩ := hw
    exact ⟨v, h1, k hw (Step.refl s.ok) (h2.mono (base_le (κ := .B) (by cases κ <;> first | rfl | exact absurd rfl n) s))⟩
  · rename_i t q
    obtain ⟨c, h1, a, rfl, h2, h3, h4, h5⟩ := sl.ok i _ q
    obtain ⟨rfl, hw⟩ := hw
    exact ⟨_, h1, k hw (Step.refl s.ok) (h5.rep s.ok.sub fun o z => by show sans R.ad H a = some o; rw [sans_of h3]; exact z)⟩
  · exact hw.elim
def wC (t : T) : WE := fun _ P => P t
theorem pc_ {e : Expr} {v : V} {t : T} (h : PE X e (tC v)) (r : ∀ G, Rep X.K G v t) : PEv κ R X e (wC t) :=
  ⟨_, h, fun s _ hw k => k hw (Step.refl s.ok) (r _)⟩
theorem pint_ {i j pos} : PEv κ R X (.Constant (.int i) j pos) (wC (.int i)) := pc_ pe_int fun _ => .int i
theorem pbl_ {b j pos} : PEv κ R X (.Constant (.bool b) j pos) (wC (.bl b)) := pc_ pe_bl fun _ => .bl b
theorem pnon_ {j pos} : PEv κ R X (.Constant .none j pos) (wC .non) := pc_ pe_non fun _ => .non
theorem pstr_ {x j pos} : PEv κ R X (.Constant (.str x) j pos) (wC (.str x)) := pc_ pe_str fun _ => .str x
/-! an operator by what stands at its sides -/
/-- r of two things that are read, as f says; what it gives is readable as μ says -/
def RE (K : PySem.W.Frag) (R : Rs) (κ ν μ : Kd) (r : R2) (f : T → T → (T → Prop) → Prop) : Prop := ∀ {F0 H0 F H : Hp} {x y : V} {tx ty : T} {Q : VK} {P : T → Prop}, Step R F0 H0 F H → Rep K (base κ R H0 F H) x tx → Rep K (base ν R H0 F H) y ty → f tx ty P →
  (∀ {t v F' H'}, P t → Step R F H F' H' → Rep K (base μ R H0 F' H') v t → Q v H') → r x y H Q
def wOp (f : T → T → (T → Prop) → Prop) (a b : WE) : WE := fun env P => a env fun x => b env fun y => f x y P
theorem evOp {ν : Kd} {ta tb : TE} {wa wb : WE} {r : R2} {f : T → T → (T → Prop) → Prop} (ha : EvE X.K R κ ta wa) (hb : EvE X.K R ν tb wb) (hr : RE X.K R κ ν μ r f) : EvE X.K R μ (tOp r ta tb) (wOp f wa wb) := by
  intro F0 H0 F H σ env Q P s sl hw k
  refine ha s sl hw fun {tx x F1 H1} p1 s1 r1 => ?_
  refine hb (s.trans s1) (sl.step s s1) p1 fun {ty y F2 H2} p2 s2 r2 => ?_
  exact hr ((s.trans s1).trans s2) (r1.mono (base_step κ (s.trans s1) s2)) r2 p2 fun p s3 r3 => k p ((s1.trans s2).trans s3) r3
theorem pop_ {ν : Kd} {a b : Expr} {op pos} {wa wb : WE} {r : R2} {f : T → T → (T → Prop) → Prop} (ho : OpR X (binaryOp op) r) (hr : RE X.K R κ ν μ r f) (ha : PEv κ R X a wa) (hb : PEv ν R X b wb) : PEv μ R X (.BinOp a op b pos) (wOp f wa wb) := by
  obtain ⟨ta, a1, a2⟩ := ha.ex
  obtain ⟨tb, b1, b2⟩ := hb.ex
  exact ⟨_, pe_op ho a1 b1, evOp a2 b2 hr⟩
theorem pcmp_ {ν : Kd} {a b : Expr} {op pos} {wa wb : WE} {r : R2} {f : T → T → (T → Prop) → Prop} (ho : OpR X (compareOp op) r) (hr : RE X.K R κ ν μ r f) (hm : behindInMarks op b = false) (ha : PEv κ R X a wa) (hb : PEv ν R X b wb) : PEv μ R X (.Compare a [op] [b] pos) (wOp f wa wb) := by
  obtain ⟨ta, a1, a2⟩ := ha.ex
  obtain ⟨tb, b1, b2⟩ := hb.ex
  exact ⟨_, pe_cmpR ho a1 b1 hm, evOp a2 b2 hr⟩
def wTest (w : WE) : WT := fun env P => w env fun t => ∃ b, t = .bl b ∧ P b
theorem evTest {te : TE} {w : WE} (h : EvE X.K R κ te w) : EvT X.K R (tTest te) (wTest w) := by
  intro F0 H0 F H σ env Q P s sl hw k
  refine h s sl hw fun {t v F1 H1} ⟨b, e, p⟩ s1 r1 => ?_
  cases e
  cases r1
  exact ⟨b, rfl, k p s1⟩
theorem ptcmp_ {ν : Kd} {a b : Expr} {op pos} {wa wb : WE} {r : R2} {f : T → T → (T → Prop) → Prop} (ho : OpR X (compareOp op) r) (hr : RE X.K R κ ν .S r f) (hm : behindInMarks op b = false) (ha : PEv κ R X a wa) (hb : PEv ν R X b wb) : PTv R X (.Compare a [op] [b] pos) (wTest (wOp f wa wb)) := by
  obtain ⟨ta, a1, a2⟩ := ha.ex
  obtain ⟨tb, b1, b2⟩ := hb.ex
  exact ⟨_, pt_cmpR ho a1 b1 hm, evTest (evOp a2 b2 hr)⟩
/-! tests joined -/
def wAnd (a b : WT) : WT := fun env P => a env fun x => if x = true then b env P else P false
def wOr (a b : WT) : WT := fun env P => a env fun x => if x = true then P true else b env P
def wNot (a : WT) : WT := fun env P => a env fun x => P (!x)
theorem evAnd {ta tb : TT} {wa wb : WT} (ha : EvT X.K R ta wa) (hb : EvT X.K R tb wb) : EvT X.K R (tAnd ta tb) (wAnd wa wb) := by
  intro F0 H0 F H σ env Q P s sl hw k
  refine ha s sl hw fun {b F1 H1} p s1 => ?_
  cases b with
  | true => exact iteT (hb (s.trans s1) (sl.step s s1) (by simpa using p) fun p s2 => k p (s1.trans s2))
  | false => exact iteF (k (by simpa using p) s1)
theorem evOr {ta tb : TT} {wa wb : WT} (ha : EvT X.K R ta wa) (hb : EvT X.K R tb wb) : EvT X.K R (tOr ta tb) (wOr wa wb) := by
  intro F0 H0 F H σ env Q P s sl hw k
  refine ha s sl hw fun {b F1 H1} p s1 => ?_
  cases b with
  | true => exact iteT (k (by simpa using p) s1)
  | false => exact iteF (hb (s.trans s1) (sl.step s s1) (by simpa using p) fun p s2 => k p (s1.trans s2))
theorem pand_ {a b : Expr} {rest pos} {wa wb : WT} (ha : PTv R X a wa) (hb : PWv R X (.BoolOp .And (b :: rest) pos) wb) : PWv R X (.BoolOp .And (a :: b :: rest) pos) (wAnd wa wb) := by
  obtain ⟨ta, a1, a2⟩ := ha.ex
  obtain ⟨tb, b1, b2⟩ := hb.ex
  exact ⟨_, pw_and a1 b1, evAnd a2 b2⟩
theorem por_ {a b : Expr} {rest pos} {wa wb : WT} (ha : PTv R X a wa) (hb : PWv R X (.BoolOp .Or (b :: rest) pos) wb) : PWv R X (.BoolOp .Or (a :: b :: rest) pos) (wOr wa wb) := by
  obtain ⟨ta, a1, a2⟩ := ha.ex
  obtain ⟨tb, b1, b2⟩ := hb.ex
  exact ⟨_, pw_or a1 b1, evOr a2 b2⟩
theorem pand1_ {a : Expr} {pos} {wa : WT} (ha : PTv R X a wa) : PWv R X (.BoolOp .And [a] pos) wa := by
  obtain ⟨ta, a1, a2⟩ := ha.ex
  exact ⟨_, pw_and1 a1, a2⟩
theorem por1_ {a : Expr} {pos} {wa : WT} (ha : PTv R X a wa) : PWv R X (.BoolOp .Or [a] pos) wa := by
  obtain ⟨ta, a1, a2⟩ := ha.ex
  exact ⟨_, pw_or1 a1, a2⟩
theorem pnot_ {a : Expr} {pos} {wa : WT} (ha : PTv R X a wa) : PTv R X (.UnaryOp .Not a pos) (wNot wa) := by
  obtain ⟨ta, a1, a2⟩ := ha.ex
  exact ⟨_, pt_not a1, fun s sl hw k => a2 s sl hw fun p s1 => k p s1⟩
/-- a value as a test -/
theorem ptval_ {e : Expr} {w : WE} (hv : ∀ {t}, PE X e t → PT X e (tB t)) (h : PEv κ R X e w) : PTv R X e (wTest w) := by
  obtain ⟨t, h1, h2⟩ := h.ex
  refine ⟨_, hv h1, fun {F0 H0 F H σ env Q P} s sl hw k => ?_⟩
  refine h2 s sl hw fun {t v F1 H1} ⟨b, e, p⟩ s1 r1 => ?_
  cases e
  cases r1
  exact ⟨b, rfl, k p s1⟩
/-! x if c else y; x and y; x or y; not x as values -/
def wIf (c : WT) (a b : WE) : WE := fun env P => c env fun x => if x = true then a env P else b env P
theorem pif_ {c a b : Expr} {pos} {wc : WT} {wa wb : WE} (hc : PTv R X c wc) (ha : PEv κ R X a wa) (hb : PEv κ R X b wb) : PEv κ R X (.IfExp c a b pos) (wIf wc wa wb) := by
  obtain ⟨tc, c1, c2⟩ := hc.ex
  obtain ⟨ta, a1, a2⟩ := ha.ex
  obtain ⟨tb, b1, b2⟩ := hb.ex
  refine ⟨_, pe_ifExp c1 a1 b1, fun {F0 H0 F H σ env Q P} s sl hw k => ?_⟩
  refine c2 s sl hw fun {b F1 H1} p s1 => ?_
  cases b with
  | true => exact iteT (a2 (s.trans s1) (sl.step s s1) (by simpa using p) fun p s2 => k p (s1.trans s2))
  | false => exact iteF (b2 (s.trans s1) (sl.step s s1) (by simpa using p) fun p s2 => k p (s1.trans s2))
def wAndV (a b : WE) : WE := fun env P => a env fun x => ∃ c, x = .bl c ∧ if c = true then b env P else P (.bl false)
def wOrV (a b : WE) : WE := fun env P => a env fun x => ∃ c, x = .bl c ∧ if c = true then P (.bl true) else b env P
def wNotV (a : WE) : WE := fun env P => a env fun x => ∃ c, x = .bl c ∧ P (.bl (!c))
theorem pnotV_ {a : Expr} {pos} {wa : WE} (ha : PEv κ R X a wa) : PEv μ R X (.UnaryOp .Not a pos) (wNotV wa) := by
  obtain ⟨ta, a1, a2⟩ := ha.ex
  refine ⟨_, pe_not a1, fun {F0 H0 F H σ env Q P} s sl hw k => a2 s sl hw fun {t v F1 H1} ⟨b, e, p⟩ s1 r1 => ?_⟩
  cases e
  cases r1
  exact ⟨b, rfl, k p s1 (.bl _)⟩
theorem pandV_ {a b : Expr} {rest pos} {wa wb : WE} (ha : PEv κ R X a wa) (hb : PEv μ R X (.BoolOp .And (b :: rest) pos) wb) : PEv μ R X (.BoolOp .And (a :: b :: rest) pos) (wAndV wa wb) := by
  obtain ⟨ta, a1, a2⟩ := ha.ex
  obtain ⟨tb, b1, b2⟩ := hb.ex
  refine ⟨_, pe_and a1 b1, fun {F0 H0 F H σ env Q P} s sl hw k => a2 s sl hw fun {t v F1 H1} ⟨b, e, p⟩ s1 r1 => ?_⟩
  cases e
  cases r1
  refine ⟨b, rfl, ?_⟩
  cases b with
  | true => exact iteT (b2 (s.trans s1) (sl.step s s1) (by simpa using p) fun p s2 => k p (s1.trans s2))
  | false => exact iteF (k (by simpa using p) s1 (.bl _))
theorem porV_ {a b : Expr} {rest pos} {wa wb : WE} (ha : PEv κ R X a wa) (hb : PEv μ R X (.BoolOp .Or (b :: rest) pos) wb) : PEv μ R X (.BoolOp .Or (a :: b :: rest) pos) (wOrV wa wb) := by
  obtain ⟨ta, a1, a2⟩ := ha.ex
  obtain ⟨tb, b1, b2⟩ := hb.ex
  refine ⟨_, pe_or a1 b1, fun {F0 H0 F H σ env Q P} s sl hw k => a2 s sl hw fun {t v F1 H1} ⟨b, e, p⟩ s1 r1 => ?_⟩
  cases e
  cases r1
  refine ⟨b, rfl, ?_⟩
  cases b with
  | true => exact iteT (k (by simpa using p) s1 (.bl _))
  | false => exact iteF (b2 (s.trans s1) (sl.step s s1) (by simpa using p) fun p s2 => k p (s1.trans s2))
theorem pone_ {a : Expr} {op pos} {wa : WE} (ha : PEv κ R X a wa) : PEv κ R X (.BoolOp op [a] pos) wa := by
  obtain ⟨ta, a1, a2⟩ := ha.ex
  exact ⟨_, pe_one a1, a2⟩
/-! arguments, displays -/
def wNil : WA := fun _ P => P []
def wCons (a : WE) (b : WA) : WA := fun env P => a env fun x => b env fun xs => P (x :: xs)
theorem RepA.step {K : PySem.W.Frag} {F0 H0 F H F' H' : Hp} {κs : List Kd} {vs : List V} {ts : List T} (h : RepA K R H0 F H κs vs ts) (s : Step R F0 H0 F H) (x : Step R F H F' H') : RepA K R H0 F' H' κs vs ts := by
  induction h with
  | nil => exact .nil
  | cons a _ ih => exact .cons (a.mono (base_step _ s x)) ih
theorem RepA.length {K : PySem.W.Frag} {H0 F H : Hp} {κs : List Kd} {vs : List V} {ts : List T} (h : RepA K R H0 F H κs vs ts) : vs.length = κs.length := by
  induction h with
  | nil => rfl
  | cons _ _ ih => exact congrArg Nat.succ ih
theorem RepA.lengthT {K : PySem.W.Frag} {H0 F H : Hp} {κs : List Kd} {vs : List V} {ts : List T} (h : RepA K R H0 F H κs vs ts) : ts.length = κs.length := by
  induction h with
  | nil => rfl
  | cons _ _ ih => exact congrArg Nat.succ ih
theorem pa0_ : PAv [] R X [] wNil := ⟨_, pa_nil, fun s _ hw k => k hw (Step.refl s.ok) .nil⟩
theorem pa1_ {κs : List Kd} {e : Expr} {es : List Expr} {w : WE} {ws : WA} (h : PEv κ R X e w) (hs : PAv κs R X es ws) (h2 : ∀ {t ts}, PE X e t → PA X es ts → PA X (e :: es) (tCons t ts) := by intro _ _ a b; exact pa_cons a b) : PAv (κ :: κs) R X (e :: es) (wCons w ws) := by
  obtain ⟨ta, a1, a2⟩ := h.ex
  obtain ⟨tb, b1, b2⟩ := hs.ex
  refine ⟨_, h2 a1 b1, fun {F0 H0 F H σ env Q P} s sl hw k => ?_⟩
  refine a2 s sl hw fun {t v F1 H1} p s1 r1 => ?_
  refine b2 (s.trans s1) (sl.step s s1) p fun {ts vs F2 H2} p2 s2 r2 => ?_
  exact k p2 (s1.trans s2) (.cons (r1.mono (base_step κ (s.trans s1) s2)) r2)
theorem RepA.allS {K : PySem.W.Frag} {H0 F H : Hp} : ∀ {κs : List Kd} {vs : List V} {ts : List T}, RepA K R H0 F H κs vs ts → (∀ κ ∈ κs, κ = .S) → RepL K F vs ts
  | _, _, _, .nil, _ => .nil
  | _, _, _, .cons (κ := κ) h l, e => by
    have q := e κ (List.mem_cons_self)
    subst q
    exact .cons h (l.allS fun κ hk => e κ (List.mem_cons_of_mem _ hk))
def wTup (a : WA) : WE := fun env P => a env fun ts => P (.tup ts)
def wLst (a : WA) : WE := fun env P => a env fun ts => P (.lst ts)
theorem ptup_ {κs : List Kd} {es : List Expr} {x1 pos} {ws : WA} (hs : PAv κs R X es ws) (a : κs.all (fun κ => match κ with | .S => true | _ => false) = true) (l : κs.length ≤ 1000 := by decide) : PEv κ R X (.Tuple es x1 pos) (wTup ws) := by
  obtain ⟨tb, b1, b2⟩ := hs.ex
  refine PEv.up (κ := .S) ⟨_, pe_tup b1, fun {F0 H0 F H σ env Q P} s sl hw k => ?_⟩ (by cases κ <;> rfl)
  refine b2 s sl hw fun {ts vs F1 H1} p s1 r1 => ?_
  have hl : vs.length = κs.length := r1.length
  have rl := r1.allS fun κ hk => by
    have := List.all_eq_true.mp a κ hk
    cases κ <;> first | rfl | cases this
  refine ⟨by rw [hl]; exact Nat.le_of_lt (small1000 l), fun q hq => ?_⟩
  have n := Step.newKeep s1.ok hq (.tup vs)
  exact k p (s1.trans n) (.tup (.inl (.inl upd_same)) (rl.mono n.f))
theorem plst_ {κs : List Kd} {es : List Expr} {pos} {ws : WA} (hs : PAv κs R X es ws) (a : κs.all (fun κ => match κ with | .S => true | _ => false) = true) (l : κs.length ≤ 1000 := by decide) : PEn R X (.List es pos) (wLst ws) := by
  obtain ⟨tb, b1, b2⟩ := hs.ex
  refine ⟨_, pe_lst b1, fun {F0 H0 F H σ env Q P} s sl hw k => ?_⟩
  refine b2 s sl hw fun {ts vs F1 H1} p s1 r1 => ?_
  have hl : vs.length = κs.length := r1.length
  have rl := r1.allS fun κ hk => by
    have := List.all_eq_true.mp a κ hk
    cases κ <;> first | rfl | cases this
  refine ⟨by rw [hl]; exact Nat.le_of_lt (small1000 l), fun q hq => ?_⟩
  have n := Step.new s1.ok hq (.lst vs)
  have ad := s1.ok.adNew hq
  have h0 : H q = none := by
    have := s1.g.free (sans_none hq)
    rw [sans_of ad] at this
    exact this
  exact k p (s1.trans n) ⟨q, rfl, h0, ad, s1.ok.free hq, vs, upd_same, rl⟩
end
end Tv
/-! statements, defs, calls over tree values -/
namespace Tv
open PySem PySem.Spec PyProof.Rows L2
/-! one reading for all that an expression may be worth -/
def teOf (κ : Kd) (K : PySem.W.Frag) (R : Rs) (w : WE) : TE := fun σ H Q => ∃ (F0 H0 F : Hp) (env : List Cell) (P : T → Prop), Step R F0 H0 F H ∧ Sl K R H0 F H env σ ∧ w env P ∧ ∀ t v F' H', P t → Step R F H F' H' → Rep K (base κ R H0 F' H') v t → Q v H'
def ttOf (K : PySem.W.Frag) (R : Rs) (w : WT) : TT := fun σ H Q => ∃ (F0 H0 F : Hp) (env : List Cell) (P : Bool → Prop), Step R F0 H0 F H ∧ Sl K R H0 F H env σ ∧ w env P ∧ ∀ b F' H', P b → Step R F H F' H' → Q b H'
section
variable {R : Rs} {X : Cx} {κ : Kd}
theorem PEv.canon {e : Expr} {w : WE} (h : PEv κ R X e w) : PE X e (teOf κ X.K R w) := by
  obtain ⟨t, h1, h2⟩ := h.ex
  refine ⟨fun pins s σ H Q I q => h1.run pins s σ H Q I ?_⟩
  obtain ⟨F0, H0, F, env, P, a, b, c, d⟩ := q
  exact h2 a b c fun p s r => d _ _ _ _ p s r
theorem PTv.canon {e : Expr} {w : WT} (h : PTv R X e w) : PT X e (ttOf X.K R w) := by
  obtain ⟨t, h1, h2⟩ := h.ex
  refine ⟨fun pins s σ H Q I q => h1.run pins s σ H Q I ?_⟩
  obtain ⟨F0, H0, F, env, P, a, b, c, d⟩ := q
  exact h2 a b c fun p s => d _ _ _ p s
end
/-! what follows a statement -/
structure WEnds where
  nx : List Cell → Prop
  rt : T → Prop
  bk : List Cell → Prop := fun _ => False
  ct : List Cell → Prop := fun _ => False
  /-- an exception of the class at C, with these fields -/
  ex : Addr → List (Str × T) → List Cell → Prop := fun _ _ _ => False
/-- an exception's own dict -/
def ExAt (K : PySem.W.Frag) (F H : Hp) (d : Addr) (us : List (Str × T)) : Prop := ∃ fs : List (Str × V), F d = some (.xd fs) ∧ fs.map (·.1) = us.map (·.1) ∧ RepL K F (fs.map (·.2)) (us.map (·.2))
abbrev WS := WEnds → List Cell → Prop
structure Into (n : Bool) (K : PySem.W.Frag) (R : Rs) (Wx : WX) (F0 H0 F : Hp) (W : WEnds) (D : Ends) : Prop where
  nx : ∀ {σ env F' H'}, W.nx env → Step R F0 H0 F' H' → Same F F' → Sl K R H0 F' H' env σ → D.nx σ H'
  rt : ∀ {t v F' H'}, W.rt t → Step R F0 H0 F' H' → Same F F' → Res n K R H0 F' H' v t → D.rt v H'
  bk : ∀ {σ env F' H'}, W.bk env → Step R F0 H0 F' H' → Same F F' → Sl K R H0 F' H' env σ → D.bk σ H'
  ct : ∀ {σ env F' H'}, W.ct env → Step R F0 H0 F' H' → Same F F' → Sl K R H0 F' H' env σ → D.ct σ H'
  ex : ∀ {C us σ env d F' H'}, W.ex C us env → Step R F0 H0 F' H' → Same F F' → Sl K R H0 F' H' env σ → ExAt K F' H' d us → Wx (.ref C) (some d) σ H'
theorem Into.up {n : Bool} {K : PySem.W.Frag} {R : Rs} {Wx : WX} {F0 H0 F F1 : Hp} {W : WEnds} {D : Ends} (i : Into n K R Wx F0 H0 F W D) (e : Same F F1) : Into n K R Wx F0 H0 F1 W D :=
  ⟨fun a b c d => i.nx a b (e.trans c) d, fun a b c d => i.rt a b (e.trans c) d, fun a b c d => i.bk a b (e.trans c) d, fun a b c d => i.ct a b (e.trans c) d, fun a b c d x => i.ex a b (e.trans c) d x⟩
def EvS (n : Bool) (K : PySem.W.Frag) (R : Rs) (Wx : WX) (ts : TS) (w : WS) : Prop := ∀ {F0 H0 F H : Hp} {σ : List (Option V)} {env : List Cell} {D : Ends} {W : WEnds}, Into n K R Wx F0 H0 F W D → Step R F0 H0 F H → Sl K R H0 F H env σ → w W env → ts D σ H
structure PSv (n : Bool) (R : Rs) (Wx : WX) (X : Cx) (st : Stmt) (w : WS) : Prop where
  ex : ∃ ts, PS X st ts ∧ EvS n X.K R Wx ts w
structure PSsv (n : Bool) (R : Rs) (Wx : WX) (X : Cx) (st : List Stmt) (w : WS) : Prop where
  ex : ∃ ts, PSs X st ts ∧ EvS n X.K R Wx ts w
section
variable {R : Rs} {Wx : WX} {X : Cx} {κ : Kd} {n : Bool}
def wSeq (a b : WS) : WS := fun W env => a { W with nx := fun e => b W e } env
def wNext : WS := fun W env => W.nx env
theorem evSeq {ta tb : TS} {a b : WS} (ha : EvS n X.K R Wx ta a) (hb : EvS n X.K R Wx tb b) : EvS n X.K R Wx (tSeq ta tb) (wSeq a b) := by
  intro F0 H0 F H σ env D W i s sl hw
  refine ha (W := { W with nx := fun e => b W e }) ⟨fun {σ' env' F' H'} x s' e' sl' => ?_, i.rt, i.bk, i.ct, i.ex⟩ s sl hw
  exact hb (i.up e') s' sl' x
theorem cons_ {st : Stmt} {rest : List Stmt} {a b : WS} (ha : PSv n R Wx X st a) (hb : PSsv n R Wx X rest b) : PSsv n R Wx X (st :: rest) (wSeq a b) := by
  obtain ⟨ta, a1, a2⟩ := ha.ex
  obtain ⟨tb, b1, b2⟩ := hb.ex
  exact ⟨_, pss_cons a1 b1, evSeq a2 b2⟩
/-- a, then b, by what holds between -/
def wCut (a b : WS) : WS := fun W env => ∃ M : List Cell → Prop, a { W with nx := M } env ∧ ∀ e, M e → b W e
theorem cut_ {st : Stmt} {rest : List Stmt} {a b : WS} (ha : PSv n R Wx X st a) (hb : PSsv n R Wx X rest b) : PSsv n R Wx X (st :: rest) (wCut a b) := by
  obtain ⟨ta, a1, a2⟩ := ha.ex
  obtain ⟨tb, b1, b2⟩ := hb.ex
  refine ⟨_, pss_cons a1 b1, fun {F0 H0 F H σ env D W} i s sl hw => ?_⟩
  obtain ⟨M, h1, h2⟩ := hw
  refine a2 (W := { W with nx := M }) ⟨fun {σ' env' F' H'} x s' e' sl' => ?_, i.rt, i.bk, i.ct, i.ex⟩ s sl h1
  exact b2 (i.up e') s' sl' (h2 _ x)
theorem one_ {st : Stmt} {a : WS} (ha : PSv n R Wx X st a) : PSsv n R Wx X [st] a := by
  obtain ⟨ta, a1, a2⟩ := ha.ex
  exact ⟨_, pss_one a1, a2⟩
theorem nil_ : PSsv n R Wx X [] wNext := ⟨_, pss_nil, fun i s sl hw => i.nx hw s (Same.refl _) sl⟩
theorem pass_ {pos} : PSv n R Wx X (.Pass pos) wNext := ⟨_, ps_pass, fun i s sl hw => i.nx hw s (Same.refl _) sl⟩
theorem doc_ {x j pos pos'} : PSv n R Wx X (.Expr (.Constant (.str x) j pos) pos') wNext := ⟨_, ps_doc, fun i s sl hw => i.nx hw s (Same.refl _) sl⟩
theorem brk_ {pos} : PSv n R Wx X (.Break pos) (fun W env => W.bk env) := ⟨_, ps_break, fun i s sl hw => i.bk hw s (Same.refl _) sl⟩
theorem cont_ {pos} : PSv n R Wx X (.Continue pos) (fun W env => W.ct env) := ⟨_, ps_continue, fun i s sl hw => i.ct hw s (Same.refl _) sl⟩
def wIfS (c : WT) (a b : WS) : WS := fun W env => c env fun x => if x = true then a W env else b W env
theorem if_ {c : Expr} {a b : List Stmt} {pos} {wc : WT} {wa wb : WS} (hc : PTv R X c wc) (ha : PSsv n R Wx X a wa) (hb : PSsv n R Wx X b wb) : PSv n R Wx X (.If c a b pos) (wIfS wc wa wb) := by
  obtain ⟨tc, c1, c2⟩ := hc.ex
  obtain ⟨ta, a1, a2⟩ := ha.ex
  obtain ⟨tb, b1, b2⟩ := hb.ex
  refine ⟨_, ps_if c1 a1 b1, fun {F0 H0 F H σ env D W} i s sl hw => ?_⟩
  refine c2 s sl hw fun {b F1 H1} p s1 => ?_
  cases b with
  | true => exact iteT (a2 (i.up s1.f) (s.trans s1) (sl.step s s1) (by simpa using p))
  | false => exact iteF (b2 (i.up s1.f) (s.trans s1) (sl.step s s1) (by simpa using p))
/-! stores to slots -/
theorem Sl.set {K : PySem.W.Frag} {H0 F H : Hp} {env : List Cell} {σ : List (Option V)} (h : Sl K R H0 F H env σ) {i : Nat} {c : Cell} {v : V} (hc : CellOk K R H0 F H c (some v))
    (hd : ∀ (t : T) (a : Addr), c = Cell.own t → v = V.ref a → ∀ (j : Nat) (tj : T), env[j]? = some (Cell.own tj) → σ[j]? ≠ some (some (V.ref a))) : Sl K R H0 F H (env.set i c) (σ.set i (some v)) := by
  refine ⟨by rw [List.length_set, List.length_set, h.len], fun j d q => ?_, fun j k tj tk a q1 q2 q3 q4 => ?_⟩
  · by_cases e : i = j
    · subst e
      have hl : i < env.length := by
        rcases Nat.lt_or_ge i env.length with z | z
        · exact z
        · rw [List.getElem?_eq_none (by rw [List.length_set]; exact z)] at q
          cases q
      rw [List.getElem?_set_self hl] at q
      cases q
      exact ⟨_, List.getElem?_set_self (by rw [h.len]; exact hl), hc⟩
    · rw [List.getElem?_set_ne e] at q
      obtain ⟨s, h1, h2⟩ := h.ok j d q
      exact ⟨s, by rw [List.getElem?_set_ne e]; exact h1, h2⟩
  · by_cases ej : i = j
    · by_cases ek : i = k
      · rw [← ej, ← ek]
      · subst ej
        rw [List.getElem?_set_ne ek] at q2 q4
        have hl : i < env.length := by
          rcases Nat.lt_or_ge i env.length with z | z
          · exact z
          · rw [List.getElem?_eq_none (by rw [List.length_set]; exact z)] at q1
            cases q1
        rw [List.getElem?_set_self hl] at q1
        rw [List.getElem?_set_self (by rw [h.len]; exact hl)] at q3
        exact absurd q4 (hd tj a (Option.some.inj q1) (Option.some.inj (Option.some.inj q3)) k tk q2)
    · by_cases ek : i = k
      · subst ek
        rw [List.getElem?_set_ne ej] at q1 q3
        have hl : i < env.length := by
          rcases Nat.lt_or_ge i env.length with z | z
          · exact z
          · rw [List.getElem?_eq_none (by rw [List.length_set]; exact z)] at q2
            cases q2
        rw [List.getElem?_set_self hl] at q2
        rw [List.getElem?_set_self (by rw [h.len]; exact hl)] at q4
        exact absurd q3 (hd tk a (Option.some.inj q2) (Option.some.inj (Option.some.inj q4)) j tj q1)
      · rw [List.getElem?_set_ne ej] at q1 q3
        rw [List.getElem?_set_ne ek] at q2 q4
        exact h.ds j k tj tk a q1 q2 q3 q4
def wSet (i : Nat) (κ : Kd) (e : WE) : WS := fun W env => e env fun t => W.nx (env.set i (cellOf κ t))
def wSetN (i : Nat) (e : WE) : WS := fun W env => e env fun t => W.nx (env.set i (.own t))
theorem cellOf_ok {K : PySem.W.Frag} {H0 F H : Hp} {v : V} {t : T} (hκ : κ ≠ .M) (r : Rep K (base κ R H0 F H) v t) : CellOk K R H0 F H (cellOf κ t) (some v) := by
  cases κ with
  | S => exact ⟨v, rfl, r⟩
  | B => exact ⟨v, rfl, r⟩
  | M => exact absurd rfl hκ
theorem cellOf_own {t u : T} : cellOf κ t ≠ .own u := by cases κ <;> intro e <;> cases e
theorem set_ {st : Stmt} {e : Expr} {w : WE} (i : Nat) (hs : ∀ {te}, PE X e te → PS X st (tAsg te (gName i))) (h : PEv κ R X e w) (hκ : κ ≠ .M := by decide) : PSv n R Wx X st (wSet i κ w) := by
  obtain ⟨t, h1, h2⟩ := h.ex
  refine ⟨_, hs h1, fun {F0 H0 F H σ env D W} i s sl hw => ?_⟩
  refine h2 s sl hw fun {t v F1 H1} p s1 r1 => ?_
  exact i.nx p (s.trans s1) s1.f ((sl.step s s1).set (cellOf_ok hκ r1) fun t a e => absurd e cellOf_own)
theorem setN_ {st : Stmt} {e : Expr} {w : WE} (i : Nat) (hs : ∀ {te}, PE X e te → PS X st (tAsg te (gName i))) (h : PEn R X e w) : PSv n R Wx X st (wSetN i w) := by
  obtain ⟨t, h1, h2⟩ := h.ex
  refine ⟨_, hs h1, fun {F0 H0 F H σ env D W} i s sl hw => ?_⟩
  refine h2 s sl hw fun {t v F1 H1} p s1 r1 => ?_
  obtain ⟨a, rfl, z0, za, zf, zo⟩ := r1.ex
  have h0 : H0 a = none := by
    have := s.g.free (sans_none (ad := R.ad) z0)
    rw [sans_of za] at this
    exact this
  refine i.nx p (s.trans s1) s1.f ((sl.step s s1).set ⟨a, rfl, zf, za, h0, zo⟩ fun u b e1 e2 j tj q1 q2 => ?_)
  cases e2
  obtain ⟨c, c1, d, c2, _, _, _, c5⟩ := sl.ok j _ q1
  rw [q2] at c1
  cases c1
  cases c2
  obtain ⟨o, ho⟩ := c5.obj_
  rw [z0] at ho
  cases ho
theorem drop_ {e : Expr} {w : WE} {pos} (h : PEv κ R X e w) (hs : ∀ {te}, PE X e te → PS X (.Expr e pos) (tDrop te) := by intro _ a; exact ps_expr a) : PSv n R Wx X (.Expr e pos) (fun W env => w env fun _ => W.nx env) := by
  obtain ⟨t, h1, h2⟩ := h.ex
  refine ⟨_, hs h1, fun {F0 H0 F H σ env D W} i s sl hw => ?_⟩
  exact h2 s sl hw fun {t v F1 H1} p s1 r1 => i.nx p (s.trans s1) s1.f (sl.step s s1)
def wRet (e : WE) : WS := fun W env => e env W.rt
theorem ret_ {e : Expr} {w : WE} {pos} (h : PEv .S R X e w) (hs : ∀ {te}, PE X e te → PS X (.Return (some e) pos) (tRet te) := by intro _ a; exact ps_ret a) : PSv false R Wx X (.Return (some e) pos) (wRet w) := by
  obtain ⟨t, h1, h2⟩ := h.ex
  refine ⟨_, hs h1, fun {F0 H0 F H σ env D W} i s sl hw => ?_⟩
  exact h2 s sl hw fun {t v F1 H1} p s1 r1 => i.rt p (s.trans s1) s1.f r1
theorem New.back {K : PySem.W.Frag} {F0 H0 F H F' H' : Hp} {v : V} {t : T} (h : New K R H F' H' v t) (s : Step R F0 H0 F H) : New K R H0 F' H' v t := by
  obtain ⟨a, rfl, z0, za, zf, zo⟩ := h.ex
  have h0 : H0 a = none := by
    have := s.g.free (sans_none (ad := R.ad) z0)
    rw [sans_of za] at this
    exact this
  exact ⟨a, rfl, h0, za, zf, zo⟩
theorem retN_ {e : Expr} {w : WE} {pos} (h : PEn R X e w) (hs : ∀ {te}, PE X e te → PS X (.Return (some e) pos) (tRet te) := by intro _ a; exact ps_ret a) : PSv n R Wx X (.Return (some e) pos) (wRet w) := by
  cases n with
  | false => exact ret_ h.up hs
  | true =>
    obtain ⟨t, h1, h2⟩ := h.ex
    refine ⟨_, hs h1, fun {F0 H0 F H σ env D W} i s sl hw => ?_⟩
    exact h2 s sl hw fun {t v F1 H1} p s1 r1 => i.rt p (s.trans s1) s1.f (r1.back s)
def wRetO (i : Nat) : WS := fun W env => match env[i]? with
  | some (.own t) => W.rt t
  | _ => False
/-- return x, x a thing of this def's own -/
theorem retO_ (i : Nat) {e : Expr} {pos} (h : PE X e (tVar i)) (hs : ∀ {te}, PE X e te → PS X (.Return (some e) pos) (tRet te) := by intro _ a; exact ps_ret a) : PSv n R Wx X (.Return (some e) pos) (wRetO i) := by
  refine ⟨_, hs h, fun {F0 H0 F H σ env D W} it s sl hw => ?_⟩
  unfold wRetO at hw
  split at hw
  · rename_i t q
    obtain ⟨c, h1, a, rfl, h2, h3, h4, h5⟩ := sl.ok i _ q
    refine ⟨_, h1, ?_⟩
    cases n with
    | true => exact it.rt hw s (Same.refl _) ⟨a, rfl, h4, h3, h2, h5⟩
    | false =>
      obtain ⟨o, ho⟩ := h5.obj_
      have k := Step.keep s.ok ho h3 h2
      refine it.rt hw ⟨s.f.trans k.1, s.g, fun b u x z => ?_, k.2⟩ k.1 (h5.rep k.1 fun u hu => ?_)
      · unfold L2.upd at x
        split at x
        · rename_i q
          rw [q]
          exact sans_none h4
        · exact s.n b u x z
      · rw [ho] at hu
        cases hu
        exact upd_same
  · exact hw.elim
theorem retNon_ {pos} : PSv false R Wx X (.Return none pos) (fun W _ => W.rt .non) := ⟨_, ps_retN, fun i s _ hw => i.rt hw s (Same.refl _) .non⟩
/-- from here on the thing in slot i is not changed any more -/
def wFrz (i : Nat) (w : WS) : WS := fun W env => match env[i]? with
  | some (.own t) => w W (env.set i (.val t))
  | _ => False
theorem frz_ (i : Nat) {sts : List Stmt} {w : WS} (h : PSsv n R Wx X sts w) : PSsv n R Wx X sts (wFrz i w) := by
  obtain ⟨t, h1, h2⟩ := h.ex
  refine ⟨_, h1, fun {F0 H0 F H σ env D W} it s sl hw => ?_⟩
  unfold wFrz at hw
  split at hw
  · rename_i t q
    obtain ⟨c, q1, a, rfl, z2, z3, z4, z5⟩ := sl.ok i _ q
    obtain ⟨o, ho⟩ := z5.obj_
    have k := Step.keep s.ok ho z3 z2
    have s' : Step R F0 H0 (upd F a o) H := ⟨s.f.trans k.1, s.g, fun b u x z => by
      unfold L2.upd at x
      split at x
      · rename_i q
        rw [q]
        exact sans_none z4
      · exact s.n b u x z, k.2⟩
    refine h2 (it.up k.1) s' ?_ hw
    have hl : i < env.length := by
      rcases Nat.lt_or_ge i env.length with z | z
      · exact z
      · rw [List.getElem?_eq_none z] at q
        cases q
    refine ⟨by rw [List.length_set]; exact sl.len, fun j d qd => ?_, fun j l tj tl b e1 e2 e3 e4 => ?_⟩
    · by_cases e : i = j
      · subst e
        rw [List.getElem?_set_self hl] at qd
        cases qd
        exact ⟨_, q1, _, rfl, z5.rep k.1 fun u hu => by rw [ho] at hu; cases hu; exact upd_same⟩
      · rw [List.getElem?_set_ne e] at qd
        obtain ⟨sv, y1, y2⟩ := sl.ok j d qd
        refine ⟨sv, y1, ?_⟩
        cases d with
        | un => trivial
        | rd u =>
          obtain ⟨v, w1, w2⟩ := y2
          exact ⟨v, w1, w2.mono (join_same (k.1.trans same_join) (join_right k.2.sub s.g))⟩
        | val u =>
          obtain ⟨v, w1, w2⟩ := y2
          exact ⟨v, w1, w2.mono k.1⟩
        | own u =>
          obtain ⟨b, w1, w2, w3, w4, w5⟩ := y2
          refine ⟨b, w1, ?_, w3, w4, w5.mono k.1 fun _ z => z⟩
          have nb : b ≠ a := by
            rintro rfl
            rw [w1] at y1
            exact e (sl.ds i j _ _ _ q qd q1 y1)
          rw [upd_ne nb]
          exact w2
    · by_cases ej : i = j
      · subst ej
        rw [List.getElem?_set_self hl] at e1
        cases e1
      · by_cases el : i = l
        · subst el
          rw [List.getElem?_set_self hl] at e2
          cases e2
        · rw [List.getElem?_set_ne ej] at e1
          rw [List.getElem?_set_ne el] at e2
          exact sl.ds j l tj tl b e1 e2 e3 e4
  · exact hw.elim
end
/-! calls -/
/-- what a def promises: κs of its arguments (kept, or only read), n: it hands back a new thing, c: of what, for which wish -/
def spT (K : PySem.W.Frag) (κs : List Kd) (n : Bool) (c : Rs → List T → (T → Prop) → Prop) : Sp := fun vs H Q _ => ∃ (R : Rs) (F : Hp) (ts : List T) (P : T → Prop), Ok R F H ∧ RepA K R H F H κs vs ts ∧ c R ts P ∧
  ∀ t v F' H', P t → Step R F H F' H' → Res n K R H F' H' v t → Q v H'
def cal : Kd → Kd
  | .S => .S
  | _ => .M
theorem RepA.cal {K : PySem.W.Frag} {R : Rs} {H0 F0 F H : Hp} (s : Step R F0 H0 F H) : ∀ {κs : List Kd} {vs : List V} {ts : List T}, RepA K R H0 F H (κs.map cal) vs ts → RepA K R H F H κs vs ts
  | [], _, _, .nil => .nil
  | .S :: _, _, _, .cons h l => .cons h (l.cal s)
  | .B :: _, _, _, .cons h l => .cons (h.mono (join_right s.ok.sub (Same.refl _))) (l.cal s)
  | .M :: _, _, _, .cons h l => .cons h (l.cal s)
section
variable {R : Rs} {Wx : WX} {X : Cx} {κ : Kd} {n : Bool}
def wCall (c : Rs → List T → (T → Prop) → Prop) (R : Rs) (a : WA) : WE := fun env P => a env fun ts => c R ts P
theorem evCall {κs : List Kd} {c : Rs → List T → (T → Prop) → Prop} {ta : TA} {wa : WA} {E : XK} (h : EvA X.K R (κs.map cal) ta wa) {F0 H0 F H : Hp} {σ : List (Option V)} {env : List Cell} {Q : VK} {P : T → Prop} (s : Step R F0 H0 F H) (sl : Sl X.K R H0 F H env σ) (hw : wCall c R wa env P)
    (k : ∀ {t v F' H'}, P t → Step R F H F' H' → Res n X.K R H F' H' v t → Q v H') : tCall (spT X.K κs n c) [] E ta σ H Q := by
  refine h s sl hw fun {ts vs F1 H1} p s1 r1 => ?_
  show spT X.K κs n c (vs ++ []) H1 Q E
  rw [List.append_nil]
  refine ⟨R, F1, ts, P, s1.ok, r1.cal (s.trans s1), p, fun t v F' H' p s2 r => k p (s1.trans s2) ?_⟩
  cases n with
  | true => exact New.back (show New X.K R H1 F' H' v t from r) s1
  | false => exact r
/-- a call whose result is kept | is new -/
theorem callS_ {κs ms : List Kd} {c : Rs → List T → (T → Prop) → Prop} {e : Expr} {es : List Expr} {wa : WA} {E : XK} (hm : κs.map cal = ms) (hp : ∀ {ta}, PA X es ta → PE X e (tCall (spT X.K κs false c) [] E ta)) (ha : PAv ms R X es wa) : PEv κ R X e (wCall c R wa) := by
  subst hm
  obtain ⟨ta, a1, a2⟩ := ha.ex
  refine PEv.up (κ := .S) ⟨_, hp a1, fun {F0 H0 F H σ env Q P} s sl hw k => ?_⟩ (by cases κ <;> rfl)
  exact evCall a2 s sl hw fun p s r => k p s r
theorem callN_ {κs ms : List Kd} {c : Rs → List T → (T → Prop) → Prop} {e : Expr} {es : List Expr} {wa : WA} {E : XK} (hm : κs.map cal = ms) (hp : ∀ {ta}, PA X es ta → PE X e (tCall (spT X.K κs true c) [] E ta)) (ha : PAv ms R X es wa) : PEn R X e (wCall c R wa) := by
  subst hm
  obtain ⟨ta, a1, a2⟩ := ha.ex
  refine ⟨_, hp a1, fun {F0 H0 F H σ env Q P} s sl hw k => ?_⟩
  exact evCall a2 s sl hw fun p s r => k p s r
end
/-! a def -/
def env0 (κs : List Kd) (ts : List T) (m : Nat) : List Cell := List.zipWith cellOf κs ts ++ List.replicate (m - κs.length) .un
theorem sl0 {K : PySem.W.Frag} {R : Rs} {F H : Hp} {κs : List Kd} {vs : List V} {ts : List T} {N : List Str} (h : RepA K R H F H κs vs ts) (hκ : ∀ κ ∈ κs, κ ≠ .M) : Sl K R H F H (env0 κs ts N.length) (L2.start N vs) := by
  have hl := h.length
  have ht : ts.length = κs.length := h.lengthT
  have no : ∀ (i : Nat) (t : T), (env0 κs ts N.length)[i]? ≠ some (.own t) := by
    intro i t e
    unfold env0 at e
    have m := List.mem_of_getElem? e
    rcases List.mem_append.mp m with m | m
    · obtain ⟨j, hj, e2⟩ := List.getElem_of_mem m
      rw [List.getElem_zipWith] at e2
      exact cellOf_own e2
    · cases (List.mem_replicate.mp m).2
  refine ⟨?_, fun i c e => ?_, fun i j ti tj a e => absurd e (no i ti)⟩
  · unfold L2.start env0
    simp only [List.length_append, List.length_map, List.length_replicate, List.length_zipWith]
    omega
  · unfold env0 at e
    unfold L2.start
    have hz : (List.zipWith cellOf κs ts).length = vs.length := by rw [List.length_zipWith]; omega
    rcases Nat.lt_or_ge i vs.length with q | q
    · rw [List.getElem?_append_left (by omega)] at e
      rw [List.getElem?_append_left (by rw [List.length_map]; exact q), List.getElem?_map]
      clear no hl ht hz
      induction h generalizing i with
      | nil => simp at q
      | @cons κ κs v vs t ts hv _ ih =>
        cases i with
        | zero =>
          simp only [List.zipWith_cons_cons, List.getElem?_cons_zero] at e
          cases e
          exact ⟨_, rfl, cellOf_ok (hκ κ List.mem_cons_self) hv⟩
        | succ i =>
          simp only [List.zipWith_cons_cons, List.getElem?_cons_succ] at e
          exact ih (fun κ m => hκ κ (List.mem_cons_of_mem _ m)) i e (by simpa using q)
    · rw [List.getElem?_append_right (by omega)] at e
      have m := List.mem_of_getElem? e
      have hc := (List.mem_replicate.mp m).2
      subst hc
      have hi : i - (List.zipWith cellOf κs ts).length < N.length - κs.length := by
        rcases Nat.lt_or_ge (i - (List.zipWith cellOf κs ts).length) (N.length - κs.length) with z | z
        · exact z
        · rw [List.getElem?_eq_none (by rw [List.length_replicate]; exact z)] at e
          cases e
      refine ⟨none, ?_, trivial⟩
      rw [List.getElem?_append_right (by rw [List.length_map]; exact q), List.length_map, List.getElem?_replicate]
      exact if_pos (by omega)
section
variable {P : Program} {w : World} {K : PySem.W.Frag} {mg : Str → Option Value} {base : Heap}
/-- nothing is raised -/
def noW : WX := fun _ _ _ _ => False
theorem okv {x q : Str} {st : Stmt} {f : Addr} {fd : FuncData} {N ps : List Str} {k : Nat} {κs : List Kd} {n : Bool} {c : Rs → List T → (T → Prop) → Prop} (F : Fun K x q st f fd) (S : FnScope N ps (defScope st)) (hl : κs.length = ps.length) (hκ : ∀ κ ∈ κs, κ ≠ .M)
    (body : ∀ (cdv : Value) (A : Around) (outer : List Env) (s : Shared) (H : Hp) (E : XK) (R : Rs), Room k (A.deeper (envOfC q (defScope st) s.heap.objs.size f cdv)) →
      ∃ wb, PSsv n R noW (cxOf CX0 P w K mg base N q (defScope st) f cdv A outer s H E).nox (defBody st) wb ∧
        ∀ ts Pt, ts.length = ps.length → c R ts Pt → wb { nx := fun _ => n = false ∧ Pt .non, rt := Pt } (env0 κs ts N.length)) : FnOk P w K mg base CX0 (k + 1) f fd ps (spT K κs n c) := by
  refine F.ok S (fun vs H Q E h => ?_) (fun cdv A outer s H vs Q E hr h => ?_)
  · obtain ⟨R, F, ts, Pt, _, r, _⟩ := h
    rw [r.length, hl]
  · obtain ⟨R, F, ts, Pt, ok, r, hc, hq⟩ := h
    obtain ⟨wb, hb, hw⟩ := body cdv A outer s H E R hr
    obtain ⟨t, t1, t2⟩ := hb.ex
    refine ⟨t, t1, ?_⟩
    have ht : ts.length = κs.length := r.lengthT
    refine t2 (F0 := F) (H0 := H) (F := F) (W := { nx := fun _ => n = false ∧ Pt .non, rt := Pt }) ⟨fun {σ env F' H'} z s' _ sl' => ?_, fun {t v F' H'} z s' _ r' => hq _ _ _ _ z s' r', fun z => z.elim, fun z => z.elim, fun z => z.elim⟩ (Step.refl ok) (sl0 r hκ) (hw ts Pt (ht.trans hl) hc)
    obtain ⟨rfl, z⟩ := z
    exact hq _ _ _ _ z s' .non
theorem okv2 {x q : Str} {st : Stmt} {f : Addr} {fd : FuncData} {N ps : List Str} {k : Nat} {κs : List Kd} {n : Bool} {c : Rs → List T → (T → Prop) → Prop} (F : Fun K x q st f fd) (S : FnScope N ps (defScope st)) (hl : κs.length = ps.length) (hκ : ∀ κ ∈ κs, κ ≠ .M)
    (body : ∀ (cdv : Value) (A : Around) (outer : List Env) (s : Shared) (H : Hp) (E : XK) (R : Rs) (ts : List T) (Pt : T → Prop), Room k (A.deeper (envOfC q (defScope st) s.heap.objs.size f cdv)) → c R ts Pt →
      ∃ wb, PSsv n R noW (cxOf CX0 P w K mg base N q (defScope st) f cdv A outer s H E).nox (defBody st) wb ∧
        wb { nx := fun _ => n = false ∧ Pt .non, rt := Pt } (env0 κs ts N.length)) : FnOk P w K mg base CX0 (k + 1) f fd ps (spT K κs n c) := by
  refine F.ok S (fun vs H Q E h => ?_) (fun cdv A outer s H vs Q E hr h => ?_)
  · obtain ⟨R, F, ts, Pt, _, r, _⟩ := h
    rw [r.length, hl]
  · obtain ⟨R, F, ts, Pt, ok, r, hc, hq⟩ := h
    obtain ⟨wb, hb, hw⟩ := body cdv A outer s H E R ts Pt hr hc
    obtain ⟨t, t1, t2⟩ := hb.ex
    refine ⟨t, t1, ?_⟩
    refine t2 (F0 := F) (H0 := H) (F := F) (W := { nx := fun _ => n = false ∧ Pt .non, rt := Pt }) ⟨fun {σ env F' H'} z s' _ sl' => ?_, fun {t v F' H'} z s' _ r' => hq _ _ _ _ z s' r', fun z => z.elim, fun z => z.elim, fun z => z.elim⟩ (Step.refl ok) (sl0 r hκ) hw
    obtain ⟨rfl, z⟩ := z
    exact hq _ _ _ _ z s' .non
theorem fn_no {CX : CXT} {k : Nat} {f : Addr} {fd : FuncData} {ps : List Str} {sp : Sp} (h : ∀ vs H Q E, ¬ sp vs H Q E) : FnOk P w K mg base CX k f fd ps sp :=
  ⟨fun vs H Q E q => (h vs H Q E q).elim, fun _ _ _ H _ _ vs Q E _ _ _ _ q => (h vs H Q E q).elim⟩
end
end Tv
/-! what stands at operators and built-in calls, over tree values -/
namespace Tv
open PySem PySem.Spec PyProof.Rows L2
/-! data without objects, for == and in -/
mutual
def toD : T → PyData
  | .non => .none
  | .bl b => .bool b
  | .int i => .int i
  | .str x => .str x
  | .tup ts => .tuple (toDs ts)
  | .lst ts => .list (toDs ts)
  | .dic _ | .obj _ _ | .op _ | .exc _ _ _ | .mk _ _ _ => .dict []
def toDs : List T → List PyData
  | [] => []
  | t :: ts => toD t :: toDs ts
end
mutual
def plain : T → Bool
  | .non | .bl _ | .int _ | .str _ => true
  | .tup ts | .lst ts => plains ts
  | .dic _ | .obj _ _ | .op _ | .exc _ _ _ | .mk _ _ _ => false
def plains : List T → Bool
  | [] => true
  | t :: ts => plain t && plains ts
end
theorem toDs_map (ts : List T) : toDs ts = ts.map toD := by
  induction ts with
  | nil => rfl
  | cons t ts ih => rw [toDs, ih, List.map_cons]
mutual
theorem Rep.dp {K : PySem.W.Frag} {G : Hp} : ∀ {v : V} {t : T}, Rep K G v t → plain t = true → Dp K G v (toD t)
  | _, _, .non, _ => .non
  | _, _, .bl b, _ => .bl b
  | _, _, .int i, _ => .int i
  | _, _, .str x, _ => .str x
  | _, _, .tup h l, p => .tup h (RepL.dp l p)
  | _, _, .lst h l, p => .lst (SqL.of h) (RepL.dp l p)
  | _, _, .dicK _ _, p => by cases p
  | _, _, .dicT _ _, p => by cases p
  | _, _, .obj _ _, p => by cases p
  | _, _, .op _, p => by cases p
  | _, _, .exc _ _, p => by cases p
  | _, _, .mk _ _, p => by cases p
theorem RepL.dp {K : PySem.W.Frag} {G : Hp} : ∀ {vs : List V} {ts : List T}, RepL K G vs ts → plains ts = true → DpAll K G vs (toDs ts)
  | _, _, .nil, _ => .nil
  | _, _, .cons h l, p => by
    rw [plains, Bool.and_eq_true] at p
    exact .cons (Rep.dp h p.1) (RepL.dp l p.2)
end
theorem dp_mono {K : PySem.W.Frag} {G G' : Hp} (e : Same G G') : (∀ {v : V} {d : PyData}, Dp K G v d → Dp K G' v d) := by
  intro v d h
  refine Dp.rec (motive_1 := fun v d _ => Dp K G' v d) (motive_2 := fun vs ds _ => DpAll K G' vs ds) ?_ ?_ ?_ ?_ ?_ ?_ ?_ ?_ h
  · exact .non
  · exact fun b => .bl b
  · exact fun b => .int b
  · exact fun b => .str b
  · exact fun h _ i => .lst (e.seq h) i
  · exact fun h _ i => .tup (sqT_same e h) i
  · exact .nil
  · exact fun _ _ a b => .cons a b
/-- == of data -/
def eqT (x y : T) : Bool := PyData.eqv (toD x) (toD y)
def okD (x : T) : Bool := plain x && SeqAt.shaped (toD x)
section
variable {R : Rs} {X : Cx} {κ ν μ : Kd}
def fEq (neg : Bool) (x y : T) (P : T → Prop) : Prop := okD x = true ∧ okD y = true ∧ P (.bl (if neg then !eqT x y else eqT x y))
theorem re_eq (hr : X.A.units + 64 < cLine) : OpR X (compareOp .Eq) (rEqD X.K) ∧ RE X.K R κ ν μ (rEqD X.K) (fEq false) := by
  refine ⟨op_eqD hr, fun {F0 H0 F H x y tx ty Q P} s hx hy f k => ?_⟩
  obtain ⟨a, b, p⟩ := f
  rw [okD, Bool.and_eq_true] at a b
  exact ⟨_, _, dp_mono (base_H s) (hx.dp a.1), dp_mono (base_H s) (hy.dp b.1), a.2, b.2, k p (Step.refl s.ok) (.bl _)⟩
theorem re_ne (hr : X.A.units + 64 < cLine) : OpR X (compareOp .NotEq) (rNeD X.K) ∧ RE X.K R κ ν μ (rNeD X.K) (fEq true) := by
  refine ⟨op_neD hr, fun {F0 H0 F H x y tx ty Q P} s hx hy f k => ?_⟩
  obtain ⟨a, b, p⟩ := f
  rw [okD, Bool.and_eq_true] at a b
  exact ⟨_, _, dp_mono (base_H s) (hx.dp a.1), dp_mono (base_H s) (hy.dp b.1), a.2, b.2, k p (Step.refl s.ok) (.bl _)⟩
/-- x in a list -/
def fIn (neg : Bool) (x y : T) (P : T → Prop) : Prop := ∃ ts, y = .lst ts ∧ okD x = true ∧ okD y = true ∧ P (.bl (if neg then !ts.any fun z => eqT z x else ts.any fun z => eqT z x))
theorem any_toDs {ts : List T} {x : T} : ((toDs ts).any fun z => PyData.eqv z (toD x)) = ts.any fun z => eqT z x := by
  rw [toDs_map, List.any_map]
  rfl
theorem re_in (hr : X.A.units + 65 < cLine) : OpR X (compareOp .In) (rInD X.K) ∧ RE X.K R κ ν μ (rInD X.K) (fIn false) := by
  refine ⟨op_inD hr, fun {F0 H0 F H x y tx ty Q P} s hx hy f k => ?_⟩
  obtain ⟨ts, rfl, a, b, p⟩ := f
  rw [okD, Bool.and_eq_true] at a b
  exact ⟨_, _, dp_mono (base_H s) (hx.dp a.1), dp_mono (base_H s) (hy.dp b.1), a.2, b.2, k p (Step.refl s.ok) (by rw [any_toDs]; exact .bl _)⟩
theorem re_notIn (hr : X.A.units + 65 < cLine) : OpR X (compareOp .NotIn) (rNotInD X.K) ∧ RE X.K R κ ν μ (rNotInD X.K) (fIn true) := by
  refine ⟨op_notInD hr, fun {F0 H0 F H x y tx ty Q P} s hx hy f k => ?_⟩
  obtain ⟨ts, rfl, a, b, p⟩ := f
  rw [okD, Bool.and_eq_true] at a b
  exact ⟨_, _, dp_mono (base_H s) (hx.dp a.1), dp_mono (base_H s) (hy.dp b.1), a.2, b.2, k p (Step.refl s.ok) (by rw [any_toDs]; exact .bl _)⟩
/-! flat things: in a tuple or a list -/
def flatT : T → Bool
  | .non | .bl _ | .int _ | .str _ => true
  | _ => false
theorem Rep.flat {K : PySem.W.Frag} {G G' : Hp} {v : V} {t : T} (h : Rep K G v t) (f : flatT t = true) : flatV v = true ∧ Rep K G' v t := by
  cases h with
  | non => exact ⟨rfl, .non⟩
  | bl b => exact ⟨rfl, .bl b⟩
  | int b => exact ⟨rfl, .int b⟩
  | str b => exact ⟨rfl, .str b⟩
  | _ => cases f
/-! numbers -/
theorem rep_int {K : PySem.W.Frag} {G : Hp} {v : V} {i : Int} (h : Rep K G v (.int i)) : v = .int i := by
  cases h
  rfl
theorem rep_str {K : PySem.W.Frag} {G : Hp} {v : V} {i : Str} (h : Rep K G v (.str i)) : v = .str i := by
  cases h
  rfl
theorem rep_non {K : PySem.W.Frag} {G : Hp} {v : V} (h : Rep K G v .non) : v = .non := by
  cases h
  rfl
theorem rep_bl {K : PySem.W.Frag} {G : Hp} {v : V} {b : Bool} (h : Rep K G v (.bl b)) : v = .bl b := by
  cases h
  rfl
def fI0 (g : Int → Int → T) (x y : T) (P : T → Prop) : Prop := ∃ i j, x = .int i ∧ y = .int j ∧ P (g i j)
theorem re_I0 {g : Int → Int → V} {h : Int → Int → T} (e : ∀ i j G, Rep X.K G (g i j) (h i j)) : RE X.K R κ ν μ (rI0 g) (fI0 h) := by
  intro F0 H0 F H x y tx ty Q P s hx hy f k
  obtain ⟨i, j, rfl, rfl, p⟩ := f
  exact ⟨i, j, rep_int hx, rep_int hy, k p (Step.refl s.ok) (e i j _)⟩
def fI (C : Int → Int → Prop) (g : Int → Int → T) (x y : T) (P : T → Prop) : Prop := ∃ i j, x = .int i ∧ y = .int j ∧ C i j ∧ P (g i j)
theorem re_I {C : Int → Int → Prop} {g : Int → Int → V} {h : Int → Int → T} (e : ∀ i j G, Rep X.K G (g i j) (h i j)) : RE X.K R κ ν μ (rI C g) (fI C h) := by
  intro F0 H0 F H x y tx ty Q P s hx hy f k
  obtain ⟨i, j, rfl, rfl, c, p⟩ := f
  exact ⟨i, j, rep_int hx, rep_int hy, c, k p (Step.refl s.ok) (e i j _)⟩
theorem padd_ {a b : Expr} {pos} {wa wb : WE} (ha : PEv κ R X a wa) (hb : PEv ν R X b wb) : PEv μ R X (.BinOp a .Add b pos) (wOp (fI0 fun i j => .int (i + j)) wa wb) := pop_ op_add (re_I0 fun _ _ _ => .int _) ha hb
theorem psub_ {a b : Expr} {pos} {wa wb : WE} (ha : PEv κ R X a wa) (hb : PEv ν R X b wb) : PEv μ R X (.BinOp a .Sub b pos) (wOp (fI0 fun i j => .int (i - j)) wa wb) := pop_ op_sub (re_I0 fun _ _ _ => .int _) ha hb
theorem pmul_ {a b : Expr} {pos} {wa wb : WE} (ha : PEv κ R X a wa) (hb : PEv ν R X b wb) : PEv μ R X (.BinOp a .Mult b pos) (wOp (fI CMul fun i j => .int (i * j)) wa wb) := pop_ op_mul (re_I fun _ _ _ => .int _) ha hb
theorem pmod_ {a b : Expr} {pos} {wa wb : WE} (ha : PEv κ R X a wa) (hb : PEv ν R X b wb) : PEv μ R X (.BinOp a .Mod b pos) (wOp (fI (fun _ j => 0 < j) fun i j => .int (i % j)) wa wb) := pop_ op_mod (re_I fun _ _ _ => .int _) ha hb
theorem pdiv_ {a b : Expr} {pos} {wa wb : WE} (ha : PEv κ R X a wa) (hb : PEv ν R X b wb) : PEv μ R X (.BinOp a .FloorDiv b pos) (wOp (fI CDiv fun i j => .int (i / j)) wa wb) := pop_ op_fdiv (re_I fun _ _ _ => .int _) ha hb
theorem ppow_ {a b : Expr} {pos} {wa wb : WE} (ha : PEv κ R X a wa) (hb : PEv ν R X b wb) : PEv μ R X (.BinOp a .Pow b pos) (wOp (fI CPow fun i j => .int (i ^ j.toNat)) wa wb) := pop_ op_pow (re_I fun _ _ _ => .int _) ha hb
theorem plt_ {a b : Expr} {pos} {wa wb : WE} (ha : PEv κ R X a wa) (hb : PEv ν R X b wb) : PTv R X (.Compare a [.Lt] [b] pos) (wTest (wOp (fI0 fun i j => .bl (decide (i < j))) wa wb)) := ptcmp_ op_lt (re_I0 fun _ _ _ => .bl _) (nomark _) ha hb
theorem ple_ {a b : Expr} {pos} {wa wb : WE} (ha : PEv κ R X a wa) (hb : PEv ν R X b wb) : PTv R X (.Compare a [.LtE] [b] pos) (wTest (wOp (fI0 fun i j => .bl (decide (i ≤ j))) wa wb)) := ptcmp_ op_le (re_I0 fun _ _ _ => .bl _) (nomark _) ha hb
theorem pgt_ {a b : Expr} {pos} {wa wb : WE} (ha : PEv κ R X a wa) (hb : PEv ν R X b wb) : PTv R X (.Compare a [.Gt] [b] pos) (wTest (wOp (fI0 fun i j => .bl (decide (j < i))) wa wb)) := ptcmp_ op_gt (re_I0 fun _ _ _ => .bl _) (nomark _) ha hb
theorem pge_ {a b : Expr} {pos} {wa wb : WE} (ha : PEv κ R X a wa) (hb : PEv ν R X b wb) : PTv R X (.Compare a [.GtE] [b] pos) (wTest (wOp (fI0 fun i j => .bl (decide (j ≤ i))) wa wb)) := ptcmp_ op_ge (re_I0 fun _ _ _ => .bl _) (nomark _) ha hb
/-! == of one-place things -/
def scalT : T → T → Bool
  | .non, .non => true | .non, .int _ => true | .int _, .non => true | .non, .bl _ => true | .bl _, .non => true | .non, .str _ => true | .str _, .non => true
  | .int _, .int _ => true | .bl _, .bl _ => true | .str _, .str _ => true
  | .int _, .str _ => true | .str _, .int _ => true | .bl _, .str _ => true | .str _, .bl _ => true
  | _, _ => false
def sameT : T → T → Bool
  | .non, .non => true
  | .int i, .int j => decide (i = j)
  | .bl i, .bl j => decide (i = j)
  | .str i, .str j => decide (i = j)
  | _, _ => false
theorem scal_rep {K : PySem.W.Frag} {G G' : Hp} {x y : V} {tx ty : T} (hx : Rep K G x tx) (hy : Rep K G' y ty) (h : scalT tx ty = true) : scal x y = true ∧ decide (x = y) = sameT tx ty := by
  cases hx <;> cases hy <;> first | cases h | skip
  all_goals refine ⟨rfl, ?_⟩
  all_goals first | rfl | (rw [Bool.eq_iff_iff]; simp [sameT]) | (rw [Bool.eq_iff_iff]; simp)
def fSc (neg : Bool) (x y : T) (P : T → Prop) : Prop := scalT x y = true ∧ P (.bl (if neg then !sameT x y else sameT x y))
theorem re_sc : RE X.K R κ ν μ rEq (fSc false) := by
  intro F0 H0 F H x y tx ty Q P s hx hy f k
  obtain ⟨c, p⟩ := f
  obtain ⟨e1, e2⟩ := scal_rep hx hy c
  exact ⟨e1, k p (Step.refl s.ok) (by rw [e2]; exact .bl _)⟩
theorem re_nsc : RE X.K R κ ν μ rNe (fSc true) := by
  intro F0 H0 F H x y tx ty Q P s hx hy f k
  obtain ⟨c, p⟩ := f
  obtain ⟨e1, e2⟩ := scal_rep hx hy c
  exact ⟨e1, k p (Step.refl s.ok) (by rw [e2]; exact .bl _)⟩
/-! is None; is True -/
def isNonT : T → Bool
  | .non => true
  | .op v => decide (v = .non)
  | _ => false
theorem rep_isNon {K : PySem.W.Frag} {G : Hp} {x : V} {t : T} (h : Rep K G x t) : decide (x = .non) = isNonT t := by
  cases h <;> first | rfl | (rw [Bool.eq_iff_iff]; simp [isNonT])
def fIsN (neg : Bool) (x y : T) (P : T → Prop) : Prop := y = .non ∧ P (.bl (if neg then !isNonT x else isNonT x))
theorem re_isN : RE X.K R κ ν μ (fun x y H Q => y = .non ∧ Q (.bl (decide (x = .non))) H) (fIsN false) := by
  intro F0 H0 F H x y tx ty Q P s hx hy f k
  obtain ⟨rfl, p⟩ := f
  exact ⟨rep_non hy, k p (Step.refl s.ok) (by rw [rep_isNon hx]; exact .bl _)⟩
theorem re_notN : RE X.K R κ ν μ (fun x y H Q => y = .non ∧ Q (.bl (!decide (x = .non))) H) (fIsN true) := by
  intro F0 H0 F H x y tx ty Q P s hx hy f k
  obtain ⟨rfl, p⟩ := f
  exact ⟨rep_non hy, k p (Step.refl s.ok) (by rw [rep_isNon hx]; exact .bl _)⟩
def fIsB (neg : Bool) (x y : T) (P : T → Prop) : Prop := ∃ a b, x = .bl a ∧ y = .bl b ∧ P (.bl (if neg then !decide (a = b) else decide (a = b)))
theorem re_isB : RE X.K R κ ν μ (fun x y H Q => ∃ a b, x = .bl a ∧ y = .bl b ∧ Q (.bl (decide (a = b))) H) (fIsB false) := by
  intro F0 H0 F H x y tx ty Q P s hx hy f k
  obtain ⟨a, b, rfl, rfl, p⟩ := f
  exact ⟨a, b, rep_bl hx, rep_bl hy, k p (Step.refl s.ok) (.bl _)⟩
theorem re_notB : RE X.K R κ ν μ (fun x y H Q => ∃ a b, x = .bl a ∧ y = .bl b ∧ Q (.bl (!decide (a = b))) H) (fIsB true) := by
  intro F0 H0 F H x y tx ty Q P s hx hy f k
  obtain ⟨a, b, rfl, rfl, p⟩ := f
  exact ⟨a, b, rep_bl hx, rep_bl hy, k p (Step.refl s.ok) (.bl _)⟩
end
/-! what is a row of items -/
def seqT : T → Option (List T)
  | .lst ts => some ts
  | .tup ts => some ts
  | _ => none
def SeqIs (K : PySem.W.Frag) (H : Hp) (a : Addr) (vs : List V) (t : T) (ts : List T) : Prop := (t = .lst ts ∧ H a = some (.lst vs)) ∨ (t = .tup ts ∧ SqT K H a vs)
theorem SeqIs.seq {K : PySem.W.Frag} {H : Hp} {a : Addr} {vs : List V} {t : T} {ts : List T} (h : SeqIs K H a vs t ts) : SqL K H a vs ∨ SqT K H a vs := by
  rcases h with ⟨_, h⟩ | ⟨_, h⟩
  · exact .inl (SqL.of h)
  · exact .inr h
theorem SeqIs.mono {K : PySem.W.Frag} {H H' : Hp} {a : Addr} {vs : List V} {t : T} {ts : List T} (h : SeqIs K H a vs t ts) (e : Same H H') : SeqIs K H' a vs t ts := by
  rcases h with ⟨q, h⟩ | ⟨q, h⟩
  · exact .inl ⟨q, e _ _ h⟩
  · exact .inr ⟨q, sqT_same e h⟩
/-- worth a list or a tuple that stands there now, the items readable as κ -/
def EvI (K : PySem.W.Frag) (R : Rs) (κ : Kd) (te : TE) (w : WE) : Prop := ∀ {F0 H0 F H : Hp} {σ : List (Option V)} {env : List Cell} {Q : VK} {P : T → Prop}, Step R F0 H0 F H → Sl K R H0 F H env σ → w env P →
  (∀ {t ts a vs F' H'}, P t → Step R F H F' H' → SeqIs K (sans R.ad H') a vs t ts → RepL K (base κ R H0 F' H') vs ts → Q (.ref a) H') → te σ H Q
structure PEi (κ : Kd) (R : Rs) (X : Cx) (e : Expr) (w : WE) : Prop where
  ex : ∃ te, PE X e te ∧ EvI X.K R κ te w
section
variable {R : Rs} {X : Cx} {κ ν μ : Kd}
def wSeqT (w : WE) : WE := fun env P => w env fun t => (seqT t).isSome = true ∧ P t
theorem PEv.items {e : Expr} {w : WE} (h : PEv κ R X e w) : PEi κ R X e (wSeqT w) := by
  obtain ⟨te, h1, h2⟩ := h.ex
  refine ⟨te, h1, fun {F0 H0 F H σ env Q P} s sl hw k => h2 s sl hw fun {t v F1 H1} p s1 r => ?_⟩
  obtain ⟨q, p⟩ := p
  have m := base_le (κ := κ) (μ := .M) (by cases κ <;> rfl) (s.trans s1)
  cases r with
  | lst g l => exact k p s1 (.inl ⟨rfl, m _ _ g⟩) l
  | tup g l => exact k p s1 (.inr ⟨rfl, sqT_same m g⟩) l
  | _ => cases q
theorem PEn.items {e : Expr} {w : WE} (h : PEn R X e w) : PEi .S R X e (wSeqT w) := (PEn.up (κ := .S) h).items
/-- x, a list of this def's own -/
def wO (i : Nat) : WE := fun env P => match env[i]? with
  | some (.own (.lst ts)) => P (.lst ts)
  | _ => False
theorem pio_ (i : Nat) {e : Expr} (h : PE X e (tVar i)) : PEi .S R X e (wO i) := by
  refine ⟨_, h, fun {F0 H0 F H σ env Q P} s sl hw k => ?_⟩
  unfold wO at hw
  split at hw
  · rename_i ts q
    obtain ⟨c, h1, a, rfl, h2, h3, h4, vs, h5, h6⟩ := sl.ok i _ q
    exact ⟨_, h1, k hw (Step.refl s.ok) (.inl ⟨rfl, by rw [sans_of h3]; exact h5⟩) h6⟩
  · exact hw.elim
/-! len, list, tuple -/
def wLen (w : WE) : WE := fun env P => w env fun t => ∀ ts, seqT t = some ts → P (.int (ts.length : Int))
theorem SeqIs.seqT {K : PySem.W.Frag} {H : Hp} {a : Addr} {vs : List V} {t : T} {ts : List T} (h : SeqIs K H a vs t ts) : Tv.seqT t = some ts := by
  rcases h with ⟨rfl, _⟩ | ⟨rfl, _⟩ <;> rfl
theorem plen_ {e : Expr} {w : WE} {x : Str} {p pos} (h : PEi κ R X e w) (hp : ∀ {te}, PE X e te → PE X (.Call (.Name x p) [e] [] pos) (tCB (fun xs H Q => ∃ p ys, xs = [.ref p] ∧ (SqL X.K H p ys ∨ SqT X.K H p ys) ∧ Q (.int ys.length) H) (tCons te tNil))) : PEv μ R X (.Call (.Name x p) [e] [] pos) (wLen w) := by
  obtain ⟨te, h1, h2⟩ := h.ex
  refine ⟨_, hp h1, fun {F0 H0 F H σ env Q P} s sl hw k => h2 s sl hw fun {t ts a vs F1 H1} p s1 g r => ?_⟩
  refine ⟨a, vs, rfl, (g.mono sans_same).seq, k (p ts g.seqT) s1 ?_⟩
  rw [r.length]
  exact .int _
def wList (w : WE) : WE := fun env P => w env fun t => ∀ ts, seqT t = some ts → P (.lst ts)
theorem new_of {K : PySem.W.Frag} {F H F1 H1 : Hp} {p : Addr} {vs : List V} {ts : List T} (s1 : Step R F H F1 H1) (hq : H1 p = none) (r : RepL K F1 vs ts) : Step R F H F1 (upd H1 p (.lst vs)) ∧ New K R H F1 (upd H1 p (.lst vs)) (.ref p) (.lst ts) := by
  have n := Step.new s1.ok hq (.lst vs)
  have ad := s1.ok.adNew hq
  have h0 : H p = none := by
    have := s1.g.free (sans_none hq)
    rw [sans_of ad] at this
    exact this
  exact ⟨s1.trans n, ⟨p, rfl, h0, ad, s1.ok.free hq, vs, upd_same, r⟩⟩
theorem plist_ {e : Expr} {w : WE} {x : Str} {p pos} (h : PEi .S R X e w) (hp : ∀ {te}, PE X e te → PE X (.Call (.Name x p) [e] [] pos) (tCB (fun xs H Q => ∃ p ys, xs = [.ref p] ∧ (SqL X.K H p ys ∨ SqT X.K H p ys) ∧ ∀ l, H l = none → Q (.ref l) (upd H l (.lst ys))) (tCons te tNil))) : PEn R X (.Call (.Name x p) [e] [] pos) (wList w) := by
  obtain ⟨te, h1, h2⟩ := h.ex
  refine ⟨_, hp h1, fun {F0 H0 F H σ env Q P} s sl hw k => h2 s sl hw fun {t ts a vs F1 H1} p s1 g r => ?_⟩
  refine ⟨a, vs, rfl, (g.mono sans_same).seq, fun l hl => ?_⟩
  obtain ⟨n1, n2⟩ := new_of s1 hl r
  exact k (p ts g.seqT) n1 n2
def wTuple (w : WE) : WE := fun env P => w env fun t => ∃ ts, t = .lst ts ∧ P (.tup ts)
theorem ptuple_ {e : Expr} {w : WE} {x : Str} {p pos} (h : PEi .S R X e w) (hp : ∀ {te}, PE X e te → PE X (.Call (.Name x p) [e] [] pos) (tCB (fun xs H Q => ∃ p ys, xs = [.ref p] ∧ ((SqL X.K H p ys ∧ ∀ l, H l = none → Q (.ref l) (upd H l (.tup ys))) ∨ (SqT X.K H p ys ∧ Q (.ref p) H))) (tCons te tNil))) : PEv μ R X (.Call (.Name x p) [e] [] pos) (wTuple w) := by
  obtain ⟨te, h1, h2⟩ := h.ex
  refine PEv.up (κ := .S) ⟨_, hp h1, fun {F0 H0 F H σ env Q P} s sl hw k => h2 s sl hw fun {t ts a vs F1 H1} p s1 g r => ?_⟩ (by cases μ <;> rfl)
  obtain ⟨us, rfl, p⟩ := p
  rcases g with ⟨e, g⟩ | ⟨e, g⟩
  · cases e
    refine ⟨a, vs, rfl, .inl ⟨SqL.of (sans_same _ _ g), fun l hl => ?_⟩⟩
    have n := Step.newKeep s1.ok hl (.tup vs)
    exact k p (s1.trans n) (.tup (.inl (.inl upd_same)) (r.mono n.f))
  · cases e
/-! t[i] -/
def fIx (x y : T) (P : T → Prop) : Prop := ∃ ts i t, seqT x = some ts ∧ y = .int i ∧ atI ts i = some t ∧ P t
theorem atI_rep {K : PySem.W.Frag} {G : Hp} {vs : List V} {ts : List T} {i : Int} {t : T} (r : RepL K G vs ts) (h : atI ts i = some t) : ∃ v, atI vs i = some v ∧ Rep K G v t := by
  unfold atI at h ⊢
  rw [r.length]
  cases e : ixN ts.length i with
  | none =>
    rw [e] at h
    cases h
  | some j =>
    rw [e] at h
    exact r.get h
theorem re_ix : RE X.K R κ ν κ (fun x y H Q => rIxL X.K x y H Q ∨ rIxT X.K x y H Q) fIx := by
  intro F0 H0 F H x y tx ty Q P s hx hy f k
  obtain ⟨ts, i, t, q, rfl, e, p⟩ := f
  have m := base_H (κ := κ) s
  cases hx with
  | lst g l =>
    cases q
    obtain ⟨v, h1, h2⟩ := atI_rep l e
    exact .inl ⟨_, _, i, v, rfl, rep_int hy, SqL.of (m _ _ g), h1, k p (Step.refl s.ok) h2⟩
  | tup g l =>
    cases q
    obtain ⟨v, h1, h2⟩ := atI_rep l e
    exact .inr ⟨_, _, i, v, rfl, rep_int hy, sqT_same m g, h1, k p (Step.refl s.ok) h2⟩
  | _ => cases q
theorem pix_ {a b : Expr} {pos} {wa wb : WE} (ha : PEv κ R X a wa) (hb : PEv ν R X b wb) (hs : PlainIx b := by intro _ _; rfl) : PEv κ R X (.Subscript a b pos) (wOp fIx wa wb) := by
  obtain ⟨ta, a1, a2⟩ := ha.ex
  obtain ⟨tb, b1, b2⟩ := hb.ex
  exact ⟨_, pe_ix (IxR.or ix_list ix_tup) a1 b1 hs, evOp a2 b2 re_ix⟩
/-- x[i] of a row whose items are readable as κ -/
theorem pixi_ {a b : Expr} {pos} {wa wb : WE} (ha : PEi κ R X a wa) (hb : PEv ν R X b wb) (hs : PlainIx b := by intro _ _; rfl) : PEv κ R X (.Subscript a b pos) (wOp fIx wa wb) := by
  obtain ⟨ta, a1, a2⟩ := ha.ex
  obtain ⟨tb, b1, b2⟩ := hb.ex
  refine ⟨_, pe_ix (IxR.or ix_list ix_tup) a1 b1 hs, fun {F0 H0 F H σ env Q P} s sl hw k => a2 s sl hw fun {t ts a vs F1 H1} p s1 g r => ?_⟩
  refine b2 (s.trans s1) (sl.step s s1) p fun {ty y F2 H2} p2 s2 r2 => ?_
  obtain ⟨us, i, u, q, rfl, e, p3⟩ := p2
  rw [g.seqT] at q
  cases q
  obtain ⟨v, h1, h2⟩ := atI_rep r e
  have h2 := h2.mono (base_step κ (s.trans s1) s2)
  rcases (g.mono s2.g).mono sans_same with ⟨_, g⟩ | ⟨_, g⟩
  · exact .inl ⟨_, _, i, v, rfl, rep_int r2, SqL.of g, h1, k p3 (s1.trans s2) h2⟩
  · exact .inr ⟨_, _, i, v, rfl, rep_int r2, g, h1, k p3 (s1.trans s2) h2⟩
/-- one sign of a text -/
def fIxS (x y : T) (P : T → Prop) : Prop := ∃ z i c, x = .str z ∧ y = .int i ∧ z.length ≤ sizeLine ∧ atI z.cps.toList i = some c ∧ P (.str ⟨#[c]⟩)
theorem re_ixS : RE X.K R κ ν μ rIxS fIxS := by
  intro F0 H0 F H x y tx ty Q P s hx hy f k
  obtain ⟨z, i, c, rfl, rfl, hz, e, p⟩ := f
  exact ⟨z, i, c, rep_str hx, rep_int hy, hz, e, k p (Step.refl s.ok) (.str _)⟩
theorem pixS_ {a b : Expr} {pos} {wa wb : WE} (ha : PEv κ R X a wa) (hb : PEv ν R X b wb) (hs : PlainIx b := by intro _ _; rfl) : PEv μ R X (.Subscript a b pos) (wOp fIxS wa wb) := by
  obtain ⟨ta, a1, a2⟩ := ha.ex
  obtain ⟨tb, b1, b2⟩ := hb.ex
  exact ⟨_, pe_ix ix_str a1 b1 hs, evOp a2 b2 re_ixS⟩
/-! x + y of lists | of tuples -/
def wCat (a b : WE) : WE := fun env P => a env fun x => b env fun y => ∃ xs ys, x = .lst xs ∧ y = .lst ys ∧ xs.length + ys.length ≤ 1000000 ∧ P (.lst (xs ++ ys))
theorem sz_of {n : Nat} (h : n ≤ 1000000) : n ≤ sizeLine := Nat.le_trans h (by decide)
theorem sz_lt {n : Nat} (h : n < 1000000) : n < sizeLine := Nat.lt_of_lt_of_le h (by decide)
theorem pcat_ {a b : Expr} {pos} {wa wb : WE} (ha : PEi .S R X a wa) (hb : PEi .S R X b wb) : PEn R X (.BinOp a .Add b pos) (wCat wa wb) := by
  obtain ⟨ta, a1, a2⟩ := ha.ex
  obtain ⟨tb, b1, b2⟩ := hb.ex
  refine ⟨_, pe_op op_cat a1 b1, fun {F0 H0 F H σ env Q P} s sl hw k => a2 s sl hw fun {t ts a vs F1 H1} p s1 g r => ?_⟩
  refine b2 (s.trans s1) (sl.step s s1) p fun {u us b ws F2 H2} p2 s2 g2 r2 => ?_
  obtain ⟨xs, ys, rfl, rfl, hz, p3⟩ := p2
  rcases g with ⟨q, g⟩ | ⟨q, _⟩
  · cases q
    rcases g2 with ⟨q, g2⟩ | ⟨q, _⟩
    · cases q
      have r1 := r.mono s2.f
      refine ⟨a, b, vs, ws, rfl, rfl, sans_same _ _ (s2.g _ _ g), sans_same _ _ g2, by rw [r.length, r2.length]; exact sz_of hz, fun l hl => ?_⟩
      obtain ⟨n1, n2⟩ := new_of (s1.trans s2) hl (r1.append r2)
      exact k p3 n1 n2
    · cases q
  · cases q
def fCatT (x y : T) (P : T → Prop) : Prop := ∃ xs ys, x = .tup xs ∧ y = .tup ys ∧ xs.length + ys.length ≤ 1000000 ∧ P (.tup (xs ++ ys))
theorem pcatT_ {a b : Expr} {pos} {wa wb : WE} (ha : PEv .S R X a wa) (hb : PEv .S R X b wb) : PEv μ R X (.BinOp a .Add b pos) (wOp fCatT wa wb) := by
  refine PEv.up (κ := .S) (pop_ op_catA ?_ ha hb) (by cases μ <;> rfl)
  intro F0 H0 F H x y tx ty Q P s hx hy f k
  obtain ⟨xs, ys, rfl, rfl, hz, p⟩ := f
  have m : Same F H := base_H (κ := .S) s
  cases hx with
  | @tup a1 v1 t1 g l =>
    cases hy with
    | @tup a2 v2 t2 g2 l2 =>
      refine ⟨_, _, _, _, rfl, rfl, sqT_same m g, sqT_same m g2, by rw [l.length, l2.length]; exact sz_of hz, fun e => ?_, fun _ e => ?_, fun _ _ q hq => ?_⟩
      · have := l.length
        rw [e] at this
        rw [List.length_eq_zero_iff.mp this.symm, List.nil_append] at p
        exact k p (Step.refl s.ok) (.tup g2 l2)
      · have := l2.length
        rw [e] at this
        rw [List.length_eq_zero_iff.mp this.symm, List.append_nil] at p
        exact k p (Step.refl s.ok) (.tup g l)
      · have n := Step.newKeep s.ok hq (.tup (v1 ++ v2))
        exact k p n (.tup (.inl (.inl upd_same)) ((l.append l2).mono n.f))
/-! slices -/
def cutT (xs : List T) (lo hi : Option Int) : List T := (xs.drop (HT.sIx xs.length 0 lo)).take (HT.sIx xs.length xs.length hi - HT.sIx xs.length 0 lo)
theorem cut_rep {K : PySem.W.Frag} {G : Hp} {vs : List V} {ts : List T} {lo hi : Option Int} (r : RepL K G vs ts) : RepL K G (cutV vs lo hi) (cutT ts lo hi) := by
  unfold cutV cutT
  rw [r.length]
  exact (r.drop _).take _
abbrev WO := List Cell → (Option Int → Prop) → Prop
def EvO (K : PySem.W.Frag) (R : Rs) (to : TO) (w : WO) : Prop := ∀ {F0 H0 F H : Hp} {σ : List (Option V)} {env : List Cell} {Q : Option Int → Hp → Prop} {P : Option Int → Prop}, Step R F0 H0 F H → Sl K R H0 F H env σ → w env P →
  (∀ {o F' H'}, P o → Step R F H F' H' → Q o H') → to σ H Q
structure POv (R : Rs) (X : Cx) (e : Option Expr) (w : WO) : Prop where
  ex : ∃ t, PO X e t ∧ EvO X.K R t w
theorem po0_ : POv R X none (fun _ P => P none) := ⟨_, po_none, fun s _ hw k => k hw (Step.refl s.ok)⟩
theorem po1_ {e : Expr} {w : WE} (h : PEv κ R X e w) : POv R X (some e) (fun env P => w env fun t => ∃ i, t = .int i ∧ P (some i)) := by
  obtain ⟨t, h1, h2⟩ := h.ex
  refine ⟨_, po_some h1, fun {F0 H0 F H σ env Q P} s sl hw k => h2 s sl hw fun {t v F1 H1} p s1 r => ?_⟩
  obtain ⟨i, rfl, p⟩ := p
  exact ⟨i, rep_int r, k p s1⟩
def wSl (a : WE) (l h : WO) (g : List T → T) (f : T → Option (List T)) : WE := fun env P => a env fun t => l env fun lo => h env fun hi => ∃ ts, f t = some ts ∧ P (g (cutT ts lo hi))
def lstT : T → Option (List T)
  | .lst ts => some ts
  | _ => none
def tupT : T → Option (List T)
  | .tup ts => some ts
  | _ => none
theorem psl_ {e : Expr} {lo hi : Option Expr} {p2 pos} {w : WE} {wl wh : WO} (h : PEi .S R X e w) (hl : POv R X lo wl) (hh : POv R X hi wh) (hp : ∀ {te tl th}, PE X e te → PO X lo tl → PO X hi th → PE X (.Subscript e (.Slice lo hi none p2) pos) (tSl (rSlL X.K) te tl th)) : PEn R X (.Subscript e (.Slice lo hi none p2) pos) (wSl w wl wh T.lst lstT) := by
  obtain ⟨te, h1, h2⟩ := h.ex
  obtain ⟨tl, l1, l2⟩ := hl.ex
  obtain ⟨th, u1, u2⟩ := hh.ex
  refine ⟨_, hp h1 l1 u1, fun {F0 H0 F H σ env Q P} s sl hw k => h2 s sl hw fun {t ts a vs F1 H1} p s1 g r => ?_⟩
  refine l2 (s.trans s1) (sl.step s s1) p fun {lo F2 H2} p2 s2 => ?_
  refine u2 ((s.trans s1).trans s2) ((sl.step s s1).step (s.trans s1) s2) p2 fun {hi F3 H3} p3 s3 => ?_
  obtain ⟨us, q, p3⟩ := p3
  rcases g with ⟨rfl, g⟩ | ⟨rfl, _⟩
  · cases q
    refine ⟨a, vs, rfl, SqL.of (sans_same _ _ (s3.g _ _ (s2.g _ _ g))), fun l hl => ?_⟩
    obtain ⟨n1, n2⟩ := new_of ((s1.trans s2).trans s3) hl (cut_rep (lo := lo) (hi := hi) (r.mono (s2.f.trans s3.f)))
    exact k p3 n1 n2
  · cases q
theorem pslT_ {e : Expr} {lo hi : Option Expr} {p2 pos} {w : WE} {wl wh : WO} (h : PEv .S R X e w) (hl : POv R X lo wl) (hh : POv R X hi wh) (hp : ∀ {te tl th}, PE X e te → PO X lo tl → PO X hi th → PE X (.Subscript e (.Slice lo hi none p2) pos) (tSl (rSlA X.K) te tl th)) : PEv μ R X (.Subscript e (.Slice lo hi none p2) pos) (wSl w wl wh T.tup tupT) := by
  obtain ⟨te, h1, h2⟩ := h.ex
  obtain ⟨tl, l1, l2⟩ := hl.ex
  obtain ⟨th, u1, u2⟩ := hh.ex
  refine PEv.up (κ := .S) ⟨_, hp h1 l1 u1, fun {F0 H0 F H σ env Q P} s sl hw k => h2 s sl hw fun {t v F1 H1} p s1 r => ?_⟩ (by cases μ <;> rfl)
  refine l2 (s.trans s1) (sl.step s s1) p fun {lo F2 H2} p2 s2 => ?_
  refine u2 ((s.trans s1).trans s2) ((sl.step s s1).step (s.trans s1) s2) p2 fun {hi F3 H3} p3 s3 => ?_
  obtain ⟨us, q, p3⟩ := p3
  have s4 := (s1.trans s2).trans s3
  have r := r.mono (s2.f.trans s3.f)
  have m : Same F3 H3 := base_H (κ := .S) (s.trans s4)
  cases r with
  | @tup a vs ts g l =>
    have q' : ts = us := Option.some.inj q
    subst q'
    refine ⟨_, vs, rfl, sqT_same m g, fun e => ?_, fun _ q hq => ?_⟩
    · have ec : cutT ts lo hi = ts := by
        unfold cutT
        rw [← l.length, e.1, e.2, List.drop_zero, Nat.sub_zero, l.length, List.take_length]
      rw [ec] at p3
      exact k p3 s4 (.tup g l)
    · have n := Step.newKeep s4.ok hq (.tup (cutV vs lo hi))
      exact k p3 (s4.trans n) (.tup (.inl (.inl upd_same)) ((cut_rep l).mono n.f))
  | _ => cases q
end
/-! for simp -/
theorem seq_l {ts : List T} : seqT (.lst ts) = some ts := rfl
theorem seq_t {ts : List T} : seqT (.tup ts) = some ts := rfl
theorem lst_l {ts : List T} : lstT (.lst ts) = some ts := rfl
theorem tup_t {ts : List T} : tupT (.tup ts) = some ts := rfl
theorem scal_ii {i j : Int} : scalT (.int i) (.int j) = true := rfl
theorem scal_ss {i j : Str} : scalT (.str i) (.str j) = true := rfl
theorem scal_bb {i j : Bool} : scalT (.bl i) (.bl j) = true := rfl
theorem same_ii {i j : Int} : sameT (.int i) (.int j) = decide (i = j) := rfl
theorem same_ss {i j : Str} : sameT (.str i) (.str j) = decide (i = j) := rfl
theorem same_bb {i j : Bool} : sameT (.bl i) (.bl j) = decide (i = j) := rfl
theorem at_0 {α : Type} {a : α} {xs : List α} : atI (a :: xs) 0 = some a := atI_nat (j := 0) rfl
theorem at_1 {α : Type} {a b : α} {xs : List α} : atI (a :: b :: xs) 1 = some b := atI_nat (j := 1) rfl
theorem at_2 {α : Type} {a b c : α} {xs : List α} : atI (a :: b :: c :: xs) 2 = some c := atI_nat (j := 2) rfl
theorem at_3 {α : Type} {a b c d : α} {xs : List α} : atI (a :: b :: c :: d :: xs) 3 = some d := atI_nat (j := 3) rfl
theorem isN_non : isNonT .non = true := rfl
theorem isN_int {i : Int} : isNonT (.int i) = false := rfl
theorem isN_str {i : Str} : isNonT (.str i) = false := rfl
theorem isN_tup {i : List T} : isNonT (.tup i) = false := rfl
theorem isN_lst {i : List T} : isNonT (.lst i) = false := rfl
theorem isN_bl {i : Bool} : isNonT (.bl i) = false := rfl
end Tv
/-! loops, comprehensions, changes over tree values -/
namespace Tv
open PySem PySem.Spec PyProof.Rows L2
section
variable {K : PySem.W.Frag} {R : Rs} {F0 H0 F H F' H' : Hp} {κ : Kd}
theorem base_same (hκ : κ ≠ .M) (_ : Step R F0 H0 F H) (y : Step R F0 H0 F' H') (e : Same F F') : Same (base κ R H0 F H) (base κ R H0 F' H') := by
  cases κ with
  | S => exact e
  | M => exact absurd rfl hκ
  | B => exact join_same (e.trans same_join) (join_right y.ok.sub y.g)
/-- a thing of this def's own is changed -/
theorem Sl.mut {env : List Cell} {σ : List (Option V)} (h : Sl K R H0 F H env σ) {i : Nat} {t t' : T} {a : Addr} {o : HO} (q : env[i]? = some (.own t)) (qs : σ[i]? = some (some (.ref a))) (ho : OwnAt K F (upd H a o) a t') : Sl K R H0 F (upd H a o) (env.set i (.own t')) σ := by
  have hl : i < env.length := by
    rcases Nat.lt_or_ge i env.length with z | z
    · exact z
    · rw [List.getElem?_eq_none z] at q
      cases q
  obtain ⟨c, c1, a', c2, f1, f2, f3, _⟩ := h.ok i _ q
  rw [qs] at c1
  cases c1
  cases c2
  refine ⟨by rw [List.length_set]; exact h.len, fun j d qd => ?_, fun j k tj tk b e1 e2 e3 e4 => ?_⟩
  · by_cases e : i = j
    · subst e
      rw [List.getElem?_set_self hl] at qd
      cases qd
      exact ⟨_, qs, a, rfl, f1, f2, f3, ho⟩
    · rw [List.getElem?_set_ne e] at qd
      obtain ⟨s, y1, y2⟩ := h.ok j d qd
      refine ⟨s, y1, ?_⟩
      cases d with
      | un => trivial
      | rd u => exact y2
      | val u => exact y2
      | own u =>
        obtain ⟨b, w1, w2, w3, w4, w5⟩ := y2
        refine ⟨b, w1, w2, w3, w4, w5.mono (Same.refl _) fun o z => ?_⟩
        have nb : b ≠ a := by
          rintro rfl
          rw [w1] at y1
          exact e (h.ds i j _ _ _ q qd qs y1)
        rw [upd_ne nb]
        exact z
  · have own : ∀ {m : Nat} {u : T}, (env.set i (.own t'))[m]? = some (Cell.own u) → ∃ u', env[m]? = some (Cell.own u') := by
      intro m u e
      by_cases em : i = m
      · subst em
        exact ⟨t, q⟩
      · rw [List.getElem?_set_ne em] at e
        exact ⟨u, e⟩
    obtain ⟨_, z1⟩ := own e1
    obtain ⟨_, z2⟩ := own e2
    exact h.ds j k _ _ b z1 z2 e3 e4
end
section
variable {R : Rs} {Wx : WX} {X : Cx} {κ ν μ : Kd} {n : Bool}
def wApp (i : Nat) (w : WE) : WS := fun W env => match env[i]? with
  | some (.own (.lst ts)) => w env fun t => ts.length < 1000000 ∧ W.nx (env.set i (.own (.lst (ts ++ [t]))))
  | _ => False
theorem OwnAt.lst_ {K : PySem.W.Frag} {F H : Hp} {a : Addr} {vs : List V} {ts : List T} (h : H a = some (.lst vs)) (r : RepL K F vs ts) : OwnAt K F H a (.lst ts) := ⟨vs, h, r⟩
/-- x.append(e) -/
theorem app_ (i : Nat) {o e : Expr} {w : WE} {st : Stmt} (ho : PE X o (tVar i)) (h : PEv .S R X e w) (hs : ∀ {to te}, PE X o to → PE X e te → PS X st (tDrop (tBM X.K "list" rAppend to (tCons te tNil)))) : PSv n R Wx X st (wApp i w) := by
  obtain ⟨te, h1, h2⟩ := h.ex
  refine ⟨_, hs ho h1, fun {F0 H0 F H σ env D W} it s sl hw => ?_⟩
  unfold wApp at hw
  split at hw
  · rename_i ts q
    obtain ⟨c, c1, a, rfl, f1, f2, f3, vs, f4, f5⟩ := sl.ok i _ q
    refine ⟨_, c1, .inl ⟨rfl, _, SqL.of f4⟩, ?_⟩
    refine h2 s sl hw fun {t v F1 H1} p s1 r1 => ?_
    obtain ⟨hz, p⟩ := p
    have sl1 := sl.step s s1
    obtain ⟨c', c2, b, e, f1, _, _, vs', f4, f5⟩ := sl1.ok i _ q
    rw [c1] at c2
    have e2 : (V.ref a) = V.ref b := Option.some.inj ((Option.some.inj c2).trans e)
    have e3 : a = b := V.ref.inj e2
    subst e3
    have s2 := (s.trans s1).mut (a := a) (o := .lst (vs' ++ [v])) f1 f2 f3
    refine ⟨a, vs', v, rfl, rfl, f4, by rw [f5.length]; exact sz_lt hz, ?_⟩
    exact it.nx p s2 s1.f (sl1.mut q c1 (OwnAt.lst_ upd_same (f5.append (.cons r1 .nil))))
  · exact hw.elim
/-! what a loop goes over -/
def ItOk (K : PySem.W.Frag) (R : Rs) (κ : Kd) (F0 H0 F : Hp) (J : It) (ts : List T) : Prop := ∀ {F' H'}, Step R F0 H0 F' H' → Same F F' →
  (∀ i, i < ts.length → J.go i H' ∧ ∀ x H3, J.yld i H' x H3 → ∃ F3, Step R F' H' F3 H3 ∧ ∃ t, ts[i]? = some t ∧ Rep K (base κ R H0 F3 H3) x t) ∧ J.stop ts.length H'
def EvSrc (K : PySem.W.Frag) (R : Rs) (κ : Kd) (wi : TI) (w : List Cell → (List T → Prop) → Prop) : Prop := ∀ {F0 H0 F H : Hp} {σ : List (Option V)} {env : List Cell} {Q : It → Hp → Prop} {P : List T → Prop}, Step R F0 H0 F H → Sl K R H0 F H env σ → w env P →
  (∀ {ts J F' H'}, P ts → Step R F H F' H' → ItOk K R κ F0 H0 F' J ts → Q J H') → wi σ H Q
structure PSrc (κ : Kd) (R : Rs) (X : Cx) (tg e : Expr) (w : List Cell → (List T → Prop) → Prop) : Prop where
  ex : ∃ wi, PI X tg e wi ∧ EvSrc X.K R κ wi w
def wLst1 (w : WE) : List Cell → (List T → Prop) → Prop := fun env P => w env fun t => ∃ ts, t = .lst ts ∧ P ts
def wTup1 (w : WE) : List Cell → (List T → Prop) → Prop := fun env P => w env fun t => ∃ ts, t = .tup ts ∧ P ts
theorem srcL_ {tg e : Expr} {w : WE} (h : PEv κ R X e w) (hκ : κ ≠ .M := by decide) (hp : ∀ {te}, PE X e te → PI X tg e (iList X.K te) := by intro _ a; exact pi_list a) : PSrc κ R X tg e (wLst1 w) := by
  obtain ⟨te, h1, h2⟩ := h.ex
  refine ⟨_, hp h1, fun {F0 H0 F H σ env Q P} s sl hw k => h2 s sl hw fun {t v F1 H1} p s1 r => ?_⟩
  obtain ⟨ts, rfl, p⟩ := p
  cases r with
  | @lst a vs ts g l =>
    refine ⟨a, rfl, ⟨vs, SqL.of (base_H (s.trans s1) _ _ g)⟩, k p s1 fun {F' H'} s' e => ?_⟩
    have m := base_same hκ (s.trans s1) s' e
    have g' := SqL.of (K := X.K) (base_H s' _ _ (m _ _ g))
    have l' := l.mono m
    refine ⟨fun i hi => ?_, vs, g', Nat.le_of_eq l.length⟩
    obtain ⟨v, hv, _⟩ := l'.get (List.getElem?_eq_getElem hi)
    refine ⟨⟨vs, v, g', hv⟩, fun x H3 y => ?_⟩
    obtain ⟨rfl, y⟩ := y
    have hx := y vs g'
    obtain ⟨t, ht, hr⟩ := l'.getV hx
    exact ⟨F', Step.refl s'.ok, t, ht, hr⟩
theorem srcT_ {tg e : Expr} {w : WE} (h : PEv κ R X e w) (hκ : κ ≠ .M := by decide) (hp : ∀ {te}, PE X e te → PI X tg e (iTup X.K te) := by intro _ a; exact pi_tup a) : PSrc κ R X tg e (wTup1 w) := by
  obtain ⟨te, h1, h2⟩ := h.ex
  refine ⟨_, hp h1, fun {F0 H0 F H σ env Q P} s sl hw k => h2 s sl hw fun {t v F1 H1} p s1 r => ?_⟩
  obtain ⟨ts, rfl, p⟩ := p
  cases r with
  | @tup a vs ts g l =>
    refine ⟨a, rfl, ⟨vs, sqT_same (base_H (s.trans s1)) g⟩, k p s1 fun {F' H'} s' e => ?_⟩
    have m := base_same hκ (s.trans s1) s' e
    have g' := sqT_same (base_H s') (sqT_same m g)
    have l' := l.mono m
    refine ⟨fun i hi => ?_, vs, g', Nat.le_of_eq l.length⟩
    obtain ⟨v, hv, _⟩ := l'.get (List.getElem?_eq_getElem hi)
    refine ⟨⟨vs, v, g', hv⟩, fun x H3 y => ?_⟩
    obtain ⟨rfl, y⟩ := y
    have hx := y vs g'
    obtain ⟨t, ht, hr⟩ := l'.getV hx
    exact ⟨F', Step.refl s'.ok, t, ht, hr⟩
def rngT (lo : Int) (m : Nat) : List T := (List.range m).map fun k => T.int (lo + (k : Nat))
theorem it_rng {K : PySem.W.Frag} {F0 H0 F : Hp} {lo : Int} {m : Nat} : ItOk K R κ F0 H0 F (Itr lo m) (rngT lo m) := by
  intro F' H' s' e
  have hl : (rngT lo m).length = m := by unfold rngT; rw [List.length_map, List.length_range]
  refine ⟨fun i hi => ⟨by rw [hl] at hi; exact hi, fun x H3 y => ?_⟩, by rw [hl]; exact Nat.le_refl _⟩
  obtain ⟨rfl, rfl⟩ := y
  refine ⟨F', Step.refl s'.ok, .int (lo + (i : Nat)), ?_, .int _⟩
  unfold rngT
  rw [List.getElem?_map, List.getElem?_range (by rw [hl] at hi; exact hi)]
  rfl
def wRng1 (w : WE) : List Cell → (List T → Prop) → Prop := fun env P => w env fun t => ∃ j : Int, t = .int j ∧ -(2 ^ 62) ≤ j ∧ j < 2 ^ 62 ∧ P (rngT 0 j.toNat)
def wRng2 (a b : WE) : List Cell → (List T → Prop) → Prop := fun env P => a env fun t => b env fun u => ∃ i j : Int, t = .int i ∧ u = .int j ∧ (-(2 ^ 62) ≤ i ∧ i < 2 ^ 62 ∧ -(2 ^ 62) ≤ j ∧ j < 2 ^ 62) ∧ P (rngT i (j - i).toNat)
theorem srcR1_ {tg e it : Expr} {w : WE} (h : PEv ν R X e w) (hp : ∀ {te}, PE X e te → PI X tg it (iRng1 (tCons te tNil))) : PSrc κ R X tg it (wRng1 w) := by
  obtain ⟨te, h1, h2⟩ := h.ex
  refine ⟨_, hp h1, fun {F0 H0 F H σ env Q P} s sl hw k => h2 s sl hw fun {t v F1 H1} p s1 r => ?_⟩
  obtain ⟨j, rfl, p1, p2, p⟩ := p
  cases r
  exact ⟨j, rfl, p1, p2, k p s1 it_rng⟩
theorem srcR2_ {tg a b it : Expr} {wa wb : WE} (ha : PEv ν R X a wa) (hb : PEv μ R X b wb) (hp : ∀ {ta tb}, PE X a ta → PE X b tb → PI X tg it (iRng2 (tCons ta (tCons tb tNil)))) : PSrc κ R X tg it (wRng2 wa wb) := by
  obtain ⟨ta, a1, a2⟩ := ha.ex
  obtain ⟨tb, b1, b2⟩ := hb.ex
  refine ⟨_, hp a1 b1, fun {F0 H0 F H σ env Q P} s sl hw k => a2 s sl hw fun {t v F1 H1} p s1 r => ?_⟩
  refine b2 (s.trans s1) (sl.step s s1) p fun {u v2 F2 H2} p2 s2 r2 => ?_
  obtain ⟨i, j, rfl, rfl, q, p⟩ := p2
  cases r
  cases r2
  exact ⟨i, j, rfl, q, k p (s1.trans s2) it_rng⟩
/-- enumerate(a list) -/
def enumT (ts : List T) : List T := ts.zipIdx.map fun p => T.tup [.int (p.2 : Nat), p.1]
def wEnum (w : WE) : List Cell → (List T → Prop) → Prop := fun env P => w env fun t => ∃ ts, t = .lst ts ∧ P (enumT ts)
theorem enumT_get {ts : List T} {i : Nat} {t : T} (h : ts[i]? = some t) : (enumT ts)[i]? = some (.tup [.int (i : Nat), t]) := by
  unfold enumT
  rw [List.getElem?_map, List.getElem?_zipIdx, h]
  simp
theorem enumT_len {ts : List T} : (enumT ts).length = ts.length := by
  unfold enumT
  rw [List.length_map, List.length_zipIdx]
theorem srcE_ {tg e it : Expr} {w : WE} (h : PEv κ R X e w) (hκ : κ ≠ .M := by decide) (hp : ∀ {te}, PE X e te → PI X tg it (iEnum X.K (tCons te tNil))) : PSrc κ R X tg it (wEnum w) := by
  obtain ⟨te, h1, h2⟩ := h.ex
  refine ⟨_, hp h1, fun {F0 H0 F H σ env Q P} s sl hw k => h2 s sl hw fun {t v F1 H1} p s1 r => ?_⟩
  obtain ⟨ts, rfl, p⟩ := p
  cases r with
  | @lst a vs ts g l =>
    refine ⟨a, vs, rfl, SqL.of (base_H (s.trans s1) _ _ g), k p s1 fun {F' H'} s' e => ?_⟩
    have m := base_same hκ (s.trans s1) s' e
    have g' := SqL.of (K := X.K) (base_H s' _ _ (m _ _ g))
    have l' := l.mono m
    refine ⟨fun i hi => ?_, vs, g', by rw [enumT_len]; exact Nat.le_of_eq l.length⟩
    rw [enumT_len] at hi
    obtain ⟨v, hv, _⟩ := l'.get (List.getElem?_eq_getElem hi)
    refine ⟨⟨vs, v, g', hv⟩, fun x H3 y => ?_⟩
    obtain ⟨T0, x0, rfl, hT, rfl, y⟩ := y
    have hx := y vs g'
    obtain ⟨t, ht, hr⟩ := l'.getV hx
    have n := Step.newKeep s'.ok hT (.tup [.int (i : Nat), x0])
    refine ⟨_, n, _, enumT_get ht, ?_⟩
    have nb := base_step κ s' n
    have hb : Same (upd F' T0 (.tup [.int (i : Nat), x0])) (base κ R H0 (upd F' T0 (.tup [.int (i : Nat), x0])) (upd H' T0 (.tup [.int (i : Nat), x0]))) := base_le (κ := .S) (by cases κ <;> rfl) (s'.trans n)
    exact .tup (sqT_same hb (.inl (.inl upd_same))) (.cons (.int _) (.cons (hr.mono nb) .nil))
/-! targets -/
abbrev WG := T → List Cell → (List Cell → Prop) → Prop
abbrev WGs := List T → List Cell → (List Cell → Prop) → Prop
def Chg (js : List Nat) (σ σ' : List (Option V)) : Prop := ∀ vs : List Nat, (∀ j ∈ js, j ∈ vs) → wipe σ' vs = wipe σ vs
def EvG (K : PySem.W.Frag) (R : Rs) (κ : Kd) (js : List Nat) (g : TG) (w : WG) : Prop := ∀ {F0 H0 F H : Hp} {σ : List (Option V)} {env : List Cell} {x : V} {t : T} {Q : L2.St → Hp → Prop} {P : List Cell → Prop}, Step R F0 H0 F H → Sl K R H0 F H env σ → Rep K (base κ R H0 F H) x t → w t env P →
  (∀ {σ' env'}, P env' → Sl K R H0 F H env' σ' → Chg js σ σ' → Q σ' H) → g x σ H Q
def EvGs (K : PySem.W.Frag) (R : Rs) (κ : Kd) (js : List Nat) (g : TGs) (w : WGs) : Prop := ∀ {F0 H0 F H : Hp} {σ : List (Option V)} {env : List Cell} {xs : List V} {ts : List T} {Q : L2.St → Hp → Prop} {P : List Cell → Prop}, Step R F0 H0 F H → Sl K R H0 F H env σ → RepL K (base κ R H0 F H) xs ts → w ts env P →
  (∀ {σ' env'}, P env' → Sl K R H0 F H env' σ' → Chg js σ σ' → Q σ' H) → g xs σ H Q
structure PGv (κ : Kd) (js : List Nat) (R : Rs) (X : Cx) (e : Expr) (w : WG) : Prop where
  ex : ∃ g, PG X e g ∧ EvG X.K R κ js g w
structure PGsv (κ : Kd) (js : List Nat) (R : Rs) (X : Cx) (es : List Expr) (w : WGs) : Prop where
  ex : ∃ g, PGs X es g ∧ EvGs X.K R κ js g w
theorem wipe_set {i : Nat} {v : Option V} : ∀ {vs : List Nat} {σ : List (Option V)}, i ∈ vs → wipe (σ.set i v) vs = wipe σ vs := by
  intro vs
  induction vs with
  | nil => intro σ h; cases h
  | cons j vs ih =>
    intro σ h
    unfold wipe
    by_cases e : i ∈ vs
    · rw [ih e]
    · have ij : i = j := by
        rcases List.mem_cons.mp h with h | h
        · exact h
        · exact absurd h e
      subst ij
      have key : ∀ (ws : List Nat) (τ : List (Option V)), i ∉ ws → wipe (τ.set i v) ws = (wipe τ ws).set i v := by
        intro ws
        induction ws with
        | nil => intro τ _; rfl
        | cons k ws ih2 =>
          intro τ hn
          unfold wipe
          rw [ih2 τ (fun z => hn (List.mem_cons_of_mem _ z)), List.set_comm _ _ (fun z => hn (by rw [z]; exact List.mem_cons_self))]
      rw [key vs σ e, List.set_set]
theorem Chg.set {i : Nat} {v : Option V} {σ : List (Option V)} : Chg [i] σ (σ.set i v) := fun vs h => wipe_set (h i (List.mem_singleton_self i))
def gSet (i : Nat) (κ : Kd) : WG := fun t env P => P (env.set i (cellOf κ t))
theorem gnm_ (i : Nat) {e : Expr} (hκ : κ ≠ .M := by decide) (hg : PG X e (gName i)) : PGv κ [i] R X e (gSet i κ) :=
  ⟨_, hg, fun {F0 H0 F H σ env x t Q P} s sl r hw k => k hw (sl.set (cellOf_ok hκ r) fun t a e => absurd e cellOf_own) Chg.set⟩
def gNilT : WGs := fun ts env P => ts = [] ∧ P env
def gConsT (a : WG) (b : WGs) : WGs := fun ts env P => ∃ t r, ts = t :: r ∧ a t env fun env' => b r env' P
def gTupT (a : WGs) : WG := fun t env P => ∃ ts, t = .tup ts ∧ a ts env P
theorem gs0_ : PGsv κ [] R X [] gNilT := ⟨_, pgs_nil, fun {F0 H0 F H σ env xs ts Q P} s sl r hw k => by
  obtain ⟨rfl, hw⟩ := hw
  cases r
  exact ⟨rfl, k hw sl fun _ _ => rfl⟩⟩
theorem gs1_ {js ks : List Nat} {e : Expr} {es : List Expr} {a : WG} {b : WGs} (ha : PGv κ js R X e a) (hb : PGsv κ ks R X es b) (hp : ∀ {ga gb}, PG X e ga → PGs X es gb → PGs X (e :: es) (gCons ga gb) := by intro _ _ a b; exact pgs_cons a b) : PGsv κ (js ++ ks) R X (e :: es) (gConsT a b) := by
  obtain ⟨ga, a1, a2⟩ := ha.ex
  obtain ⟨gb, b1, b2⟩ := hb.ex
  refine ⟨_, hp a1 b1, fun {F0 H0 F H σ env xs ts Q P} s sl r hw k => ?_⟩
  obtain ⟨t, rest, rfl, hw⟩ := hw
  cases r with
  | @cons v vs _ _ h l =>
    refine ⟨v, vs, rfl, a2 s sl h hw fun {σ1 env1} p1 sl1 c1 => ?_⟩
    refine b2 s sl1 l p1 fun {σ2 env2} p2 sl2 c2 => k p2 sl2 fun ws hm => ?_
    rw [c2 ws fun j hj => hm j (List.mem_append_right _ hj), c1 ws fun j hj => hm j (List.mem_append_left _ hj)]
theorem RepL.len_of {K : PySem.W.Frag} {G : Hp} {vs : List V} {ts : List T} (h : RepL K G vs ts) : ts.length = vs.length := h.length.symm
theorem gtp_ {js : List Nat} {es : List Expr} {kk pos} {a : WGs} (ha : PGsv κ js R X es a) (hp : ∀ {t}, PGs X es t → PG X (.Tuple es kk pos) (gTup X.K es.length t) := by intro _ a; exact pg_tup rfl a) (hn : ∀ {ts env P}, a ts env P → ts.length = es.length) : PGv κ js R X (.Tuple es kk pos) (gTupT a) := by
  obtain ⟨ga, a1, a2⟩ := ha.ex
  refine ⟨_, hp a1, fun {F0 H0 F H σ env x t Q P} s sl r hw k => ?_⟩
  obtain ⟨ts, rfl, hw⟩ := hw
  cases r with
  | @tup b vs _ g l => exact ⟨b, vs, rfl, sqT_same (base_H s) g, by rw [l.length]; exact hn hw, a2 s sl l hw k⟩
theorem gs_len0 {ts : List T} {env : List Cell} {P : List Cell → Prop} (h : gNilT ts env P) : ts.length = 0 := by rw [h.1]; rfl
/-! for -/
def wFor (ws : List Cell → (List T → Prop) → Prop) (g : WG) (b : WS) : WS := fun W env => ws env fun ts => ∃ I : Nat → List Cell → Prop, I 0 env ∧
  (∀ i t env', ts[i]? = some t → I i env' → g t env' fun env2 => b { W with nx := I (i + 1), ct := I (i + 1), bk := W.nx } env2) ∧ ∀ env', I ts.length env' → W.nx env'
theorem for_ {js : List Nat} {tg it : Expr} {body : List Stmt} {pos} {ws : List Cell → (List T → Prop) → Prop} {g : WG} {b : WS} (hi : PSrc κ R X tg it ws) (hg : PGv κ js R X tg g) (hb : PSsv n R Wx X body b) (hp : ∀ {wi gg tb}, PI X tg it wi → PG X tg gg → PSs X body tb → PS X (.For tg it body [] pos) (tFor wi gg tb)) : PSv n R Wx X (.For tg it body [] pos) (wFor ws g b) := by
  obtain ⟨wi, i1, i2⟩ := hi.ex
  obtain ⟨gg, g1, g2⟩ := hg.ex
  obtain ⟨tb, b1, b2⟩ := hb.ex
  refine ⟨_, hp i1 g1 b1, fun {F0 H0 F H σ env D W} it s sl hw => i2 s sl hw fun {ts J F1 H1} p s1 ok => ?_⟩
  obtain ⟨I, h0, ht, hd⟩ := p
  refine ⟨fun i m σ H => m = ts.length - i ∧ i ≤ ts.length ∧ ∃ env F, Step R F0 H0 F H ∧ Same F1 F ∧ Sl X.K R H0 F H env σ ∧ I i env, ⟨_, rfl, Nat.zero_le _, env, F1, s.trans s1, Same.refl _, sl.step s s1, h0⟩, ?_⟩
  rintro i m σ H ⟨rfl, hi, env, F, s2, e, sl2, hI⟩
  obtain ⟨k1, k2⟩ := ok s2 e
  by_cases hlt : i < ts.length
  · obtain ⟨q1, q2⟩ := k1 i hlt
    refine .inr ⟨q1, fun σ' H' => ∃ env F, Step R F0 H0 F H' ∧ Same F1 F ∧ Sl X.K R H0 F H' env σ' ∧ I (i + 1) env, fun σ' H' z => ⟨ts.length - (i + 1), by omega, rfl, hlt, z⟩, fun x H3 y => ?_⟩
    obtain ⟨F3, s3, t, hT, hr⟩ := q2 x H3 y
    refine g2 (s2.trans s3) (sl2.step s2 s3) hr (ht i t env hT hI) fun {σ4 env4} p4 sl4 _ => ?_
    refine b2 (W := { W with nx := I (i + 1), ct := I (i + 1), bk := W.nx }) ⟨fun z s' e' sl' => ⟨_, _, s', (e.trans s3.f).trans e', sl', z⟩, fun z s' e' r => it.rt z s' (((s1.f.trans e).trans s3.f).trans e') r, fun z s' e' sl' => it.nx z s' (((s1.f.trans e).trans s3.f).trans e') sl', fun z s' e' sl' => ⟨_, _, s', (e.trans s3.f).trans e', sl', z⟩, fun z s' e' sl' x => it.ex z s' (((s1.f.trans e).trans s3.f).trans e') sl' x⟩ (s2.trans s3) sl4 p4
  · have e2 : i = ts.length := by omega
    subst e2
    exact .inl ⟨k2, it.nx (hd env hI) s2 (s1.f.trans e) sl2⟩
/-! list comprehensions -/
def wipeE (env : List Cell) : List Nat → List Cell
  | [] => env
  | v :: vs => (wipeE env vs).set v .un
theorem Sl.wipe {K : PySem.W.Frag} {H0 F H : Hp} {env : List Cell} {σ : List (Option V)} (h : Sl K R H0 F H env σ) : ∀ vs : List Nat, Sl K R H0 F H (wipeE env vs) (L2.wipe σ vs)
  | [] => h
  | v :: vs => by
    have ih := h.wipe vs
    unfold wipeE L2.wipe
    refine ⟨by rw [List.length_set, List.length_set, ih.len], fun j d q => ?_, fun j k tj tk a q1 q2 q3 q4 => ?_⟩
    · by_cases e : v = j
      · subst e
        have hl : v < (wipeE env vs).length := by
          rcases Nat.lt_or_ge v (wipeE env vs).length with z | z
          · exact z
          · rw [List.getElem?_eq_none (by rw [List.length_set]; exact z)] at q
            cases q
        rw [List.getElem?_set_self hl] at q
        cases q
        exact ⟨_, List.getElem?_set_self (by rw [ih.len]; exact hl), trivial⟩
      · rw [List.getElem?_set_ne e] at q
        obtain ⟨s, h1, h2⟩ := ih.ok j d q
        exact ⟨s, by rw [List.getElem?_set_ne e]; exact h1, h2⟩
    · have f : ∀ {m : Nat} {u : T} {b : Addr}, ((wipeE env vs).set v .un)[m]? = some (Cell.own u) → ((L2.wipe σ vs).set v none)[m]? = some (some (.ref b)) → (wipeE env vs)[m]? = some (Cell.own u) ∧ (L2.wipe σ vs)[m]? = some (some (.ref b)) := by
        intro m u b z1 z2
        by_cases e : v = m
        · subst e
          have hl : v < (wipeE env vs).length := by
            rcases Nat.lt_or_ge v (wipeE env vs).length with z | z
            · exact z
            · rw [List.getElem?_eq_none (by rw [List.length_set]; exact z)] at z1
              cases z1
          rw [List.getElem?_set_self hl] at z1
          cases z1
        · rw [List.getElem?_set_ne e] at z1 z2
          exact ⟨z1, z2⟩
      obtain ⟨a1, a2⟩ := f q1 q3
      obtain ⟨b1, b2⟩ := f q2 q4
      exact ih.ds j k tj tk a a1 b1 a2 b2
theorem wipe_wipe {σ : List (Option V)} : ∀ {vs ws : List Nat}, (∀ v ∈ ws, v ∈ vs) → L2.wipe (L2.wipe σ ws) vs = L2.wipe σ vs
  | vs, [], _ => rfl
  | vs, w :: ws, h => by
    rw [L2.wipe, wipe_set (h w List.mem_cons_self)]
    exact wipe_wipe fun v hv => h v (List.mem_cons_of_mem _ hv)
def wLc (ws : List Cell → (List T → Prop) → Prop) (g : WG) (c : WT) (e : WE) (vs : List Nat) : WE := fun env P => ws env fun ts => ts.length ≤ 1000000 ∧ ∃ I : Nat → List T → Prop, I 0 [] ∧
  (∀ i t acc, ts[i]? = some t → I i acc → g t (wipeE env vs) fun env2 => c env2 fun b => if b = true then e env2 fun y => I (i + 1) (acc ++ [y]) else I (i + 1) acc) ∧ ∀ acc, I ts.length acc → P (.lst acc)
def wYes : WT := fun _ P => P true
theorem evYes {K : PySem.W.Frag} : EvT K R tYes wYes := fun s _ hw k => k hw (Step.refl s.ok)
theorem evLc {js vs : List Nat} {wi : TI} {gg : TG} {tt : TT} {te : TE} {ws : List Cell → (List T → Prop) → Prop} {g : WG} {c : WT} {e : WE} (i2 : EvSrc X.K R κ wi ws) (g2 : EvG X.K R κ js gg g) (c2 : EvT X.K R tt c) (e2 : EvE X.K R .S te e) (hj : ∀ j ∈ js, j ∈ vs) : EvN X.K R (tLc wi gg tt te vs) (wLc ws g c e vs) := by
  intro F0 H0 F H σ env Q P s sl hw k
  refine i2 s sl hw fun {ts J F1 H1} p s1 ok D hD => ?_
  obtain ⟨hz, I, h0, ht, hd⟩ := p
  have ad := s1.ok.adNew hD
  have fD := s1.ok.free hD
  have hD0 : H D = none := by
    have := s1.g.free (sans_none (ad := R.ad) hD)
    rw [sans_of ad] at this
    exact this
  have n := Step.new s1.ok hD (.lst [])
  refine ⟨fun i m H' => m = ts.length - i ∧ i ≤ ts.length ∧ ∃ F' acc vs, Step R F1 H1 F' H' ∧ H' D = some (.lst vs) ∧ F' D = none ∧ RepL X.K F' vs acc ∧ acc.length ≤ i ∧ I i acc, ⟨_, rfl, Nat.zero_le _, F1, [], [], n, upd_same, fD, .nil, Nat.le_refl _, h0⟩, ?_⟩
  rintro i m H' ⟨rfl, hi, F', acc, us, s2, hDs, fD', rl, hac, hI⟩
  have s3 := (s.trans s1).trans s2
  obtain ⟨k1, k2⟩ := ok s3 s2.f
  by_cases hlt : i < ts.length
  · obtain ⟨q1, q2⟩ := k1 i hlt
    refine .inr ⟨q1, fun H' => ∃ F' acc vs, Step R F1 H1 F' H' ∧ H' D = some (.lst vs) ∧ F' D = none ∧ RepL X.K F' vs acc ∧ acc.length ≤ i + 1 ∧ I (i + 1) acc, fun H' z => ⟨ts.length - (i + 1), by omega, rfl, hlt, z⟩, fun x H3 y => ?_⟩
    obtain ⟨F3, s4, t, hT, hr⟩ := q2 x H3 y
    have keepD : ∀ {Fa Ha Fb Hb : Hp} {ws : List V}, Ha D = some (.lst ws) → Fa D = none → Step R Fa Ha Fb Hb → Hb D = some (.lst ws) ∧ Fb D = none := by
      intro Fa Ha Fb Hb ws a1 a2 x
      have y := x.g D _ (by rw [sans_of ad]; exact a1)
      refine ⟨(sans_some y).2, ?_⟩
      cases q : Fb D with
      | none => rfl
      | some o =>
        have := x.n D o q a2
        rw [sans_of ad, a1] at this
        cases this
    have s34 := s3.trans s4
    obtain ⟨d3, e3⟩ := keepD hDs fD' s4
    have slw := ((sl.step s ((s1.trans s2).trans s4)).wipe vs)
    refine g2 s34 slw hr (ht i t acc hT hI) fun {σ4 env4} p4 sl4 c4 => ⟨by rw [c4 vs hj, wipe_wipe fun v hv => hv], ?_⟩
    refine c2 s34 sl4 p4 fun {b F5 H5} p5 s5 => ?_
    obtain ⟨d5, e5⟩ := keepD d3 e3 s5
    cases b with
    | true =>
      refine iteT (e2 (s34.trans s5) (sl4.step s34 s5) (by simpa using p5) fun {y v F6 H6} p6 s6 r6 => ?_)
      obtain ⟨d6, e6⟩ := keepD d5 e5 s6
      have rl6 := rl.mono (((s4.f.trans s5.f)).trans s6.f)
      refine ⟨us, d6, by rw [rl.length]; exact sz_lt (by omega), F6, acc ++ [y], us ++ [v], ?_, upd_same, e6, rl6.append (.cons r6 .nil), by rw [List.length_append]; simp; omega, p6⟩
      exact (((s2.trans s4).trans s5).trans s6).mut e6 ad hD
    | false =>
      exact iteF ⟨F5, acc, us, (s2.trans s4).trans s5, d5, e5, rl.mono (s4.f.trans s5.f), by omega, by simpa using p5⟩
  · have e2 : i = ts.length := by omega
    subst e2
    exact .inl ⟨k2, k (hd acc hI) (s1.trans s2) ⟨D, rfl, hD0, ad, fD', us, hDs, rl⟩⟩
end
end Tv
/-! more rules; the hand of drawn numbers over tree values -/
namespace Tv
open PySem PySem.Spec PyProof.Rows L2 Lw
def tgOf (κ : Kd) (K : PySem.W.Frag) (R : Rs) (js : List Nat) (w : WG) : TG := fun x σ H Q => ∃ (F0 H0 F : Hp) (env : List Cell) (t : T) (P : List Cell → Prop), Step R F0 H0 F H ∧ Sl K R H0 F H env σ ∧ Rep K (base κ R H0 F H) x t ∧ w t env P ∧ ∀ σ' env', P env' → Sl K R H0 F H env' σ' → Chg js σ σ' → Q σ' H
section
variable {R : Rs} {Wx : WX} {X : Cx} {κ ν μ : Kd}
theorem PGv.canon {js : List Nat} {e : Expr} {w : WG} (h : PGv κ js R X e w) : PG X e (tgOf κ X.K R js w) := by
  obtain ⟨t, h1, h2⟩ := h.ex
  refine ⟨fun pins s σ H v u Q I r q => h1.run pins s σ H v u Q I r ?_⟩
  obtain ⟨F0, H0, F, env, tt, P, a, b, c, d, k⟩ := q
  exact h2 a b c d fun p sl ch => k _ _ p sl ch
theorem tgOf_ev {K : PySem.W.Frag} {js : List Nat} {w : WG} : EvG K R κ js (tgOf κ K R js w) w := fun s sl r hw k => ⟨_, _, _, _, _, _, s, sl, r, hw, fun _ _ p sl c => k p sl c⟩
theorem teOf_ev {K : PySem.W.Frag} {w : WE} : EvE K R κ (teOf κ K R w) w := fun s sl hw k => ⟨_, _, _, _, _, s, sl, hw, fun _ _ _ _ p s r => k p s r⟩
theorem ttOf_ev {K : PySem.W.Frag} {w : WT} : EvT K R (ttOf K R w) w := fun s sl hw k => ⟨_, _, _, _, _, s, sl, hw, fun _ _ _ p s => k p s⟩
/-- [e for x in s] -/
theorem plc_ {js : List Nat} {elt tg iter : Expr} {scope : Scope} {own : List (Str × Nat)} {pos : Pos} {ws : List Cell → (List T → Prop) → Prop} {g : WG} {e : WE} (hc : X.calm = true) (hN : X.N.Nodup) (hi : PSrc κ R X tg iter ws) (ok : BlkOk X.N X.env.scope scope own)
    (hg : ∀ (s : Shared) (H : Hp) (C : Addr) (cl : List (Str × Addr)) (fp : List Addr), PGv κ js R (X.blk s H scope (compEnvC scope cl C X.env) fp) tg g)
    (he : ∀ (s : Shared) (H : Hp) (C : Addr) (cl : List (Str × Addr)) (fp : List Addr), PEv .S R (X.blk s H scope (compEnvC scope cl C X.env) fp) elt e) (hj : js.all (fun j => (own.map (·.2)).contains j) = true) (hs : ∀ x, foldedSetIterable iter X.env x = pure x := by intro _; rfl) :
    PEn R X (.ListComp elt [⟨tg, iter, [], 0⟩] scope pos) (wLc ws g wYes e (own.map (·.2))) := by
  obtain ⟨wi, i1, i2⟩ := hi.ex
  refine ⟨_, pe_lc (te := teOf .S X.K R e) (g := tgOf κ X.K R js g) hc hN i1 ok (fun s H C cl fp => (hg s H C cl fp).canon) (fun _ _ _ _ _ => pts_nil) (fun s H C cl fp => (he s H C cl fp).canon) hs, ?_⟩
  exact evLc i2 tgOf_ev evYes teOf_ev fun j m => by simpa using List.all_eq_true.mp hj j m
/-- [e for x in s if c] -/
theorem plci_ {js : List Nat} {elt tg iter c : Expr} {scope : Scope} {own : List (Str × Nat)} {pos : Pos} {ws : List Cell → (List T → Prop) → Prop} {g : WG} {e : WE} {wc : WT} (hc : X.calm = true) (hN : X.N.Nodup) (hi : PSrc κ R X tg iter ws) (ok : BlkOk X.N X.env.scope scope own)
    (hg : ∀ (s : Shared) (H : Hp) (C : Addr) (cl : List (Str × Addr)) (fp : List Addr), PGv κ js R (X.blk s H scope (compEnvC scope cl C X.env) fp) tg g)
    (ht : ∀ (s : Shared) (H : Hp) (C : Addr) (cl : List (Str × Addr)) (fp : List Addr), PTv R (X.blk s H scope (compEnvC scope cl C X.env) fp) c wc)
    (he : ∀ (s : Shared) (H : Hp) (C : Addr) (cl : List (Str × Addr)) (fp : List Addr), PEv .S R (X.blk s H scope (compEnvC scope cl C X.env) fp) elt e) (hj : js.all (fun j => (own.map (·.2)).contains j) = true) (hs : ∀ x, foldedSetIterable iter X.env x = pure x := by intro _; rfl) :
    PEn R X (.ListComp elt [⟨tg, iter, [c], 0⟩] scope pos) (wLc ws g wc e (own.map (·.2))) := by
  obtain ⟨wi, i1, i2⟩ := hi.ex
  refine ⟨_, pe_lc (te := teOf .S X.K R e) (tt := ttOf X.K R wc) (g := tgOf κ X.K R js g) hc hN i1 ok (fun s H C cl fp => (hg s H C cl fp).canon) (fun s H C cl fp => pts_one (ht s H C cl fp).canon) (fun s H C cl fp => (he s H C cl fp).canon) hs, ?_⟩
  exact evLc i2 tgOf_ev ttOf_ev teOf_ev fun j m => by simpa using List.all_eq_true.mp hj j m
theorem evSet {n : Bool} {te : TE} {w : WE} (i : Nat) (h2 : EvE X.K R κ te w) (hκ : κ ≠ .M) : EvS n X.K R Wx (tAsg te (gName i)) (wSet i κ w) := by
  intro F0 H0 F H σ env D W it s sl hw
  refine h2 s sl hw fun {t v F1 H1} p s1 r1 => ?_
  exact it.nx p (s.trans s1) s1.f ((sl.step s s1).set (cellOf_ok hκ r1) fun t a e => absurd e cellOf_own)
theorem evSetN {n : Bool} {te : TE} {w : WE} (i : Nat) (h2 : EvN X.K R te w) : EvS n X.K R Wx (tAsg te (gName i)) (wSetN i w) := by
  intro F0 H0 F H σ env D W it s sl hw
  refine h2 s sl hw fun {t v F1 H1} p s1 r1 => ?_
  obtain ⟨a, rfl, z0, za, zf, zo⟩ := r1.ex
  have h0 : H0 a = none := by
    have := s.g.free (sans_none (ad := R.ad) z0)
    rw [sans_of za] at this
    exact this
  refine it.nx p (s.trans s1) s1.f ((sl.step s s1).set ⟨a, rfl, zf, za, h0, zo⟩ fun u b e1 e2 j tj q1 q2 => ?_)
  cases e2
  obtain ⟨c, c1, d, c2, _, _, _, c5⟩ := sl.ok j _ q1
  rw [q2] at c1
  cases c1
  cases c2
  obtain ⟨o, ho⟩ := c5.obj_
  rw [z0] at ho
  cases ho
theorem EvN.keep {te : TE} {w : WE} (h : EvN X.K R te w) : EvE X.K R .S te w := fun s sl hw k => h s sl hw fun p x r => by
  obtain ⟨F'', y, z⟩ := r.keep x
  exact k p y z
/-- y = [e for x in s] | with a test | y, changed later -/
theorem setLc_ {n : Bool} {js : List Nat} (i : Nat) {elt tg iter : Expr} {scope : Scope} {own : List (Str × Nat)} {pos py spos : Pos} {y : Str} {ws : List Cell → (List T → Prop) → Prop} {g : WG} {e : WE} (hc : X.calm = true) (hN : X.N.Nodup) (hy : X.N[i]? = some y) (hyl : X.env.scope.names.lookup y = some .local)
    (hsw : swapsWith (.ListComp elt [⟨tg, iter, [], 0⟩] scope pos) (some (.Name y py)) spos.line X.env = pure true) (hi : PSrc κ R X tg iter ws) (ok : BlkOk X.N X.env.scope scope own)
    (hg : ∀ (s : Shared) (H : Hp) (C : Addr) (cl : List (Str × Addr)) (fp : List Addr), PGv κ js R (X.blk s H scope (compEnvC scope cl C X.env) fp) tg g)
    (he : ∀ (s : Shared) (H : Hp) (C : Addr) (cl : List (Str × Addr)) (fp : List Addr), PEv .S R (X.blk s H scope (compEnvC scope cl C X.env) fp) elt e) (hj : js.all (fun j => (own.map (·.2)).contains j) = true) (hs : ∀ x, foldedSetIterable iter X.env x = pure x := by intro _; rfl) :
    PSv n R Wx X (.Assign [.Name y py] (.ListComp elt [⟨tg, iter, [], 0⟩] scope pos) spos) (wSet i .S (wLc ws g wYes e (own.map (·.2)))) := by
  obtain ⟨wi, i1, i2⟩ := hi.ex
  refine ⟨_, ps_setLc (te := teOf .S X.K R e) (g := tgOf κ X.K R js g) hc hN hy hyl hsw i1 ok (fun s H C cl fp => (hg s H C cl fp).canon) (fun _ _ _ _ _ => pts_nil) (fun s H C cl fp => (he s H C cl fp).canon) hs, ?_⟩
  exact evSet i (EvN.keep (evLc i2 tgOf_ev evYes teOf_ev fun j m => by simpa using List.all_eq_true.mp hj j m)) (by decide)
theorem setLci_ {n : Bool} {js : List Nat} (i : Nat) {elt tg iter c : Expr} {scope : Scope} {own : List (Str × Nat)} {pos py spos : Pos} {y : Str} {ws : List Cell → (List T → Prop) → Prop} {g : WG} {e : WE} {wc : WT} (hc : X.calm = true) (hN : X.N.Nodup) (hy : X.N[i]? = some y) (hyl : X.env.scope.names.lookup y = some .local)
    (hsw : swapsWith (.ListComp elt [⟨tg, iter, [c], 0⟩] scope pos) (some (.Name y py)) spos.line X.env = pure true) (hi : PSrc κ R X tg iter ws) (ok : BlkOk X.N X.env.scope scope own)
    (hg : ∀ (s : Shared) (H : Hp) (C : Addr) (cl : List (Str × Addr)) (fp : List Addr), PGv κ js R (X.blk s H scope (compEnvC scope cl C X.env) fp) tg g)
    (ht : ∀ (s : Shared) (H : Hp) (C : Addr) (cl : List (Str × Addr)) (fp : List Addr), PTv R (X.blk s H scope (compEnvC scope cl C X.env) fp) c wc)
    (he : ∀ (s : Shared) (H : Hp) (C : Addr) (cl : List (Str × Addr)) (fp : List Addr), PEv .S R (X.blk s H scope (compEnvC scope cl C X.env) fp) elt e) (hj : js.all (fun j => (own.map (·.2)).contains j) = true) (hs : ∀ x, foldedSetIterable iter X.env x = pure x := by intro _; rfl) :
    PSv n R Wx X (.Assign [.Name y py] (.ListComp elt [⟨tg, iter, [c], 0⟩] scope pos) spos) (wSet i .S (wLc ws g wc e (own.map (·.2)))) := by
  obtain ⟨wi, i1, i2⟩ := hi.ex
  refine ⟨_, ps_setLc (te := teOf .S X.K R e) (tt := ttOf X.K R wc) (g := tgOf κ X.K R js g) hc hN hy hyl hsw i1 ok (fun s H C cl fp => (hg s H C cl fp).canon) (fun s H C cl fp => pts_one (ht s H C cl fp).canon) (fun s H C cl fp => (he s H C cl fp).canon) hs, ?_⟩
  exact evSet i (EvN.keep (evLc i2 tgOf_ev ttOf_ev teOf_ev fun j m => by simpa using List.all_eq_true.mp hj j m)) (by decide)
/-! built-in calls of flat answers -/
/-- a built-in call by what stands at its arguments -/
def RC (K : PySem.W.Frag) (R : Rs) (κs : List Kd) (μ : Kd) (r : List V → Hp → VK → Prop) (f : List T → (T → Prop) → Prop) : Prop := ∀ {F0 H0 F H : Hp} {vs : List V} {ts : List T} {Q : VK} {P : T → Prop}, Step R F0 H0 F H → RepA K R H0 F H κs vs ts → f ts P →
  (∀ {t v F' H'}, P t → Step R F H F' H' → Rep K (base μ R H0 F' H') v t → Q v H') → r vs H Q
def wCB (f : List T → (T → Prop) → Prop) (a : WA) : WE := fun env P => a env fun ts => f ts P
theorem pcb_ {κs : List Kd} {e : Expr} {es : List Expr} {wa : WA} {r : List V → Hp → VK → Prop} {f : List T → (T → Prop) → Prop} (hr : RC X.K R κs μ r f) (hp : ∀ {ta}, PA X es ta → PE X e (tCB r ta)) (ha : PAv κs R X es wa) : PEv μ R X e (wCB f wa) := by
  obtain ⟨ta, a1, a2⟩ := ha.ex
  refine ⟨_, hp a1, fun {F0 H0 F H σ env Q P} s sl hw k => a2 s sl hw fun {ts vs F1 H1} p s1 r1 => ?_⟩
  exact hr (s.trans s1) r1 p fun p s2 r2 => k p (s1.trans s2) r2
def fInt1 (ts : List T) (P : T → Prop) : Prop := ∃ i, ts = [.int i] ∧ P (.int i)
theorem rc_int1 : RC X.K R [κ] μ (fun xs H Q => (∃ i, xs = [.int i] ∧ Q (.int i) H) ∨ ∃ k, xs = [.bl k] ∧ Q (.int (if k then 1 else 0)) H) fInt1 := by
  intro F0 H0 F H vs ts Q P s r f k
  obtain ⟨i, rfl, p⟩ := f
  cases r with
  | cons h l =>
    cases h
    cases l
    exact .inl ⟨i, rfl, k p (Step.refl s.ok) (.int _)⟩
def fMin2 (ts : List T) (P : T → Prop) : Prop := ∃ i j, ts = [.int i, .int j] ∧ P (.int (if j < i then j else i))
theorem rc_min2 : RC X.K R [κ, ν] μ (fun xs H Q => ∃ i j, xs = [.int i, .int j] ∧ Q (.int (if j < i then j else i)) H) fMin2 := by
  intro F0 H0 F H vs ts Q P s r f k
  obtain ⟨i, j, rfl, p⟩ := f
  cases r with
  | cons h l =>
    cases h
    cases l with
    | cons h l =>
      cases h
      cases l
      exact ⟨i, j, rfl, k p (Step.refl s.ok) (.int _)⟩
/-! a def that may be called -/
structure Cl (P : Program) (w : World) (K : PySem.W.Frag) (mg : Str → Option Value) (base : Heap) (k : Nat) (x : Str) (sp : Sp) : Prop where
  ex : ∃ (f : Addr) (fd : FuncData) (ps : List Str), FnOk P w K mg base CX0 k f fd ps sp ∧ mg x = some (.ref f) ∧ PySem.W.keepIn K (.ref f) = true ∧ Binds K fd ps []
theorem Cl.pe {j k : Nat} {x : Str} {sp : Sp} {e : Expr} {es : List Expr} {p pos : Pos} {t : TA} (c : Cl X.prog X.w X.K X.mg X.base k x sp) (hr : Room j X.A) (hk : k ≤ j) (hg : Gl X x) (ha : PA X (e :: es) t) (hdb : (x == ("__debug__" : Str)) = false := by decide)
    (he : starEach (e :: es) X.env = (false, eval e X.env) :: starEach es X.env := by rfl) (hpl : (backTo pos (starEach es X.env)).any (·.1) = false := by rfl) : PE X (.Call (.Name x p) (e :: es) [] pos) (tCall sp [] (fun _ _ _ => False) t) := by
  obtain ⟨f, fd, ps, G, m, kp, b⟩ := c.ex
  exact pe_call G (hr.mono hk) hg m kp b .nil pass0 ha hdb he hpl
theorem Cl.imp {P : Program} {w : World} {K : PySem.W.Frag} {mg : Str → Option Value} {base : Heap} {k : Nat} {x : Str} {sp sp' : Sp} (c : Cl P w K mg base k x sp) (h : ∀ vs H Q E, sp' vs H Q E → sp vs H Q E) : Cl P w K mg base k x sp' := by
  obtain ⟨f, fd, ps, G, m, kp, b⟩ := c.ex
  exact ⟨f, fd, ps, G.imp h, m, kp, b⟩
end
/-! the hand -/
def handR (p q : Addr) (r : Option Addr) : Rs where
  ad a := decide (a = p) || (decide (a = q) || decide (some a = r))
  inv H := HandAt H p q ∧ (some p ≠ r ∧ some q ≠ r) ∧ ∀ b, r = some b → ∃ x y z : Int, H b = some (.lst [.int x, .int y, .int z])
  al {H a} h e := by
    obtain ⟨⟨⟨i, b, c, s, h1⟩, ns, h2, _⟩, _, h3⟩ := h
    simp only [Bool.or_eq_true, decide_eq_true_eq] at e
    rcases e with rfl | rfl | e
    · rw [h1]
      exact fun z => by cases z
    · rw [h2]
      exact fun z => by cases z
    · obtain ⟨x, y, z, h⟩ := h3 a e.symm
      rw [h]
      exact fun z => by cases z
  loc {H H'} h e := by
    obtain ⟨⟨⟨i, b, c, s, h1⟩, ns, h2, h4⟩, h5, h3⟩ := h
    have ep := e p (by simp)
    have eq_ := e q (by simp)
    refine ⟨⟨⟨i, b, c, s, by rw [ep]; exact h1⟩, ns, by rw [eq_]; exact h2, h4⟩, h5, fun d hd => ?_⟩
    obtain ⟨x, y, z, h⟩ := h3 d hd
    exact ⟨x, y, z, by rw [e d (by simp [hd])]; exact h⟩
theorem hand_step {p q : Addr} {r : Option Addr} {F H H' : Hp} (ok : Ok (handR p q r) F H) (h : HandAt H' p q) (e : Else p H H') : Step (handR p q r) F H F H' := by
  have np : ∀ {b}, (handR p q r).ad b = false → b ≠ p := fun {b} z e => by
    subst e
    simp [handR] at z
  have g : Same (sans (handR p q r).ad H) (sans (handR p q r).ad H') := fun b o z => by
    obtain ⟨z1, z2⟩ := sans_some z
    rw [sans_of z1]
    exact e b o z2 (np z1)
  refine ⟨Same.refl _, g, fun a o x y => (by rw [y] at x; cases x), ok.sub.trans g, h, ok.inv.2.1, fun b hb => ?_⟩
  obtain ⟨x, y, z, h3⟩ := ok.inv.2.2 b hb
  refine ⟨x, y, z, e b _ h3 ?_⟩
  rintro rfl
  exact ok.inv.2.1.1 hb.symm
theorem hand_np {p q : Addr} {r : Option Addr} {F H : Hp} (ok : Ok (handR p q r) F H) {b : Addr} {o : HO} (h : sans (handR p q r).ad H b = some o) : b ≠ p ∧ b ≠ q := by
  obtain ⟨z, _⟩ := sans_some h
  simp [handR] at z
  exact ⟨z.1, z.2.1⟩
/-- drawn: any number below m -/
def cDraw (R : Rs) (ts : List T) (P : T → Prop) : Prop := ∃ (p q : Addr) (r : Option Addr) (m : Int), R = handR p q r ∧ ts = [.op (.ref p), .int m] ∧ 0 < m ∧ m < 1073741824 ∧ ∀ i : Int, 0 ≤ i → i < m → P (.int i)
theorem draw_spT {K : PySem.W.Frag} {vs : List V} {H : Hp} {Q : VK} {E : XK} (h : spT K [.S, .S] false cDraw vs H Q E) : spDraw vs H Q E := by
  obtain ⟨R, F, ts, P, ok, r, ⟨p, q, ro, m, rfl, rfl, m0, m1, k⟩, hq⟩ := h
  cases r with
  | cons h l =>
    cases h
    cases l with
    | cons h l =>
      cases h
      cases l
      exact ⟨p, q, m, rfl, ok.inv.1, m0, m1, fun i H' i0 i1 hh e => hq _ _ _ _ (k i i0 i1) (hand_step ok hh e) (.int _)⟩
end Tv
/-! isinstance, truth, chains, stars, fields over tree values -/
namespace Tv
open PySem PySem.Spec PyProof.Rows L2
def tyN : T → Option String
  | .non => some "NoneType"
  | .bl _ => some "bool"
  | .int _ => some "int"
  | .str _ => some "str"
  | .tup _ => some "tuple"
  | .lst _ => some "list"
  | .dic _ => some "dict"
  | _ => none
theorem rep_ty {K : PySem.W.Frag} {G : Hp} {v : V} {t : T} {n : String} (r : Rep K G v t) (h : tyN t = some n) : TyX K G v (.type n) := by
  cases r with
  | non => cases h; exact .base .non
  | bl b => cases h; exact .base (.bl b)
  | int i => cases h; exact .base (.int i)
  | str i => cases h; exact .base (.str i)
  | tup g l =>
    cases h
    rcases g with (g | ⟨o, g⟩) | ⟨o, its, m, g1, g2, _⟩
    · exact .base (.tup g)
    · exact .fTuple g
    · exact .kTuple g1 g2
  | lst g l => cases h; exact .base (.lst g)
  | dicK g l => cases h; exact .base (.dK g)
  | dicT g l => cases h; exact .base (.dT g)
  | obj g l => cases h
  | op v => cases h
  | exc g l => cases h
  | mk g l => cases h
theorem tyX_mono {K : PySem.W.Frag} {G H : Hp} {v : V} {t : Value} (e : Same G H) (h : TyX K G v t) : TyX K H v t := by
  cases h with
  | base h =>
    refine .base ?_
    cases h with
    | non => exact .non
    | bl b => exact .bl b
    | int i => exact .int i
    | str i => exact .str i
    | flt i => exact .flt i
    | lst q => exact .lst (e _ _ q)
    | frz q => exact .frz (e _ _ q)
    | tup q => exact .tup (e _ _ q)
    | dK q => exact .dK (e _ _ q)
    | dT q => exact .dT (e _ _ q)
    | ins q a b c d f => exact .ins (e _ _ q) a b c d f
  | byt b => exact .byt b
  | set q => exact .set (e _ _ q)
  | kList a b => exact .kList a b
  | kTuple a b => exact .kTuple a b
  | kDict a b => exact .kDict a b
  | fTuple a => exact .fTuple (e _ _ a)
  | fDict a => exact .fDict (e _ _ a)
section
variable {R : Rs} {Wx : WX} {X : Cx} {κ ν μ : Kd}
/-- a built-in class as a value -/
theorem pty_ {e : Expr} {T0 : String} (h : PE X e (tC (.ty T0))) : PEv κ R X e (wC (.op (.ty T0))) := pc_ h fun _ => .op _
def isiT (x : T) (T0 : String) : Option Bool := (tyN x).bind fun n => kitB n T0
def fIsi (ts : List T) (P : T → Prop) : Prop := ∃ x T0 b, ts = [x, .op (.ty T0)] ∧ isiT x T0 = some b ∧ P (.bl b)
theorem rc_isi : RC X.K R [κ, ν] μ (rIsi X.K) fIsi := by
  intro F0 H0 F H vs ts Q P s r f k
  obtain ⟨x, T0, b, rfl, kk, p⟩ := f
  obtain ⟨n, ty, kb⟩ := Option.bind_eq_some_iff.mp kk
  cases r with
  | cons h l =>
    cases l with
    | cons h2 l =>
      cases l
      cases h2
      exact ⟨_, _, _, _, b, rfl, .ty T0, tyX_mono (base_H s) (rep_ty h ty), kit_ty kb, k p (Step.refl s.ok) (.bl _)⟩
/-! x in a row of flat things -/
def eqF : T → T → Bool
  | .non, .non => true
  | .bl a, .bl b => a == b
  | .bl a, .int b => (if a then 1 else 0) == b
  | .int a, .bl b => a == (if b then 1 else 0)
  | .int a, .int b => a == b
  | .str a, .str b => a == b
  | _, _ => false
theorem eqF_rep {K : PySem.W.Frag} {G G' : Hp} {v u : V} {t s : T} (a : Rep K G v t) (b : Rep K G' u s) (ft : flatT t = true) (fs : flatT s = true) : eqV v u = eqF t s := by
  cases a <;> first | cases ft | skip
  all_goals cases b <;> first | rfl | cases fs
theorem any_rep {K : PySem.W.Frag} {G G' : Hp} {v : V} {t : T} (a : Rep K G v t) (ft : flatT t = true) : ∀ {vs : List V} {ts : List T}, RepL K G' vs ts → ts.all flatT = true → (vs.any fun y => eqV y v) = ts.any fun z => eqF z t
  | _, _, .nil, _ => rfl
  | _, _, .cons h l, f => by
    rw [List.all_cons, Bool.and_eq_true] at f
    rw [List.any_cons, List.any_cons, any_rep a ft l f.2, eqF_rep h a f.1 ft]
theorem all_flat {K : PySem.W.Frag} {G : Hp} : ∀ {vs : List V} {ts : List T}, RepL K G vs ts → ts.all flatT = true → vs.all flatV = true
  | _, _, .nil, _ => rfl
  | _, _, .cons h l, f => by
    rw [List.all_cons, Bool.and_eq_true] at f
    rw [List.all_cons, all_flat l f.2, (h.flat (G' := G) f.1).1]
    rfl
def fInF (neg : Bool) (x y : T) (P : T → Prop) : Prop := ∃ ts, seqT y = some ts ∧ flatT x = true ∧ ts.all flatT = true ∧ P (.bl (if neg then !(ts.any fun z => eqF z x) else ts.any fun z => eqF z x))
theorem re_inF (neg : Bool) : RE X.K R κ ν μ (rIn X.K neg) (fInF neg) := by
  intro F0 H0 F H x y tx ty Q P s hx hy f k
  obtain ⟨ts, q, fx, fs, p⟩ := f
  have m : Same (base ν R H0 F H) H := base_H s
  have key : ∀ {a : Addr} {vs : List V}, (SqL X.K H a vs ∨ SqT X.K H a vs) → RepL X.K (base ν R H0 F H) vs ts → rIn X.K neg x (.ref a) H Q := fun {a vs} h l =>
    ⟨a, vs, rfl, h, (hx.flat (G' := F) fx).1, all_flat l fs, k p (Step.refl s.ok) (by unfold inV; rw [any_rep hx fx l fs]; exact .bl _)⟩
  cases hy with
  | lst g l =>
    cases q
    exact key (.inl (SqL.of (m _ _ g))) l
  | tup g l =>
    cases q
    exact key (.inr (sqT_same m g)) l
  | _ => cases q
/-! truth -/
def truT : T → Option Bool
  | .non => some false
  | .bl b => some b
  | .int i => some (i != 0)
  | .tup ts | .lst ts => some (!ts.isEmpty)
  | _ => none
theorem tru_rep {K : PySem.W.Frag} {G H : Hp} {v : V} {t : T} {b : Bool} (r : Rep K G v t) (e : Same G H) (h : truT t = some b) : TruV K v H b := by
  have em : ∀ {vs : List V} {ts : List T}, RepL K G vs ts → vs.isEmpty = ts.isEmpty := fun l => by cases l <;> rfl
  cases r with
  | non => cases h; rfl
  | bl b => cases h; rfl
  | int i => cases h; rfl
  | str i => cases h
  | tup g l => cases h; exact .inr (.inl ⟨_, sqT_same e g, by rw [em l]⟩)
  | lst g l => cases h; exact .inl ⟨_, SqL.of (e _ _ g), by rw [em l]⟩
  | _ => cases h
def wTru (w : WE) : WT := fun env P => w env fun t => ∃ b, truT t = some b ∧ P b
theorem ptru_ {e : Expr} {w : WE} (h : PEv κ R X e w) (he : ∀ whole, isTrue e X.env whole = (do let v ← whole; standAt e.pos; holding [v] (truthy v)) := by intro _; rfl) : PTv R X e (wTru w) := by
  obtain ⟨te, h1, h2⟩ := h.ex
  refine ⟨_, pt_truth h1 he, fun {F0 H0 F H σ env Q P} s sl hw k => h2 s sl hw fun {t v F1 H1} p s1 r => ?_⟩
  obtain ⟨b, q, p⟩ := p
  exact ⟨b, tru_rep r (base_H (s.trans s1)) q, k p s1⟩
/-! a < b <= c of numbers -/
def wChain (f g : Int → Int → Bool) (a b c : WE) : WE := fun env P => a env fun x => b env fun y => ∃ i j, x = .int i ∧ y = .int j ∧ if f i j = true then c env fun z => ∃ l, z = .int l ∧ P (.bl (g j l)) else P (.bl false)
theorem pchain_ {a b c : Expr} {op op' : CmpOp} {pos} {wa wb wc : WE} {f g : Int → Int → Bool} (ho : OpR X (compareOp op) (rI0 fun i j => .bl (f i j))) (ho' : OpR X (compareOp op') (rI0 fun i j => .bl (g i j))) (ha : PEv κ R X a wa) (hb : PEv κ R X b wb) (hc : PEv κ R X c wc)
    (hm : lastMarks [op, op'] [b, c] = false := by with_unfolding_all rfl) : PEv μ R X (.Compare a [op, op'] [b, c] pos) (wChain f g wa wb wc) := by
  obtain ⟨ta, a1, a2⟩ := ha.ex
  obtain ⟨tb, b1, b2⟩ := hb.ex
  obtain ⟨tc, c1, c2⟩ := hc.ex
  refine ⟨_, pe_chain ho ho' a1 b1 c1 hm, fun {F0 H0 F H σ env Q P} s sl hw k => a2 s sl hw fun {t v F1 H1} p s1 r1 => b2 (s.trans s1) (sl.step s s1) p fun {t2 v2 F2 H2} p s2 r2 => ?_⟩
  obtain ⟨i, j, rfl, rfl, p⟩ := p
  cases r1
  cases r2
  refine ⟨i, j, rfl, rfl, _, rfl, ?_⟩
  have s12 := s1.trans s2
  cases q : f i j with
  | true =>
    rw [q] at p
    refine iteT (c2 (s.trans s12) (sl.step s s12) (by simpa using p) fun {t v F3 H3} p s3 r3 => ?_)
    obtain ⟨l, rfl, p⟩ := p
    cases r3
    exact ⟨j, l, rfl, rfl, k p (s12.trans s3) (.bl _)⟩
  | false =>
    rw [q] at p
    exact iteF (k (by simpa using p) s12 (.bl _))
/-! a starred row in a display -/
def wStar (a : WE) (b : WA) : WA := fun env P => a env fun t => ∃ ts, seqT t = some ts ∧ b env fun us => P (ts ++ us)
/-- arguments all of which are kept, with stars -/
structure PKv (R : Rs) (X : Cx) (es : List Expr) (w : WA) : Prop where
  ex : ∃ ta, PA X es ta ∧ ∀ {F0 H0 F H : Hp} {σ : List (Option V)} {env : List Cell} {Q : List V → Hp → Prop} {P : List T → Prop}, Step R F0 H0 F H → Sl X.K R H0 F H env σ → w env P →
    (∀ {ts vs F' H'}, P ts → Step R F H F' H' → RepL X.K F' vs ts → Q vs H') → ta σ H Q
theorem pk0_ : PKv R X [] wNil := ⟨_, pa_nil, fun s _ hw k => k hw (Step.refl s.ok) .nil⟩
theorem pk1_ {e : Expr} {es : List Expr} {w : WE} {ws : WA} (h : PEv .S R X e w) (hs : PKv R X es ws) (h2 : ∀ {t ts}, PE X e t → PA X es ts → PA X (e :: es) (tCons t ts) := by intro _ _ a b; exact pa_cons a b) : PKv R X (e :: es) (wCons w ws) := by
  obtain ⟨ta, a1, a2⟩ := h.ex
  obtain ⟨tb, b1, b2⟩ := hs.ex
  refine ⟨_, h2 a1 b1, fun {F0 H0 F H σ env Q P} s sl hw k => a2 s sl hw fun {t v F1 H1} p s1 r1 => ?_⟩
  exact b2 (s.trans s1) (sl.step s s1) p fun p2 s2 r2 => k p2 (s1.trans s2) (.cons (r1.mono s2.f) r2)
theorem pks_ {e : Expr} {es : List Expr} {p} {w : WE} {ws : WA} (h : PEi .S R X e w) (hs : PKv R X es ws) (h2 : ∀ {t ts}, PE X e t → PA X es ts → PA X (.Starred e p :: es) (StX.tStar X.K t ts) := by intro _ _ a b; exact StX.pa_star a b) : PKv R X (.Starred e p :: es) (wStar w ws) := by
  obtain ⟨ta, a1, a2⟩ := h.ex
  obtain ⟨tb, b1, b2⟩ := hs.ex
  refine ⟨_, h2 a1 b1, fun {F0 H0 F H σ env Q P} s sl hw k => a2 s sl hw fun {t us a vs F1 H1} p s1 g r1 => ?_⟩
  obtain ⟨us', q, p⟩ := p
  rw [g.seqT] at q
  cases q
  exact ⟨a, vs, rfl, (g.mono sans_same).seq.symm, b2 (s.trans s1) (sl.step s s1) p fun p2 s2 r2 => k p2 (s1.trans s2) ((r1.mono s2.f).append r2)⟩
theorem ptupk_ {es : List Expr} {x1 pos} {ws : WA} (hs : PKv R X es ws) (hl : ∀ {env P}, ws env P → ws env fun ts => ts.length ≤ 1000000 ∧ P ts) : PEv μ R X (.Tuple es x1 pos) (wTup ws) := by
  obtain ⟨tb, b1, b2⟩ := hs.ex
  refine PEv.up (κ := .S) ⟨_, pe_tup b1, fun {F0 H0 F H σ env Q P} s sl hw k => b2 s sl (hl hw) fun {ts vs F1 H1} p s1 r1 => ?_⟩ (by cases μ <;> rfl)
  refine ⟨by rw [r1.length]; exact sz_of p.1, fun q hq => ?_⟩
  have n := Step.newKeep s1.ok hq (.tup vs)
  exact k p.2 (s1.trans n) (.tup (.inl (.inl upd_same)) (r1.mono n.f))
def wLen6 (w : WA) : WA := fun env P => w env fun ts => ts.length ≤ 1000000 ∧ P ts
theorem ptupl_ {es : List Expr} {x1 pos} {ws : WA} (hs : PKv R X es ws) : PEv μ R X (.Tuple es x1 pos) (wTup (wLen6 ws)) := by
  obtain ⟨tb, b1, b2⟩ := hs.ex
  refine PEv.up (κ := .S) ⟨_, pe_tup b1, fun {F0 H0 F H σ env Q P} s sl hw k => b2 s sl hw fun {ts vs F1 H1} p s1 r1 => ?_⟩ (by cases μ <;> rfl)
  refine ⟨by rw [r1.length]; exact sz_of p.1, fun q hq => ?_⟩
  have n := Step.newKeep s1.ok hq (.tup vs)
  exact k p.2 (s1.trans n) (.tup (.inl (.inl upd_same)) (r1.mono n.f))
theorem plstl_ {es : List Expr} {pos} {ws : WA} (hs : PKv R X es ws) : PEn R X (.List es pos) (wLst (wLen6 ws)) := by
  obtain ⟨tb, b1, b2⟩ := hs.ex
  refine ⟨_, pe_lst b1, fun {F0 H0 F H σ env Q P} s sl hw k => b2 s sl hw fun {ts vs F1 H1} p s1 r1 => ?_⟩
  refine ⟨by rw [r1.length]; exact sz_of p.1, fun q hq => ?_⟩
  obtain ⟨n1, n2⟩ := new_of s1 hq r1
  exact k p.2 n1 n2
/-! fields -/
/-- e.f, of an object of the class at C -/
def wFld (C : Addr) (f : Str) (w : WE) : WE := fun env P => w env fun t => ∃ fs u, t = .obj C fs ∧ fs.lookup f = some u ∧ P u
theorem lookup_rep {K : PySem.W.Frag} {G : Hp} {f : Str} : ∀ {fs : List (Str × V)} {ts : List T} {u : T}, RepL K G (fs.map (·.2)) ts → ((fs.map (·.1)).zip ts).lookup f = some u → ∃ v, fs.lookup f = some v ∧ Rep K G v u
  | [], _, _, .nil, h => by simp at h
  | (x, v) :: fs, _, u, .cons r l, h => by
    simp only [List.map_cons, List.zip_cons_cons, List.lookup_cons] at h ⊢
    cases q : f == x with
    | true =>
      rw [q] at h
      cases h
      exact ⟨v, rfl, r⟩
    | false =>
      rw [q] at h
      exact lookup_rep l h
theorem pfld_ {e : Expr} {f : Str} {pos} {w : WE} {C : Addr} (h : PEv κ R X e w) (c : Cls X.K C) (no : NoAttr X.K C f) (hb : attributeBase e f X.env (eval e X.env) = eval e X.env := by rfl) : PEv κ R X (.Attribute e f pos) (wFld C f w) := by
  obtain ⟨te, h1, h2⟩ := h.ex
  refine ⟨_, pe_fld h1 hb, fun {F0 H0 F H σ env Q P} s sl hw k => h2 s sl hw fun {t v F1 H1} p s1 r => ?_⟩
  obtain ⟨fs, u, rfl, lk, p⟩ := p
  generalize e : T.obj C fs = t at r
  cases r with
  | @obj a dx C' fs' ts g l =>
    cases e
    obtain ⟨v, q1, q2⟩ := lookup_rep l lk
    exact ⟨a, C, dx, fs', v, rfl, base_H (s.trans s1) _ _ g, c, no, q1, k p s1 q2⟩
  | _ => cases e
/-! a tuple unpacked -/
theorem asg_ {n : Bool} {js : List Nat} {st : Stmt} {tg e : Expr} {w : WE} {g : WG} (h : PEv κ R X e w) (hg : PGv κ js R X tg g) (hs : ∀ {te gg}, PE X e te → PG X tg gg → PS X st (tAsg te gg)) : PSv n R Wx X st (fun W env => w env fun t => g t env W.nx) := by
  obtain ⟨te, h1, h2⟩ := h.ex
  obtain ⟨gg, g1, g2⟩ := hg.ex
  refine ⟨_, hs h1 g1, fun {F0 H0 F H σ env D W} it s sl hw => h2 s sl hw fun {t v F1 H1} p s1 r => ?_⟩
  exact g2 (s.trans s1) (sl.step s s1) r p fun p sl _ => it.nx p (s.trans s1) s1.f sl
/-! x.extend(e) -/
def wExt (i : Nat) (w : WE) : WS := fun W env => match env[i]? with
  | some (.own (.lst ts)) => w env fun t => ∃ us, t = .lst us ∧ ts.length + us.length ≤ 1000000 ∧ W.nx (env.set i (.own (.lst (ts ++ us))))
  | _ => False
theorem ext_ {n : Bool} (i : Nat) {o e : Expr} {w : WE} {st : Stmt} (ho : PE X o (tVar i)) (h : PEv .S R X e w) (hs : ∀ {to te}, PE X o to → PE X e te → PS X st (tDrop (tBM X.K "list" rExtend to (tCons te tNil)))) : PSv n R Wx X st (wExt i w) := by
  obtain ⟨te, h1, h2⟩ := h.ex
  refine ⟨_, hs ho h1, fun {F0 H0 F H σ env D W} it s sl hw => ?_⟩
  unfold wExt at hw
  split at hw
  · rename_i ts q
    obtain ⟨c, c1, a, rfl, f1, f2, f3, vs, f4, f5⟩ := sl.ok i _ q
    refine ⟨_, c1, .inl ⟨rfl, _, SqL.of f4⟩, ?_⟩
    refine h2 s sl hw fun {t v F1 H1} p s1 r1 => ?_
    obtain ⟨us, rfl, hz, p⟩ := p
    have sl1 := sl.step s s1
    obtain ⟨c', c2, b, e, f1, _, _, vs', f4, f5⟩ := sl1.ok i _ q
    rw [c1] at c2
    have e2 : (V.ref a) = V.ref b := Option.some.inj ((Option.some.inj c2).trans e)
    have e3 : a = b := V.ref.inj e2
    subst e3
    cases r1 with
    | @lst b ws us g l =>
      have s2 := (s.trans s1).mut (a := a) (o := .lst (vs' ++ ws)) f1 f2 f3
      refine ⟨a, b, vs', ws, rfl, rfl, f4, base_H (κ := .S) (s.trans s1) _ _ g, by rw [f5.length, l.length]; exact sz_of hz, ?_⟩
      exact it.nx p s2 s1.f (sl1.mut q c1 (OwnAt.lst_ upd_same (f5.append l)))
  · exact hw.elim
end
/-! isinstance, for simp -/
theorem isi_non_tuple : isiT .non "tuple" = some false := by show kitB "NoneType" "tuple" = some false; decide +kernel
theorem isi_non_str : isiT .non "str" = some false := by show kitB "NoneType" "str" = some false; decide +kernel
theorem isi_non_int : isiT .non "int" = some false := by show kitB "NoneType" "int" = some false; decide +kernel
theorem isi_non_bool : isiT .non "bool" = some false := by show kitB "NoneType" "bool" = some false; decide +kernel
theorem isi_non_dict : isiT .non "dict" = some false := by show kitB "NoneType" "dict" = some false; decide +kernel
theorem isi_non_list : isiT .non "list" = some false := by show kitB "NoneType" "list" = some false; decide +kernel
theorem isi_bl_tuple {b : Bool} : isiT (.bl b) "tuple" = some false := by show kitB "bool" "tuple" = some false; decide +kernel
theorem isi_bl_str {b : Bool} : isiT (.bl b) "str" = some false := by show kitB "bool" "str" = some false; decide +kernel
theorem isi_bl_int {b : Bool} : isiT (.bl b) "int" = some true := by show kitB "bool" "int" = some true; decide +kernel
theorem isi_bl_bool {b : Bool} : isiT (.bl b) "bool" = some true := by show kitB "bool" "bool" = some true; decide +kernel
theorem isi_bl_dict {b : Bool} : isiT (.bl b) "dict" = some false := by show kitB "bool" "dict" = some false; decide +kernel
theorem isi_bl_list {b : Bool} : isiT (.bl b) "list" = some false := by show kitB "bool" "list" = some false; decide +kernel
theorem isi_int_tuple {i : Int} : isiT (.int i) "tuple" = some false := by show kitB "int" "tuple" = some false; decide +kernel
theorem isi_int_str {i : Int} : isiT (.int i) "str" = some false := by show kitB "int" "str" = some false; decide +kernel
theorem isi_int_int {i : Int} : isiT (.int i) "int" = some true := by show kitB "int" "int" = some true; decide +kernel
theorem isi_int_bool {i : Int} : isiT (.int i) "bool" = some false := by show kitB "int" "bool" = some false; decide +kernel
theorem isi_int_dict {i : Int} : isiT (.int i) "dict" = some false := by show kitB "int" "dict" = some false; decide +kernel
theorem isi_int_list {i : Int} : isiT (.int i) "list" = some false := by show kitB "int" "list" = some false; decide +kernel
theorem isi_str_tuple {x : Str} : isiT (.str x) "tuple" = some false := by show kitB "str" "tuple" = some false; decide +kernel
theorem isi_str_str {x : Str} : isiT (.str x) "str" = some true := by show kitB "str" "str" = some true; decide +kernel
theorem isi_str_int {x : Str} : isiT (.str x) "int" = some false := by show kitB "str" "int" = some false; decide +kernel
theorem isi_str_bool {x : Str} : isiT (.str x) "bool" = some false := by show kitB "str" "bool" = some false; decide +kernel
theorem isi_str_dict {x : Str} : isiT (.str x) "dict" = some false := by show kitB "str" "dict" = some false; decide +kernel
theorem isi_str_list {x : Str} : isiT (.str x) "list" = some false := by show kitB "str" "list" = some false; decide +kernel
theorem isi_tup_tuple {ts : List T} : isiT (.tup ts) "tuple" = some true := by show kitB "tuple" "tuple" = some true; decide +kernel
theorem isi_tup_str {ts : List T} : isiT (.tup ts) "str" = some false := by show kitB "tuple" "str" = some false; decide +kernel
theorem isi_tup_int {ts : List T} : isiT (.tup ts) "int" = some false := by show kitB "tuple" "int" = some false; decide +kernel
theorem isi_tup_bool {ts : List T} : isiT (.tup ts) "bool" = some false := by show kitB "tuple" "bool" = some false; decide +kernel
theorem isi_tup_dict {ts : List T} : isiT (.tup ts) "dict" = some false := by show kitB "tuple" "dict" = some false; decide +kernel
theorem isi_tup_list {ts : List T} : isiT (.tup ts) "list" = some false := by show kitB "tuple" "list" = some false; decide +kernel
theorem isi_lst_tuple {ts : List T} : isiT (.lst ts) "tuple" = some false := by show kitB "list" "tuple" = some false; decide +kernel
theorem isi_lst_str {ts : List T} : isiT (.lst ts) "str" = some false := by show kitB "list" "str" = some false; decide +kernel
theorem isi_lst_int {ts : List T} : isiT (.lst ts) "int" = some false := by show kitB "list" "int" = some false; decide +kernel
theorem isi_lst_bool {ts : List T} : isiT (.lst ts) "bool" = some false := by show kitB "list" "bool" = some false; decide +kernel
theorem isi_lst_dict {ts : List T} : isiT (.lst ts) "dict" = some false := by show kitB "list" "dict" = some false; decide +kernel
theorem isi_lst_list {ts : List T} : isiT (.lst ts) "list" = some true := by show kitB "list" "list" = some true; decide +kernel
theorem isi_dic_tuple {ts : List (T × T)} : isiT (.dic ts) "tuple" = some false := by show kitB "dict" "tuple" = some false; decide +kernel
theorem isi_dic_str {ts : List (T × T)} : isiT (.dic ts) "str" = some false := by show kitB "dict" "str" = some false; decide +kernel
theorem isi_dic_int {ts : List (T × T)} : isiT (.dic ts) "int" = some false := by show kitB "dict" "int" = some false; decide +kernel
theorem isi_dic_bool {ts : List (T × T)} : isiT (.dic ts) "bool" = some false := by show kitB "dict" "bool" = some false; decide +kernel
theorem isi_dic_dict {ts : List (T × T)} : isiT (.dic ts) "dict" = some true := by show kitB "dict" "dict" = some true; decide +kernel
theorem isi_dic_list {ts : List (T × T)} : isiT (.dic ts) "list" = some false := by show kitB "dict" "list" = some false; decide +kernel
end Tv
/-! the room of a world: three numbers that others change -/
namespace Tv
open PySem PySem.Spec PyProof.Rows L2 Lw
section
variable {Wx : WX} {X : Cx} {κ ν μ : Kd} {p q r : Addr} {n : Bool}
/-- room[k]: some number -/
def wRoom (r : Addr) (i : Nat) : WE := fun env P => env[i]? = some (.val (.op (.ref r))) ∧ ∀ j : Int, P (.int j)
theorem room_at {F H : Hp} (ok : Ok (handR p q (some r)) F H) : ∃ x y z : Int, H r = some (.lst [.int x, .int y, .int z]) := ok.inv.2.2 r rfl
theorem op_rep {K : PySem.W.Frag} {G : Hp} {v u : V} (h : Rep K G v (.op u)) : v = u := by
  cases h
  rfl
theorem proom_ (i : Nat) {a b : Expr} {pos} {k : Int} (ha : PE X a (tVar i)) (hb : PE X b (tC (.int k))) (hk : 0 ≤ k ∧ k < 3) (hs : PlainIx b := by intro _ _; rfl) : PEv μ (handR p q (some r)) X (.Subscript a b pos) (wRoom r i) := by
  refine ⟨_, pe_ix ix_list ha hb hs, fun {F0 H0 F H σ env Q P} s sl hw kk => ?_⟩
  obtain ⟨he, hp⟩ := hw
  obtain ⟨c, h1, v, rfl, h2⟩ := sl.ok i _ he
  obtain ⟨x, y, z, hr⟩ := room_at s.ok
  refine ⟨_, h1, r, [.int x, .int y, .int z], k, ?_⟩
  have e : v = .ref r := op_rep h2
  have hk3 : k = 0 ∨ k = 1 ∨ k = 2 := by omega
  rcases hk3 with rfl | rfl | rfl
  · exact ⟨.int x, e, rfl, SqL.of hr, rfl, kk (hp x) (Step.refl s.ok) (.int _)⟩
  · exact ⟨.int y, e, rfl, SqL.of hr, rfl, kk (hp y) (Step.refl s.ok) (.int _)⟩
  · exact ⟨.int z, e, rfl, SqL.of hr, rfl, kk (hp z) (Step.refl s.ok) (.int _)⟩
theorem room_put {F0 H0 F H : Hp} (s : Step (handR p q (some r)) F0 H0 F H) {x y z : Int} : Step (handR p q (some r)) F0 H0 F (upd H r (.lst [.int x, .int y, .int z])) ∧ Step (handR p q (some r)) F H F (upd H r (.lst [.int x, .int y, .int z])) := by
  have ar : (handR p q (some r)).ad r = true := by simp [handR]
  have g : Same (sans (handR p q (some r)).ad H) (sans (handR p q (some r)).ad (upd H r (.lst [.int x, .int y, .int z]))) := fun b o h => by
    obtain ⟨h1, h2⟩ := sans_some h
    have nb : b ≠ r := by
      rintro rfl
      rw [ar] at h1
      cases h1
    rw [sans_of h1, upd_ne nb]
    exact h2
  have inv := s.ok.inv
  have pr : p ≠ r := fun e => inv.2.1.1 (congrArg some e)
  have qr : q ≠ r := fun e => inv.2.1.2 (congrArg some e)
  have ok : Ok (handR p q (some r)) F (upd H r (.lst [.int x, .int y, .int z])) := by
    refine ⟨s.ok.sub.trans g, inv.1.upd (fun e => pr e.symm) (fun e => qr e.symm), inv.2.1, fun b hb => ?_⟩
    cases hb
    exact ⟨x, y, z, upd_same⟩
  exact ⟨⟨s.f, s.g.trans g, s.n, ok⟩, ⟨Same.refl _, g, fun a o h1 h2 => (by rw [h2] at h1; cases h1), ok⟩⟩
/-- room[k] = e -/
def wRoomSet (r : Addr) (i : Nat) (w : WE) : WS := fun W env => w env fun t => ∃ j, t = .int j ∧ env[i]? = some (.val (.op (.ref r))) ∧ W.nx env
theorem roomSet_ (i : Nat) {st : Stmt} {e : Expr} {w : WE} {k : Int} (h : PEv κ (handR p q (some r)) X e w) (hs : ∀ {te}, PE X e te → PS X st (tAsg te (gSub (tVar i) (tC (.int k)) rSetL))) (hk : 0 ≤ k ∧ k < 3 := by decide) : PSv n (handR p q (some r)) Wx X st (wRoomSet r i w) := by
  obtain ⟨te, h1, h2⟩ := h.ex
  refine ⟨_, hs h1, fun {F0 H0 F H σ env D W} it s sl hw => h2 s sl hw fun {t v F1 H1} p1 s1 r1 => ?_⟩
  obtain ⟨j, rfl, he, pn⟩ := p1
  cases r1
  have sl1 := sl.step s s1
  obtain ⟨c, c1, u, rfl, c2⟩ := sl1.ok i _ he
  have e : u = .ref r := op_rep c2
  subst e
  obtain ⟨x, y, z, hr⟩ := room_at s1.ok
  have go : ∀ {x' y' z' : Int}, D.nx σ (upd H1 r (.lst [.int x', .int y', .int z'])) := by
    intro x' y' z'
    obtain ⟨a, b⟩ := room_put (s.trans s1) (x := x') (y := y') (z := z')
    exact it.nx pn a s1.f (sl1.step (s.trans s1) b)
  have hk3 : k = 0 ∨ k = 1 ∨ k = 2 := by omega
  refine ⟨_, c1, r, [.int x, .int y, .int z], k, ?_⟩
  rcases hk3 with rfl | rfl | rfl
  · exact ⟨0, rfl, rfl, hr, rfl, go⟩
  · exact ⟨1, rfl, rfl, hr, rfl, go⟩
  · exact ⟨2, rfl, rfl, hr, rfl, go⟩
/-- if c: x = e; rest, where e is worth a number from 1 to m whenever c holds -/
def wIfDraw (i : Nat) (m : Int) (G C : List Cell → Prop) (b : WS) : WS := fun W env => G env ∧ (C env → ∀ j : Int, 1 ≤ j → j ≤ m → b W (env.set i (.val (.int j)))) ∧ W.nx env
theorem ifDraw_ (i : Nat) {m : Int} {G C : List Cell → Prop} {R : Rs} {c : Expr} {st : Stmt} {rest els : List Stmt} {pos} {tt : TT} {te : TE} {b : WS} (hc : PT X c tt) (hs : PS X st (tAsg te (gName i))) (hb : PSsv n R Wx X rest b) (he : els = [])
    (h : ∀ {F0 H0 F H : Hp} {σ : List (Option V)} {env : List Cell} {Q : Bool → Hp → Prop}, Step R F0 H0 F H → Sl X.K R H0 F H env σ → G env → Q false H → ((∀ Qe : VK, (∀ (j : Int) (F1 H1 : Hp), 1 ≤ j → j ≤ m → Step R F H F1 H1 → Qe (.int j) H1) → te σ H Qe) → C env → Q true H) → tt σ H Q) : PSv n R Wx X (.If c (st :: rest) els pos) (wIfDraw i m G C b) := by
  subst he
  obtain ⟨tb, b1, b2⟩ := hb.ex
  refine ⟨_, ps_if hc (pss_cons hs b1) pss_nil, fun {F0 H0 F H σ env D W} it s sl hw => ?_⟩
  refine h (Q := fun b H1 => if b = true then tSeq (tAsg te (gName i)) tb D σ H1 else tNext D σ H1) s sl hw.1 (iteF (it.nx hw.2.2 s (Same.refl _) sl)) fun ht hC => iteT ?_
  refine ht _ fun j F1 H1 j1 j2 s1 => ?_
  refine b2 (it.up s1.f) (s.trans s1) ?_ (hw.2.1 hC j j1 j2)
  exact (sl.step s s1).set ⟨_, rfl, .int j⟩ fun t a e => by cases e
end
end Tv
/-! exceptions over tree values -/
namespace Tv
open PySem PySem.Spec PyProof.Rows L2
abbrev CtX := Rs → List T → (T → Prop) → (Addr → List (Str × T) → Prop) → Prop
/-- as spT, of a def that may raise -/
def spTX (K : PySem.W.Frag) (κs : List Kd) (n : Bool) (c : CtX) : Sp := fun vs H Q E => ∃ (R : Rs) (F : Hp) (ts : List T) (P : T → Prop) (PX : Addr → List (Str × T) → Prop), Ok R F H ∧ RepA K R H F H κs vs ts ∧ c R ts P PX ∧
  (∀ t v F' H', P t → Step R F H F' H' → Res n K R H F' H' v t → Q v H') ∧
  (∀ C us d F' H', PX C us → Step R F H F' H' → ExAt K F' H' d us → E (.ref C) (some d) H')
section
variable {R : Rs} {Wx : WX} {X : Cx} {κ : Kd} {n m : Bool}
theorem evCallX {κs : List Kd} {c : CtX} {ta : TA} {wa : WA} (h : EvA X.K R (κs.map cal) ta wa) {F0 H0 F H : Hp} {σ : List (Option V)} {env : List Cell} {Q : VK} {P : T → Prop} {PX : Addr → List (Str × T) → Prop} (s : Step R F0 H0 F H) (sl : Sl X.K R H0 F H env σ) (hw : wa env fun ts => c R ts P PX)
    (k : ∀ {t v F' H'}, P t → Step R F H F' H' → Res m X.K R H F' H' v t → Q v H') (kx : ∀ {C us d F' H'}, PX C us → Step R F H F' H' → ExAt X.K F' H' d us → Wx (.ref C) (some d) σ H') : tCallS (spTX X.K κs m c) (L2.WE Wx) ta σ H Q := by
  refine h s sl hw fun {ts vs F1 H1} p s1 r1 => ?_
  refine ⟨R, F1, ts, P, PX, s1.ok, r1.cal (s.trans s1), p, fun t v F' H' p s2 r => k p (s1.trans s2) ?_, fun C us d F' H' p s2 x => kx p (s1.trans s2) x⟩
  cases m with
  | true => exact New.back (show New X.K R H1 F' H' v t from r) s1
  | false => exact r
def wDropX (R : Rs) (c : CtX) (wa : WA) : WS := fun W env => wa env fun ts => c R ts (fun _ => W.nx env) fun C us => W.ex C us env
def wSetX (R : Rs) (i : Nat) (c : CtX) (wa : WA) : WS := fun W env => wa env fun ts => c R ts (fun t => W.nx (env.set i (.val t))) fun C us => W.ex C us env
def wRaise (C : Addr) (ns : List Str) (wa : WA) : WS := fun W env => wa env fun ts => ts.length = ns.length ∧ W.ex C (ns.zip ts).reverse env
/-- f(..), what it hands back dropped -/
theorem dropX_ {κs ms : List Kd} {c : CtX} {e : Expr} {es : List Expr} {wa : WA} {pos} (hm : κs.map cal = ms) (hp : ∀ {ta}, PA X es ta → PE X e (tCallS (spTX X.K κs m c) (L2.WE Wx) ta)) (ha : PAv ms R X es wa) (hs : ∀ {te}, PE X e te → PS X (.Expr e pos) (tDrop te) := by intro _ a; exact ps_expr a) :
    PSv n R Wx X (.Expr e pos) (wDropX R c wa) := by
  subst hm
  obtain ⟨ta, a1, a2⟩ := ha.ex
  refine ⟨_, hs (hp a1), fun {F0 H0 F H σ env D W} it s sl hw => ?_⟩
  exact evCallX (P := fun _ => W.nx env) (PX := fun C us => W.ex C us env) a2 s sl hw (fun p s1 _ => it.nx p (s.trans s1) s1.f (sl.step s s1)) fun p s1 x => it.ex p (s.trans s1) s1.f (sl.step s s1) x
/-- x = f(..) -/
theorem setX_ {κs ms : List Kd} {c : CtX} {st : Stmt} {e : Expr} {es : List Expr} {wa : WA} (i : Nat) (hm : κs.map cal = ms) (hp : ∀ {ta}, PA X es ta → PE X e (tCallS (spTX X.K κs false c) (L2.WE Wx) ta)) (ha : PAv ms R X es wa) (hs : ∀ {te}, PE X e te → PS X st (tAsg te (gName i))) :
    PSv n R Wx X st (wSetX R i c wa) := by
  subst hm
  obtain ⟨ta, a1, a2⟩ := ha.ex
  refine ⟨_, hs (hp a1), fun {F0 H0 F H σ env D W} it s sl hw => ?_⟩
  exact evCallX (P := fun t => W.nx (env.set i (.val t))) (PX := fun C us => W.ex C us env) a2 s sl hw (fun {t v F' H'} p s1 r => it.nx p (s.trans s1) s1.f ((sl.step s s1).set ⟨v, rfl, r⟩ fun t a e => by cases e)) fun p s1 x => it.ex p (s.trans s1) s1.f (sl.step s s1) x
/-- an exception class's __init__ that keeps its arguments -/
def spErrG (C : Addr) (ns : List Str) : Sp := fun vs H Q _ => ∃ (a : Addr) (ys : List V), vs = .ref a :: ys ∧ ys.length = ns.length ∧ H a = some (exo a C none) ∧ ∀ d, H d = none → d ≠ a → Q .non (upd (upd H d (exd d (ns.zip ys).reverse)) a (exo a C (some d)))
theorem raise_ {st : Stmt} {es : List Expr} {wa : WA} {C : Addr} {ns : List Str} (ha : PKv R X es wa) (hs : ∀ {ta}, PA X es ta → PS X st (fun _ σ H => tMkO C (spErrG C ns) [] ta σ H fun cls d H' => Wx cls d σ H')) (hn : ns.length ≤ 1000 := by decide) :
    PSv n R Wx X st (wRaise C ns wa) := by
  obtain ⟨ta, a1, a2⟩ := ha.ex
  refine ⟨_, hs a1, fun {F0 H0 F H σ env D W} it s sl hw => ?_⟩
  refine a2 s sl hw fun {ts vs F1 H1} p s1 r1 => ?_
  obtain ⟨hl, p⟩ := p
  have hv : vs.length = ns.length := r1.length.trans hl
  refine ⟨by omega, fun a ha => ⟨a, vs ++ [], rfl, by rw [List.append_nil]; exact hv, upd_same, fun d hd ne => ⟨rfl, d, _, upd_same, by rw [upd_ne ne, upd_same], ?_, ?_⟩⟩⟩
  · rw [upd_ne ne] at hd
    exact hd
  · rw [upd_ne ne] at hd
    have e : (upd (del (upd (upd (upd H1 a (exo a C none)) d (exd d (ns.zip (vs ++ [])).reverse)) a (exo a C (some d))) a) d (.xd (ns.zip (vs ++ [])).reverse)) = upd H1 d (.xd (ns.zip (vs ++ [])).reverse) := by
      funext b
      by_cases bd : b = d
      · subst bd
        rw [upd_same, upd_same]
      · rw [upd_ne bd, upd_ne bd]
        by_cases ba : b = a
        · subst ba
          rw [del_same, ha]
        · rw [del_ne ba, upd_ne ba, upd_ne bd, upd_ne ba]
    rw [e, List.append_nil]
    have nw := Step.newKeep s1.ok hd (.xd (ns.zip vs).reverse)
    refine it.ex p ((s.trans s1).trans nw) (s1.f.trans nw.f) ((sl.step s s1).step (s.trans s1) nw) ⟨_, upd_same, ?_, ?_⟩
    · rw [List.map_reverse, List.map_reverse, List.map_fst_zip (by omega), List.map_fst_zip (by omega)]
    · rw [List.map_reverse, List.map_reverse, List.map_snd_zip (by omega), List.map_snd_zip (by omega)]
      exact (r1.mono nw.f).reverse
end
section
variable {P : Program} {w : World} {K : PySem.W.Frag} {mg : Str → Option Value} {base : Heap}
/-- a def that may raise, by its body -/
theorem okvX {x q : Str} {st : Stmt} {f : Addr} {fd : FuncData} {N ps : List Str} {k : Nat} {κs : List Kd} {n : Bool} {c : CtX} (F : Fun K x q st f fd) (S : FnScope N ps (defScope st)) (hl : κs.length = ps.length) (hκ : ∀ κ ∈ κs, κ ≠ .M)
    (body : ∀ (cdv : Value) (A : Around) (outer : List Env) (s : Shared) (H : Hp) (E : XK) (R : Rs) (ts : List T) (Pt : T → Prop) (PX : Addr → List (Str × T) → Prop), Room k (A.deeper (envOfC q (defScope st) s.heap.objs.size f cdv)) → c R ts Pt PX →
      ∃ wb, PSsv n R (fun cls d _ H => E cls d H) (cxOf (L2.CX P w) P w K mg base N q (defScope st) f cdv A outer s H E) (defBody st) wb ∧
        wb { nx := fun _ => n = false ∧ Pt .non, rt := Pt, ex := fun C us _ => PX C us } (env0 κs ts N.length)) : FnOk P w K mg base (L2.CX P w) (k + 1) f fd ps (spTX K κs n c) := by
  refine F.okX S (fun vs H Q E h => ?_) (fun cdv A outer s H vs Q E hr h => ?_)
  · obtain ⟨R, F, ts, Pt, PX, _, r, _⟩ := h
    rw [r.length, hl]
  · obtain ⟨R, F, ts, Pt, PX, ok, r, hc, hq, hx⟩ := h
    obtain ⟨wb, hb, hw⟩ := body cdv A outer s H E R ts Pt PX hr hc
    obtain ⟨t, t1, t2⟩ := hb.ex
    refine ⟨t, t1, ?_⟩
    refine t2 (F0 := F) (H0 := H) (F := F) (W := { nx := fun _ => n = false ∧ Pt .non, rt := Pt, ex := fun C us _ => PX C us }) ⟨fun {σ env F' H'} z s' _ sl' => ?_, fun {t v F' H'} z s' _ r' => hq _ _ _ _ z s' r', fun z => z.elim, fun z => z.elim, fun {C us σ env d F' H'} z s' _ _ x => hx _ _ _ _ _ z s' x⟩ (Step.refl ok) (sl0 r hκ) hw
    obtain ⟨rfl, z⟩ := z
    exact hq _ _ _ _ z s' .non
/-- a def that may be called and may raise -/
structure ClX (P : Program) (w : World) (K : PySem.W.Frag) (mg : Str → Option Value) (base : Heap) (k : Nat) (x : Str) (sp : Sp) : Prop where
  ex : ∃ (f : Addr) (fd : FuncData) (ps : List Str), FnOk P w K mg base (L2.CX P w) k f fd ps sp ∧ mg x = some (.ref f) ∧ PySem.W.keepIn K (.ref f) = true ∧ Binds K fd ps []
theorem ClX.pe {X : Cx} {Wx : WX} {j k : Nat} {x : Str} {sp : Sp} {e : Expr} {es : List Expr} {p pos : Pos} {t : TA} (c : ClX X.prog X.w X.K X.mg X.base k x sp) (tk : Takes X Wx) (hr : Room j X.A) (hk : k ≤ j) (hg : Gl X x) (ha : PA X (e :: es) t) (hdb : (x == ("__debug__" : Str)) = false := by decide)
    (he : starEach (e :: es) X.env = (false, eval e X.env) :: starEach es X.env := by rfl) (hpl : (backTo pos (starEach es X.env)).any (·.1) = false := by rfl) : PE X (.Call (.Name x p) (e :: es) [] pos) (tCallS sp (L2.WE Wx) t) := by
  obtain ⟨f, fd, ps, G, m, kp, b⟩ := c.ex
  exact pe_callS G (hr.mono hk) hg m kp b (fun σ => passAt tk σ) ha hdb he hpl
end
end Tv
/-! dicts of the module, all, comprehensions over two rows, own `in` -/
namespace Tv
open PySem PySem.Spec PyProof.Rows L2
section
variable {R : Rs} {Wx : WX} {X : Cx} {κ ν μ : Kd}
/-- x in a dict of the module whose keys are texts -/
def rKIn (K : PySem.W.Frag) (w : World) (neg : Bool) : R2 := fun x y H Q => ∃ (p : Addr) (z : Str) (b : Bool), y = .ref p ∧ x = .str z ∧ ((b = true ∧ ∃ v, KDct K w p z v) ∨ (b = false ∧ KMiss K w p z)) ∧ Q (.bl (if neg then !b else b)) H
theorem op_kin (low : ∀ {p z v}, KDct X.K X.w p z v → (p == sysModules) = false) : OpR X (compareOp .In) (rKIn X.K X.w false) := by
  intro pins s σ H x y v u Q I rx ry h
  obtain ⟨p, z, b, rfl, rfl, kk, q⟩ := h
  obtain rfl : u = Value.ref p := ry
  obtain ⟨t, rfl⟩ := (show ∃ t, v = Value.str z t from rx)
  rcases kk with ⟨rfl, v, k⟩ | ⟨rfl, es, n, hl, hk, lw, hm⟩
  · have lw := low k
    obtain ⟨es, n, u, hl, hk, e, _⟩ := k
    have hm' := PySem.W.mapOf_K (prog := X.prog) (w := X.w) I.kIn hl hk
    refine wpAny_in_of (strKind_is X.prog X.w z t) lw hm' ?_
    rw [PySem.W.find_K hl e]
    exact ⟨.bl true, H, I.tok _, rfl, q⟩
  · have hm' := PySem.W.mapOf_K (prog := X.prog) (w := X.w) I.kIn hl hk
    refine wpAny_in_of (strKind_is X.prog X.w z t) lw hm' ?_
    rw [PySem.W.find_K hl hm]
    exact ⟨.bl false, H, I.tok _, rfl, q⟩
theorem op_knotin (low : ∀ {p z v}, KDct X.K X.w p z v → (p == sysModules) = false) : OpR X (compareOp .NotIn) (rKIn X.K X.w true) := by
  intro pins s σ H x y v u Q I rx ry h
  obtain ⟨p, z, b, rfl, rfl, kk, q⟩ := h
  obtain rfl : u = Value.ref p := ry
  obtain ⟨t, rfl⟩ := (show ∃ t, v = Value.str z t from rx)
  rcases kk with ⟨rfl, v, k⟩ | ⟨rfl, es, n, hl, hk, lw, hm⟩
  · have lw := low k
    obtain ⟨es, n, u, hl, hk, e, _⟩ := k
    have hm' := PySem.W.mapOf_K (prog := X.prog) (w := X.w) I.kIn hl hk
    refine wpAny_notIn_of (strKind_is X.prog X.w z t) lw hm' ?_
    rw [PySem.W.find_K hl e]
    exact ⟨.bl false, H, I.tok _, rfl, q⟩
  · have hm' := PySem.W.mapOf_K (prog := X.prog) (w := X.w) I.kIn hl hk
    refine wpAny_notIn_of (strKind_is X.prog X.w z t) lw hm' ?_
    rw [PySem.W.find_K hl hm]
    exact ⟨.bl true, H, I.tok _, rfl, q⟩
/-- all(a list of bools) -/
def fAll (ts : List T) (P : T → Prop) : Prop := ∃ bs : List Bool, ts = [.lst (bs.map T.bl)] ∧ P (.bl (bs.all id))
theorem RepL.bls {K : PySem.W.Frag} {G : Hp} : ∀ {xs : List Bool} {vs : List V}, RepL K G vs (xs.map T.bl) → vs = xs.map V.bl
  | [], _, .nil => rfl
  | _ :: _, _, .cons (.bl _) l => congrArg _ l.bls
theorem rc_all : RC X.K R [κ] μ (rAll X.K) fAll := by
  intro F0 H0 F H vs ts Q P s r f k
  obtain ⟨bs, rfl, p⟩ := f
  cases r with
  | cons h l =>
    cases l
    generalize e : T.lst (bs.map T.bl) = t at h
    cases h with
    | @lst a vs ts g l =>
      cases e
      refine ⟨a, bs, rfl, SqL.of ?_, k p (Step.refl s.ok) (.bl _)⟩
      rw [← l.bls]
      exact base_H s _ _ g
    | _ => cases e
/-! [e for x in s for y in t] -/
/-- no slot holds a thing of this def's own -/
def noOwn (env : List Cell) : Prop := ∀ (a : Nat) (t : T), env[a]? ≠ some (.own t)
def wLc2 (ws : List Cell → (List T → Prop) → Prop) (g : WG) (ws1 : List Cell → (List T → Prop) → Prop) (g1 : WG) (e : WE) (vs vs1 : List Nat) : WE := fun env P => ws env fun ts => ts.length ≤ 1000 ∧ ∃ I : Nat → List T → Prop, I 0 [] ∧
  (∀ i t acc, ts[i]? = some t → I i acc → g t (wipeE env vs) fun env2 => noOwn env2 ∧ ws1 env2 fun us => us.length ≤ 1000 ∧ ∃ J : Nat → List T → Prop, J 0 acc ∧
    (∀ j u acc2, us[j]? = some u → J j acc2 → g1 u (wipeE env2 vs1) fun env3 => e env3 fun y => J (j + 1) (acc2 ++ [y])) ∧ ∀ acc2, J us.length acc2 → I (i + 1) acc2) ∧ ∀ acc, I ts.length acc → P (.lst acc)
theorem yesT {σ : List (Option V)} {H : Hp} {A B : Hp → Prop} (h : A H) : tYes σ H (fun b H' => if b = true then A H' else B H') := by
  show if true = true then A H else B H
  rw [if_pos rfl]
  exact h
theorem evLc2 {js js1 vs vs1 : List Nat} {wi wi1 : TI} {gg gg1 : TG} {te : TE} {ws ws1 : List Cell → (List T → Prop) → Prop} {g g1 : WG} {e : WE} (i2 : EvSrc X.K R κ wi ws) (g2 : EvG X.K R κ js gg g) (i3 : EvSrc X.K R ν wi1 ws1) (g3 : EvG X.K R ν js1 gg1 g1) (e2 : EvE X.K R .S te e) (hj : ∀ j ∈ js, j ∈ vs) (hj1 : ∀ j ∈ js1, j ∈ vs1) :
    EvN X.K R (tLc2 wi gg tYes wi1 gg1 tYes te vs vs1) (wLc2 ws g ws1 g1 e vs vs1) := by
  intro F0 H0 F H σ env Q P s sl hw k
  refine i2 s sl hw fun {ts J F1 H1} p s1 ok D hD => ?_
  obtain ⟨hz, I, h0, ht, hd⟩ := p
  have ad := s1.ok.adNew hD
  have fD := s1.ok.free hD
  have hD0 : H D = none := by
    have := s1.g.free (sans_none (ad := R.ad) hD)
    rw [sans_of ad] at this
    exact this
  have n := Step.new s1.ok hD (.lst [])
  have keepD : ∀ {Fa Ha Fb Hb : Hp} {ws : List V}, Ha D = some (.lst ws) → Fa D = none → Step R Fa Ha Fb Hb → Hb D = some (.lst ws) ∧ Fb D = none := by
    intro Fa Ha Fb Hb ws a1 a2 x
    have y := x.g D _ (by rw [sans_of ad]; exact a1)
    refine ⟨(sans_some y).2, ?_⟩
    cases q : Fb D with
    | none => rfl
    | some o =>
      have := x.n D o q a2
      rw [sans_of ad, a1] at this
      cases this
  refine ⟨fun i m H' => m = ts.length - i ∧ i ≤ ts.length ∧ ∃ F' acc us, Step R F1 H1 F' H' ∧ H' D = some (.lst us) ∧ F' D = none ∧ RepL X.K F' us acc ∧ acc.length ≤ i * 1000 ∧ I i acc, ⟨_, rfl, Nat.zero_le _, F1, [], [], n, upd_same, fD, .nil, Nat.zero_le _, h0⟩, ?_⟩
  rintro i m H' ⟨rfl, hi, F', acc, us, s2, hDs, fD', rl, hac, hI⟩
  have s3 := (s.trans s1).trans s2
  obtain ⟨k1, k2⟩ := ok s3 s2.f
  by_cases hlt : i < ts.length
  · obtain ⟨q1, q2⟩ := k1 i hlt
    refine .inr ⟨q1, fun H' => ∃ F' acc us, Step R F1 H1 F' H' ∧ H' D = some (.lst us) ∧ F' D = none ∧ RepL X.K F' us acc ∧ acc.length ≤ (i + 1) * 1000 ∧ I (i + 1) acc, fun H' z => ⟨ts.length - (i + 1), by omega, rfl, hlt, z⟩, fun x H3 y => ?_⟩
    obtain ⟨F3, s4, t, hT, hr⟩ := q2 x H3 y
    have s34 := s3.trans s4
    obtain ⟨d3, e3⟩ := keepD hDs fD' s4
    have slw := ((sl.step s ((s1.trans s2).trans s4)).wipe vs)
    refine g2 s34 slw hr (ht i t acc hT hI) fun {σ4 env4} p4 sl4 c4 => ?_
    refine ⟨by rw [c4 vs hj, wipe_wipe fun v hv => hv], ?_⟩
    refine yesT ?_
    obtain ⟨no, p4⟩ := p4
    refine i3 s34 sl4 p4 fun {us1 J1 F5 H5} p5 s5 ok1 => ?_
    obtain ⟨hz1, JJ, j0, jt, jd⟩ := p5
    obtain ⟨d5, e5⟩ := keepD d3 e3 s5
    have s45 := s34.trans s5
    refine ⟨fun j m H' => m = us1.length - j ∧ j ≤ us1.length ∧ ∃ F' acc us, Step R F1 H1 F' H' ∧ Same F5 F' ∧ Sl X.K R H0 F' H' env4 σ4 ∧ H' D = some (.lst us) ∧ F' D = none ∧ RepL X.K F' us acc ∧ acc.length ≤ i * 1000 + j ∧ JJ j acc,
      ⟨_, rfl, Nat.zero_le _, F5, acc, us, (s2.trans s4).trans s5, Same.refl _, sl4.step s34 s5, d5, e5, rl.mono (s4.f.trans s5.f), hac, j0⟩, ?_⟩
    rintro j m H' ⟨rfl, hjl, F6, acc6, us6, s6, f56, sl6, d6, e6, rl6, ha6, hJ⟩
    have s06 := (s.trans s1).trans s6
    obtain ⟨l1, l2⟩ := ok1 s06 f56
    by_cases hlt1 : j < us1.length
    · obtain ⟨r1, r2⟩ := l1 j hlt1
      refine .inr ⟨r1, fun H' => ∃ F' acc us, Step R F1 H1 F' H' ∧ Same F5 F' ∧ Sl X.K R H0 F' H' env4 σ4 ∧ H' D = some (.lst us) ∧ F' D = none ∧ RepL X.K F' us acc ∧ acc.length ≤ i * 1000 + (j + 1) ∧ JJ (j + 1) acc, fun H' z => ⟨us1.length - (j + 1), by omega, rfl, hlt1, z⟩, fun x H7 y => ?_⟩
      obtain ⟨F7, s7, u, hU, hr7⟩ := r2 x H7 y
      obtain ⟨d7, e7⟩ := keepD d6 e6 s7
      have s07 := s06.trans s7
      refine g3 s07 ((sl6.step s06 s7).wipe vs1) hr7 (jt j u acc6 hU hJ) fun {σ8 env8} p8 sl8 c8 => ?_
      refine ⟨by rw [c8 vs1 hj1, wipe_wipe fun v hv => hv], ?_⟩
      refine yesT ?_
      refine e2 s07 sl8 p8 fun {y v F9 H9} p9 s9 r9 => ?_
      obtain ⟨d9, e9⟩ := keepD d7 e7 s9
      have st := ((s6.trans s7).trans s9)
      have rl9 := rl6.mono (s7.f.trans s9.f)
      have hi2 : i * 1000 ≤ 999000 := by omega
      refine ⟨us6, d9, by rw [rl6.length]; exact sz_lt (by omega), F9, acc6 ++ [y], us6 ++ [v], st.mut e9 ad hD, f56.trans (s7.f.trans s9.f), ?_, upd_same, e9, rl9.append (.cons r9 .nil), by rw [List.length_append]; simp; omega, p9⟩
      -- the slots are as they were: the new list is none of them
      have sl9 := sl6.step s06 (s7.trans s9)
      refine ⟨sl9.len, fun a c hc => ?_, sl9.ds⟩
      obtain ⟨sv, y1, y2⟩ := sl9.ok a c hc
      refine ⟨sv, y1, ?_⟩
      cases c with
      | un => trivial
      | rd t => exact y2
      | val t => exact y2
      | own t => exact absurd hc (no a t)
    · have ej : j = us1.length := by omega
      subst ej
      refine .inl ⟨l2, F6, acc6, us6, s6, d6, e6, rl6, by omega, jd acc6 hJ⟩
  · have e2 : i = ts.length := by omega
    subst e2
    exact .inl ⟨k2, k (hd acc hI) (s1.trans s2) ⟨D, rfl, hD0, ad, fD', us, hDs, rl⟩⟩
def tiOf (κ : Kd) (K : PySem.W.Frag) (R : Rs) (w : List Cell → (List T → Prop) → Prop) : TI := fun σ H Q => ∃ (F0 H0 F : Hp) (env : List Cell) (P : List T → Prop), Step R F0 H0 F H ∧ Sl K R H0 F H env σ ∧ w env P ∧ ∀ ts J F' H', P ts → Step R F H F' H' → ItOk K R κ F0 H0 F' J ts → Q J H'
theorem PSrc.canon {tg e : Expr} {w : List Cell → (List T → Prop) → Prop} (h : PSrc κ R X tg e w) : PI X tg e (tiOf κ X.K R w) := by
  obtain ⟨t, h1, h2⟩ := h.ex
  refine ⟨fun pins s σ H Q I q => h1.run pins s σ H Q I ?_⟩
  obtain ⟨F0, H0, F, env, P, a, b, c, d⟩ := q
  exact h2 a b c fun p s r => d _ _ _ _ p s r
theorem tiOf_ev {K : PySem.W.Frag} {w : List Cell → (List T → Prop) → Prop} : EvSrc K R κ (tiOf κ K R w) w := fun s sl hw k => ⟨_, _, _, _, _, s, sl, hw, fun _ _ _ _ p s r => k p s r⟩
theorem plc2_ {js js1 vs1 : List Nat} {elt tg iter tg1 iter1 : Expr} {scope : Scope} {own : List (Str × Nat)} {pos : Pos} {ws ws1 : List Cell → (List T → Prop) → Prop} {g g1 : WG} {e : WE} (hc : X.calm = true) (hN : X.N.Nodup) (hi : PSrc κ R X tg iter ws) (ok : BlkOk X.N X.env.scope scope own)
    (hg : ∀ (s : Shared) (H : Hp) (C : Addr) (cl : List (Str × Addr)) (fp : List Addr), PGv κ js R (X.blk s H scope (compEnvC scope cl C X.env) fp) tg g)
    (hi1 : ∀ (s : Shared) (H : Hp) (C : Addr) (cl : List (Str × Addr)) (fp : List Addr), PSrc ν R (X.blk s H scope (compEnvC scope cl C X.env) fp) tg1 iter1 ws1)
    (hg1 : ∀ (s : Shared) (H : Hp) (C : Addr) (cl : List (Str × Addr)) (fp : List Addr), PGv ν js1 R (X.blk s H scope (compEnvC scope cl C X.env) fp) tg1 g1)
    (he : ∀ (s : Shared) (H : Hp) (C : Addr) (cl : List (Str × Addr)) (fp : List Addr), PEv .S R (X.blk s H scope (compEnvC scope cl C X.env) fp) elt e) (hj : js.all (fun j => (own.map (·.2)).contains j) = true) (hj1 : js1.all (fun j => vs1.contains j) = true) (hv : vs1.all (fun j => (own.map (·.2)).contains j) = true)
    (hs : ∀ x, foldedSetIterable iter X.env x = pure x := by intro _; rfl) (hs1 : ∀ env x, foldedSetIterable iter1 env x = pure x := by intro _ _; rfl) :
    PEn R X (.ListComp elt [⟨tg, iter, [], 0⟩, ⟨tg1, iter1, [], 0⟩] scope pos) (wLc2 ws g ws1 g1 e (own.map (·.2)) vs1) := by
  obtain ⟨wi, i1, i2⟩ := hi.ex
  refine ⟨_, pe_lc2 (te := teOf .S X.K R e) (g := tgOf κ X.K R js g) (g1 := tgOf ν X.K R js1 g1) (wi1 := tiOf ν X.K R ws1) hc hN i1 ok (fun j m => by simpa using List.all_eq_true.mp hv j m) (fun s H C cl fp => (hg s H C cl fp).canon) (fun _ _ _ _ _ => pts_nil) (fun s H C cl fp => (hi1 s H C cl fp).canon) (fun s H C cl fp => (hg1 s H C cl fp).canon) (fun _ _ _ _ _ => pts_nil) (fun s H C cl fp => (he s H C cl fp).canon) hs hs1, ?_⟩
  exact evLc2 i2 tgOf_ev tiOf_ev tgOf_ev teOf_ev (fun j m => by simpa using List.all_eq_true.mp hj j m) (fun j m => by simpa using List.all_eq_true.mp hj1 j m)
theorem setLc2_ {n : Bool} {js js1 vs1 : List Nat} (i : Nat) {elt tg iter tg1 iter1 : Expr} {scope : Scope} {own : List (Str × Nat)} {pos py spos : Pos} {y : Str} {ws ws1 : List Cell → (List T → Prop) → Prop} {g g1 : WG} {e : WE} (hc : X.calm = true) (hN : X.N.Nodup) (hy : X.N[i]? = some y) (hyl : X.env.scope.names.lookup y = some .local)
    (hsw : swapsWith (.ListComp elt [⟨tg, iter, [], 0⟩, ⟨tg1, iter1, [], 0⟩] scope pos) (some (.Name y py)) spos.line X.env = pure true) (hi : PSrc κ R X tg iter ws) (ok : BlkOk X.N X.env.scope scope own)
    (hg : ∀ (s : Shared) (H : Hp) (C : Addr) (cl : List (Str × Addr)) (fp : List Addr), PGv κ js R (X.blk s H scope (compEnvC scope cl C X.env) fp) tg g)
    (hi1 : ∀ (s : Shared) (H : Hp) (C : Addr) (cl : List (Str × Addr)) (fp : List Addr), PSrc ν R (X.blk s H scope (compEnvC scope cl C X.env) fp) tg1 iter1 ws1)
    (hg1 : ∀ (s : Shared) (H : Hp) (C : Addr) (cl : List (Str × Addr)) (fp : List Addr), PGv ν js1 R (X.blk s H scope (compEnvC scope cl C X.env) fp) tg1 g1)
    (he : ∀ (s : Shared) (H : Hp) (C : Addr) (cl : List (Str × Addr)) (fp : List Addr), PEv .S R (X.blk s H scope (compEnvC scope cl C X.env) fp) elt e) (hj : js.all (fun j => (own.map (·.2)).contains j) = true) (hj1 : js1.all (fun j => vs1.contains j) = true) (hv : vs1.all (fun j => (own.map (·.2)).contains j) = true)
    (hs : ∀ x, foldedSetIterable iter X.env x = pure x := by intro _; rfl) (hs1 : ∀ env x, foldedSetIterable iter1 env x = pure x := by intro _ _; rfl) :
    PSv n R Wx X (.Assign [.Name y py] (.ListComp elt [⟨tg, iter, [], 0⟩, ⟨tg1, iter1, [], 0⟩] scope pos) spos) (wSet i .S (wLc2 ws g ws1 g1 e (own.map (·.2)) vs1)) := by
  obtain ⟨wi, i1, i2⟩ := hi.ex
  refine ⟨_, ps_setLc2 (te := teOf .S X.K R e) (g := tgOf κ X.K R js g) (g1 := tgOf ν X.K R js1 g1) (wi1 := tiOf ν X.K R ws1) hc hN hy hyl hsw i1 ok (fun j m => by simpa using List.all_eq_true.mp hv j m) (fun s H C cl fp => (hg s H C cl fp).canon) (fun _ _ _ _ _ => pts_nil) (fun s H C cl fp => (hi1 s H C cl fp).canon) (fun s H C cl fp => (hg1 s H C cl fp).canon) (fun _ _ _ _ _ => pts_nil) (fun s H C cl fp => (he s H C cl fp).canon) hs hs1, ?_⟩
  exact evSet i (EvN.keep (evLc2 i2 tgOf_ev tiOf_ev tgOf_ev teOf_ev (fun j m => by simpa using List.all_eq_true.mp hj j m) (fun j m => by simpa using List.all_eq_true.mp hj1 j m))) (by decide)
/-- a comparison by an own method that hands back a bool -/
theorem re_own2 {C : Addr} {c : Rs → List T → (T → Prop) → Prop} {r : R2} (hr : ∀ {x y : V} {H : Hp} {Q : VK}, (∃ (a dx : Addr) (fs : List (Str × V)), y = .ref a ∧ H a = some (.ins C dx fs) ∧ spT X.K [.B, .B] false c [.ref a, x] H (fun v H' => ∃ b, v = .bl b ∧ Q (.bl b) H') (fun _ _ _ => False)) → r x y H Q) :
    RE X.K R κ ν μ r (fun x y P => ∃ fs, y = .obj C fs ∧ c R [y, x] fun t => ∃ b, t = .bl b ∧ P (.bl b)) := by
  intro F0 H0 F H x y tx ty Q P s hx hy f k
  obtain ⟨fs, rfl, hc⟩ := f
  have up : ∀ {κ : Kd}, Same (base κ R H0 F H) (base .B R H F H) := fun {κ} => (base_le (μ := .M) (by cases κ <;> rfl) s).trans (join_right s.ok.sub (Same.refl _))
  have hy' := hy.mono (up (κ := ν))
  generalize e : T.obj C fs = t at hy hy' hc
  cases hy with
  | @obj a dx C' fs' ts g l =>
    cases e
    refine hr ⟨a, dx, fs', rfl, base_H s _ _ g, R, F, _, _, s.ok, .cons hy' (.cons (hx.mono up) .nil), hc, fun t v F' H' p s' rr => ?_⟩
    obtain ⟨b, rfl, p⟩ := p
    have ev := rep_bl (show Rep X.K F' v (.bl b) from rr)
    exact ⟨b, ev, k p s' (.bl _)⟩
  | _ => cases e
end
end Tv
/-! statements that are never reached; isinstance of two classes -/
namespace Tv
open PySem PySem.Spec PyProof.Rows L2
section
variable {R : Rs} {Wx : WX} {X : Cx} {κ ν μ : Kd} {n : Bool}
theorem fIsi_e {x : T} {T0 : String} {P : T → Prop} : fIsi [x, .op (.ty T0)] P = ∃ b, isiT x T0 = some b ∧ P (.bl b) := by
  apply propext
  constructor
  · rintro ⟨x1, T1, b, e, h⟩
    cases e
    exact ⟨b, h⟩
  · rintro ⟨b, h⟩
    exact ⟨x, T0, b, rfl, h⟩
def wDead : WS := fun _ _ => False
theorem deads_ {ss : List Stmt} : PSsv n R Wx X ss wDead := ⟨fun _ _ _ => False, ⟨fun _ _ _ _ _ _ h => h.elim⟩, fun {F0 H0 F H σ env D W} _ _ _ h => h.elim⟩
/-- isinstance(x, (T1, T2)) -/
def wIsi2 (T1 T2 : String) (w : WE) : WE := fun env P => w env fun t => ∃ b1 b2, isiT t T1 = some b1 ∧ isiT t T2 = some b2 ∧ P (.bl (b1 || b2))
theorem pisi2_ {e call : Expr} {T1 T2 : String} {w : WE} (h : PEv κ R X e w) (hp : ∀ {te}, PE X e te → PE X call (tCB (rIsiT X.K) (tCons te (tCons (tTup (tCons (tC (.ty T1)) (tCons (tC (.ty T2)) tNil))) tNil)))) : PEv μ R X call (wIsi2 T1 T2 w) := by
  obtain ⟨te, a1, a2⟩ := h.ex
  refine ⟨_, hp a1, fun {F0 H0 F H σ env Q P} s sl hw k => ?_⟩
  refine a2 s sl hw fun {t v F1 H1} p s1 r1 => ?_
  obtain ⟨b1, b2, i1, i2, p⟩ := p
  obtain ⟨m1, ty1, k1⟩ := Option.bind_eq_some_iff.mp i1
  obtain ⟨m2, ty2, k2⟩ := Option.bind_eq_some_iff.mp i2
  rw [ty1] at ty2
  cases ty2
  refine ⟨(by show 2 ≤ sizeLine; decide), fun q hq => ?_⟩
  have nw := Step.newKeep s1.ok hq (.tup [.ty T1, .ty T2])
  have ss := (s.trans s1)
  refine ⟨v, q, [.ty T1, .ty T2], _, _, b1 || b2, rfl, upd_same, .cons (.ty T1) (.cons (.ty T2) .nil), tyX_mono ((base_H ss).trans fun b o e => by rw [upd_ne fun q2 => by rw [q2, hq] at e; cases e]; exact e) (rep_ty r1 ty1), ?_, k p (s1.trans nw) (.bl _)⟩
  refine kitAny_cons (kit_ty k1) (fun e => kitAny_cons (kit_ty k2) (fun e2 => ?_) (fun e2 => ?_)) (fun e => ?_)
  · rw [e, e2]
    exact kitAny_nil
  · rw [e, e2]
    rfl
  · rw [e]
    rfl
end
end Tv
/-! texts: one sign after the other, a sign within a text, texts joined -/
namespace Tv
open PySem PySem.Spec PyProof.Rows L2
section
variable {R : Rs} {Wx : WX} {X : Cx} {κ ν μ : Kd} {n : Bool}
def signsT (x : Str) : List T := x.cps.toList.map fun c => T.str ⟨#[c]⟩
def wStr1 (w : WE) : List Cell → (List T → Prop) → Prop := fun env P => w env fun t => ∃ x, t = .str x ∧ P (signsT x)
theorem signs_len {x : Str} : (signsT x).length = x.cps.size := by
  unfold signsT
  rw [List.length_map]
  exact Array.length_toList
theorem srcS_ {tg e : Expr} {w : WE} (h : PEv ν R X e w) (hp : ∀ {te}, PE X e te → PI X tg e (iStr te) := by intro _ a; exact pi_str a) : PSrc κ R X tg e (wStr1 w) := by
  obtain ⟨te, h1, h2⟩ := h.ex
  refine ⟨_, hp h1, fun {F0 H0 F H σ env Q P} s sl hw k => h2 s sl hw fun {t v F1 H1} p s1 r => ?_⟩
  obtain ⟨x, rfl, p⟩ := p
  cases r
  refine ⟨x, rfl, k p s1 fun {F' H'} s' e => ?_⟩
  refine ⟨fun i hi => ⟨by rw [signs_len] at hi; exact hi, fun v H3 y => ?_⟩, by rw [signs_len]; exact Nat.le_refl _⟩
  obtain ⟨rfl, c, hc, rfl⟩ := y
  refine ⟨F', Step.refl s'.ok, .str ⟨#[c]⟩, ?_, .str _⟩
  unfold signsT
  rw [List.getElem?_map, show x.cps.toList[i]? = some c from by simpa using hc]
  rfl
def fInS (neg : Bool) (x y : T) (P : T → Prop) : Prop := ∃ (c : Nat) (z : Str), x = .str ⟨#[c]⟩ ∧ y = .str z ∧ P (.bl (if neg then !decide (c ∈ z.cps.toList) else decide (c ∈ z.cps.toList)))
theorem re_inS : RE X.K R κ ν μ (fun x y H Q => ∃ (c : Nat) (z : Str), x = .str ⟨#[c]⟩ ∧ y = .str z ∧ Q (.bl (decide (c ∈ z.cps.toList))) H) (fInS false) := by
  intro F0 H0 F H x y tx ty Q P s hx hy f k
  obtain ⟨c, z, rfl, rfl, p⟩ := f
  cases hx
  cases hy
  exact ⟨c, z, rfl, rfl, k p (Step.refl s.ok) (.bl _)⟩
theorem re_ninS : RE X.K R κ ν μ (fun x y H Q => ∃ (c : Nat) (z : Str), x = .str ⟨#[c]⟩ ∧ y = .str z ∧ Q (.bl (!decide (c ∈ z.cps.toList))) H) (fInS true) := by
  intro F0 H0 F H x y tx ty Q P s hx hy f k
  obtain ⟨c, z, rfl, rfl, p⟩ := f
  cases hx
  cases hy
  exact ⟨c, z, rfl, rfl, k p (Step.refl s.ok) (.bl _)⟩
def fLenS (ts : List T) (P : T → Prop) : Prop := ∃ x : Str, ts = [.str x] ∧ x.length ≤ 1000000 ∧ P (.int (x.length : Int))
theorem rc_lenS : RC X.K R [κ] μ (fun xs H Q => ∃ z, xs = [.str z] ∧ z.length ≤ sizeLine ∧ Q (.int z.length) H) fLenS := by
  intro F0 H0 F H vs ts Q P s r f k
  obtain ⟨x, rfl, hl, p⟩ := f
  cases r with
  | cons h l =>
    cases l
    cases h
    have sl := sizeLine_eq
    exact ⟨x, rfl, by omega, k p (Step.refl s.ok) (.int _)⟩
def fAddS (x y : T) (P : T → Prop) : Prop := ∃ a b : Str, x = .str a ∧ y = .str b ∧ a.length + b.length ≤ 1000000 ∧ P (.str (a ++ b))
theorem padds_ {a b : Expr} {pos} {wa wb : WE} (ha : PEv κ R X a wa) (hb : PEv ν R X b wb) : PEv μ R X (.BinOp a .Add b pos) (wOp fAddS wa wb) := by
  refine pop_ op_add_str ?_ ha hb
  intro F0 H0 F H x y tx ty Q P s hx hy f k
  obtain ⟨c, z, rfl, rfl, hl, p⟩ := f
  cases hx
  cases hy
  have sl := sizeLine_eq
  exact ⟨c, z, rfl, rfl, by omega, k p (Step.refl s.ok) (.str _)⟩
end
end Tv
/-! dicts of texts and numbers that are written out -/
namespace Tv
open PySem PySem.Spec PyProof.Rows L2
section
variable {R : Rs} {Wx : WX} {X : Cx} {κ ν μ : Kd} {n : Bool}
def dicS (es : List (Str × Int)) : T := .dic (es.map fun e => (T.str e.1, T.int e.2))
def kvS (es : List (Str × Int)) : List (Key × V) := es.map fun e => (Sum.inr e.1, V.int e.2)
theorem repL_intv {K : PySem.W.Frag} {G : Hp} : ∀ {es : List (Str × Int)} {vs : List V}, RepL K G vs (es.map fun e => T.int e.2) → vs = es.map fun e => V.int e.2
  | [], _, .nil => rfl
  | _ :: _, _, .cons (.int _) l => congrArg _ (repL_intv l)
theorem repL_kv {K : PySem.W.Frag} {G : Hp} : ∀ {es : List (Str × Int)}, RepL K G ((kvS es).map (·.2)) (es.map fun e => T.int e.2)
  | [] => .nil
  | _ :: es => .cons (.int _) (repL_kv (es := es))
theorem kv_zip : ∀ {es : List (Str × Int)}, ((kvS es).map fun q => keyT q.1).zip (es.map fun e => T.int e.2) = es.map fun e => (T.str e.1, T.int e.2)
  | [] => rfl
  | e :: es => congrArg (List.cons (T.str e.1, T.int e.2)) (kv_zip (es := es))
theorem zip_kv : ∀ {es : List (Str × Int)} {kvs : List (Key × V)} {ts : List T}, kvs.length = ts.length → (kvs.map fun q => keyT q.1).zip ts = es.map (fun e => (T.str e.1, T.int e.2)) → kvs.map (·.1) = es.map (fun e => (Sum.inr e.1 : Key)) ∧ ts = es.map fun e => T.int e.2
  | [], [], [], _, _ => ⟨rfl, rfl⟩
  | [], _ :: _, _ :: _, _, h => by cases h
  | e :: es, [], [], _, h => by cases h
  | e :: es, (k, v) :: kvs, t :: ts, hl, h => by
    obtain ⟨h1, h2⟩ := List.cons.inj h
    obtain ⟨h3, h4⟩ := Prod.mk.inj h1
    obtain ⟨i1, i2⟩ := zip_kv (es := es) (Nat.succ.inj hl) h2
    cases k with
    | inl i => cases h3
    | inr z =>
      cases h3
      subst h4
      exact ⟨by rw [List.map_cons, List.map_cons, i1], by rw [List.map_cons, i2]⟩
  | _, [], _ :: _, hl, _ => by cases hl
  | _, _ :: _, [], hl, _ => by cases hl
theorem pair_kv : ∀ {es : List (Str × Int)} {kvs : List (Key × V)}, kvs.map (·.1) = es.map (fun e => (Sum.inr e.1 : Key)) → kvs.map (·.2) = es.map (fun e => V.int e.2) → kvs = kvS es
  | [], [], _, _ => rfl
  | [], _ :: _, h, _ => by cases h
  | _ :: _, [], h, _ => by cases h
  | e :: es, (k, v) :: kvs, h, g => by
    obtain ⟨h1, h2⟩ := List.cons.inj h
    obtain ⟨g1, g2⟩ := List.cons.inj g
    cases h1
    cases g1
    rw [pair_kv h2 g2]
    rfl
theorem rep_dicS {K : PySem.W.Frag} {G : Hp} {v : V} {e : Str × Int} {es : List (Str × Int)} (h : Rep K G v (dicS (e :: es))) : ∃ a, v = .ref a ∧ G a = some (.dK (kvS (e :: es))) := by
  unfold dicS at h
  generalize q : T.dic ((e :: es).map fun e => (T.str e.1, T.int e.2)) = t at h
  cases h with
  | @dicK a kvs ts g l =>
    have q2 := (T.dic.inj q).symm
    have hl : kvs.length = ts.length := by
      have := l.length
      rwa [List.length_map] at this
    obtain ⟨q3, q4⟩ := zip_kv hl q2
    subst q4
    have q5 := repL_intv l
    exact ⟨a, rfl, by rw [g, pair_kv q3 q5]⟩
  | @dicT a kvs ts g l =>
    have q2 := T.dic.inj q
    cases kvs with
    | nil => cases q2
    | cons k kvs =>
      cases ts with
      | nil => cases q2
      | cons t ts => cases q2
  | _ => cases q
theorem val_kv {z : Str} : ∀ {es : List (Str × Int)}, valV (kvS es) (Sum.inr z : Key) = (es.lookup z).map V.int
  | [] => rfl
  | (k, v) :: es => by
    by_cases e : k = z
    · subst e
      rw [show valV (kvS ((k, v) :: es)) (Sum.inr k : Key) = some (V.int v) from valV_pos rfl, List.lookup_cons_self]
      rfl
    · rw [show valV (kvS ((k, v) :: es)) (Sum.inr z : Key) = valV (kvS es) (Sum.inr z) from valV_neg fun q => e (Sum.inr.inj q), val_kv, List.lookup_cons, show (z == k) = false from beq_false_of_ne fun q => e q.symm]
def fDIn (neg : Bool) (x y : T) (P : T → Prop) : Prop := ∃ (z : Str) (e : Str × Int) (es : List (Str × Int)), x = .str z ∧ y = dicS (e :: es) ∧ P (.bl (if neg then !((e :: es).lookup z).isSome else ((e :: es).lookup z).isSome))
theorem opt_some {o : Option Int} : (o.map V.int).isSome = o.isSome := by cases o <;> rfl
theorem re_din : RE X.K R κ ν μ (fun y x H Q => ∃ a o, x = .ref a ∧ DGet H a y o ∧ Q (.bl o.isSome) H) (fDIn false) := by
  intro F0 H0 F H x y tx ty Q P s hx hy f k
  obtain ⟨z, e, es, rfl, rfl, p⟩ := f
  cases hx
  obtain ⟨a, rfl, g⟩ := rep_dicS hy
  exact ⟨a, _, rfl, DGet.k (k := Sum.inr z) (base_H s _ _ g), by rw [val_kv, opt_some]; exact k p (Step.refl s.ok) (.bl _)⟩
theorem re_dnin : RE X.K R κ ν μ (fun y x H Q => ∃ a o, x = .ref a ∧ DGet H a y o ∧ Q (.bl (!o.isSome)) H) (fDIn true) := by
  intro F0 H0 F H x y tx ty Q P s hx hy f k
  obtain ⟨z, e, es, rfl, rfl, p⟩ := f
  cases hx
  obtain ⟨a, rfl, g⟩ := rep_dicS hy
  exact ⟨a, _, rfl, DGet.k (k := Sum.inr z) (base_H s _ _ g), by rw [val_kv, opt_some]; exact k p (Step.refl s.ok) (.bl _)⟩
theorem ptdnin_ {i o : Expr} {pos} {wi wo : WE} (hu : X.A.units + 1 < cLine) (hm : behindInMarks .NotIn o = false) (hi : PEv κ R X i wi) (ho : PEv ν R X o wo) : PTv R X (.Compare i [.NotIn] [o] pos) (wTest (wOp (fDIn true) wi wo)) := by
  obtain ⟨ti, a1, a2⟩ := hi.ex
  obtain ⟨to, b1, b2⟩ := ho.ex
  exact ⟨_, pt_cmp (pc_dnotin hu a1 b1) hm, evTest (evOp (μ := .S) a2 b2 (re_dnin (κ := κ) (ν := ν) (μ := .S)))⟩
def fDGet (x y : T) (P : T → Prop) : Prop := ∃ (z : Str) (e : Str × Int) (es : List (Str × Int)) (i : Int), y = .str z ∧ x = dicS (e :: es) ∧ (e :: es).lookup z = some i ∧ P (.int i)
theorem pdget_ {o i : Expr} {pos} {wi wo : WE} (hu : X.A.units + 1 < cLine) (ho : PEv κ R X o wo) (hi : PEv ν R X i wi) (hs : NoSl i := by intro _ _; rfl) : PEv μ R X (.Subscript o i pos) (wOp fDGet wo wi) := by
  obtain ⟨to, a1, a2⟩ := ho.ex
  obtain ⟨ti, b1, b2⟩ := hi.ex
  refine ⟨_, pe_dget hu a1 b1 hs, evOp a2 b2 (r := fun x y H Q => ∃ a v, x = .ref a ∧ DGet H a y (some v) ∧ Q v H) ?_⟩
  intro F0 H0 F H x y tx ty Q P s hx hy f k
  obtain ⟨z, e, es, i, rfl, rfl, hl, p⟩ := f
  cases hy
  obtain ⟨a, rfl, g⟩ := rep_dicS hx
  refine ⟨a, .int i, rfl, ?_, k p (Step.refl s.ok) (.int _)⟩
  have := DGet.k (k := Sum.inr z) (base_H s _ _ g)
  rw [val_kv, hl] at this
  exact this
theorem pairs_c {σ : L2.St} {H : Hp} {Q : List (V × V) → Hp → Prop} : ∀ {es : List (Str × Int)}, Q (es.map fun e => (V.str e.1, V.int e.2)) H → tPairs (es.map fun e => (tC (.str e.1), tC (.int e.2))) σ H Q
  | [], h => h
  | e :: es, h => pairs_c (es := es) (Q := fun ps H3 => Q ((V.str e.1, V.int e.2) :: ps) H3) h
def wDisp (es : List (Str × Int)) : WE := fun _ P => P (dicS es)
theorem pdisp_ {e : Expr} {es : List (Str × Int)} (h : PE X e (tDisp (es.map fun e => (tC (.str e.1), tC (.int e.2))))) (hm : mergeK [] (kvS es) = kvS es) (hl : es.length ≤ 15 := by decide) : PEn R X e (wDisp es) := by
  refine ⟨_, h, fun {F0 H0 F H σ env Q P} s sl hw k => ?_⟩
  intro p hp
  refine pairs_c ⟨upd_same, kvS es, by unfold kvS; rw [List.map_map]; rfl, by unfold kvS; rw [List.length_map]; exact hl, ?_⟩
  have e2 : upd (upd H p (.dK [])) p (.dK (mergeK [] (kvS es))) = upd H p (.dK (kvS es)) := by
    rw [hm]
    funext b
    by_cases q : b = p
    · subst q
      rw [upd_same, upd_same]
    · rw [upd_ne q, upd_ne q, upd_ne q]
  rw [e2]
  have nw := Step.new s.ok hp (.dK (kvS es))
  exact k hw nw ⟨p, rfl, hp, s.ok.adNew hp, s.ok.free hp, .inl ⟨kvS es, _, upd_same, repL_kv, kv_zip.symm⟩⟩
end
end Tv
/-! an item of an own list replaced -/
namespace Tv
open PySem PySem.Spec PyProof.Rows L2
section
variable {R : Rs} {Wx : WX} {X : Cx} {κ ν μ : Kd} {n : Bool}
theorem ixN_nat {m k : Nat} (h : k < m) : ixN m (k : Int) = some k := by
  unfold ixN
  rw [if_pos (Int.natCast_nonneg k)]
  simp [h]
def wISet (i : Nat) (w wj : WE) : WS := fun W env => match env[i]? with
  | some (.own (.lst ts)) => w env fun t => wj env fun y => ∃ k : Nat, y = .int (k : Int) ∧ k < ts.length ∧ W.nx (env.set i (.own (.lst (ts.set k t))))
  | _ => False
theorem iset_ (i : Nat) {e ix o : Expr} {st : Stmt} {w wj : WE} (ho : PE X o (tVar i)) (h : PEv .S R X e w) (hj : PEv .M R X ix wj) (hs : ∀ {to te tj}, PE X o to → PE X e te → PE X ix tj → PS X st (tAsg te (gSub to tj rSetL))) : PSv n R Wx X st (wISet i w wj) := by
  obtain ⟨te, h1, h2⟩ := h.ex
  obtain ⟨tj, j1, j2⟩ := hj.ex
  refine ⟨_, hs ho h1 j1, fun {F0 H0 F H σ env D W} it s sl hw => ?_⟩
  unfold wISet at hw
  split at hw
  · rename_i ts q
    obtain ⟨c, c1, a, rfl, _⟩ := sl.ok i _ q
    refine h2 s sl hw fun {t v F1 H1} p1 s1 r1 => ?_
    have sl1 := sl.step s s1
    have ok1 := s.trans s1
    refine ⟨_, c1, ?_⟩
    refine j2 ok1 sl1 p1 fun {y u F2 H2} p2 s2 r2 => ?_
    have sl2 := sl1.step ok1 s2
    have ok2 := ok1.trans s2
    obtain ⟨k, rfl, hk, p3⟩ := p2
    cases r2
    obtain ⟨c, c2, b, e, f1, f2, f3, vs', f4, f5⟩ := sl2.ok i _ q
    rw [c1] at c2
    have e2 : (V.ref a) = V.ref b := Option.some.inj ((Option.some.inj c2).trans e)
    have e3 : a = b := V.ref.inj e2
    subst e3
    have r1' := r1.mono s2.f
    have s3 := ok2.mut (a := a) (o := .lst (vs'.set k v)) f1 f2 f3
    refine ⟨a, vs', _, k, rfl, rfl, f4, ixN_nat (by rw [f5.length]; exact hk), ?_⟩
    exact it.nx p3 s3 (s1.f.trans s2.f) (sl2.mut q c1 (OwnAt.lst_ upd_same (RepL.set k f5 r1')))
  · exact hw.elim
end
end Tv
/-! many things kept at once; slots of which nothing is told -/
namespace Tv
open PySem PySem.Spec PyProof.Rows L2
theorem keep_all {R : Rs} {F H F2 H3 : Hp} (S : Step R F H F2 H3) (p : Addr → Prop) [DecidablePred p] (hp : ∀ b, p b → H b = none ∧ R.ad b = false ∧ F2 b = none) : Step R F H (fun b => if p b then H3 b else F2 b) H3 := by
  refine ⟨fun b o e => ?_, S.g, fun b o e z => ?_, ⟨fun b o e => ?_, S.ok.inv⟩⟩
  · have e2 := S.f b o e
    have np : ¬ p b := fun q => by
      rw [(hp b q).2.2] at e2
      cases e2
    show (if p b then H3 b else F2 b) = some o
    rw [if_neg np]
    exact e2
  · by_cases q : p b
    · exact sans_none (hp b q).1
    · have e : (if p b then H3 b else F2 b) = some o := e
      rw [if_neg q] at e
      exact S.n b o e z
  · have e : (if p b then H3 b else F2 b) = some o := e
    by_cases q : p b
    · rw [if_pos q] at e
      rw [sans_of (hp b q).2.1]
      exact e
    · rw [if_neg q] at e
      exact S.ok.sub b o e
/-- slots whose cell tells nothing may be filled anew -/
theorem Sl.anew {K : PySem.W.Frag} {R : Rs} {H0 F H : Hp} {env : List Cell} {σ σ' : List (Option V)} (sl : Sl K R H0 F H env σ) (hl : σ'.length = σ.length) (h : ∀ j : Nat, env[j]? = some .un ∨ σ'[j]? = σ[j]?) : Sl K R H0 F H env σ' := by
  refine ⟨hl.trans sl.len, fun j c hc => ?_, fun i j ti tj a e1 e2 e3 e4 => ?_⟩
  · rcases h j with u | e
    · rw [hc] at u
      cases u
      have hj := (List.getElem?_eq_some_iff.mp hc).1
      rw [← sl.len, ← hl] at hj
      exact ⟨σ'[j], List.getElem?_eq_getElem hj, trivial⟩
    · rw [e]
      exact sl.ok j c hc
  · have f1 : σ'[i]? = σ[i]? := (h i).resolve_left fun u => by
      rw [e1] at u
      cases u
    have f2 : σ'[j]? = σ[j]? := (h j).resolve_left fun u => by
      rw [e2] at u
      cases u
    exact sl.ds i j ti tj a e1 e2 (by rw [← f1]; exact e3) (by rw [← f2]; exact e4)
end Tv
/-! try; exceptions caught; objects made -/
namespace Tv
open PySem PySem.Spec PyProof.Rows L2
/-- one reading of statements, by what they may do -/
def tsOf (n : Bool) (K : PySem.W.Frag) (R : Rs) (Wx : WX) (w : WS) : TS := fun D σ H => ∃ (F0 H0 F : Hp) (env : List Cell) (W : WEnds), Into n K R Wx F0 H0 F W D ∧ Step R F0 H0 F H ∧ Sl K R H0 F H env σ ∧ w W env
/-- the same, whatever is set apart -/
def tsAll (n : Bool) (K : PySem.W.Frag) (Wx : WX) (w : Rs → WS) : TS := fun D σ H => ∃ (R : Rs) (F0 H0 F : Hp) (env : List Cell) (W : WEnds), Into n K R Wx F0 H0 F W D ∧ Step R F0 H0 F H ∧ Sl K R H0 F H env σ ∧ w R W env
section
variable {R : Rs} {Wx : WX} {X : Cx} {n : Bool}
theorem PSsv.canon {sts : List Stmt} {w : WS} (h : PSsv n R Wx X sts w) : PSs X sts (tsOf n X.K R Wx w) := by
  obtain ⟨t, h1, h2⟩ := h.ex
  refine ⟨fun pins s σ H D I q => h1.run pins s σ H D I ?_⟩
  obtain ⟨F0, H0, F, env, W, a, b, c, d⟩ := q
  exact h2 a b c d
theorem PSsv.canonR {sts : List Stmt} {w : Rs → WS} (h : ∀ R, PSsv n R Wx X sts (w R)) : PSs X sts (tsAll n X.K Wx w) := by
  refine ⟨fun pins s σ H D I q => ?_⟩
  obtain ⟨R, F0, H0, F, env, W, a, b, c, d⟩ := q
  obtain ⟨t, h1, h2⟩ := (h R).ex
  exact h1.run pins s σ H D I (h2 a b c d)
theorem PSv.canonR {st : Stmt} {w : Rs → WS} (h : ∀ R, PSv n R Wx X st (w R)) : PS X st (tsAll n X.K Wx w) := by
  refine ⟨fun pins s σ H D I q => ?_⟩
  obtain ⟨R, F0, H0, F, env, W, a, b, c, d⟩ := q
  obtain ⟨t, h1, h2⟩ := (h R).ex
  exact h1.run pins s σ H D I (h2 a b c d)
/-! try -/
/-- what follows a clause that holds its exception in slot i -/
def noEx (W : WEnds) (i : Nat) : WEnds := { nx := fun e => W.nx (e.set i .un), rt := W.rt, bk := fun e => W.bk (e.set i .un), ct := fun e => W.ct (e.set i .un) }
def wTry (K : PySem.W.Frag) (c : Value) (i : Nat) (b : WS) (sx : Addr → Value → Option Addr → WS) : WS := fun W env => b { W with ex := fun C us e => ∃ t, PySem.W.exmOne K (.ref C) c = some t ∧ (t = true → ∀ a d, sx a (.ref C) (some d) (noEx W i) (e.set i (.val (.exc a d us)))) ∧ (t = false → W.ex C us e) } env
theorem zip_maps {α β : Type} : ∀ (us : List (α × β)), (us.map (·.1)).zip (us.map (·.2)) = us
  | [] => rfl
  | u :: us => by rw [List.map_cons, List.map_cons, List.zip_cons_cons, zip_maps us]
theorem ExAt.rep {K : PySem.W.Frag} {F H : Hp} {a d : Addr} {us : List (Str × T)} (h : ExAt K F H d us) : Rep K F (.ref a) (.exc a d us) := by
  obtain ⟨fs, h1, h2, h3⟩ := h
  have e := Rep.exc (K := K) (G := F) (a := a) h1 h3
  rw [h2, zip_maps] at e
  exact e
theorem Sl.wipe1 {K : PySem.W.Frag} {H0 F H : Hp} {env : List Cell} {σ : List (Option V)} (h : Sl K R H0 F H env σ) (i : Nat) : Sl K R H0 F H (env.set i .un) (σ.set i none) := h.wipe [i]
theorem try_ {Wout : WX} {x nm : Str} {c : Value} {i : Nat} {body suite : List Stmt} {b₀ : Stmt} {np pos pos' : Pos} {wb : WS} {sx : Addr → Value → Option Addr → WS} (hs : X.stack = X.env :: X.outer) (hf : X.env.frame = some X.env.locals) (hN : X.N.Nodup) (hi : X.N[i]? = some nm) (hln : X.env.kindOf nm = some .local) (hc : Names X x c) (tk : Takes X Wout)
    (hb : ∀ (W : WX) (pn : List (Addr × Obj)) (xe : Value → Shared → Prop), Takes (X.tr pn xe) W → PassesOwn (model X.prog X.w) X.A X.env xe → PSsv n R W (X.tr pn xe) body wb)
    (hsu : ∀ (a : Addr) (oe : Obj) (cls : Value) (d : Option Addr) (pn : List (Addr × Obj)), Zc cls d oe → (∃ vs, oe.data = .fields vs) → PSsv n R noW (X.suite a ((a, oe) :: pn)) (b₀ :: suite) (sx a cls d)) :
    PSv n R Wout X (.Try body [.ExceptHandler (some (.Name x np)) (some nm) (b₀ :: suite) pos'] [] [] pos) (wTry X.K c i wb sx) := by
  refine ⟨_, ps_try_as (tb := fun W => tsOf n X.K R W wb) (ts := fun a cls d => tsOf n X.K R noW (sx a cls d)) hs hf hN hi hln hc tk (fun W pn xe t p => (hb W pn xe t p).canon) (fun a oe cls d pn z f => (hsu a oe cls d pn z f).canon), fun {F0 H0 F H σ env D W} it s sl hw => ?_⟩
  refine ⟨F0, H0, F, env, { W with ex := fun C us e => ∃ t, PySem.W.exmOne X.K (.ref C) c = some t ∧ (t = true → ∀ a d, sx a (.ref C) (some d) (noEx W i) (e.set i (.val (.exc a d us)))) ∧ (t = false → W.ex C us e) }, ⟨it.nx, it.rt, it.bk, it.ct, fun {C us σ' e d F' H'} p s' f' sl' x => ?_⟩, s, sl, hw⟩
  obtain ⟨t, ht, h1, h2⟩ := p
  refine ⟨t, ht, fun tt a ha => ?_, fun tf => it.ex (h2 tf) s' f' sl' x⟩
  refine ⟨F0, H0, F', e.set i (.val (.exc a d us)), noEx W i, ⟨fun p q f l => it.nx p q (f'.trans f) (l.wipe1 i), fun p q f l => it.rt p q (f'.trans f) l, fun p q f l => it.bk p q (f'.trans f) (l.wipe1 i), fun p q f l => it.ct p q (f'.trans f) (l.wipe1 i), fun p => p.elim⟩, s', ?_, h1 tt a d⟩
  exact sl'.set ⟨_, rfl, x.rep⟩ fun t a e => by cases e
end
/-! the exception that a clause holds -/
section
variable {R : Rs} {X : Cx} {κ ν μ : Kd}
def wXf (a : Addr) (cls : Value) (d : Option Addr) (C : Addr) (f : Str) (w : WE) : WE := fun env P => w env fun t => ∃ dd us u, d = some dd ∧ t = .exc a dd us ∧ cls = .ref C ∧ us.lookup f = some u ∧ P u
theorem xf_ {a C : Addr} {oe : Obj} {cls : Value} {d : Option Addr} {pn : List (Addr × Obj)} {e : Expr} {w : WE} {pos : Pos} {f : Str} (c : XfC X.K C) (no : PySem.W.findIn X.K (.ref C) f = some none) (hz : Zc cls d oe) (hf : ∃ vs, oe.data = .fields vs) (h : PEv κ R (X.suite a ((a, oe) :: pn)) e w) (hb : attributeBase e f X.env (eval e X.env) = eval e X.env := by rfl) :
    PEv κ R (X.suite a ((a, oe) :: pn)) (.Attribute e f pos) (wXf a cls d C f w) := by
  obtain ⟨te, h1, h2⟩ := h.ex
  refine ⟨_, pe_xf c no hz hf h1 hb, fun {F0 H0 F H σ env Q P} s sl hw k => h2 s sl hw fun {t v F1 H1} p s1 r => ?_⟩
  obtain ⟨dd, us, u, rfl, rfl, rfl, lk, p⟩ := p
  generalize e : T.exc a dd us = t at r
  cases r with
  | exc g l =>
    cases e
    obtain ⟨v, q1, q2⟩ := lookup_rep l lk
    exact ⟨rfl, rfl, _, _, v, rfl, base_H (s.trans s1) _ _ g, q1, k p s1 q2⟩
  | _ => cases e
def fIsX (K : PySem.W.Frag) (a : Addr) (cls : Value) (d : Option Addr) (C : Addr) (ts : List T) (P : T → Prop) : Prop := ∃ dd us E b, d = some dd ∧ ts = [.exc a dd us, .op (.ref E)] ∧ cls = .ref C ∧ PySem.W.kitOne K (.ref C) (.ref E) = some b ∧ P (.bl b)
theorem rc_isx (K : PySem.W.Frag) {a C : Addr} {cls : Value} {d : Option Addr} : RC K R [κ, ν] μ (Nm.rIsF K C a cls d) (fIsX K a cls d C) := by
  intro F0 H0 F H vs ts Q P s r f k
  obtain ⟨dd, us, E, b, rfl, rfl, rfl, hk, p⟩ := f
  cases r with
  | cons h l =>
    generalize e : T.exc a dd us = t at h
    cases h with
    | exc g m =>
      cases e
      cases l with
      | cons h l =>
        cases l
        cases h
        exact ⟨_, _, _, _, b, rfl, rfl, base_H s _ _ g, rfl, .own E, hk, k p (Step.refl s.ok) (.bl b)⟩
    | _ => cases e
end
/-! objects made -/
section
variable {X : Cx} {CX : CXT} {k : Nat} {f C : Addr} {fd : FuncData} {ps : List Str} {sp : Sp} {x : Str}
/-- C(..) where exceptions are taken -/
def tMkS (C : Addr) (sp : Sp) (E : L2.St → XK) (ta : TA) : TE := fun σ H Q => ta σ H fun vs G => ∀ o d, G o = none → G d = none → d ≠ o → sp (.ref o :: vs) (upd (upd G d (.own o)) o (.ins C d [])) (fun v G' => v = .non ∧ Q (.ref o) G') (E σ)
theorem run_mkS {E : L2.St → XK} {pins : List (Addr × Obj)} {σ : L2.St} {H : Hp} {s : Shared} {Q : VK} {us : List Value} {vs : List V} (m : Mk X.K C f) (G : FnOk X.prog X.w X.K X.mg X.base CX k f fd ps sp) (room : Room (k + 1) X.A) (bd : Binds X.K fd ps []) (px : PassesAt CX X σ (E σ)) (I : Inv X pins σ H s) (rv : Vals vs us)
    (h : ∀ o d, H o = none → H d = none → d ≠ o → sp (.ref o :: vs) (upd (upd H d (.own o)) o (.ins C d [])) (fun v G' => v = .non ∧ Q (.ref o) G') (E σ)) : wpAny (model X.prog X.w) X.A (call (.ref C) us) (EP X pins σ Q) X.xe s := by
  have z := s.heap.objs.size
  have q := h (s.heap.objs.size + 1) s.heap.objs.size (I.hok.fresh (Nat.le_succ _)) (I.hok.fresh (Nat.le_refl _)) (Nat.ne_of_lt (Nat.lt_succ_self _))
  have J := Inv.made (C := C) I
  have rr : Vals (V.ref (s.heap.objs.size + 1) :: vs) (Value.ref (s.heap.objs.size + 1) :: us) := .cons rfl rv
  have el : ((Value.ref (s.heap.objs.size + 1) :: us) ++ []).length = ps.length := by
    rw [List.append_nil, ← rr.length, G.len _ _ _ _ q]
  have bb := bd _ (Value.ref (s.heap.objs.size + 1) :: us) J.kIn el
  rw [List.append_nil] at bb
  have go := G.run _ X.stack _ _ ⟨Value.ref (s.heap.objs.size + 1) :: us, []⟩ (Value.ref (s.heap.objs.size + 1) :: us) _ _ (E σ) (room.make C us []) (J.env0.make C us []) bb rr q
  refine wpAny_call (make_map (f := f) I.kIn m.makes m.init (beq_iff_eq.mp m.fn) (codeAny_mono go fun r s' y => ?_))
  cases r with
  | error e => exact px pins _ _ e s' J y
  | ok fl =>
    cases fl with
    | next => exact y.elim
    | brk => exact y.elim
    | cont => exact y.elim
    | ret u =>
      obtain ⟨v, H', J', r1, r2, r3⟩ := J.after y
      cases r2
      exact ⟨r1, ⟨.ref (s.heap.objs.size + 1), H', J', rfl, r3⟩⟩
theorem pe_mkS {E : L2.St → XK} {p pos : Pos} {e : Expr} {es : List Expr} {t : TA} (m : Mk X.K C f) (G : FnOk X.prog X.w X.K X.mg X.base CX k f fd ps sp) (room : Room (k + 1) X.A) (bd : Binds X.K fd ps []) (px : ∀ σ, PassesAt CX X σ (E σ)) (hg : Gl X x) (hm : X.mg x = some (.ref C)) (ha : PA X (e :: es) t)
    (hdb : (x == ("__debug__" : Str)) = false := by decide) (he : starEach (e :: es) X.env = (false, eval e X.env) :: starEach es X.env := by rfl) (hpl : (backTo pos (starEach es X.env)).any (·.1) = false := by rfl) : PE X (.Call (.Name x p) (e :: es) [] pos) (tMkS C sp E t) := by
  refine ⟨fun pins s σ H Q I h => wpAny_Call_Name_kw (ld_glob I hg hm ?_ hdb)⟩
  refine PySem.W.callWith_K (h₀ := X.base) I.ok.mod.kin m.kp (thn (ha.run pos pins s σ H _ I h) fun us s1 ⟨vs, H1, I1, r, q⟩ => ⟨I1.kIn, ?_⟩) he hpl
  exact run_mkS m G room bd (px σ) I1 r q
end
abbrev CtI := Rs → List T → (List (Str × T) → Prop) → (Addr → List (Str × T) → Prop) → Prop
/-- what an __init__ promises: self is new, and in the end has fields of which P tells -/
def spIT (K : PySem.W.Frag) (C : Addr) (κs : List Kd) (c : CtI) : Sp := fun vs H Q E => ∃ (R : Rs) (F G : Hp) (o d : Addr) (ws : List V) (ts : List T) (P : List (Str × T) → Prop) (PX : Addr → List (Str × T) → Prop), vs = .ref o :: ws ∧ G o = none ∧ G d = none ∧ d ≠ o ∧ H = upd (upd G d (.own o)) o (.ins C d []) ∧ Ok R F G ∧ RepA K R G F G κs ws ts ∧ c R ts P PX ∧
  (∀ us F' H', P us → Step R F G F' H' → New K R G F' H' (.ref o) (.obj C us) → Q .non H') ∧
  (∀ D us d F' H', PX D us → Step R F G F' H' → ExAt K F' H' d us → E (.ref D) (some d) H')
section
variable {R : Rs} {Wx : WX} {X : Cx} {κ ν μ : Kd} {n : Bool}
theorem evMkS {κs : List Kd} {C : Addr} {c : CtI} {ta : TA} {wa : WA} (h : EvA X.K R (κs.map cal) ta wa) {F0 H0 F H : Hp} {σ : List (Option V)} {env : List Cell} {Q : VK} {P : List (Str × T) → Prop} {PX : Addr → List (Str × T) → Prop} (s : Step R F0 H0 F H) (sl : Sl X.K R H0 F H env σ) (hw : wa env fun ts => c R ts P PX)
    (k : ∀ {us v F' H'}, P us → Step R F H F' H' → New X.K R H F' H' v (.obj C us) → Q v H') (kx : ∀ {D us d F' H'}, PX D us → Step R F H F' H' → ExAt X.K F' H' d us → Wx (.ref D) (some d) σ H') : tMkS C (spIT X.K C κs c) (L2.WE Wx) ta σ H Q := by
  refine h s sl hw fun {ts vs F1 H1} p s1 r1 => fun o d ho hd ne => ?_
  refine ⟨R, F1, H1, o, d, vs, ts, P, PX, rfl, ho, hd, ne, rfl, s1.ok, r1.cal (s.trans s1), p, fun us F' H' p s2 r => ⟨rfl, k p (s1.trans s2) ?_⟩, fun D us d F' H' p s2 x => kx p (s1.trans s2) x⟩
  exact r.back s1
/-- x = C(..) -/
def wSetMk (R : Rs) (i : Nat) (C : Addr) (c : CtI) (wa : WA) : WS := fun W env => wa env fun ts => c R ts (fun us => W.nx (env.set i (.own (.obj C us)))) fun D us => W.ex D us env
theorem setMk_ {κs ms : List Kd} {C : Addr} {c : CtI} {st : Stmt} {e : Expr} {es : List Expr} {wa : WA} (i : Nat) (hm : κs.map cal = ms) (hp : ∀ {ta}, PA X es ta → PE X e (tMkS C (spIT X.K C κs c) (L2.WE Wx) ta)) (ha : PAv ms R X es wa) (hs : ∀ {te}, PE X e te → PS X st (tAsg te (gName i))) :
    PSv n R Wx X st (wSetMk R i C c wa) := by
  subst hm
  obtain ⟨ta, a1, a2⟩ := ha.ex
  refine ⟨_, hs (hp a1), fun {F0 H0 F H σ env D W} it s sl hw => ?_⟩
  refine evMkS (P := fun us => W.nx (env.set i (.own (.obj C us)))) (PX := fun D us => W.ex D us env) a2 s sl hw (fun {us v F' H'} p s1 r1 => ?_) fun p s1 x => it.ex p (s.trans s1) s1.f (sl.step s s1) x
  obtain ⟨a, rfl, z0, za, zf, zo⟩ := r1.ex
  have h0 : H0 a = none := by
    have := s.g.free (sans_none (ad := R.ad) z0)
    rw [sans_of za] at this
    exact this
  refine it.nx p (s.trans s1) s1.f ((sl.step s s1).set ⟨a, rfl, zf, za, h0, zo⟩ fun u b e1 e2 j tj q1 q2 => ?_)
  cases e2
  obtain ⟨c, c1, d, c2, _, _, _, c5⟩ := sl.ok j _ q1
  rw [q2] at c1
  cases c1
  cases c2
  obtain ⟨o, ho⟩ := c5.obj_
  rw [z0] at ho
  cases ho
/-- C(..) as a value, nothing raised -/
def wMk (R : Rs) (c : CtI) (C : Addr) (wa : WA) : WE := fun env P => wa env fun ts => c R ts (fun us => P (.obj C us)) fun _ _ => False
theorem mk_ {κs ms : List Kd} {C : Addr} {c : CtI} {e : Expr} {es : List Expr} {wa : WA} (hm : κs.map cal = ms) (hp : ∀ {ta}, PA X es ta → PE X e (tMkS C (spIT X.K C κs c) (L2.WE Wx) ta)) (ha : PAv ms R X es wa) : PEn R X e (wMk R c C wa) := by
  subst hm
  obtain ⟨ta, a1, a2⟩ := ha.ex
  refine ⟨_, hp a1, fun {F0 H0 F H σ env Q P} s sl hw k => ?_⟩
  exact evMkS (P := fun us => P (.obj C us)) (PX := fun _ _ => False) a2 s sl hw (fun p s1 r1 => k p s1 r1) fun p => p.elim
/-- f(..) of a def that may raise, nothing raised here -/
theorem callSX_ {κs ms : List Kd} {c : CtX} {e : Expr} {es : List Expr} {wa : WA} (hm : κs.map cal = ms) (hp : ∀ {ta}, PA X es ta → PE X e (tCallS (spTX X.K κs false c) (L2.WE Wx) ta)) (ha : PAv ms R X es wa) : PEv κ R X e (fun env P => wa env fun ts => c R ts P fun _ _ => False) := by
  subst hm
  obtain ⟨ta, a1, a2⟩ := ha.ex
  refine PEv.up (κ := .S) ⟨_, hp a1, fun {F0 H0 F H σ env Q P} s sl hw k => ?_⟩ (by cases κ <;> rfl)
  exact evCallX (P := P) (PX := fun _ _ => False) a2 s sl hw (fun p s1 r => k p s1 r) fun p => p.elim
/-- self.x = e, self new -/
def wFldSet (i : Nat) (C : Addr) (f : Str) (w : WE) : WS := fun W env => match env[i]? with
  | some (.own (.mk o D fs)) => w env fun t => D = C ∧ fs.length < 900 ∧ fs.all (fun q => decide (q.1 ≠ f)) = true ∧ W.nx (env.set i (.own (.mk o D (fs ++ [(f, t)]))))
  | _ => False
theorem putF_new {f : Str} {v : V} : ∀ {fs : List (Str × V)}, (∀ q ∈ fs, q.1 ≠ f) → putF f v fs = fs ++ [(f, v)]
  | [], _ => rfl
  | (g, x) :: r, h => by
    have h1 : g ≠ f := h (g, x) List.mem_cons_self
    show (if g = f then (g, v) :: r else (g, x) :: putF f v r) = _
    rw [if_neg h1, putF_new fun q m => h q (List.mem_cons_of_mem _ m)]
    rfl
theorem fldSet_ (i : Nat) {C : Addr} {f : Str} {o e : Expr} {st : Stmt} {w : WE} (c : Cls X.K C) (no : NoAttr X.K C f) (ho : PE X o (tVar i)) (h : PEv .S R X e w) (hs : ∀ {to te}, PE X o to → PE X e te → PS X st (sFld X.K to te f)) : PSv n R Wx X st (wFldSet i C f w) := by
  obtain ⟨te, h1, h2⟩ := h.ex
  refine ⟨_, hs ho h1, fun {F0 H0 F H σ env D W} it s sl hw => ?_⟩
  unfold wFldSet at hw
  split at hw
  · rename_i z D fs q
    refine h2 s sl hw fun {t v F1 H1} p1 s1 r1 => ?_
    obtain ⟨rfl, few, nw, p⟩ := p1
    have sl1 := sl.step s s1
    have ok1 := s.trans s1
    obtain ⟨_, c1, a, rfl, f1, f2, f3, rfl, dx, gs, us, f4, f5, f6⟩ := sl1.ok i _ q
    have gl : gs.length = fs.length := by
      rw [f6, List.length_zip, List.length_map, ← f5.length, List.length_map]
      omega
    have gn : ∀ g ∈ gs, g.1 ≠ f := fun g m => by
      obtain ⟨j, hj, e⟩ := List.getElem_of_mem m
      have hl : j < us.length := by
        rw [← f5.length, List.length_map]
        exact hj
      have hm : (g.1, us[j]) ∈ fs := by
        rw [f6]
        refine List.mem_of_getElem? (i := j) ?_
        rw [List.getElem?_zip_eq_some]
        refine ⟨?_, List.getElem?_eq_getElem hl⟩
        rw [List.getElem?_map, List.getElem?_eq_getElem hj, e]
        rfl
      exact of_decide_eq_true (List.all_eq_true.mp nw _ hm)
    refine ⟨_, c1, a, D, dx, gs, rfl, f4, c, no, by omega, ?_⟩
    have s3 := ok1.mut (a := a) (o := .ins D dx (putF f v gs)) f1 f2 f3
    refine it.nx p s3 s1.f (sl1.mut q c1 ⟨rfl, dx, gs ++ [(f, v)], us ++ [t], by rw [upd_same, putF_new gn], ?_, ?_⟩)
    · rw [List.map_append]
      exact f5.append (.cons r1 .nil)
    · rw [List.map_append, List.zip_append (by rw [List.length_map, ← f5.length, List.length_map]), f6]
      rfl
  · exact hw.elim
end
/-! an __init__ by its body -/
section
variable {P : Program} {w : World} {K : PySem.W.Frag} {mg : Str → Option Value} {base : Heap}
theorem Sl.consOwn {R : Rs} {H0 F H : Hp} {env : List Cell} {σ : List (Option V)} {a : Addr} {t : T} (h : Sl K R H0 F H env σ) (no : ∀ (j : Nat) (u : T), env[j]? ≠ some (.own u)) (c : CellOk K R H0 F H (.own t) (some (.ref a))) : Sl K R H0 F H (.own t :: env) (some (.ref a) :: σ) := by
  refine ⟨by rw [List.length_cons, List.length_cons, h.len], fun j d q => ?_, fun i j ti tj b e1 e2 e3 e4 => ?_⟩
  · cases j with
    | zero =>
      cases q
      exact ⟨_, rfl, c⟩
    | succ j => exact h.ok j d q
  · cases i with
    | zero =>
      cases j with
      | zero => rfl
      | succ j => exact absurd e2 (no j tj)
    | succ i => exact absurd e1 (no i ti)
theorem env0_no {κs : List Kd} {ts : List T} {m : Nat} (i : Nat) (t : T) : (env0 κs ts m)[i]? ≠ some (.own t) := by
  intro e
  unfold env0 at e
  have m := List.mem_of_getElem? e
  rcases List.mem_append.mp m with m | m
  · obtain ⟨j, hj, e2⟩ := List.getElem_of_mem m
    rw [List.getElem_zipWith] at e2
    exact cellOf_own e2
  · cases (List.mem_replicate.mp m).2
theorem okvI {x q : Str} {st : Stmt} {f C : Addr} {fd : FuncData} {n0 : Str} {N ps : List Str} {k : Nat} {κs : List Kd} {c : CtI} (F : Fun K x q st f fd) (S : FnScope (n0 :: N) ps (defScope st)) (hl : κs.length + 1 = ps.length) (hκ : ∀ κ ∈ κs, κ ≠ .M)
    (body : ∀ (cdv : Value) (A : Around) (outer : List Env) (s : Shared) (H : Hp) (E : XK) (R : Rs) (ts : List T) (Pt : List (Str × T) → Prop) (PX : Addr → List (Str × T) → Prop), Room k (A.deeper (envOfC q (defScope st) s.heap.objs.size f cdv)) → c R ts Pt PX →
      ∃ wb, PSsv false R (fun cls d _ H => E cls d H) (cxOf (L2.CX P w) P w K mg base (n0 :: N) q (defScope st) f cdv A outer s H E) (defBody st) wb ∧
        ∀ o, wb { nx := fun e => ∃ us, e[0]? = some (.own (.mk o C us)) ∧ Pt us, rt := fun _ => False, ex := fun D us _ => PX D us } (.own (.mk o C []) :: env0 κs ts N.length)) : FnOk P w K mg base (L2.CX P w) (k + 1) f fd ps (spIT K C κs c) := by
  refine F.okX S (fun vs H Q E h => ?_) (fun cdv A outer s H vs Q E hr h => ?_)
  · obtain ⟨R, F, G, o, d, ws, ts, Pt, PX, rfl, _, _, _, _, _, r, _⟩ := h
    rw [List.length_cons, r.length, hl]
  · obtain ⟨R, F, G, o, d, ws, ts, Pt, PX, rfl, ho, hd, ne, rfl, ok, r, hc, hq, hx⟩ := h
    obtain ⟨wb, hb, hw⟩ := body cdv A outer s _ E R ts Pt PX hr hc
    obtain ⟨t, t1, t2⟩ := hb.ex
    refine ⟨t, t1, ?_⟩
    have n1 := Step.new ok hd (.own o)
    have ho1 : upd G d (.own o) o = none := by
      rw [upd_ne ne.symm]
      exact ho
    have n2 := Step.new n1.ok ho1 (.ins C d [])
    have st := n1.trans n2
    have sl := (sl0 (N := N) r hκ).step (Step.refl ok) st
    have slo := sl.consOwn (a := o) (t := .mk o C []) env0_no ⟨o, rfl, ok.free ho, ok.adNew ho, ho, rfl, d, [], [], upd_same, .nil, rfl⟩
    have es : L2.start (n0 :: N) (.ref o :: ws) = some (.ref o) :: L2.start N ws := by
      unfold L2.start
      simp
    rw [es]
    refine t2 (F0 := F) (H0 := G) (F := F) (W := { nx := fun e => ∃ us, e[0]? = some (.own (.mk o C us)) ∧ Pt us, rt := fun _ => False, ex := fun D us _ => PX D us }) ⟨fun {σ env F' H'} z s' _ sl' => ?_, fun z => z.elim, fun z => z.elim, fun z => z.elim, fun {D us σ env d F' H'} z s' _ _ x => hx _ _ _ _ _ z s' x⟩ st slo (hw o)
    obtain ⟨us, e, p⟩ := z
    obtain ⟨_, c1, a, rfl, f1, f2, f3, rfl, dx, gs, vs, f4, f5, f6⟩ := sl'.ok 0 _ e
    exact hq us F' H' p s' ⟨a, rfl, ho, f2, f1, dx, gs, vs, f4, f5, f6⟩
end
end Tv
/-! the law's own defs that draw -/
namespace Tl
open PySem PySem.Spec PyProof.Rows L2 Lw Tv Nm
abbrev sNumber : Stmt := Lw.top 41
abbrev sLiteral : Stmt := Lw.top 42
abbrev sPool : Stmt := Lw.top 43
/-- data of at most this depth -/
structure OkN (n : Nat) (t : T) : Prop where
  p : plain t = true
  c : PyData.canLay0 (toD t) = true
  d : PyData.depth (toD t) ≤ n
theorem OkN.up {n m : Nat} {t : T} (h : OkN n t) (e : n ≤ m) : OkN m t := ⟨h.p, h.c, Nat.le_trans h.d e⟩
theorem OkN.okD {n : Nat} {t : T} (h : OkN n t) (e : n ≤ 64) : okD t = true := by
  unfold Tv.okD SeqAt.shaped
  rw [h.p, h.c, decide_eq_true (Nat.le_trans h.d e)]
  rfl
theorem okN_all {n : Nat} : ∀ {ts : List T}, (∀ t ∈ ts, OkN n t) → plains ts = true ∧ PyData.canLayAll0 (toDs ts) = true ∧ PyData.depthAll (toDs ts) ≤ n
  | [], _ => ⟨rfl, rfl, Nat.zero_le _⟩
  | t :: ts, h => by
    obtain ⟨a, b, c⟩ := okN_all (ts := ts) fun u hu => h u (List.mem_cons_of_mem _ hu)
    have k := h t List.mem_cons_self
    refine ⟨?_, ?_, ?_⟩
    · show (plain t && plains ts) = true
      rw [k.p, a]
      rfl
    · show (PyData.canLay0 (toD t) && PyData.canLayAll0 (toDs ts)) = true
      rw [k.c, b]
      rfl
    · exact Nat.max_le.mpr ⟨k.d, c⟩
theorem OkN.tup {n : Nat} {ts : List T} (h : ∀ t ∈ ts, OkN n t) : OkN (n + 1) (.tup ts) := by
  obtain ⟨a, b, c⟩ := okN_all h
  exact ⟨a, b, Nat.succ_le_succ c⟩
theorem OkN.lst {n : Nat} {ts : List T} (h : ∀ t ∈ ts, OkN n t) : OkN (n + 1) (.lst ts) := by
  obtain ⟨a, b, c⟩ := okN_all h
  exact ⟨a, b, Nat.succ_le_succ c⟩
theorem OkN.int {i : Int} : OkN 0 (.int i) := ⟨rfl, rfl, Nat.le_refl _⟩
theorem OkN.bl {i : Bool} : OkN 0 (.bl i) := ⟨rfl, rfl, Nat.le_refl _⟩
theorem OkN.non : OkN 0 .non := ⟨rfl, rfl, Nat.le_refl _⟩
theorem OkN.str {x : Str} (h : PyData.strOk x = true) : OkN 0 (.str x) := ⟨rfl, h, Nat.le_refl _⟩
def strsT (zs : List Str) : T := .lst (zs.map T.str)
/-- names that may stand together -/
structure NamesOk (zs : List Str) : Prop where
  nd : zs.Nodup
  ok : ∀ z ∈ zs, okS z = true
  l0 : 0 < zs.length
  l5 : zs.length ≤ 5
/-- a literal of these names -/
def LitT (zs : List Str) (t : T) : Prop := ∃ a b n, t = .tup [.str a, .str b, .int n] ∧ (a = "" ∨ a ∈ zs) ∧ (b = "" ∨ b ∈ zs) ∧ a ≠ b
theorem LitT.okN {zs : List Str} {t : T} (h : LitT zs t) (ok : NamesOk zs) : OkN 1 t := by
  obtain ⟨a, b, n, rfl, ha, hb, _⟩ := h
  have k : ∀ {x : Str}, (x = "" ∨ x ∈ zs) → OkN 0 (.str x) := fun {x} hx => by
    rcases hx with rfl | hx
    · exact OkN.str (by decide +kernel)
    · exact OkN.str (strOk_of (ok.ok _ hx))
  refine OkN.tup fun t ht => ?_
  simp only [List.mem_cons, List.not_mem_nil, or_false] at ht
  rcases ht with rfl | rfl | rfl
  · exact k ha
  · exact k hb
  · exact OkN.int
theorem rng_lt {lo : Int} {m i : Nat} {t : T} (h : (rngT lo m)[i]? = some t) : i < m ∧ t = .int (lo + (i : Int)) := by
  unfold rngT at h
  rw [List.getElem?_map] at h
  obtain ⟨k, h1, h2⟩ := Option.map_eq_some_iff.mp h
  have hl := (List.getElem?_eq_some_iff.mp h1).1
  rw [List.length_range] at hl
  rw [List.getElem?_range hl] at h1
  cases h1
  exact ⟨hl, h2.symm⟩
theorem rng_len {lo : Int} {m : Nat} : (rngT lo m).length = m := by unfold rngT; rw [List.length_map, List.length_range]
def cName (R : Rs) (ts : List T) (Pt : T → Prop) : Prop := ∃ (p q : Addr) (r : Option Addr) (zs : List Str), R = handR p q r ∧ ts = [.op (.ref p), strsT zs] ∧ zs.length ≤ 5 ∧ ∀ z, okS z = true → z ∉ zs → Pt (.str z)
def cNames (R : Rs) (ts : List T) (Pt : T → Prop) : Prop := ∃ (p q : Addr) (r : Option Addr) (n : Nat), R = handR p q r ∧ ts = [.op (.ref p), .int (n : Int)] ∧ n ≤ 5 ∧ ∀ zs : List Str, zs.length = n → zs.Nodup → (∀ z ∈ zs, okS z = true) → Pt (strsT zs)
def cUnit (R : Rs) (ts : List T) (Pt : T → Prop) : Prop := ∃ (p q : Addr) (r : Option Addr), R = handR p q r ∧ ts = [.op (.ref p)] ∧ ∀ u : Int, 1 ≤ u → Pt (.int u)
theorem name_spT {K : PySem.W.Frag} {vs : List V} {H : Hp} {Q : VK} {E : XK} (h : spT K [.S, .B] false cName vs H Q E) : spName vs H Q E := by
  obtain ⟨R, F, ts, P, ok, r, ⟨p, q, ro, zs, rfl, rfl, hz, k⟩, hq⟩ := h
  cases r with
  | cons h l =>
    cases h
    cases l with
    | cons h l =>
      cases l
      generalize e : strsT zs = t at h
      cases h with
      | @lst a vs ts g l =>
        cases e
        have g' : sans (handR p q ro).ad H a = some (.lst vs) := join_same ok.sub (Same.refl _) _ _ g
        rw [l.strs] at g'
        exact ⟨p, q, a, zs, rfl, ok.inv.1, (sans_some g').2, hz, (hand_np ok g').1, fun z H' oz nz hh e => hq _ _ _ _ (k z oz nz) (hand_step ok hh e) (.str _)⟩
      | _ => cases e
theorem names_spT {K : PySem.W.Frag} {vs : List V} {H : Hp} {Q : VK} {E : XK} (h : spT K [.S, .S] true cNames vs H Q E) : spNames vs H Q E := by
  obtain ⟨R, F, ts, P, ok, r, ⟨p, q, ro, n, rfl, rfl, hn, k⟩, hq⟩ := h
  cases r with
  | cons h l =>
    cases h
    cases l with
    | cons h l =>
      cases h
      cases l
      refine ⟨p, q, n, rfl, ok.inv.1, hn, fun l zs H' hl lp hl' hz nd oz hh e => ?_⟩
      have s := hand_step ok hh e
      exact hq _ _ _ _ (k zs hz nd oz) s ⟨l, rfl, hl, ok.adNew hl, ok.free hl, _, hl', repL_strs zs⟩
theorem unit_spT {K : PySem.W.Frag} {vs : List V} {H : Hp} {Q : VK} {E : XK} (h : spT K [.S] false cUnit vs H Q E) : spUnit vs H Q E := by
  obtain ⟨R, F, ts, P, ok, r, ⟨p, q, ro, rfl, rfl, k⟩, hq⟩ := h
  cases r with
  | cons h l =>
    cases h
    cases l
    exact ⟨p, q, rfl, ok.inv.1, fun u H' hu hh e => hq _ _ _ _ (k u hu) (hand_step ok hh e) (.int _)⟩
section
variable {P : Program} {w : World} {K : PySem.W.Frag} {mg : Str → Option Value} {base : Heap}
abbrev CD (P : Program) (w : World) (K : PySem.W.Frag) (mg : Str → Option Value) (base : Heap) : Prop := Cl P w K mg base 2 "_law_draw" (spT K [.S, .S] false cDraw)
/-- a number of the law's -/
def cNumber (R : Rs) (ts : List T) (Pt : T → Prop) : Prop := ∃ (p q : Addr) (r : Option Addr) (u : Int), R = handR p q r ∧ ts = [.op (.ref p), .int u] ∧ ∀ i : Int, Pt (.int i)
def cLiteral (R : Rs) (ts : List T) (Pt : T → Prop) : Prop := ∃ (p q : Addr) (r : Option Addr) (zs : List Str) (u : Int), R = handR p q r ∧ ts = [.op (.ref p), strsT zs, .int u] ∧ NamesOk zs ∧ ∀ t, LitT zs t → Pt t
def cPool (R : Rs) (ts : List T) (Pt : T → Prop) : Prop := ∃ (p q : Addr) (r : Option Addr) (zs : List Str) (n : Nat) (u : Int), R = handR p q r ∧ ts = [.op (.ref p), strsT zs, .int (n : Int), .int u] ∧ NamesOk zs ∧ 1 ≤ n ∧ n ≤ 10 ∧ ∀ ls, ls ≠ [] → ls.length ≤ 10 → (∀ t ∈ ls, LitT zs t) → Pt (.lst ls)
abbrev CN (P : Program) (w : World) (K : PySem.W.Frag) (mg : Str → Option Value) (base : Heap) : Prop := Cl P w K mg base 3 "_law_number" (spT K [.S, .S] false cNumber)
abbrev CL (P : Program) (w : World) (K : PySem.W.Frag) (mg : Str → Option Value) (base : Heap) : Prop := Cl P w K mg base 4 "_law_literal" (spT K [.S, .S, .S] false cLiteral)

theorem scNumber : FnScope ["_law_hand_here", "_law_unit_here"] ["_law_hand_here", "_law_unit_here"] (defScope sNumber) := ⟨rfl, rfl, rfl, by decide +kernel, rfl, by decide +kernel, by decide +kernel⟩
theorem okNumber {f : Addr} {fd : FuncData} (F : Fun K "_law_number" "_law_number" sNumber f fd) (B : Bt mg) (cD : CD P w K mg base) : FnOk P w K mg base CX0 3 f fd ["_law_hand_here", "_law_unit_here"] (spT K [.S, .S] false cNumber) := by
  refine okv F scNumber rfl (by decide) fun cdv A outer s H E R hr => ?_
  refine ⟨_, (one_ (ret_ (psub_ (μ := .S) (padd_ (μ := .M) (pmul_ (μ := .M) (pv_ (κ := .M) 1 (pv 1)) (psub_ (μ := .M) (callS_ (κ := .M) (κs := [.S, .S]) (ms := [.S, .S]) rfl (fun a => cD.pe hr (by decide) (by rfl) a) (pa1_ (pv_ (κ := .S) 0 (pv 0)) (pa1_ (pint_ (κ := .S)) pa0_))) (pint_ (κ := .M)))) (callS_ (κ := .M) (κs := [.S, .S]) (ms := [.S, .S]) rfl (fun a => cD.pe hr (by decide) (by rfl) a) (pa1_ (pv_ (κ := .S) 0 (pv 0)) (pa1_ (pint_ (κ := .S)) pa0_)))) (pint_ (κ := .M))))), fun ts Pt hl hc => ?_⟩
  obtain ⟨p, q, r, u, rfl, rfl, k⟩ := hc
  simp only [Tv.wSeq, Tv.wNext, Tv.wIfS, Tv.wSet, Tv.wSetN, Tv.wRet, Tv.wRetO, Tv.wFrz, Tv.wApp, Tv.wOp, Tv.wTest, Tv.wAnd, Tv.wOr, Tv.wNot, Tv.wIf, Tv.wAndV, Tv.wOrV, Tv.wNotV, Tv.wCall, Tv.wCons, Tv.wNil, Tv.wV, Tv.wC, Tv.wTup, Tv.wLst, Tv.wSeqT, Tv.wO, Tv.wLen, Tv.wList, Tv.wTuple, Tv.wCat, Tv.wSl, Tv.wLst1, Tv.wTup1, Tv.wRng1, Tv.wRng2, Tv.wEnum, Tv.wFor, Tv.wLc, Tv.wYes, Tv.wCB, Tv.wipeE, Tv.gSet, Tv.gNilT, Tv.gConsT, Tv.gTupT, Tv.cellOf, Tv.env0, Tv.fEq, Tv.fIn, Tv.fI0, Tv.fI, Tv.fSc, Tv.fIsN, Tv.fIsB, Tv.fIx, Tv.fIxS, Tv.fCatT, Tv.fInt1, Tv.fMin2, List.zipWith_cons_cons, List.zipWith_nil_left, List.length_cons, List.length_nil, List.cons_append, List.nil_append, List.replicate, List.getElem?_cons_zero, List.getElem?_cons_succ, List.set_cons_zero, List.set_cons_succ, Tv.wRoom, Tv.wRoomSet, Tv.wIfDraw, Tv.wStar, Tv.wLen6, Tv.wFld, Tv.wExt, Tv.wTru, Tv.wChain, Tv.fIsi, Tv.fInF, Tv.seq_l, Tv.seq_t, Tv.lst_l, Tv.tup_t, Tv.scal_ii, Tv.scal_ss, Tv.scal_bb, Tv.same_ii, Tv.same_ss, Tv.same_bb, Tv.at_0, Tv.at_1, Tv.at_2, Tv.at_3, Tv.isN_non, Tv.isN_int, Tv.isN_str, Tv.isN_tup, Tv.isN_lst, Tv.isN_bl, Cell.val.injEq, T.op.injEq, forall_const, Tv.isi_non_tuple, Tv.isi_non_str, Tv.isi_non_int, Tv.isi_non_bool, Tv.isi_non_dict, Tv.isi_non_list, Tv.isi_bl_tuple, Tv.isi_bl_str, Tv.isi_bl_int, Tv.isi_bl_bool, Tv.isi_bl_dict, Tv.isi_bl_list, Tv.isi_int_tuple, Tv.isi_int_str, Tv.isi_int_int, Tv.isi_int_bool, Tv.isi_int_dict, Tv.isi_int_list, Tv.isi_str_tuple, Tv.isi_str_str, Tv.isi_str_int, Tv.isi_str_bool, Tv.isi_str_dict, Tv.isi_str_list, Tv.isi_tup_tuple, Tv.isi_tup_str, Tv.isi_tup_int, Tv.isi_tup_bool, Tv.isi_tup_dict, Tv.isi_tup_list, Tv.isi_lst_tuple, Tv.isi_lst_str, Tv.isi_lst_int, Tv.isi_lst_bool, Tv.isi_lst_dict, Tv.isi_lst_list, Tv.isi_dic_tuple, Tv.isi_dic_str, Tv.isi_dic_int, Tv.isi_dic_bool, Tv.isi_dic_dict, Tv.isi_dic_list, V.ty.injEq, Tv.wLc2, Tv.fAll, Tv.wDropX, Tv.wSetX, Tv.wRaise, Tv.wIsi2, Tv.wDead, Tv.wStr1, Tv.fInS, Tv.fAddS, Tv.fLenS, Tv.wDisp, Tv.fDIn, Tv.fDGet, Tv.wISet, ↓reduceIte, Bool.false_eq_true, decide_eq_true_eq, T.int.injEq, T.str.injEq, T.bl.injEq, T.lst.injEq, T.tup.injEq, exists_eq_left', exists_eq_left, exists_and_left, true_and, and_true, reduceCtorEq, ne_eq, not_false_eq_true, not_true_eq_false, forall_eq', forall_eq, Option.some.injEq, Option.isSome_some]
  refine ⟨p, q, r, 7, rfl, rfl, by decide, by decide, fun i i0 i1 => ?_⟩
  simp only [↓reduceIte, Bool.false_eq_true, decide_eq_true_eq, T.int.injEq, T.str.injEq, T.bl.injEq, T.lst.injEq, T.tup.injEq, exists_eq_left', exists_eq_left, exists_and_left, true_and, and_true, reduceCtorEq, ne_eq, not_false_eq_true, not_true_eq_false, forall_eq', forall_eq, Option.some.injEq, Option.isSome_some]
  refine ⟨.inr ⟨by omega, by omega⟩, p, q, r, 3, rfl, rfl, by decide, by decide, fun j j0 j1 => ?_⟩
  simp only [↓reduceIte, Bool.false_eq_true, decide_eq_true_eq, T.int.injEq, T.str.injEq, T.bl.injEq, T.lst.injEq, T.tup.injEq, exists_eq_left', exists_eq_left, exists_and_left, true_and, and_true, reduceCtorEq, ne_eq, not_false_eq_true, not_true_eq_false, forall_eq', forall_eq, Option.some.injEq, Option.isSome_some]
  exact k _
theorem scLiteral : FnScope ["_law_hand_here", "_law_names_here", "_law_unit_here", "_law_terms", "_law_first", "_law_second"] ["_law_hand_here", "_law_names_here", "_law_unit_here"] (defScope sLiteral) := ⟨rfl, rfl, rfl, by decide +kernel, rfl, by decide +kernel, by decide +kernel⟩
/-- terms[i] -/
theorem term_at {zs : List Str} {i : Int} (h0 : 0 ≤ i) (h1 : i < (zs.length : Int) + 1) : ∃ z : Str, (z = "" ∨ z ∈ zs) ∧ (("" : Str) :: zs)[i.toNat]? = some z ∧ atI (T.str "" :: zs.map T.str) i = some (T.str z) := by
  have hl : i.toNat < (("" : Str) :: zs).length := by
    rw [List.length_cons]
    omega
  refine ⟨(("" : Str) :: zs)[i.toNat], ?_, List.getElem?_eq_getElem hl, ?_⟩
  · have := List.getElem_mem hl
    rcases List.mem_cons.mp this with h | h
    · exact .inl h
    · exact .inr h
  · have e : i = ((i.toNat : Nat) : Int) := by omega
    have m : (T.str "" :: zs.map T.str) = (("" : Str) :: zs).map T.str := rfl
    rw [m]
    conv => lhs; rw [e]
    refine atI_nat ?_
    rw [List.getElem?_map, List.getElem?_eq_getElem hl]
    rfl
theorem okLiteral {f : Addr} {fd : FuncData} (F : Fun K "_law_literal" "_law_literal" sLiteral f fd) (B : Bt mg) (cD : CD P w K mg base) (cN : CN P w K mg base) : FnOk P w K mg base CX0 4 f fd ["_law_hand_here", "_law_names_here", "_law_unit_here"] (spT K [.S, .S, .S] false cLiteral) := by
  refine okv F scLiteral rfl (by decide) fun cdv A outer s H E R hr => ?_
  refine ⟨_, (cons_ (set_ (κ := .S) 3 (fun a => ps_set (i := 3) scLiteral.nd rfl (Or.inl rfl) a) (PEn.up (κ := .S) (pcat_ (PEn.items (plst_ (pa1_ (pstr_ (κ := .S)) pa0_) rfl)) (PEn.items (plist_ (PEv.items (pv_ (κ := .S) 1 (pv 1))) (fun a => pe_callTy call_list_of (by rfl) B.list (by decide +kernel) (pa_cons a pa_nil)))))))
      (cons_ (set_ (κ := .S) 4 (fun a => ps_set (i := 4) scLiteral.nd rfl (Or.inl rfl) a) (callS_ (κ := .S) (κs := [.S, .S]) (ms := [.S, .S]) rfl (fun a => cD.pe hr (by decide) (by rfl) a) (pa1_ (pv_ (κ := .S) 0 (pv 0)) (pa1_ (plen_ (μ := .S) (PEv.items (pv_ (κ := .S) 3 (pv 3))) (fun a => pe_callB call_len_seq (by rfl) B.len PySem.boot_len (pa_cons a pa_nil))) pa0_))))
      (cons_ (set_ (κ := .S) 5 (fun a => ps_set (i := 5) scLiteral.nd rfl (Or.inl rfl) a) (callS_ (κ := .S) (κs := [.S, .S]) (ms := [.S, .S]) rfl (fun a => cD.pe hr (by decide) (by rfl) a) (pa1_ (pv_ (κ := .S) 0 (pv 0)) (pa1_ (psub_ (μ := .S) (plen_ (μ := .M) (PEv.items (pv_ (κ := .S) 3 (pv 3))) (fun a => pe_callB call_len_seq (by rfl) B.len PySem.boot_len (pa_cons a pa_nil))) (pint_ (κ := .M))) pa0_))))
      (cons_ (if_ (ptcmp_ op_ge (re_I0 fun _ _ _ => .bl _) (nomark _) (pv_ (κ := .M) 5 (pv 5)) (pv_ (κ := .M) 4 (pv 4))) (one_ (set_ (κ := .S) 5 (fun a => ps_set (i := 5) scLiteral.nd rfl (Or.inl rfl) a) (padd_ (μ := .S) (pv_ (κ := .M) 5 (pv 5)) (pint_ (κ := .M))))) nil_)
      (one_ (ret_ (ptup_ (κ := .S) (pa1_ (pix_ (pv_ (κ := .S) 3 (pv 3)) (pv_ (κ := .M) 4 (pv 4))) (pa1_ (pix_ (pv_ (κ := .S) 3 (pv 3)) (pv_ (κ := .M) 5 (pv 5))) (pa1_ (callS_ (κ := .S) (κs := [.S, .S]) (ms := [.S, .S]) rfl (fun a => cN.pe hr (by decide) (by rfl) a) (pa1_ (pv_ (κ := .S) 0 (pv 0)) (pa1_ (pv_ (κ := .S) 2 (pv 2)) pa0_))) pa0_))) rfl))))))), fun ts Pt hl hc => ?_⟩
  obtain ⟨p, q, r, zs, u, rfl, rfl, ok, k⟩ := hc
  have l5 := ok.l5
  have l0 := ok.l0
  have zl : (zs.map T.str).length = zs.length := List.length_map ..
  have ne : ∀ {i j : Int} {a b : Str}, 0 ≤ i → 0 ≤ j → i ≠ j → ((("" : Str) :: zs)[i.toNat]? = some a) → ((("" : Str) :: zs)[j.toNat]? = some b) → a ≠ b := by
    intro i j a b hi hj hij ha hb e
    subst e
    have nd : (("" : Str) :: zs).Nodup := List.nodup_cons.mpr ⟨fun m => absurd (ok.ok _ m) (by decide +kernel), ok.nd⟩
    exact hij (by have := nd_ix nd ha hb; omega)
  simp only [strsT, Tv.wSeq, Tv.wNext, Tv.wIfS, Tv.wSet, Tv.wSetN, Tv.wRet, Tv.wRetO, Tv.wFrz, Tv.wApp, Tv.wOp, Tv.wTest, Tv.wAnd, Tv.wOr, Tv.wNot, Tv.wIf, Tv.wAndV, Tv.wOrV, Tv.wNotV, Tv.wCall, Tv.wCons, Tv.wNil, Tv.wV, Tv.wC, Tv.wTup, Tv.wLst, Tv.wSeqT, Tv.wO, Tv.wLen, Tv.wList, Tv.wTuple, Tv.wCat, Tv.wSl, Tv.wLst1, Tv.wTup1, Tv.wRng1, Tv.wRng2, Tv.wEnum, Tv.wFor, Tv.wLc, Tv.wYes, Tv.wCB, Tv.wipeE, Tv.gSet, Tv.gNilT, Tv.gConsT, Tv.gTupT, Tv.cellOf, Tv.env0, Tv.fEq, Tv.fIn, Tv.fI0, Tv.fI, Tv.fSc, Tv.fIsN, Tv.fIsB, Tv.fIx, Tv.fIxS, Tv.fCatT, Tv.fInt1, Tv.fMin2, List.zipWith_cons_cons, List.zipWith_nil_left, List.length_cons, List.length_nil, List.cons_append, List.nil_append, List.replicate, List.getElem?_cons_zero, List.getElem?_cons_succ, List.set_cons_zero, List.set_cons_succ, Tv.wRoom, Tv.wRoomSet, Tv.wIfDraw, Tv.wStar, Tv.wLen6, Tv.wFld, Tv.wExt, Tv.wTru, Tv.wChain, Tv.fIsi, Tv.fInF, Tv.seq_l, Tv.seq_t, Tv.lst_l, Tv.tup_t, Tv.scal_ii, Tv.scal_ss, Tv.scal_bb, Tv.same_ii, Tv.same_ss, Tv.same_bb, Tv.at_0, Tv.at_1, Tv.at_2, Tv.at_3, Tv.isN_non, Tv.isN_int, Tv.isN_str, Tv.isN_tup, Tv.isN_lst, Tv.isN_bl, Cell.val.injEq, T.op.injEq, forall_const, Tv.isi_non_tuple, Tv.isi_non_str, Tv.isi_non_int, Tv.isi_non_bool, Tv.isi_non_dict, Tv.isi_non_list, Tv.isi_bl_tuple, Tv.isi_bl_str, Tv.isi_bl_int, Tv.isi_bl_bool, Tv.isi_bl_dict, Tv.isi_bl_list, Tv.isi_int_tuple, Tv.isi_int_str, Tv.isi_int_int, Tv.isi_int_bool, Tv.isi_int_dict, Tv.isi_int_list, Tv.isi_str_tuple, Tv.isi_str_str, Tv.isi_str_int, Tv.isi_str_bool, Tv.isi_str_dict, Tv.isi_str_list, Tv.isi_tup_tuple, Tv.isi_tup_str, Tv.isi_tup_int, Tv.isi_tup_bool, Tv.isi_tup_dict, Tv.isi_tup_list, Tv.isi_lst_tuple, Tv.isi_lst_str, Tv.isi_lst_int, Tv.isi_lst_bool, Tv.isi_lst_dict, Tv.isi_lst_list, Tv.isi_dic_tuple, Tv.isi_dic_str, Tv.isi_dic_int, Tv.isi_dic_bool, Tv.isi_dic_dict, Tv.isi_dic_list, V.ty.injEq, Tv.wLc2, Tv.fAll, Tv.wDropX, Tv.wSetX, Tv.wRaise, Tv.wIsi2, Tv.wDead, Tv.wStr1, Tv.fInS, Tv.fAddS, Tv.fLenS, Tv.wDisp, Tv.fDIn, Tv.fDGet, Tv.wISet, ↓reduceIte, Bool.false_eq_true, decide_eq_true_eq, T.int.injEq, T.str.injEq, T.bl.injEq, T.lst.injEq, T.tup.injEq, exists_eq_left', exists_eq_left, exists_and_left, true_and, and_true, reduceCtorEq, ne_eq, not_false_eq_true, not_true_eq_false, forall_eq', forall_eq, Option.some.injEq, Option.isSome_some, zl]
  refine ⟨by omega, p, q, r, _, rfl, rfl, by omega, by omega, fun i i0 i1 => ⟨p, q, r, _, rfl, rfl, by omega, by omega, fun j j0 j1 => ?_⟩⟩
  simp only [↓reduceIte, Bool.false_eq_true, decide_eq_true_eq, T.int.injEq, T.str.injEq, T.bl.injEq, T.lst.injEq, T.tup.injEq, exists_eq_left', exists_eq_left, exists_and_left, true_and, and_true, reduceCtorEq, ne_eq, not_false_eq_true, not_true_eq_false, forall_eq', forall_eq, Option.some.injEq, Option.isSome_some]
  obtain ⟨a, a1, a2, a3⟩ := term_at (zs := zs) (i := i) i0 (by omega)
  by_cases c : i ≤ j
  · obtain ⟨b, b1, b2, b3⟩ := term_at (zs := zs) (i := j + 1) (by omega) (by omega)
    rw [if_pos c]
    exact ⟨_, a3, _, b3, p, q, r, u, rfl, rfl, fun n => k _ ⟨a, b, n, rfl, a1, b1, ne i0 (by omega) (by omega) a2 b2⟩⟩
  · obtain ⟨b, b1, b2, b3⟩ := term_at (zs := zs) (i := j) (by omega) (by omega)
    rw [if_neg c]
    exact ⟨_, a3, _, b3, p, q, r, u, rfl, rfl, fun n => k _ ⟨a, b, n, rfl, a1, b1, ne i0 (by omega) (by omega) a2 b2⟩⟩
theorem scPool : FnScope ["_law_hand_here", "_law_names_here", "_law_many", "_law_unit_here", "_law_pool_here", "_law_k", "_law_literal_here"] ["_law_hand_here", "_law_names_here", "_law_many", "_law_unit_here"] (defScope sPool) := ⟨rfl, rfl, rfl, by decide +kernel, rfl, by decide +kernel, by decide +kernel⟩
theorem okPool {f : Addr} {fd : FuncData} (F : Fun K "_law_pool" "_law_pool" sPool f fd) (B : Bt mg) (cL : CL P w K mg base) : FnOk P w K mg base CX0 5 f fd ["_law_hand_here", "_law_names_here", "_law_many", "_law_unit_here"] (spT K [.S, .S, .S, .S] true cPool) := by
  refine okv F scPool rfl (by decide) fun cdv A outer s H E R hr => ?_
  have hu1 : (A.deeper (envOfC "_law_pool" (defScope sPool) s.heap.objs.size f cdv)).units + 65 < cLine := by have := hr.un; omega
  refine ⟨_, (cons_ (setN_ 4 (fun a => ps_set (i := 4) scPool.nd rfl (Or.inl rfl) a) (plst_ pa0_ rfl))
      (cons_ (for_ (srcR1_ (κ := .S) (pv_ (κ := .M) 2 (pv 2)) (fun a => pi_range1 (by rfl) B.range (pa_cons a pa_nil))) (gnm_ (κ := .S) 5 (by decide) (pg_name (i := 5) scPool.nd rfl (Or.inl rfl)))
      (cons_ (set_ (κ := .S) 6 (fun a => ps_set (i := 6) scPool.nd rfl (Or.inl rfl) a) (callS_ (κ := .S) (κs := [.S, .S, .S]) (ms := [.S, .S, .S]) rfl (fun a => cL.pe hr (by decide) (by rfl) a) (pa1_ (pv_ (κ := .S) 0 (pv 0)) (pa1_ (pv_ (κ := .S) 1 (pv 1)) (pa1_ (pv_ (κ := .S) 3 (pv 3)) pa0_)))))
      (one_ (if_ (ptcmp_ (op_notInD hu1) (re_notIn hu1).2 (by rfl) (pv_ (κ := .M) 6 (pv 6)) (pv_ (κ := .M) 4 (pv 4))) (one_ (app_ 4 (pv 4) (pv_ (κ := .S) 6 (pv 6)) (fun a b => ps_expr (pe_bm PySem.F.plainAttrs_list PySem.F.slot_list_append PySem.F.type_list_append mt_append a (pa_cons b pa_nil))))) nil_))) (fun a b c => ps_for PassesOwn.never rfl a b c))
      (one_ (retO_ 4 (pv 4))))), fun ts Pt hl hc => ?_⟩
  obtain ⟨p, q, r, zs, n, u, rfl, rfl, ok, n1, n10, k⟩ := hc
  simp only [strsT, Tv.wSeq, Tv.wNext, Tv.wIfS, Tv.wSet, Tv.wSetN, Tv.wRet, Tv.wRetO, Tv.wFrz, Tv.wApp, Tv.wOp, Tv.wTest, Tv.wAnd, Tv.wOr, Tv.wNot, Tv.wIf, Tv.wAndV, Tv.wOrV, Tv.wNotV, Tv.wCall, Tv.wCons, Tv.wNil, Tv.wV, Tv.wC, Tv.wTup, Tv.wLst, Tv.wSeqT, Tv.wO, Tv.wLen, Tv.wList, Tv.wTuple, Tv.wCat, Tv.wSl, Tv.wLst1, Tv.wTup1, Tv.wRng1, Tv.wRng2, Tv.wEnum, Tv.wFor, Tv.wLc, Tv.wYes, Tv.wCB, Tv.wipeE, Tv.gSet, Tv.gNilT, Tv.gConsT, Tv.gTupT, Tv.cellOf, Tv.env0, Tv.fEq, Tv.fIn, Tv.fI0, Tv.fI, Tv.fSc, Tv.fIsN, Tv.fIsB, Tv.fIx, Tv.fIxS, Tv.fCatT, Tv.fInt1, Tv.fMin2, List.zipWith_cons_cons, List.zipWith_nil_left, List.length_cons, List.length_nil, List.cons_append, List.nil_append, List.replicate, List.getElem?_cons_zero, List.getElem?_cons_succ, List.set_cons_zero, List.set_cons_succ, Tv.wRoom, Tv.wRoomSet, Tv.wIfDraw, Tv.wStar, Tv.wLen6, Tv.wFld, Tv.wExt, Tv.wTru, Tv.wChain, Tv.fIsi, Tv.fInF, Tv.seq_l, Tv.seq_t, Tv.lst_l, Tv.tup_t, Tv.scal_ii, Tv.scal_ss, Tv.scal_bb, Tv.same_ii, Tv.same_ss, Tv.same_bb, Tv.at_0, Tv.at_1, Tv.at_2, Tv.at_3, Tv.isN_non, Tv.isN_int, Tv.isN_str, Tv.isN_tup, Tv.isN_lst, Tv.isN_bl, Cell.val.injEq, T.op.injEq, forall_const, Tv.isi_non_tuple, Tv.isi_non_str, Tv.isi_non_int, Tv.isi_non_bool, Tv.isi_non_dict, Tv.isi_non_list, Tv.isi_bl_tuple, Tv.isi_bl_str, Tv.isi_bl_int, Tv.isi_bl_bool, Tv.isi_bl_dict, Tv.isi_bl_list, Tv.isi_int_tuple, Tv.isi_int_str, Tv.isi_int_int, Tv.isi_int_bool, Tv.isi_int_dict, Tv.isi_int_list, Tv.isi_str_tuple, Tv.isi_str_str, Tv.isi_str_int, Tv.isi_str_bool, Tv.isi_str_dict, Tv.isi_str_list, Tv.isi_tup_tuple, Tv.isi_tup_str, Tv.isi_tup_int, Tv.isi_tup_bool, Tv.isi_tup_dict, Tv.isi_tup_list, Tv.isi_lst_tuple, Tv.isi_lst_str, Tv.isi_lst_int, Tv.isi_lst_bool, Tv.isi_lst_dict, Tv.isi_lst_list, Tv.isi_dic_tuple, Tv.isi_dic_str, Tv.isi_dic_int, Tv.isi_dic_bool, Tv.isi_dic_dict, Tv.isi_dic_list, V.ty.injEq, Tv.wLc2, Tv.fAll, Tv.wDropX, Tv.wSetX, Tv.wRaise, Tv.wIsi2, Tv.wDead, Tv.wStr1, Tv.fInS, Tv.fAddS, Tv.fLenS, Tv.wDisp, Tv.fDIn, Tv.fDGet, Tv.wISet, ↓reduceIte, Bool.false_eq_true, decide_eq_true_eq, T.int.injEq, T.str.injEq, T.bl.injEq, T.lst.injEq, T.tup.injEq, exists_eq_left', exists_eq_left, exists_and_left, true_and, and_true, reduceCtorEq, ne_eq, not_false_eq_true, not_true_eq_false, forall_eq', forall_eq, Option.some.injEq, Option.isSome_some]
  refine ⟨by omega, by omega, fun i env => ∃ ls c5 c6, env = [Cell.val (T.op (V.ref p)), Cell.val (T.lst (List.map T.str zs)), Cell.val (T.int n), Cell.val (T.int u), Cell.own (T.lst ls), c5, c6] ∧ (0 < i → ls ≠ []) ∧ ls.length ≤ i ∧ ∀ t ∈ ls, LitT zs t,
    ⟨[], _, _, rfl, fun z => absurd z (Nat.lt_irrefl _), Nat.le_refl _, fun t ht => by cases ht⟩, ?_, ?_⟩
  · rintro i t env' ht ⟨ls, c5, c6, rfl, h1, h2, h3⟩
    obtain ⟨hi, rfl⟩ := rng_lt ht
    simp only [Tv.wSeq, Tv.wNext, Tv.wIfS, Tv.wSet, Tv.wSetN, Tv.wRet, Tv.wRetO, Tv.wFrz, Tv.wApp, Tv.wOp, Tv.wTest, Tv.wAnd, Tv.wOr, Tv.wNot, Tv.wIf, Tv.wAndV, Tv.wOrV, Tv.wNotV, Tv.wCall, Tv.wCons, Tv.wNil, Tv.wV, Tv.wC, Tv.wTup, Tv.wLst, Tv.wSeqT, Tv.wO, Tv.wLen, Tv.wList, Tv.wTuple, Tv.wCat, Tv.wSl, Tv.wLst1, Tv.wTup1, Tv.wRng1, Tv.wRng2, Tv.wEnum, Tv.wFor, Tv.wLc, Tv.wYes, Tv.wCB, Tv.wipeE, Tv.gSet, Tv.gNilT, Tv.gConsT, Tv.gTupT, Tv.cellOf, Tv.env0, Tv.fEq, Tv.fIn, Tv.fI0, Tv.fI, Tv.fSc, Tv.fIsN, Tv.fIsB, Tv.fIx, Tv.fIxS, Tv.fCatT, Tv.fInt1, Tv.fMin2, List.zipWith_cons_cons, List.zipWith_nil_left, List.length_cons, List.length_nil, List.cons_append, List.nil_append, List.replicate, List.getElem?_cons_zero, List.getElem?_cons_succ, List.set_cons_zero, List.set_cons_succ, Tv.wRoom, Tv.wRoomSet, Tv.wIfDraw, Tv.wStar, Tv.wLen6, Tv.wFld, Tv.wExt, Tv.wTru, Tv.wChain, Tv.fIsi, Tv.fInF, Tv.seq_l, Tv.seq_t, Tv.lst_l, Tv.tup_t, Tv.scal_ii, Tv.scal_ss, Tv.scal_bb, Tv.same_ii, Tv.same_ss, Tv.same_bb, Tv.at_0, Tv.at_1, Tv.at_2, Tv.at_3, Tv.isN_non, Tv.isN_int, Tv.isN_str, Tv.isN_tup, Tv.isN_lst, Tv.isN_bl, Cell.val.injEq, T.op.injEq, forall_const, Tv.isi_non_tuple, Tv.isi_non_str, Tv.isi_non_int, Tv.isi_non_bool, Tv.isi_non_dict, Tv.isi_non_list, Tv.isi_bl_tuple, Tv.isi_bl_str, Tv.isi_bl_int, Tv.isi_bl_bool, Tv.isi_bl_dict, Tv.isi_bl_list, Tv.isi_int_tuple, Tv.isi_int_str, Tv.isi_int_int, Tv.isi_int_bool, Tv.isi_int_dict, Tv.isi_int_list, Tv.isi_str_tuple, Tv.isi_str_str, Tv.isi_str_int, Tv.isi_str_bool, Tv.isi_str_dict, Tv.isi_str_list, Tv.isi_tup_tuple, Tv.isi_tup_str, Tv.isi_tup_int, Tv.isi_tup_bool, Tv.isi_tup_dict, Tv.isi_tup_list, Tv.isi_lst_tuple, Tv.isi_lst_str, Tv.isi_lst_int, Tv.isi_lst_bool, Tv.isi_lst_dict, Tv.isi_lst_list, Tv.isi_dic_tuple, Tv.isi_dic_str, Tv.isi_dic_int, Tv.isi_dic_bool, Tv.isi_dic_dict, Tv.isi_dic_list, V.ty.injEq, Tv.wLc2, Tv.fAll, Tv.wDropX, Tv.wSetX, Tv.wRaise, Tv.wIsi2, Tv.wDead, Tv.wStr1, Tv.fInS, Tv.fAddS, Tv.fLenS, Tv.wDisp, Tv.fDIn, Tv.fDGet, Tv.wISet, ↓reduceIte, Bool.false_eq_true, decide_eq_true_eq, T.int.injEq, T.str.injEq, T.bl.injEq, T.lst.injEq, T.tup.injEq, exists_eq_left', exists_eq_left, exists_and_left, true_and, and_true, reduceCtorEq, ne_eq, not_false_eq_true, not_true_eq_false, forall_eq', forall_eq, Option.some.injEq, Option.isSome_some]
    refine ⟨p, q, r, zs, u, rfl, rfl, ok, fun t lt => ?_⟩
    simp only [Tv.wSeq, Tv.wNext, Tv.wIfS, Tv.wSet, Tv.wSetN, Tv.wRet, Tv.wRetO, Tv.wFrz, Tv.wApp, Tv.wOp, Tv.wTest, Tv.wAnd, Tv.wOr, Tv.wNot, Tv.wIf, Tv.wAndV, Tv.wOrV, Tv.wNotV, Tv.wCall, Tv.wCons, Tv.wNil, Tv.wV, Tv.wC, Tv.wTup, Tv.wLst, Tv.wSeqT, Tv.wO, Tv.wLen, Tv.wList, Tv.wTuple, Tv.wCat, Tv.wSl, Tv.wLst1, Tv.wTup1, Tv.wRng1, Tv.wRng2, Tv.wEnum, Tv.wFor, Tv.wLc, Tv.wYes, Tv.wCB, Tv.wipeE, Tv.gSet, Tv.gNilT, Tv.gConsT, Tv.gTupT, Tv.cellOf, Tv.env0, Tv.fEq, Tv.fIn, Tv.fI0, Tv.fI, Tv.fSc, Tv.fIsN, Tv.fIsB, Tv.fIx, Tv.fIxS, Tv.fCatT, Tv.fInt1, Tv.fMin2, List.zipWith_cons_cons, List.zipWith_nil_left, List.length_cons, List.length_nil, List.cons_append, List.nil_append, List.replicate, List.getElem?_cons_zero, List.getElem?_cons_succ, List.set_cons_zero, List.set_cons_succ, Tv.wRoom, Tv.wRoomSet, Tv.wIfDraw, Tv.wStar, Tv.wLen6, Tv.wFld, Tv.wExt, Tv.wTru, Tv.wChain, Tv.fIsi, Tv.fInF, Tv.seq_l, Tv.seq_t, Tv.lst_l, Tv.tup_t, Tv.scal_ii, Tv.scal_ss, Tv.scal_bb, Tv.same_ii, Tv.same_ss, Tv.same_bb, Tv.at_0, Tv.at_1, Tv.at_2, Tv.at_3, Tv.isN_non, Tv.isN_int, Tv.isN_str, Tv.isN_tup, Tv.isN_lst, Tv.isN_bl, Cell.val.injEq, T.op.injEq, forall_const, Tv.isi_non_tuple, Tv.isi_non_str, Tv.isi_non_int, Tv.isi_non_bool, Tv.isi_non_dict, Tv.isi_non_list, Tv.isi_bl_tuple, Tv.isi_bl_str, Tv.isi_bl_int, Tv.isi_bl_bool, Tv.isi_bl_dict, Tv.isi_bl_list, Tv.isi_int_tuple, Tv.isi_int_str, Tv.isi_int_int, Tv.isi_int_bool, Tv.isi_int_dict, Tv.isi_int_list, Tv.isi_str_tuple, Tv.isi_str_str, Tv.isi_str_int, Tv.isi_str_bool, Tv.isi_str_dict, Tv.isi_str_list, Tv.isi_tup_tuple, Tv.isi_tup_str, Tv.isi_tup_int, Tv.isi_tup_bool, Tv.isi_tup_dict, Tv.isi_tup_list, Tv.isi_lst_tuple, Tv.isi_lst_str, Tv.isi_lst_int, Tv.isi_lst_bool, Tv.isi_lst_dict, Tv.isi_lst_list, Tv.isi_dic_tuple, Tv.isi_dic_str, Tv.isi_dic_int, Tv.isi_dic_bool, Tv.isi_dic_dict, Tv.isi_dic_list, V.ty.injEq, Tv.wLc2, Tv.fAll, Tv.wDropX, Tv.wSetX, Tv.wRaise, Tv.wIsi2, Tv.wDead, Tv.wStr1, Tv.fInS, Tv.fAddS, Tv.fLenS, Tv.wDisp, Tv.fDIn, Tv.fDGet, Tv.wISet, ↓reduceIte, Bool.false_eq_true, decide_eq_true_eq, T.int.injEq, T.str.injEq, T.bl.injEq, T.lst.injEq, T.tup.injEq, exists_eq_left', exists_eq_left, exists_and_left, true_and, and_true, reduceCtorEq, ne_eq, not_false_eq_true, not_true_eq_false, forall_eq', forall_eq, Option.some.injEq, Option.isSome_some]
    refine ⟨(lt.okN ok).okD (by decide), (OkN.lst fun t ht => (h3 t ht).okN ok).okD (by decide), ?_⟩
    split
    · refine ⟨by omega, ls ++ [t], _, _, rfl, fun _ => by simp, by rw [List.length_append]; exact Nat.succ_le_succ h2, fun x hx => ?_⟩
      rcases List.mem_append.mp hx with m | m
      · exact h3 x m
      · rw [List.mem_singleton.mp m]
        exact lt
    · rename_i c
      refine ⟨ls, _, _, rfl, fun _ e => ?_, Nat.le_succ_of_le h2, h3⟩
      rw [e] at c
      simp at c
  · rintro env' ⟨ls, c5, c6, rfl, h1, h2, h3⟩
    rw [rng_len] at h1 h2
    simp only [Tv.wSeq, Tv.wNext, Tv.wIfS, Tv.wSet, Tv.wSetN, Tv.wRet, Tv.wRetO, Tv.wFrz, Tv.wApp, Tv.wOp, Tv.wTest, Tv.wAnd, Tv.wOr, Tv.wNot, Tv.wIf, Tv.wAndV, Tv.wOrV, Tv.wNotV, Tv.wCall, Tv.wCons, Tv.wNil, Tv.wV, Tv.wC, Tv.wTup, Tv.wLst, Tv.wSeqT, Tv.wO, Tv.wLen, Tv.wList, Tv.wTuple, Tv.wCat, Tv.wSl, Tv.wLst1, Tv.wTup1, Tv.wRng1, Tv.wRng2, Tv.wEnum, Tv.wFor, Tv.wLc, Tv.wYes, Tv.wCB, Tv.wipeE, Tv.gSet, Tv.gNilT, Tv.gConsT, Tv.gTupT, Tv.cellOf, Tv.env0, Tv.fEq, Tv.fIn, Tv.fI0, Tv.fI, Tv.fSc, Tv.fIsN, Tv.fIsB, Tv.fIx, Tv.fIxS, Tv.fCatT, Tv.fInt1, Tv.fMin2, List.zipWith_cons_cons, List.zipWith_nil_left, List.length_cons, List.length_nil, List.cons_append, List.nil_append, List.replicate, List.getElem?_cons_zero, List.getElem?_cons_succ, List.set_cons_zero, List.set_cons_succ, Tv.wRoom, Tv.wRoomSet, Tv.wIfDraw, Tv.wStar, Tv.wLen6, Tv.wFld, Tv.wExt, Tv.wTru, Tv.wChain, Tv.fIsi, Tv.fInF, Tv.seq_l, Tv.seq_t, Tv.lst_l, Tv.tup_t, Tv.scal_ii, Tv.scal_ss, Tv.scal_bb, Tv.same_ii, Tv.same_ss, Tv.same_bb, Tv.at_0, Tv.at_1, Tv.at_2, Tv.at_3, Tv.isN_non, Tv.isN_int, Tv.isN_str, Tv.isN_tup, Tv.isN_lst, Tv.isN_bl, Cell.val.injEq, T.op.injEq, forall_const, Tv.isi_non_tuple, Tv.isi_non_str, Tv.isi_non_int, Tv.isi_non_bool, Tv.isi_non_dict, Tv.isi_non_list, Tv.isi_bl_tuple, Tv.isi_bl_str, Tv.isi_bl_int, Tv.isi_bl_bool, Tv.isi_bl_dict, Tv.isi_bl_list, Tv.isi_int_tuple, Tv.isi_int_str, Tv.isi_int_int, Tv.isi_int_bool, Tv.isi_int_dict, Tv.isi_int_list, Tv.isi_str_tuple, Tv.isi_str_str, Tv.isi_str_int, Tv.isi_str_bool, Tv.isi_str_dict, Tv.isi_str_list, Tv.isi_tup_tuple, Tv.isi_tup_str, Tv.isi_tup_int, Tv.isi_tup_bool, Tv.isi_tup_dict, Tv.isi_tup_list, Tv.isi_lst_tuple, Tv.isi_lst_str, Tv.isi_lst_int, Tv.isi_lst_bool, Tv.isi_lst_dict, Tv.isi_lst_list, Tv.isi_dic_tuple, Tv.isi_dic_str, Tv.isi_dic_int, Tv.isi_dic_bool, Tv.isi_dic_dict, Tv.isi_dic_list, V.ty.injEq, Tv.wLc2, Tv.fAll, Tv.wDropX, Tv.wSetX, Tv.wRaise, Tv.wIsi2, Tv.wDead, Tv.wStr1, Tv.fInS, Tv.fAddS, Tv.fLenS, Tv.wDisp, Tv.fDIn, Tv.fDGet, Tv.wISet, ↓reduceIte, Bool.false_eq_true, decide_eq_true_eq, T.int.injEq, T.str.injEq, T.bl.injEq, T.lst.injEq, T.tup.injEq, exists_eq_left', exists_eq_left, exists_and_left, true_and, and_true, reduceCtorEq, ne_eq, not_false_eq_true, not_true_eq_false, forall_eq', forall_eq, Option.some.injEq, Option.isSome_some]
    exact k ls (h1 (by omega)) (by omega) h3
end
end Tl
/-! parts that are drawn -/
namespace Tl
open PySem PySem.Spec PyProof.Rows L2 Lw Tv Nm
abbrev sPart : Stmt := Lw.top 44
abbrev sWrap : Stmt := Lw.top 45
/-- a right part over these names and codes, at most n deep -/
def PartOk (zs cs : List Str) : Nat → T → Prop
  | 0, t => (∃ a b n, t = .tup [.str "atmost", .str a, .str b, .int n] ∧ LitT zs (.tup [.str a, .str b, .int n])) ∨ (∃ a, t = .tup [.str "missing", .str a] ∧ a ∈ zs)
  | d + 1, t => PartOk zs cs d t ∨ (∃ c l p, t = .tup [.str "must", .str c, l, p] ∧ c ∈ cs ∧ LitT zs l ∧ PartOk zs cs d p) ∨ (∃ p, t = .tup [.str "not", p] ∧ PartOk zs cs d p) ∨
      (∃ w ps, t = .tup [.str w, .tup ps] ∧ (w = "and" ∨ w = "or") ∧ 1 ≤ ps.length ∧ ps.length ≤ 4 ∧ ∀ p ∈ ps, PartOk zs cs d p) ∨
      (∃ (bs : List (T × T)) (l : T), t = .tup [.str "case", .tup (bs.map fun b : T × T => T.tup [b.1, b.2]), l] ∧ 1 ≤ bs.length ∧ bs.length ≤ 3 ∧ (∀ b ∈ bs, PartOk zs cs d b.1 ∧ PartOk zs cs d b.2) ∧ PartOk zs cs d l)
/-- names, literals, codes, the room -/
structure WorldOk (zs : List Str) (pool : List T) (cs : List Str) : Prop where
  nz : NamesOk zs
  po : ∀ t ∈ pool, LitT zs t
  p0 : 0 < pool.length
  p9 : pool.length ≤ 10
  nc : NamesOk cs
def worldT (zs : List Str) (pool : List T) (cs : List Str) (r : Addr) : T := .lst [strsT zs, .lst pool, strsT cs, .op (.ref r)]
def cPart (n : Nat) (R : Rs) (ts : List T) (Pt : T → Prop) : Prop := ∃ (p q r : Addr) (zs : List Str) (pool : List T) (cs : List Str) (d : Nat) (k : Int), R = handR p q (some r) ∧ ts = [.op (.ref p), worldT zs pool cs r, .int (d : Int), .int k] ∧ WorldOk zs pool cs ∧ d < n ∧ 0 ≤ k ∧ k ≤ 9 ∧ ∀ t, PartOk zs cs d t → Pt t
def cWrap (n : Nat) (R : Rs) (ts : List T) (Pt : T → Prop) : Prop := ∃ (p q r : Addr) (zs : List Str) (pool : List T) (cs : List Str) (d : Nat) (k : Int), R = handR p q (some r) ∧ ts = [.op (.ref p), worldT zs pool cs r, .int ((d + 1 : Nat) : Int), .int k] ∧ WorldOk zs pool cs ∧ d < n ∧ ∀ t, PartOk zs cs (d + 1) t → Pt t
theorem at_pos {α : Type} {xs : List α} {i : Int} (h0 : 0 ≤ i) (h1 : i < (xs.length : Int)) : ∃ x, atI xs i = some x ∧ x ∈ xs := by
  have hl : i.toNat < xs.length := by omega
  have e : i = ((i.toNat : Nat) : Int) := by omega
  refine ⟨xs[i.toNat], ?_, List.getElem_mem hl⟩
  conv => lhs; rw [e]
  exact atI_nat (List.getElem?_eq_getElem hl)
theorem at_strs {zs : List Str} {i : Int} (h0 : 0 ≤ i) (h1 : i < (zs.length : Int)) : ∃ z, atI (zs.map T.str) i = some (T.str z) ∧ z ∈ zs := by
  obtain ⟨t, h2, h3⟩ := at_pos (xs := zs.map T.str) h0 (by rw [List.length_map]; exact h1)
  obtain ⟨z, hz, rfl⟩ := List.mem_map.mp h3
  exact ⟨z, h2, hz⟩
section
variable {P : Program} {w : World} {K : PySem.W.Frag} {mg : Str → Option Value} {base : Heap}
abbrev CPa (P : Program) (w : World) (K : PySem.W.Frag) (mg : Str → Option Value) (base : Heap) (j n : Nat) : Prop := Cl P w K mg base j "_law_part" (spT K [.S, .S, .S, .S] false (cPart n))
abbrev CWr (P : Program) (w : World) (K : PySem.W.Frag) (mg : Str → Option Value) (base : Heap) (j n : Nat) : Prop := Cl P w K mg base j "_law_wrap" (spT K [.S, .S, .S, .S] false (cWrap n))

theorem scWrap : FnScope ["_law_hand_here", "_law_world_here", "_law_depth", "_law_kind", "_law_room", "_law_code", "_law_literal_here"] ["_law_hand_here", "_law_world_here", "_law_depth", "_law_kind"] (defScope sWrap) := ⟨rfl, rfl, rfl, by decide +kernel, rfl, by decide +kernel, by decide +kernel⟩
theorem okWrap {f : Addr} {fd : FuncData} {j n : Nat} (F : Fun K "_law_wrap" "_law_wrap" sWrap f fd) (B : Bt mg) (cD : CD P w K mg base) (j3 : 2 ≤ j) (cP : CPa P w K mg base j n) : FnOk P w K mg base CX0 (j + 1) f fd ["_law_hand_here", "_law_world_here", "_law_depth", "_law_kind"] (spT K [.S, .S, .S, .S] false (cWrap n)) := by
  refine okv2 F scWrap rfl (by decide) fun cdv A outer s H E R ts Pt hr0 hc => ?_
  obtain ⟨p, q, r, zs, pool, cs, d, k, rfl, rfl, wo, hd, kk⟩ := hc
  have hr := hr0
  refine ⟨_, (cons_ (set_ (κ := .S) 4 (fun a => ps_set (i := 4) scWrap.nd rfl (Or.inl rfl) a) (pix_ (pv_ (κ := .S) 1 (pv 1)) (pint_ (κ := .M))))
      (cons_ (roomSet_ 4 (psub_ (μ := .M) (proom_ (μ := .M) 4 (pv 4) pe_int ⟨by decide, by decide⟩) (pint_ (κ := .M))) (fun a => ps_asg a (pg_sub (pv 4) pe_int set_list)))
      (cons_ (if_ (ptcmp_ op_eq re_sc (nomark _) (pv_ (κ := .M) 3 (pv 3)) (pint_ (κ := .M))) (one_ (ret_ (ptup_ (κ := .S) (pa1_ (pstr_ (κ := .S)) (pa1_ (callS_ (κ := .S) (κs := [.S, .S, .S, .S]) (ms := [.S, .S, .S, .S]) rfl (fun a => cP.pe hr (Nat.le_refl _) (by rfl) a) (pa1_ (pv_ (κ := .S) 0 (pv 0)) (pa1_ (pv_ (κ := .S) 1 (pv 1)) (pa1_ (psub_ (μ := .S) (pv_ (κ := .M) 2 (pv 2)) (pint_ (κ := .M))) (pa1_ (callS_ (κ := .S) (κs := [.S, .S]) (ms := [.S, .S]) rfl (fun a => cD.pe hr j3 (by rfl) a) (pa1_ (pv_ (κ := .S) 0 (pv 0)) (pa1_ (pint_ (κ := .S)) pa0_))) pa0_))))) pa0_)) rfl))) nil_)
      (cons_ (roomSet_ 4 (psub_ (μ := .M) (proom_ (μ := .M) 4 (pv 4) pe_int ⟨by decide, by decide⟩) (pint_ (κ := .M))) (fun a => ps_asg a (pg_sub (pv 4) pe_int set_list)))
      (cons_ (set_ (κ := .S) 5 (fun a => ps_set (i := 5) scWrap.nd rfl (Or.inl rfl) a) (pix_ (pix_ (pv_ (κ := .S) 1 (pv 1)) (pint_ (κ := .M))) (callS_ (κ := .M) (κs := [.S, .S]) (ms := [.S, .S]) rfl (fun a => cD.pe hr j3 (by rfl) a) (pa1_ (pv_ (κ := .S) 0 (pv 0)) (pa1_ (plen_ (μ := .S) (PEv.items (pix_ (pv_ (κ := .S) 1 (pv 1)) (pint_ (κ := .M)))) (fun a => pe_callB call_len_seq (by rfl) B.len PySem.boot_len (pa_cons a pa_nil))) pa0_)))))
      (cons_ (set_ (κ := .S) 6 (fun a => ps_set (i := 6) scWrap.nd rfl (Or.inl rfl) a) (pix_ (pix_ (pv_ (κ := .S) 1 (pv 1)) (pint_ (κ := .M))) (callS_ (κ := .M) (κs := [.S, .S]) (ms := [.S, .S]) rfl (fun a => cD.pe hr j3 (by rfl) a) (pa1_ (pv_ (κ := .S) 0 (pv 0)) (pa1_ (plen_ (μ := .S) (PEv.items (pix_ (pv_ (κ := .S) 1 (pv 1)) (pint_ (κ := .M)))) (fun a => pe_callB call_len_seq (by rfl) B.len PySem.boot_len (pa_cons a pa_nil))) pa0_)))))
      (one_ (ret_ (ptup_ (κ := .S) (pa1_ (pstr_ (κ := .S)) (pa1_ (pv_ (κ := .S) 5 (pv 5)) (pa1_ (pv_ (κ := .S) 6 (pv 6)) (pa1_ (callS_ (κ := .S) (κs := [.S, .S, .S, .S]) (ms := [.S, .S, .S, .S]) rfl (fun a => cP.pe hr (Nat.le_refl _) (by rfl) a) (pa1_ (pv_ (κ := .S) 0 (pv 0)) (pa1_ (pv_ (κ := .S) 1 (pv 1)) (pa1_ (psub_ (μ := .S) (pv_ (κ := .M) 2 (pv 2)) (pint_ (κ := .M))) (pa1_ (callS_ (κ := .S) (κs := [.S, .S]) (ms := [.S, .S]) rfl (fun a => cD.pe hr j3 (by rfl) a) (pa1_ (pv_ (κ := .S) 0 (pv 0)) (pa1_ (pint_ (κ := .S)) pa0_))) pa0_))))) pa0_)))) rfl))))))))), ?_⟩
  simp only [worldT, strsT, List.length_map, Tv.wSeq, Tv.wNext, Tv.wIfS, Tv.wSet, Tv.wSetN, Tv.wRet, Tv.wRetO, Tv.wFrz, Tv.wApp, Tv.wOp, Tv.wTest, Tv.wAnd, Tv.wOr, Tv.wNot, Tv.wIf, Tv.wAndV, Tv.wOrV, Tv.wNotV, Tv.wCall, Tv.wCons, Tv.wNil, Tv.wV, Tv.wC, Tv.wTup, Tv.wLst, Tv.wSeqT, Tv.wO, Tv.wLen, Tv.wList, Tv.wTuple, Tv.wCat, Tv.wSl, Tv.wLst1, Tv.wTup1, Tv.wRng1, Tv.wRng2, Tv.wEnum, Tv.wFor, Tv.wLc, Tv.wYes, Tv.wCB, Tv.wipeE, Tv.gSet, Tv.gNilT, Tv.gConsT, Tv.gTupT, Tv.cellOf, Tv.env0, Tv.fEq, Tv.fIn, Tv.fI0, Tv.fI, Tv.fSc, Tv.fIsN, Tv.fIsB, Tv.fIx, Tv.fIxS, Tv.fCatT, Tv.fInt1, Tv.fMin2, List.zipWith_cons_cons, List.zipWith_nil_left, List.length_cons, List.length_nil, List.cons_append, List.nil_append, List.replicate, List.getElem?_cons_zero, List.getElem?_cons_succ, List.set_cons_zero, List.set_cons_succ, Tv.wRoom, Tv.wRoomSet, Tv.wIfDraw, Tv.wStar, Tv.wLen6, Tv.wFld, Tv.wExt, Tv.wTru, Tv.wChain, Tv.fIsi, Tv.fInF, Tv.seq_l, Tv.seq_t, Tv.lst_l, Tv.tup_t, Tv.scal_ii, Tv.scal_ss, Tv.scal_bb, Tv.same_ii, Tv.same_ss, Tv.same_bb, Tv.at_0, Tv.at_1, Tv.at_2, Tv.at_3, Tv.isN_non, Tv.isN_int, Tv.isN_str, Tv.isN_tup, Tv.isN_lst, Tv.isN_bl, Cell.val.injEq, T.op.injEq, forall_const, Tv.isi_non_tuple, Tv.isi_non_str, Tv.isi_non_int, Tv.isi_non_bool, Tv.isi_non_dict, Tv.isi_non_list, Tv.isi_bl_tuple, Tv.isi_bl_str, Tv.isi_bl_int, Tv.isi_bl_bool, Tv.isi_bl_dict, Tv.isi_bl_list, Tv.isi_int_tuple, Tv.isi_int_str, Tv.isi_int_int, Tv.isi_int_bool, Tv.isi_int_dict, Tv.isi_int_list, Tv.isi_str_tuple, Tv.isi_str_str, Tv.isi_str_int, Tv.isi_str_bool, Tv.isi_str_dict, Tv.isi_str_list, Tv.isi_tup_tuple, Tv.isi_tup_str, Tv.isi_tup_int, Tv.isi_tup_bool, Tv.isi_tup_dict, Tv.isi_tup_list, Tv.isi_lst_tuple, Tv.isi_lst_str, Tv.isi_lst_int, Tv.isi_lst_bool, Tv.isi_lst_dict, Tv.isi_lst_list, Tv.isi_dic_tuple, Tv.isi_dic_str, Tv.isi_dic_int, Tv.isi_dic_bool, Tv.isi_dic_dict, Tv.isi_dic_list, V.ty.injEq, Tv.wLc2, Tv.fAll, Tv.wDropX, Tv.wSetX, Tv.wRaise, Tv.wIsi2, Tv.wDead, Tv.wStr1, Tv.fInS, Tv.fAddS, Tv.fLenS, Tv.wDisp, Tv.fDIn, Tv.fDGet, Tv.wISet, ↓reduceIte, Bool.false_eq_true, decide_eq_true_eq, T.int.injEq, T.str.injEq, T.bl.injEq, T.lst.injEq, T.tup.injEq, exists_eq_left', exists_eq_left, exists_and_left, true_and, and_true, reduceCtorEq, ne_eq, not_false_eq_true, not_true_eq_false, forall_eq', forall_eq, Option.some.injEq, Option.isSome_some]
  have ed : (((d + 1 : Nat) : Int) - 1) = (d : Int) := by omega
  rw [ed]
  split
  · refine ⟨p, q, some r, 10, rfl, rfl, by decide, by decide, fun i i0 i1 => ⟨p, q, r, zs, pool, cs, d, i, rfl, rfl, wo, hd, i0, by omega, fun t ht => kk _ ?_⟩⟩
    exact .inr (.inr (.inl ⟨t, rfl, ht⟩))
  · have c0 := wo.nc.l0
    have c5 := wo.nc.l5
    have p0 := wo.p0
    have p9 := wo.p9
    refine ⟨p, q, some r, _, rfl, rfl, by omega, by omega, fun i i0 i1 => ?_⟩
    obtain ⟨z, hz, mz⟩ := at_strs i0 i1
    simp only [↓reduceIte, Bool.false_eq_true, decide_eq_true_eq, T.int.injEq, T.str.injEq, T.bl.injEq, T.lst.injEq, T.tup.injEq, exists_eq_left', exists_eq_left, exists_and_left, true_and, and_true, reduceCtorEq, ne_eq, not_false_eq_true, not_true_eq_false, forall_eq', forall_eq, Option.some.injEq, Option.isSome_some]
    refine ⟨_, hz, p, q, some r, _, rfl, rfl, by omega, by omega, fun i i0 i1 => ?_⟩
    obtain ⟨l, hl, ml⟩ := at_pos i0 i1
    simp only [↓reduceIte, Bool.false_eq_true, decide_eq_true_eq, T.int.injEq, T.str.injEq, T.bl.injEq, T.lst.injEq, T.tup.injEq, exists_eq_left', exists_eq_left, exists_and_left, true_and, and_true, reduceCtorEq, ne_eq, not_false_eq_true, not_true_eq_false, forall_eq', forall_eq, Option.some.injEq, Option.isSome_some]
    refine ⟨_, hl, p, q, some r, 10, rfl, rfl, by decide, by decide, fun i i0 i1 => ⟨p, q, r, zs, pool, cs, d, i, rfl, rfl, wo, hd, i0, by omega, fun t ht => kk _ ?_⟩⟩
    exact .inr (.inl ⟨z, l, t, rfl, mz, wo.po l ml, ht⟩)
theorem scPart : FnScope ["_law_hand_here", "_law_world_here", "_law_depth", "_law_kind", "_law_room", "_law_many", "_law_k", "_law_inner_here", "_law_literal_here"] ["_law_hand_here", "_law_world_here", "_law_depth", "_law_kind"] (defScope sPart) := ⟨rfl, rfl, rfl, by decide +kernel, rfl, by decide +kernel, by decide +kernel⟩
/-- what is known of the slots of _law_part -/
def Gp (p : Addr) (zs : List Str) (pool : List T) (cs : List Str) (r : Addr) (env : List Cell) : Prop := ∃ (d k : Int) (rest : List Cell), env = .val (.op (.ref p)) :: .val (worldT zs pool cs r) :: .val (.int d) :: .val (.int k) :: .val (.op (.ref r)) :: rest
/-- the depth and the kind that the tests found -/
def Cp (a b : Int) (env : List Cell) : Prop := ∀ d k : Int, env[2]? = some (.val (.int d)) → env[3]? = some (.val (.int k)) → 0 < d ∧ a ≤ k ∧ k ≤ b
theorem gp_sl {K : PySem.W.Frag} {R : Rs} {H0 F H : Hp} {p r : Addr} {zs : List Str} {pool : List T} {cs : List Str} {env : List Cell} {σ : List (Option V)} (sl : Sl K R H0 F H env σ) (g : Gp p zs pool cs r env) :
    ∃ (d k : Int), σ[0]? = some (some (.ref p)) ∧ σ[2]? = some (some (.int d)) ∧ σ[3]? = some (some (.int k)) ∧ σ[4]? = some (some (.ref r)) ∧ env[2]? = some (.val (.int d)) ∧ env[3]? = some (.val (.int k)) := by
  obtain ⟨d, k, rest, rfl⟩ := g
  obtain ⟨_, a1, a, rfl, a2⟩ := sl.ok 0 _ rfl
  obtain ⟨_, b1, b, rfl, b2⟩ := sl.ok 2 _ rfl
  obtain ⟨_, c1, c, rfl, c2⟩ := sl.ok 3 _ rfl
  obtain ⟨_, d1, e, rfl, d2⟩ := sl.ok 4 _ rfl
  rw [op_rep a2] at a1
  rw [rep_int b2] at b1
  rw [rep_int c2] at c1
  rw [op_rep d2] at d1
  exact ⟨d, k, a1, b1, c1, d1, rfl, rfl⟩
theorem okPart1 {f : Addr} {fd : FuncData} {j n : Nat} (F : Fun K "_law_part" "_law_part" sPart f fd) (B : Bt mg) (hmin : mg "min" = none) (cD : CD P w K mg base) (j3 : 2 ≤ j) {j0 : Nat} (j4 : j0 ≤ j) (cP : CPa P w K mg base j0 n) (cW : CWr P w K mg base j n) : FnOk P w K mg base CX0 (j + 1) f fd ["_law_hand_here", "_law_world_here", "_law_depth", "_law_kind"] (spT K [.S, .S, .S, .S] false (cPart (n + 1))) := by
  refine okv2 F scPart rfl (by decide) fun cdv A outer s H E R ts Pt hr0 hc => ?_
  obtain ⟨p, q, r, zs, pool, cs, d, k, rfl, rfl, wo, hd, k0, k9, kk⟩ := hc
  have hr := hr0
  have hu1 : (A.deeper (envOfC "_law_part" (defScope sPart) s.heap.objs.size f cdv)).units + 65 < cLine := by have := hr.un; omega
  refine ⟨_, (cons_ (set_ (κ := .S) 4 (fun a => ps_set (i := 4) scPart.nd rfl (Or.inl rfl) a) (pix_ (pv_ (κ := .S) 1 (pv 1)) (pint_ (κ := .M))))
      (cut_ (if_ (PWv.pt (pand_ (ptcmp_ op_gt (re_I0 fun _ _ _ => .bl _) (nomark _) (pv_ (κ := .M) 2 (pv 2)) (pint_ (κ := .M))) (pand_ (ptcmp_ op_ge (re_I0 fun _ _ _ => .bl _) (nomark _) (proom_ (μ := .M) 4 (pv 4) pe_int ⟨by decide, by decide⟩) (pint_ (κ := .M))) (pand1_ (PWv.pt (por_ (ptcmp_ op_eq re_sc (nomark _) (pv_ (κ := .M) 3 (pv 3)) (pint_ (κ := .M))) (por1_ (PWv.pt (pand_ (ptcmp_ op_in_seq (re_inF false) (by rfl) (pv_ (κ := .M) 3 (pv 3)) (PEn.up (κ := .M) (plst_ (pa1_ (pint_ (κ := .S)) (pa1_ (pint_ (κ := .S)) (pa1_ (pint_ (κ := .S)) pa0_))) rfl))) (pand1_ (ptcmp_ op_ge (re_I0 fun _ _ _ => .bl _) (nomark _) (proom_ (μ := .M) 4 (pv 4) pe_int ⟨by decide, by decide⟩) (pint_ (κ := .M))))))))))))) (one_ (ret_ (callS_ (κ := .S) (κs := [.S, .S, .S, .S]) (ms := [.S, .S, .S, .S]) rfl (fun a => cW.pe hr (Nat.le_refl _) (by rfl) a) (pa1_ (pv_ (κ := .S) 0 (pv 0)) (pa1_ (pv_ (κ := .S) 1 (pv 1)) (pa1_ (pv_ (κ := .S) 2 (pv 2)) (pa1_ (pv_ (κ := .S) 3 (pv 3)) pa0_))))))) nil_)
      (cut_ (ifDraw_ 5 (m := 4) (G := Gp p zs pool cs r) (C := Cp 6 8) (pw_and (pt_cmpR op_gt (pv 2) pe_int (nomark _)) (pw_and (pt_cmpR op_ge (pv 3) pe_int (nomark _)) (pw_and (pt_cmpR op_le (pv 3) pe_int (nomark _)) (pw_and (pt_cmpR op_ge (pe_ix ix_list (pv 4) pe_int (fun _ _ => rfl)) pe_int (nomark _)) (pw_and1 (pt_cmpR op_ge (pe_ix ix_list (pv 4) pe_int (fun _ _ => rfl)) pe_int (nomark _))))))).pt (ps_set (i := 5) scPart.nd rfl (Or.inl rfl) (pe_op op_add pe_int (cD.pe hr j3 (by rfl) (pa_cons (pv 0) (pa_cons (pe_callB (call_min2 rfl) (by rfl) hmin (by decide +kernel) (pa_cons pe_int (pa_cons (pe_ix ix_list (pv 4) pe_int (fun _ _ => rfl)) pa_nil))) pa_nil))))) (cons_ (roomSet_ 4 (psub_ (μ := .M) (proom_ (μ := .M) 4 (pv 4) pe_int ⟨by decide, by decide⟩) (pv_ (κ := .M) 5 (pv 5))) (fun a => ps_asg a (pg_sub (pv 4) pe_int set_list)))
      (cons_ (roomSet_ 4 (psub_ (μ := .M) (proom_ (μ := .M) 4 (pv 4) pe_int ⟨by decide, by decide⟩) (pint_ (κ := .M))) (fun a => ps_asg a (pg_sub (pv 4) pe_int set_list)))
      (cons_ (set_ (κ := .S) 7 (fun a => ps_set (i := 7) scPart.nd rfl (Or.inr rfl) a) (PEn.up (κ := .S) (plc_ (own := [("_law_k", 6)]) rfl scPart.nd (srcR1_ (κ := .S) (pv_ (κ := .M) 5 (pv 5)) (fun a => pi_range1 (by rfl) B.range (pa_cons a pa_nil))) (blkOk_by (N := ["_law_hand_here", "_law_world_here", "_law_depth", "_law_kind", "_law_room", "_law_many", "_law_k", "_law_inner_here", "_law_literal_here"]) (sc := defScope sPart) (by decide +kernel)) (fun _ _ _ _ _ => (gnm_ (κ := .S) 6 (by decide) (pg_name (i := 6) scPart.nd rfl (Or.inl rfl)))) (fun _ _ _ _ _ => (callS_ (κ := .S) (κs := [.S, .S, .S, .S]) (ms := [.S, .S, .S, .S]) rfl (fun a => cP.pe hr j4 (by rfl) a) (pa1_ (pv_ (κ := .S) 0 (pv 0)) (pa1_ (pv_ (κ := .S) 1 (pv 1)) (pa1_ (psub_ (μ := .S) (pv_ (κ := .M) 2 (pv 2)) (pint_ (κ := .M))) (pa1_ (callS_ (κ := .S) (κs := [.S, .S]) (ms := [.S, .S]) rfl (fun a => cD.pe hr j3 (by rfl) a) (pa1_ (pv_ (κ := .S) 0 (pv 0)) (pa1_ (pint_ (κ := .S)) pa0_))) pa0_)))))) rfl)))
      (one_ (ret_ (ptup_ (κ := .S) (pa1_ (pix_ (PEn.up (κ := .S) (plst_ (pa1_ (pstr_ (κ := .S)) (pa1_ (pstr_ (κ := .S)) (pa1_ (pstr_ (κ := .S)) pa0_))) rfl)) (psub_ (μ := .M) (pv_ (κ := .M) 3 (pv 3)) (pint_ (κ := .M)))) (pa1_ (ptuple_ (μ := .S) (PEv.items (pv_ (κ := .S) 7 (pv 7))) (fun a => pe_callTy call_tuple_of (by rfl) B.tuple (by decide +kernel) (pa_cons a pa_nil))) pa0_)) rfl)))))) rfl (by
      intro F0 H0 F H σ env Q s sl g q0 q1
      obtain ⟨d, k, e0, e2, e3, e4, v2, v3⟩ := gp_sl sl g
      obtain ⟨x, y, z, hr⟩ := room_at s.ok
      refine ⟨_, e2, _, _, rfl, rfl, _, rfl, ite2 (fun c2 => ?_) (fun _ => q0)⟩
      refine ⟨_, e3, _, _, rfl, rfl, _, rfl, ite2 (fun c3 => ?_) (fun _ => q0)⟩
      refine ⟨_, e3, _, _, rfl, rfl, _, rfl, ite2 (fun c4 => ?_) (fun _ => q0)⟩
      have hC : Cp 6 8 env := fun d' k' z2 z3 => by
        rw [v2] at z2
        rw [v3] at z3
        cases z2
        cases z3
        exact ⟨of_decide_eq_true c2, of_decide_eq_true c3, of_decide_eq_true c4⟩
      refine ⟨_, e4, r, [.int x, .int y, .int z], 0, .int x, rfl, rfl, SqL.of hr, rfl, _, _, rfl, rfl, _, rfl, ite2 (fun cx => ?_) (fun _ => q0)⟩
      refine ⟨_, e4, r, [.int x, .int y, .int z], 1, .int y, rfl, rfl, SqL.of hr, rfl, _, _, rfl, rfl, _, rfl, ?_⟩
      have cx := of_decide_eq_true cx
      cases decide (1 ≤ y) with
      | false => exact q0
      | true =>
        refine q1 (fun Qe hq => ?_) hC
        have go : ∀ m : Int, 1 ≤ m → m ≤ 4 → spT K [.S, .S] false cDraw [.ref p, .int m] H (fun y H2 => ∃ i j, (V.int 1) = .int i ∧ y = .int j ∧ Qe (.int (i + j)) H2) (fun _ _ _ => False) := fun m m0 m1 =>
          ⟨handR p q (some r), F, [.op (.ref p), .int m], fun t => ∃ i, t = .int i ∧ 0 ≤ i ∧ i < m, s.ok, .cons (.op _) (.cons (.int _) .nil), ⟨p, q, some r, m, rfl, rfl, by omega, by omega, fun i i0 i1 => ⟨i, rfl, i0, i1⟩⟩, fun t v F' H' ⟨i, et, i0, i1⟩ s' rr => by
            subst et
            have e := rep_int rr
            exact ⟨1, i, rfl, e, hq _ F' H' (by omega) (by omega) s'⟩⟩
        refine ⟨_, e0, _, e4, r, [.int x, .int y, .int z], 0, .int x, rfl, rfl, SqL.of hr, rfl, 4, x, rfl, ?_⟩
        exact go _ (by split <;> omega) (by split <;> omega)
))
      (cut_ (ifDraw_ 5 (m := 3) (G := Gp p zs pool cs r) (C := Cp 9 9) (pw_and (pt_cmpR op_gt (pv 2) pe_int (nomark _)) (pw_and (pt_cmpR op_eq (pv 3) pe_int (nomark _)) (pw_and (pt_cmpR op_ge (pe_ix ix_list (pv 4) pe_int (fun _ _ => rfl)) pe_int (nomark _)) (pw_and1 (pt_cmpR op_ge (pe_ix ix_list (pv 4) pe_int (fun _ _ => rfl)) pe_int (nomark _)))))).pt (ps_set (i := 5) scPart.nd rfl (Or.inl rfl) (pe_op op_add pe_int (cD.pe hr j3 (by rfl) (pa_cons (pv 0) (pa_cons (pe_callB (call_min2 rfl) (by rfl) hmin (by decide +kernel) (pa_cons pe_int (pa_cons (pe_op op_fdiv (pe_op op_sub (pe_ix ix_list (pv 4) pe_int (fun _ _ => rfl)) pe_int) pe_int) pa_nil))) pa_nil))))) (cons_ (roomSet_ 4 (psub_ (μ := .M) (psub_ (μ := .M) (proom_ (μ := .M) 4 (pv 4) pe_int ⟨by decide, by decide⟩) (pmul_ (μ := .M) (pint_ (κ := .M)) (pv_ (κ := .M) 5 (pv 5)))) (pint_ (κ := .M))) (fun a => ps_asg a (pg_sub (pv 4) pe_int set_list)))
      (cons_ (roomSet_ 4 (psub_ (μ := .M) (proom_ (μ := .M) 4 (pv 4) pe_int ⟨by decide, by decide⟩) (pint_ (κ := .M))) (fun a => ps_asg a (pg_sub (pv 4) pe_int set_list)))
      (cons_ (set_ (κ := .S) 7 (fun a => ps_set (i := 7) scPart.nd rfl (Or.inr rfl) a) (PEn.up (κ := .S) (plc_ (own := [("_law_k", 6)]) rfl scPart.nd (srcR1_ (κ := .S) (padd_ (μ := .M) (pmul_ (μ := .M) (pint_ (κ := .M)) (pv_ (κ := .M) 5 (pv 5))) (pint_ (κ := .M))) (fun a => pi_range1 (by rfl) B.range (pa_cons a pa_nil))) (blkOk_by (N := ["_law_hand_here", "_law_world_here", "_law_depth", "_law_kind", "_law_room", "_law_many", "_law_k", "_law_inner_here", "_law_literal_here"]) (sc := defScope sPart) (by decide +kernel)) (fun _ _ _ _ _ => (gnm_ (κ := .S) 6 (by decide) (pg_name (i := 6) scPart.nd rfl (Or.inl rfl)))) (fun _ _ _ _ _ => (callS_ (κ := .S) (κs := [.S, .S, .S, .S]) (ms := [.S, .S, .S, .S]) rfl (fun a => cP.pe hr j4 (by rfl) a) (pa1_ (pv_ (κ := .S) 0 (pv 0)) (pa1_ (pv_ (κ := .S) 1 (pv 1)) (pa1_ (psub_ (μ := .S) (pv_ (κ := .M) 2 (pv 2)) (pint_ (κ := .M))) (pa1_ (callS_ (κ := .S) (κs := [.S, .S]) (ms := [.S, .S]) rfl (fun a => cD.pe hr j3 (by rfl) a) (pa1_ (pv_ (κ := .S) 0 (pv 0)) (pa1_ (pint_ (κ := .S)) pa0_))) pa0_)))))) rfl)))
      (one_ (ret_ (ptup_ (κ := .S) (pa1_ (pstr_ (κ := .S)) (pa1_ (ptuple_ (μ := .S) (PEn.items (plc_ (own := [("_law_k", 6)]) rfl scPart.nd (srcR1_ (κ := .S) (pv_ (κ := .M) 5 (pv 5)) (fun a => pi_range1 (by rfl) B.range (pa_cons a pa_nil))) (blkOk_by (N := ["_law_hand_here", "_law_world_here", "_law_depth", "_law_kind", "_law_room", "_law_many", "_law_k", "_law_inner_here", "_law_literal_here"]) (sc := defScope sPart) (by decide +kernel)) (fun _ _ _ _ _ => (gnm_ (κ := .S) 6 (by decide) (pg_name (i := 6) scPart.nd rfl (Or.inl rfl)))) (fun _ _ _ _ _ => (ptup_ (κ := .S) (pa1_ (pix_ (pv_ (κ := .S) 7 (pv 7)) (pmul_ (μ := .M) (pint_ (κ := .M)) (pv_ (κ := .M) 6 (pv 6)))) (pa1_ (pix_ (pv_ (κ := .S) 7 (pv 7)) (padd_ (μ := .M) (pmul_ (μ := .M) (pint_ (κ := .M)) (pv_ (κ := .M) 6 (pv 6))) (pint_ (κ := .M)))) pa0_)) rfl)) rfl)) (fun a => pe_callTy call_tuple_of (by rfl) B.tuple (by decide +kernel) (pa_cons a pa_nil))) (pa1_ (pix_ (pv_ (κ := .S) 7 (pv 7)) (pmul_ (μ := .M) (pint_ (κ := .M)) (pv_ (κ := .M) 5 (pv 5)))) pa0_))) rfl)))))) rfl (by
      intro F0 H0 F H σ env Q s sl g q0 q1
      obtain ⟨d, k, e0, e2, e3, e4, v2, v3⟩ := gp_sl sl g
      obtain ⟨x, y, z, hr⟩ := room_at s.ok
      refine ⟨_, e2, _, _, rfl, rfl, _, rfl, ite2 (fun c2 => ?_) (fun _ => q0)⟩
      refine ⟨_, e3, rfl, _, rfl, ite2 (fun c3 => ?_) (fun _ => q0)⟩
      have hC : Cp 9 9 env := fun d' k' z2 z3 => by
        rw [v2] at z2
        rw [v3] at z3
        cases z2
        cases z3
        have e9 : V.int k = V.int 9 := of_decide_eq_true c3
        cases e9
        exact ⟨of_decide_eq_true c2, by decide, by decide⟩
      refine ⟨_, e4, r, [.int x, .int y, .int z], 0, .int x, rfl, rfl, SqL.of hr, rfl, _, _, rfl, rfl, _, rfl, ite2 (fun cx => ?_) (fun _ => q0)⟩
      refine ⟨_, e4, r, [.int x, .int y, .int z], 1, .int y, rfl, rfl, SqL.of hr, rfl, _, _, rfl, rfl, _, rfl, ?_⟩
      have cx := of_decide_eq_true cx
      cases decide (1 ≤ y) with
      | false => exact q0
      | true =>
        refine q1 (fun Qe hq => ?_) hC
        have go : ∀ m : Int, 1 ≤ m → m ≤ 3 → spT K [.S, .S] false cDraw [.ref p, .int m] H (fun y H2 => ∃ i j, (V.int 1) = .int i ∧ y = .int j ∧ Qe (.int (i + j)) H2) (fun _ _ _ => False) := fun m m0 m1 =>
          ⟨handR p q (some r), F, [.op (.ref p), .int m], fun t => ∃ i, t = .int i ∧ 0 ≤ i ∧ i < m, s.ok, .cons (.op _) (.cons (.int _) .nil), ⟨p, q, some r, m, rfl, rfl, by omega, by omega, fun i i0 i1 => ⟨i, rfl, i0, i1⟩⟩, fun t v F' H' ⟨i, et, i0, i1⟩ s' rr => by
            subst et
            have e := rep_int rr
            exact ⟨1, i, rfl, e, hq _ F' H' (by omega) (by omega) s'⟩⟩
        refine ⟨_, e0, _, e4, r, [.int x, .int y, .int z], 0, .int x, rfl, rfl, SqL.of hr, rfl, _, _, rfl, rfl, _, _, rfl, rfl, ⟨by decide, by decide⟩, 3, (x - 1) / 2, rfl, ?_⟩
        exact go _ (by split <;> omega) (by split <;> omega)
))
      (cons_ (if_ (ptcmp_ op_eq re_sc (nomark _) (pv_ (κ := .M) 3 (pv 3)) (pint_ (κ := .M))) (one_ (ret_ (ptup_ (κ := .S) (pa1_ (pstr_ (κ := .S)) (pa1_ (pix_ (pix_ (pv_ (κ := .S) 1 (pv 1)) (pint_ (κ := .M))) (callS_ (κ := .M) (κs := [.S, .S]) (ms := [.S, .S]) rfl (fun a => cD.pe hr j3 (by rfl) a) (pa1_ (pv_ (κ := .S) 0 (pv 0)) (pa1_ (plen_ (μ := .S) (PEv.items (pix_ (pv_ (κ := .S) 1 (pv 1)) (pint_ (κ := .M)))) (fun a => pe_callB call_len_seq (by rfl) B.len PySem.boot_len (pa_cons a pa_nil))) pa0_)))) pa0_)) rfl))) nil_)
      (cons_ (set_ (κ := .S) 8 (fun a => ps_set (i := 8) scPart.nd rfl (Or.inl rfl) a) (pix_ (pix_ (pv_ (κ := .S) 1 (pv 1)) (pint_ (κ := .M))) (callS_ (κ := .M) (κs := [.S, .S]) (ms := [.S, .S]) rfl (fun a => cD.pe hr j3 (by rfl) a) (pa1_ (pv_ (κ := .S) 0 (pv 0)) (pa1_ (plen_ (μ := .S) (PEv.items (pix_ (pv_ (κ := .S) 1 (pv 1)) (pint_ (κ := .M)))) (fun a => pe_callB call_len_seq (by rfl) B.len PySem.boot_len (pa_cons a pa_nil))) pa0_)))))
      (one_ (ret_ (ptup_ (κ := .S) (pa1_ (pstr_ (κ := .S)) (pa1_ (pix_ (pv_ (κ := .S) 8 (pv 8)) (pint_ (κ := .M))) (pa1_ (pix_ (pv_ (κ := .S) 8 (pv 8)) (pint_ (κ := .M))) (pa1_ (pix_ (pv_ (κ := .S) 8 (pv 8)) (pint_ (κ := .M))) pa0_)))) rfl))))))))), ?_⟩
  have callP : ∀ {Q : T → Prop}, 0 < d → (∀ t, PartOk zs cs (d - 1) t → Q t) → cDraw (handR p q (some r)) [.op (.ref p), .int 10] fun x => cPart n (handR p q (some r)) [.op (.ref p), worldT zs pool cs r, .int ((d : Int) - 1), x] Q := fun {Q} h0 hQ =>
    ⟨p, q, some r, 10, rfl, rfl, by decide, by decide, fun i i0 i1 => ⟨p, q, r, zs, pool, cs, d - 1, i, rfl, by rw [show ((d : Int) - 1) = ((d - 1 : Nat) : Int) by omega], wo, by omega, i0, by omega, hQ⟩⟩
  show wSeq _ _ _ _
  rw [wSeq, wSet]
  refine ⟨_, 3, _, rfl, rfl, Tv.at_3, ?_⟩
  refine ⟨fun e => e = [.val (.op (.ref p)), .val (worldT zs pool cs r), .val (.int (d : Int)), .val (.int k), .val (.op (.ref r)), .un, .un, .un, .un], ?_, ?_⟩
  · simp only [Tv.wSeq, Tv.wNext, Tv.wIfS, Tv.wSet, Tv.wSetN, Tv.wRet, Tv.wRetO, Tv.wFrz, Tv.wApp, Tv.wOp, Tv.wTest, Tv.wAnd, Tv.wOr, Tv.wNot, Tv.wIf, Tv.wAndV, Tv.wOrV, Tv.wNotV, Tv.wCall, Tv.wCons, Tv.wNil, Tv.wV, Tv.wC, Tv.wTup, Tv.wLst, Tv.wSeqT, Tv.wO, Tv.wLen, Tv.wList, Tv.wTuple, Tv.wCat, Tv.wSl, Tv.wLst1, Tv.wTup1, Tv.wRng1, Tv.wRng2, Tv.wEnum, Tv.wFor, Tv.wLc, Tv.wYes, Tv.wCB, Tv.wipeE, Tv.gSet, Tv.gNilT, Tv.gConsT, Tv.gTupT, Tv.cellOf, Tv.env0, Tv.fEq, Tv.fIn, Tv.fI0, Tv.fI, Tv.fSc, Tv.fIsN, Tv.fIsB, Tv.fIx, Tv.fIxS, Tv.fCatT, Tv.fInt1, Tv.fMin2, List.zipWith_cons_cons, List.zipWith_nil_left, List.length_cons, List.length_nil, List.cons_append, List.nil_append, List.replicate, List.getElem?_cons_zero, List.getElem?_cons_succ, List.set_cons_zero, List.set_cons_succ, Tv.wRoom, Tv.wRoomSet, Tv.wIfDraw, Tv.wStar, Tv.wLen6, Tv.wFld, Tv.wExt, Tv.wTru, Tv.wChain, Tv.fIsi, Tv.fInF, Tv.seq_l, Tv.seq_t, Tv.lst_l, Tv.tup_t, Tv.scal_ii, Tv.scal_ss, Tv.scal_bb, Tv.same_ii, Tv.same_ss, Tv.same_bb, Tv.at_0, Tv.at_1, Tv.at_2, Tv.at_3, Tv.isN_non, Tv.isN_int, Tv.isN_str, Tv.isN_tup, Tv.isN_lst, Tv.isN_bl, Cell.val.injEq, T.op.injEq, forall_const, Tv.isi_non_tuple, Tv.isi_non_str, Tv.isi_non_int, Tv.isi_non_bool, Tv.isi_non_dict, Tv.isi_non_list, Tv.isi_bl_tuple, Tv.isi_bl_str, Tv.isi_bl_int, Tv.isi_bl_bool, Tv.isi_bl_dict, Tv.isi_bl_list, Tv.isi_int_tuple, Tv.isi_int_str, Tv.isi_int_int, Tv.isi_int_bool, Tv.isi_int_dict, Tv.isi_int_list, Tv.isi_str_tuple, Tv.isi_str_str, Tv.isi_str_int, Tv.isi_str_bool, Tv.isi_str_dict, Tv.isi_str_list, Tv.isi_tup_tuple, Tv.isi_tup_str, Tv.isi_tup_int, Tv.isi_tup_bool, Tv.isi_tup_dict, Tv.isi_tup_list, Tv.isi_lst_tuple, Tv.isi_lst_str, Tv.isi_lst_int, Tv.isi_lst_bool, Tv.isi_lst_dict, Tv.isi_lst_list, Tv.isi_dic_tuple, Tv.isi_dic_str, Tv.isi_dic_int, Tv.isi_dic_bool, Tv.isi_dic_dict, Tv.isi_dic_list, V.ty.injEq, Tv.wLc2, Tv.fAll, Tv.wDropX, Tv.wSetX, Tv.wRaise, Tv.wIsi2, Tv.wDead, Tv.wStr1, Tv.fInS, Tv.fAddS, Tv.fLenS, Tv.wDisp, Tv.fDIn, Tv.fDGet, Tv.wISet, ↓reduceIte, Bool.false_eq_true, decide_eq_true_eq, T.int.injEq, T.str.injEq, T.bl.injEq, T.lst.injEq, T.tup.injEq, exists_eq_left', exists_eq_left, exists_and_left, true_and, and_true, reduceCtorEq, ne_eq, not_false_eq_true, not_true_eq_false, forall_eq', forall_eq, Option.some.injEq, Option.isSome_some]
    have ok1 : flatT (T.int k) = true := rfl
    have ok2 : [T.int 2, T.int 4, T.int 5].all flatT = true := by rfl
    have leafN : ∀ e : List Cell, (e = e) = True := fun _ => eq_self _
    have leaf : 0 < d → cWrap n (handR p q (some r)) [T.op (V.ref p), worldT zs pool cs r, T.int (d : Int), T.int k] Pt := fun h0 =>
      ⟨p, q, r, zs, pool, cs, d - 1, k, rfl, by rw [show ((d : Int)) = ((d - 1 + 1 : Nat) : Int) by omega], wo, by omega, fun t ht => kk t (by rw [show d - 1 + 1 = d by omega] at ht; exact ht)⟩
    try simp only [ok1, ok2, true_and, if_true, ite_self, implies_true]
    split
    · rename_i h0
      have h0' : 0 < d := by omega
      intro x
      split
      · split
        · exact leaf h0'
        · split
          · intro y
            split
            · exact leaf h0'
            · trivial
          · trivial
      · trivial
    · trivial
  · rintro _ rfl
    refine ⟨fun e => e = [.val (.op (.ref p)), .val (worldT zs pool cs r), .val (.int (d : Int)), .val (.int k), .val (.op (.ref r)), .un, .un, .un, .un], ⟨⟨d, k, _, rfl⟩, fun hC j j1 j2 => ?_, rfl⟩, ?_⟩
    · obtain ⟨d0, k6, k8⟩ := hC d k rfl rfl
      simp only [List.map, Tv.wSeq, Tv.wNext, Tv.wIfS, Tv.wSet, Tv.wSetN, Tv.wRet, Tv.wRetO, Tv.wFrz, Tv.wApp, Tv.wOp, Tv.wTest, Tv.wAnd, Tv.wOr, Tv.wNot, Tv.wIf, Tv.wAndV, Tv.wOrV, Tv.wNotV, Tv.wCall, Tv.wCons, Tv.wNil, Tv.wV, Tv.wC, Tv.wTup, Tv.wLst, Tv.wSeqT, Tv.wO, Tv.wLen, Tv.wList, Tv.wTuple, Tv.wCat, Tv.wSl, Tv.wLst1, Tv.wTup1, Tv.wRng1, Tv.wRng2, Tv.wEnum, Tv.wFor, Tv.wLc, Tv.wYes, Tv.wCB, Tv.wipeE, Tv.gSet, Tv.gNilT, Tv.gConsT, Tv.gTupT, Tv.cellOf, Tv.env0, Tv.fEq, Tv.fIn, Tv.fI0, Tv.fI, Tv.fSc, Tv.fIsN, Tv.fIsB, Tv.fIx, Tv.fIxS, Tv.fCatT, Tv.fInt1, Tv.fMin2, List.zipWith_cons_cons, List.zipWith_nil_left, List.length_cons, List.length_nil, List.cons_append, List.nil_append, List.replicate, List.getElem?_cons_zero, List.getElem?_cons_succ, List.set_cons_zero, List.set_cons_succ, Tv.wRoom, Tv.wRoomSet, Tv.wIfDraw, Tv.wStar, Tv.wLen6, Tv.wFld, Tv.wExt, Tv.wTru, Tv.wChain, Tv.fIsi, Tv.fInF, Tv.seq_l, Tv.seq_t, Tv.lst_l, Tv.tup_t, Tv.scal_ii, Tv.scal_ss, Tv.scal_bb, Tv.same_ii, Tv.same_ss, Tv.same_bb, Tv.at_0, Tv.at_1, Tv.at_2, Tv.at_3, Tv.isN_non, Tv.isN_int, Tv.isN_str, Tv.isN_tup, Tv.isN_lst, Tv.isN_bl, Cell.val.injEq, T.op.injEq, forall_const, Tv.isi_non_tuple, Tv.isi_non_str, Tv.isi_non_int, Tv.isi_non_bool, Tv.isi_non_dict, Tv.isi_non_list, Tv.isi_bl_tuple, Tv.isi_bl_str, Tv.isi_bl_int, Tv.isi_bl_bool, Tv.isi_bl_dict, Tv.isi_bl_list, Tv.isi_int_tuple, Tv.isi_int_str, Tv.isi_int_int, Tv.isi_int_bool, Tv.isi_int_dict, Tv.isi_int_list, Tv.isi_str_tuple, Tv.isi_str_str, Tv.isi_str_int, Tv.isi_str_bool, Tv.isi_str_dict, Tv.isi_str_list, Tv.isi_tup_tuple, Tv.isi_tup_str, Tv.isi_tup_int, Tv.isi_tup_bool, Tv.isi_tup_dict, Tv.isi_tup_list, Tv.isi_lst_tuple, Tv.isi_lst_str, Tv.isi_lst_int, Tv.isi_lst_bool, Tv.isi_lst_dict, Tv.isi_lst_list, Tv.isi_dic_tuple, Tv.isi_dic_str, Tv.isi_dic_int, Tv.isi_dic_bool, Tv.isi_dic_dict, Tv.isi_dic_list, V.ty.injEq, Tv.wLc2, Tv.fAll, Tv.wDropX, Tv.wSetX, Tv.wRaise, Tv.wIsi2, Tv.wDead, Tv.wStr1, Tv.fInS, Tv.fAddS, Tv.fLenS, Tv.wDisp, Tv.fDIn, Tv.fDGet, Tv.wISet, ↓reduceIte, Bool.false_eq_true, decide_eq_true_eq, T.int.injEq, T.str.injEq, T.bl.injEq, T.lst.injEq, T.tup.injEq, exists_eq_left', exists_eq_left, exists_and_left, true_and, and_true, reduceCtorEq, ne_eq, not_false_eq_true, not_true_eq_false, forall_eq', forall_eq, Option.some.injEq, Option.isSome_some]
      refine ⟨by omega, by omega, by rw [rng_len]; omega, fun i acc => acc.length = i ∧ ∀ t ∈ acc, PartOk zs cs (d - 1) t, ⟨rfl, fun t ht => by cases ht⟩, ?_, ?_⟩
      · rintro i t acc hi ⟨h1, h2⟩
        refine callP (by omega) fun t ht => ⟨by rw [List.length_append, h1]; rfl, fun u hu => ?_⟩
        rcases List.mem_append.mp hu with z | z
        · exact h2 u z
        · rw [List.mem_singleton.mp z]
          exact ht
      · rintro acc ⟨h1, h2⟩
        rw [rng_len] at h1
        have ek : d = (d - 1) + 1 := by omega
        have fin : ∀ w : Str, (w = "and" ∨ w = "or") → Pt (T.tup [T.str w, T.tup acc]) := fun w hw => kk _ (by
          rw [ek]
          exact .inr (.inr (.inr (.inl ⟨w, acc, rfl, hw, by omega, by omega, h2⟩))))
        have k3 : k = 6 ∨ k = 7 ∨ k = 8 := by omega
        rcases k3 with rfl | rfl | rfl
        · exact ⟨_, Tv.at_0, fin _ (.inl rfl)⟩
        · exact ⟨_, Tv.at_1, fin _ (.inl rfl)⟩
        · exact ⟨_, Tv.at_2, fin _ (.inr rfl)⟩
    · rintro _ rfl
      refine ⟨fun e => e = [.val (.op (.ref p)), .val (worldT zs pool cs r), .val (.int (d : Int)), .val (.int k), .val (.op (.ref r)), .un, .un, .un, .un], ⟨⟨d, k, _, rfl⟩, fun hC j j1 j2 => ?_, rfl⟩, ?_⟩
      · obtain ⟨d0, k9', _⟩ := hC d k rfl rfl
        simp only [List.map, Tv.wSeq, Tv.wNext, Tv.wIfS, Tv.wSet, Tv.wSetN, Tv.wRet, Tv.wRetO, Tv.wFrz, Tv.wApp, Tv.wOp, Tv.wTest, Tv.wAnd, Tv.wOr, Tv.wNot, Tv.wIf, Tv.wAndV, Tv.wOrV, Tv.wNotV, Tv.wCall, Tv.wCons, Tv.wNil, Tv.wV, Tv.wC, Tv.wTup, Tv.wLst, Tv.wSeqT, Tv.wO, Tv.wLen, Tv.wList, Tv.wTuple, Tv.wCat, Tv.wSl, Tv.wLst1, Tv.wTup1, Tv.wRng1, Tv.wRng2, Tv.wEnum, Tv.wFor, Tv.wLc, Tv.wYes, Tv.wCB, Tv.wipeE, Tv.gSet, Tv.gNilT, Tv.gConsT, Tv.gTupT, Tv.cellOf, Tv.env0, Tv.fEq, Tv.fIn, Tv.fI0, Tv.fI, Tv.fSc, Tv.fIsN, Tv.fIsB, Tv.fIx, Tv.fIxS, Tv.fCatT, Tv.fInt1, Tv.fMin2, List.zipWith_cons_cons, List.zipWith_nil_left, List.length_cons, List.length_nil, List.cons_append, List.nil_append, List.replicate, List.getElem?_cons_zero, List.getElem?_cons_succ, List.set_cons_zero, List.set_cons_succ, Tv.wRoom, Tv.wRoomSet, Tv.wIfDraw, Tv.wStar, Tv.wLen6, Tv.wFld, Tv.wExt, Tv.wTru, Tv.wChain, Tv.fIsi, Tv.fInF, Tv.seq_l, Tv.seq_t, Tv.lst_l, Tv.tup_t, Tv.scal_ii, Tv.scal_ss, Tv.scal_bb, Tv.same_ii, Tv.same_ss, Tv.same_bb, Tv.at_0, Tv.at_1, Tv.at_2, Tv.at_3, Tv.isN_non, Tv.isN_int, Tv.isN_str, Tv.isN_tup, Tv.isN_lst, Tv.isN_bl, Cell.val.injEq, T.op.injEq, forall_const, Tv.isi_non_tuple, Tv.isi_non_str, Tv.isi_non_int, Tv.isi_non_bool, Tv.isi_non_dict, Tv.isi_non_list, Tv.isi_bl_tuple, Tv.isi_bl_str, Tv.isi_bl_int, Tv.isi_bl_bool, Tv.isi_bl_dict, Tv.isi_bl_list, Tv.isi_int_tuple, Tv.isi_int_str, Tv.isi_int_int, Tv.isi_int_bool, Tv.isi_int_dict, Tv.isi_int_list, Tv.isi_str_tuple, Tv.isi_str_str, Tv.isi_str_int, Tv.isi_str_bool, Tv.isi_str_dict, Tv.isi_str_list, Tv.isi_tup_tuple, Tv.isi_tup_str, Tv.isi_tup_int, Tv.isi_tup_bool, Tv.isi_tup_dict, Tv.isi_tup_list, Tv.isi_lst_tuple, Tv.isi_lst_str, Tv.isi_lst_int, Tv.isi_lst_bool, Tv.isi_lst_dict, Tv.isi_lst_list, Tv.isi_dic_tuple, Tv.isi_dic_str, Tv.isi_dic_int, Tv.isi_dic_bool, Tv.isi_dic_dict, Tv.isi_dic_list, V.ty.injEq, Tv.wLc2, Tv.fAll, Tv.wDropX, Tv.wSetX, Tv.wRaise, Tv.wIsi2, Tv.wDead, Tv.wStr1, Tv.fInS, Tv.fAddS, Tv.fLenS, Tv.wDisp, Tv.fDIn, Tv.fDGet, Tv.wISet, ↓reduceIte, Bool.false_eq_true, decide_eq_true_eq, T.int.injEq, T.str.injEq, T.bl.injEq, T.lst.injEq, T.tup.injEq, exists_eq_left', exists_eq_left, exists_and_left, true_and, and_true, reduceCtorEq, ne_eq, not_false_eq_true, not_true_eq_false, forall_eq', forall_eq, Option.some.injEq, Option.isSome_some]
        have cm : ∀ x : Int, CMul 2 x := fun x => .inl ⟨by decide, by decide⟩
        refine ⟨cm j, cm j, by omega, by omega, by rw [rng_len]; omega, fun i acc => acc.length = i ∧ ∀ t ∈ acc, PartOk zs cs (d - 1) t, ⟨rfl, fun t ht => by cases ht⟩, ?_, ?_⟩
        · rintro i t acc hi ⟨h1, h2⟩
          refine callP (by omega) fun t ht => ⟨by rw [List.length_append, h1]; rfl, fun u hu => ?_⟩
          rcases List.mem_append.mp hu with z | z
          · exact h2 u z
          · rw [List.mem_singleton.mp z]
            exact ht
        · rintro acc ⟨h1, h2⟩
          rw [rng_len] at h1
          refine ⟨by omega, by omega, by rw [rng_len]; omega, fun i out => ∃ bs : List (T × T), out = bs.map (fun b => T.tup [b.1, b.2]) ∧ bs.length = i ∧ ∀ b ∈ bs, PartOk zs cs (d - 1) b.1 ∧ PartOk zs cs (d - 1) b.2, ⟨[], rfl, rfl, fun b hb => by cases hb⟩, ?_, ?_⟩
          · rintro i t out hi ⟨bs, rfl, h3, h4⟩
            obtain ⟨hi, rfl⟩ := rng_lt hi
            obtain ⟨a, ha, ma⟩ := at_pos (xs := acc) (i := 2 * (0 + (i : Int))) (by omega) (by omega)
            obtain ⟨b, hb, mb⟩ := at_pos (xs := acc) (i := 2 * (0 + (i : Int)) + 1) (by omega) (by omega)
            refine ⟨_, rfl, cm _, _, ha, _, rfl, cm _, _, hb, bs ++ [(a, b)], by rw [List.map_append]; rfl, by rw [List.length_append, h3]; rfl, fun u hu => ?_⟩
            rcases List.mem_append.mp hu with z | z
            · exact h4 u z
            · rw [List.mem_singleton.mp z]
              exact ⟨h2 _ ma, h2 _ mb⟩
          · rintro out ⟨bs, rfl, h3, h4⟩
            rw [rng_len] at h3
            obtain ⟨l, hl, ml⟩ := at_pos (xs := acc) (i := 2 * j) (by omega) (by omega)
            refine ⟨cm j, l, hl, kk _ ?_⟩
            rw [show d = (d - 1) + 1 by omega]
            exact .inr (.inr (.inr (.inr ⟨bs, l, rfl, by omega, by omega, h4, h2 _ ml⟩)))
      · rintro _ rfl
        have up : ∀ {t : T}, PartOk zs cs 0 t → PartOk zs cs d t := fun {t} h => by
          clear hd kk callP
          induction d with
          | zero => exact h
          | succ d ih => exact .inl ih
        have c0 := wo.nz.l0
        have c5 := wo.nz.l5
        have p0 := wo.p0
        have p9 := wo.p9
        simp only [worldT, strsT, List.length_map, Tv.wSeq, Tv.wNext, Tv.wIfS, Tv.wSet, Tv.wSetN, Tv.wRet, Tv.wRetO, Tv.wFrz, Tv.wApp, Tv.wOp, Tv.wTest, Tv.wAnd, Tv.wOr, Tv.wNot, Tv.wIf, Tv.wAndV, Tv.wOrV, Tv.wNotV, Tv.wCall, Tv.wCons, Tv.wNil, Tv.wV, Tv.wC, Tv.wTup, Tv.wLst, Tv.wSeqT, Tv.wO, Tv.wLen, Tv.wList, Tv.wTuple, Tv.wCat, Tv.wSl, Tv.wLst1, Tv.wTup1, Tv.wRng1, Tv.wRng2, Tv.wEnum, Tv.wFor, Tv.wLc, Tv.wYes, Tv.wCB, Tv.wipeE, Tv.gSet, Tv.gNilT, Tv.gConsT, Tv.gTupT, Tv.cellOf, Tv.env0, Tv.fEq, Tv.fIn, Tv.fI0, Tv.fI, Tv.fSc, Tv.fIsN, Tv.fIsB, Tv.fIx, Tv.fIxS, Tv.fCatT, Tv.fInt1, Tv.fMin2, List.zipWith_cons_cons, List.zipWith_nil_left, List.length_cons, List.length_nil, List.cons_append, List.nil_append, List.replicate, List.getElem?_cons_zero, List.getElem?_cons_succ, List.set_cons_zero, List.set_cons_succ, Tv.wRoom, Tv.wRoomSet, Tv.wIfDraw, Tv.wStar, Tv.wLen6, Tv.wFld, Tv.wExt, Tv.wTru, Tv.wChain, Tv.fIsi, Tv.fInF, Tv.seq_l, Tv.seq_t, Tv.lst_l, Tv.tup_t, Tv.scal_ii, Tv.scal_ss, Tv.scal_bb, Tv.same_ii, Tv.same_ss, Tv.same_bb, Tv.at_0, Tv.at_1, Tv.at_2, Tv.at_3, Tv.isN_non, Tv.isN_int, Tv.isN_str, Tv.isN_tup, Tv.isN_lst, Tv.isN_bl, Cell.val.injEq, T.op.injEq, forall_const, Tv.isi_non_tuple, Tv.isi_non_str, Tv.isi_non_int, Tv.isi_non_bool, Tv.isi_non_dict, Tv.isi_non_list, Tv.isi_bl_tuple, Tv.isi_bl_str, Tv.isi_bl_int, Tv.isi_bl_bool, Tv.isi_bl_dict, Tv.isi_bl_list, Tv.isi_int_tuple, Tv.isi_int_str, Tv.isi_int_int, Tv.isi_int_bool, Tv.isi_int_dict, Tv.isi_int_list, Tv.isi_str_tuple, Tv.isi_str_str, Tv.isi_str_int, Tv.isi_str_bool, Tv.isi_str_dict, Tv.isi_str_list, Tv.isi_tup_tuple, Tv.isi_tup_str, Tv.isi_tup_int, Tv.isi_tup_bool, Tv.isi_tup_dict, Tv.isi_tup_list, Tv.isi_lst_tuple, Tv.isi_lst_str, Tv.isi_lst_int, Tv.isi_lst_bool, Tv.isi_lst_dict, Tv.isi_lst_list, Tv.isi_dic_tuple, Tv.isi_dic_str, Tv.isi_dic_int, Tv.isi_dic_bool, Tv.isi_dic_dict, Tv.isi_dic_list, V.ty.injEq, Tv.wLc2, Tv.fAll, Tv.wDropX, Tv.wSetX, Tv.wRaise, Tv.wIsi2, Tv.wDead, Tv.wStr1, Tv.fInS, Tv.fAddS, Tv.fLenS, Tv.wDisp, Tv.fDIn, Tv.fDGet, Tv.wISet, ↓reduceIte, Bool.false_eq_true, decide_eq_true_eq, T.int.injEq, T.str.injEq, T.bl.injEq, T.lst.injEq, T.tup.injEq, exists_eq_left', exists_eq_left, exists_and_left, true_and, and_true, reduceCtorEq, ne_eq, not_false_eq_true, not_true_eq_false, forall_eq', forall_eq, Option.some.injEq, Option.isSome_some]
        split
        · refine ⟨p, q, some r, _, rfl, rfl, by omega, by omega, fun i i0 i1 => ?_⟩
          obtain ⟨z, hz, mz⟩ := at_strs i0 i1
          exact ⟨i, rfl, _, hz, kk _ (up (.inr ⟨z, rfl, mz⟩))⟩
        · refine ⟨p, q, some r, _, rfl, rfl, by omega, by omega, fun i i0 i1 => ?_⟩
          obtain ⟨l, hl, ml⟩ := at_pos i0 i1
          obtain ⟨a, b, m, rfl, la⟩ := wo.po l ml
          exact ⟨i, rfl, _, hl, _, rfl, _, Tv.at_0, _, rfl, _, Tv.at_1, _, rfl, _, Tv.at_2, kk _ (up (.inl ⟨a, b, m, rfl, a, b, m, rfl, la⟩))⟩
end
end Tl
/-! the program's parts over tree values -/
namespace Tl
open PySem PySem.Spec PyProof.Rows L2 Lw Tv Nm
abbrev sIsInt3 : Stmt := Lw.top 10
abbrev sTriple : Stmt := Lw.top 13
abbrev sUpTo : Stmt := Lw.top 22
abbrev sPair : Stmt := Lw.top 23
abbrev sTerm : Stmt := Lw.top 15
abbrev sHasTerms : Stmt := Lw.top 14
abbrev sHasForm : Stmt := Lw.top 21
abbrev sRight : Stmt := Lw.top 24
abbrev sLitOf : Stmt := Lw.top 25
abbrev sInner : Stmt := Lw.top 26
abbrev sFaultOf : Stmt := Lw.top 20
abbrev sCheck : Stmt := Lw.top 30
/-! kinds of things -/
def isD (t : T) : Bool := (tyN t).isSome
def isIntB : T → Bool
  | .int _ => true
  | _ => false
def isBlB : T → Bool
  | .bl _ => true
  | _ => false
def isStrB : T → Bool
  | .str _ => true
  | _ => false
def isTupB : T → Bool
  | .tup _ => true
  | _ => false
def nameB : T → Bool
  | .str z => okS z
  | _ => false
theorem isiI {t : T} (h : isD t = true) : isiT t "int" = some (isIntB t || isBlB t) := by
  cases t with
  | obj C fs => cases h
  | op v => cases h
  | exc C d us => cases h
  | mk o C us => cases h
  | non => exact isi_non_int
  | bl b => exact isi_bl_int
  | int b => exact isi_int_int
  | str b => exact isi_str_int
  | tup b => exact isi_tup_int
  | lst b => exact isi_lst_int
  | dic b => exact isi_dic_int
theorem isiB {t : T} (h : isD t = true) : isiT t "bool" = some (isBlB t) := by
  cases t with
  | obj C fs => cases h
  | op v => cases h
  | exc C d us => cases h
  | mk o C us => cases h
  | non => exact isi_non_bool
  | bl b => exact isi_bl_bool
  | int b => exact isi_int_bool
  | str b => exact isi_str_bool
  | tup b => exact isi_tup_bool
  | lst b => exact isi_lst_bool
  | dic b => exact isi_dic_bool
theorem isiS {t : T} (h : isD t = true) : isiT t "str" = some (isStrB t) := by
  cases t with
  | obj C fs => cases h
  | op v => cases h
  | exc C d us => cases h
  | mk o C us => cases h
  | non => exact isi_non_str
  | bl b => exact isi_bl_str
  | int b => exact isi_int_str
  | str b => exact isi_str_str
  | tup b => exact isi_tup_str
  | lst b => exact isi_lst_str
  | dic b => exact isi_dic_str
theorem isiU {t : T} (h : isD t = true) : isiT t "tuple" = some (isTupB t) := by
  cases t with
  | obj C fs => cases h
  | op v => cases h
  | exc C d us => cases h
  | mk o C us => cases h
  | non => exact isi_non_tuple
  | bl b => exact isi_bl_tuple
  | int b => exact isi_int_tuple
  | str b => exact isi_str_tuple
  | tup b => exact isi_tup_tuple
  | lst b => exact isi_lst_tuple
  | dic b => exact isi_dic_tuple
/-! mirrors -/
def tripleB : T → Bool
  | .tup [_, _, n] => isIntB n
  | _ => false
def upToB (m : Nat) : T → Bool
  | .tup ts => decide (1 ≤ ts.length) && decide (ts.length ≤ m)
  | _ => false
def pairB : T → Bool
  | .tup [_, _] => true
  | _ => false
/-- data whose texts have at most nine letters -/
def dat0 : T → Bool
  | .str z => decide (z.length ≤ 9)
  | t => isD t
def cIsInt (_ : Rs) (ts : List T) (Pt : T → Prop) : Prop := ∃ t, ts = [t] ∧ isD t = true ∧ Pt (.bl (isIntB t))
def cIsName (_ : Rs) (ts : List T) (Pt : T → Prop) : Prop := ∃ t, ts = [t] ∧ dat0 t = true ∧ Pt (.bl (nameB t))
def cTriple (_ : Rs) (ts : List T) (Pt : T → Prop) : Prop := ∃ t, ts = [t] ∧ isD t = true ∧ (∀ us, t = .tup us → ∀ u ∈ us, isD u = true) ∧ Pt (.bl (tripleB t))
def cUpTo (_ : Rs) (ts : List T) (Pt : T → Prop) : Prop := ∃ (m : Nat) (t : T), ts = [.int (m : Int), t] ∧ isD t = true ∧ Pt (.bl (upToB m t))
/-- a term of these names -/
def inB (zs : List Str) : T → Bool
  | .str z => decide (z ∈ zs)
  | _ => false
def termB (zs : List Str) : T → Bool
  | .str z => decide (z ∈ zs) || z == ""
  | _ => false
def litB (zs : List Str) (a b : T) : Bool := termB zs a && (termB zs b && !eqF a b)
def colsT (C : Addr) (zs : List Str) : T := .obj C [("names", .tup (zs.map T.str))]
def branchesB (m : Nat) : T → Bool
  | .tup bs => upToB m (.tup bs) && bs.all pairB
  | _ => false
def formB : T → Bool
  | .tup [.str w, a, b, c] => (w == "atmost" && isIntB c) || (w == "must" && (nameB a && tripleB b))
  | .tup [.str w, a] => w == "missing" || (w == "not" || ((w == "and" || w == "or") && upToB 4 a))
  | .tup [.str w, a, _] => w == "case" && branchesB 3 a
  | _ => false
def termsB (zs : List Str) : T → Bool
  | .tup [.str w, a, b, c] => if w == "atmost" then litB zs a b else match b with
    | .tup [x, y, _] => litB zs x y
    | _ => true
  | .tup [.str w, a] => if w == "missing" then inB zs a else true
  | _ => true
def itemsT : T → List T
  | .tup ts => ts
  | _ => []
def innerT : T → List T
  | .tup [.str w, a, b, c] => if w == "must" then [c] else []
  | .tup [.str w, a] => if w == "not" then [a] else if w == "and" || w == "or" then itemsT a else []
  | .tup [.str w, a, b] => if w == "case" then (itemsT a).flatMap itemsT ++ [b] else []
  | _ => []
/- data whose texts have at most nine letters, all the way down -/
mutual
def datR : T → Bool
  | .tup ts => datRs ts && decide (ts.length ≤ 1000)
  | .lst ts => datRs ts && decide (ts.length ≤ 1000)
  | .str z => decide (z.length ≤ 9)
  | .int _ => true
  | .bl _ => true
  | .non => true
  | .dic _ => false
  | .obj _ _ => false
  | .op _ => false
  | .exc _ _ _ => false
  | .mk _ _ _ => false
def datRs : List T → Bool
  | [] => true
  | t :: ts => datR t && datRs ts
end
theorem datRs_all : ∀ {ts : List T}, datRs ts = true ↔ ∀ t ∈ ts, datR t = true
  | [] => ⟨fun _ _ h => (List.not_mem_nil h).elim, fun _ => rfl⟩
  | t :: ts => by
    show (datR t && datRs ts) = true ↔ _
    rw [Bool.and_eq_true, datRs_all, List.forall_mem_cons]
def litOf : T → T
  | .tup [.str w, a, b, c] => if w == "atmost" then .tup [a, b, c] else if w == "must" then b else .non
  | _ => .non
theorem dat_d {t : T} (h : datR t = true) : isD t = true := by
  cases t with
  | obj C fs => cases h
  | op v => cases h
  | exc C d us => cases h
  | mk o C us => cases h
  | dic v => rfl
  | _ => rfl
theorem dat_0 {t : T} (h : datR t = true) : dat0 t = true := by
  cases t with
  | obj C fs => cases h
  | op v => cases h
  | exc C d us => cases h
  | mk o C us => cases h
  | dic v => rfl
  | str z => exact h
  | _ => rfl
theorem dat_i {ts : List T} {t : T} (h : datR (.tup ts) = true) (m : t ∈ ts) : datR t = true := datRs_all.mp (Bool.and_eq_true_iff.mp h).1 t m
theorem dat_l {ts : List T} {t : T} (h : datR (.lst ts) = true) (m : t ∈ ts) : datR t = true := datRs_all.mp (Bool.and_eq_true_iff.mp h).1 t m
theorem dat_n {ts : List T} (h : datR (.tup ts) = true) : ts.length ≤ 1000 := of_decide_eq_true (Bool.and_eq_true_iff.mp h).2
theorem dat_m {ts : List T} (h : datR (.lst ts) = true) : ts.length ≤ 1000 := of_decide_eq_true (Bool.and_eq_true_iff.mp h).2
/-- the six ways to have a form -/
inductive Form : T → Prop
  | atmost (a b n : T) : isIntB n = true → Form (.tup [.str "atmost", a, b, n])
  | must (c l p : T) : nameB c = true → tripleB l = true → Form (.tup [.str "must", c, l, p])
  | missing (a : T) : Form (.tup [.str "missing", a])
  | not (a : T) : Form (.tup [.str "not", a])
  | join (u : Str) (ps : List T) : (u = "and" ∨ u = "or") → 1 ≤ ps.length → ps.length ≤ 4 → Form (.tup [.str u, .tup ps])
  | case (bs : List (T × T)) (l : T) : 1 ≤ bs.length → bs.length ≤ 3 → Form (.tup [.str "case", .tup (bs.map fun b : T × T => T.tup [b.1, b.2]), l])
theorem pairs_of : ∀ {bs : List T}, bs.all pairB = true → ∃ ps : List (T × T), bs = ps.map fun b : T × T => T.tup [b.1, b.2]
  | [], _ => ⟨[], rfl⟩
  | t :: bs, h => by
    rw [List.all_cons, Bool.and_eq_true] at h
    obtain ⟨ps, rfl⟩ := pairs_of h.2
    have h1 := h.1
    unfold pairB at h1
    split at h1
    · rename_i a b
      exact ⟨(a, b) :: ps, rfl⟩
    · cases h1
theorem pairs_all {ps : List (T × T)} : (ps.map fun b : T × T => T.tup [b.1, b.2]).all pairB = true := by
  induction ps with
  | nil => rfl
  | cons p ps ih => rw [List.map_cons, List.all_cons, ih]; rfl
theorem formB4 {u : Str} {a b c : T} : formB (.tup [.str u, a, b, c]) = ((u == "atmost" && isIntB c) || (u == "must" && (nameB a && tripleB b))) := rfl
theorem formB2 {u : Str} {a : T} : formB (.tup [.str u, a]) = (u == "missing" || (u == "not" || ((u == "and" || u == "or") && upToB 4 a))) := rfl
theorem formB3 {u : Str} {a b : T} : formB (.tup [.str u, a, b]) = (u == "case" && branchesB 3 a) := rfl
theorem innerT4 {u : Str} {a b c : T} : innerT (.tup [.str u, a, b, c]) = if u == "must" then [c] else [] := rfl
theorem innerT2 {u : Str} {a : T} : innerT (.tup [.str u, a]) = if u == "not" then [a] else if u == "and" || u == "or" then itemsT a else [] := rfl
theorem innerT3 {u : Str} {a b : T} : innerT (.tup [.str u, a, b]) = if u == "case" then (itemsT a).flatMap itemsT ++ [b] else [] := rfl
theorem litOf4 {u : Str} {a b c : T} : litOf (.tup [.str u, a, b, c]) = if u == "atmost" then .tup [a, b, c] else if u == "must" then b else .non := rfl
theorem form_of {t : T} (h : formB t = true) : Form t := by
  unfold formB at h
  split at h
  · rename_i w a b c
    rcases Bool.or_eq_true_iff.mp h with h | h
    · obtain ⟨h1, h2⟩ := Bool.and_eq_true_iff.mp h
      cases eq_of_beq h1
      exact .atmost a b c h2
    · obtain ⟨h1, h2⟩ := Bool.and_eq_true_iff.mp h
      obtain ⟨h2, h3⟩ := Bool.and_eq_true_iff.mp h2
      cases eq_of_beq h1
      exact .must a b c h2 h3
  · rename_i w a
    rcases Bool.or_eq_true_iff.mp h with h | h
    · cases eq_of_beq h
      exact .missing a
    rcases Bool.or_eq_true_iff.mp h with h | h
    · cases eq_of_beq h
      exact .not a
    obtain ⟨h1, h2⟩ := Bool.and_eq_true_iff.mp h
    cases a with
    | tup ts =>
      obtain ⟨h2, h3⟩ := Bool.and_eq_true_iff.mp (show (decide (1 ≤ ts.length) && decide (ts.length ≤ 4)) = true from h2)
      exact .join w ts ((Bool.or_eq_true_iff.mp h1).imp eq_of_beq eq_of_beq) (of_decide_eq_true h2) (of_decide_eq_true h3)
    | _ => cases h2
  · rename_i w a b
    obtain ⟨h1, h2⟩ := Bool.and_eq_true_iff.mp h
    cases eq_of_beq h1
    unfold branchesB at h2
    split at h2
    · rename_i bs
      obtain ⟨h2, h3⟩ := Bool.and_eq_true_iff.mp h2
      obtain ⟨ps, rfl⟩ := pairs_of h3
      obtain ⟨h2, h4⟩ := Bool.and_eq_true_iff.mp (show (decide (1 ≤ _) && decide (_ ≤ 3)) = true from h2)
      have h2 := of_decide_eq_true h2
      have h4 := of_decide_eq_true h4
      rw [List.length_map] at h2 h4
      exact .case ps b h2 h4
    · cases h2
  · cases h
theorem Form.b {t : T} (h : Form t) : formB t = true := by
  cases h with
  | atmost a b n h =>
    rw [formB4, h]
    cases nameB a <;> cases tripleB b <;> decide +kernel
  | must c l p h1 h2 =>
    rw [formB4, h1, h2]
    cases isIntB p <;> decide +kernel
  | missing a =>
    rw [formB2]
    cases upToB 4 a <;> decide +kernel
  | not a =>
    rw [formB2]
    cases upToB 4 a <;> decide +kernel
  | join u ps h h1 h2 =>
    have e : upToB 4 (.tup ps) = true := by
      show (decide _ && decide _) = true
      rw [decide_eq_true h1, decide_eq_true h2]
      rfl
    rw [formB2, e]
    rcases h with rfl | rfl <;> decide +kernel
  | case bs l h1 h2 =>
    have e : branchesB 3 (.tup (bs.map fun b : T × T => T.tup [b.1, b.2])) = true := by
      show ((decide _ && decide _) && List.all _ pairB) = true
      rw [pairs_all, List.length_map, decide_eq_true h1, decide_eq_true h2]
      rfl
    rw [formB3, e]
    decide +kernel
theorem inner_atmost {a b n : T} : innerT (.tup [.str "atmost", a, b, n]) = [] := by rw [innerT4, if_neg (by decide +kernel)]
theorem inner_must {a b n : T} : innerT (.tup [.str "must", a, b, n]) = [n] := by rw [innerT4, if_pos (by decide +kernel)]
theorem inner_missing {a : T} : innerT (.tup [.str "missing", a]) = [] := by rw [innerT2, if_neg (by decide +kernel), if_neg (by decide +kernel)]
theorem inner_not {a : T} : innerT (.tup [.str "not", a]) = [a] := by rw [innerT2, if_pos (by decide +kernel)]
theorem inner_join {u : Str} {ps : List T} (h : u = "and" ∨ u = "or") : innerT (.tup [.str u, .tup ps]) = ps := by
  rcases h with rfl | rfl
  · rw [innerT2, if_neg (by decide +kernel), if_pos (by decide +kernel)]; rfl
  · rw [innerT2, if_neg (by decide +kernel), if_pos (by decide +kernel)]; rfl
theorem inner_case {bs : List (T × T)} {l : T} : innerT (.tup [.str "case", .tup (bs.map fun b : T × T => T.tup [b.1, b.2]), l]) = (bs.flatMap fun b => [b.1, b.2]) ++ [l] := by
  rw [innerT3, if_pos (by decide +kernel)]
  show (List.flatMap itemsT (bs.map _)) ++ [l] = _
  rw [List.flatMap_map]
  rfl
theorem litOf_atmost {a b n : T} : litOf (.tup [.str "atmost", a, b, n]) = .tup [a, b, n] := by rw [litOf4, if_pos (by decide +kernel)]
theorem litOf_must {a b n : T} : litOf (.tup [.str "must", a, b, n]) = b := by rw [litOf4, if_neg (by decide +kernel), if_pos (by decide +kernel)]
theorem triple_of {l : T} (h : tripleB l = true) : ∃ x y n, l = .tup [x, y, n] ∧ isIntB n = true := by
  unfold tripleB at h
  split at h
  · exact ⟨_, _, _, rfl, h⟩
  · cases h
theorem termsB4 {zs : List Str} {u : Str} {a b c : T} : termsB zs (.tup [.str u, a, b, c]) = if u == "atmost" then litB zs a b else match b with
    | .tup [x, y, _] => litB zs x y
    | _ => true := rfl
theorem termsB2 {zs : List Str} {u : Str} {a : T} : termsB zs (.tup [.str u, a]) = if u == "missing" then inB zs a else true := rfl
theorem terms_atmost {zs : List Str} {a b n : T} : termsB zs (.tup [.str "atmost", a, b, n]) = litB zs a b := by rw [termsB4, if_pos (by decide +kernel)]
theorem terms_must {zs : List Str} {c x y n p : T} : termsB zs (.tup [.str "must", c, .tup [x, y, n], p]) = litB zs x y := by rw [termsB4, if_neg (by decide +kernel)]
theorem terms_missing {zs : List Str} {a : T} : termsB zs (.tup [.str "missing", a]) = inB zs a := by rw [termsB2, if_pos (by decide +kernel)]
theorem terms_not {zs : List Str} {a : T} : termsB zs (.tup [.str "not", a]) = true := by rw [termsB2, if_neg (by decide +kernel)]
theorem terms_join {zs : List Str} {u : Str} {a : T} (h : u = "and" ∨ u = "or") : termsB zs (.tup [.str u, a]) = true := by
  rcases h with rfl | rfl
  · rw [termsB2, if_neg (by decide +kernel)]
  · rw [termsB2, if_neg (by decide +kernel)]
theorem len_flat {bs : List (T × T)} : (bs.flatMap fun b => [b.1, b.2]).length = 2 * bs.length := by
  induction bs with
  | nil => rfl
  | cons b bs ih => rw [List.flatMap_cons, List.length_append, ih]; simp only [List.length_cons, List.length_nil]; omega
theorem flat_case {bs : List (T × T)} : (bs.map fun b : T × T => T.tup [b.1, b.2]).flatMap itemsT = bs.flatMap fun b => [b.1, b.2] := by rw [List.flatMap_map]; rfl
/-! the table of the forms' sizes -/
def szOf (z : Str) : Option Nat := if z == "atmost" then some 4 else if z == "missing" then some 2 else if z == "must" then some 4 else if z == "not" then some 2 else if z == "and" then some 2 else if z == "or" then some 2 else if z == "case" then some 3 else none
structure Sz (K : PySem.W.Frag) (w : World) (mg : Str → Option Value) (a : Addr) : Prop where
  at_ : mg "SIZES" = some (.ref a)
  d : ∃ es n, KDict K w a es n
  v : ∀ z, (szOf z = none ∧ PySem.W.nsIn K a z = some none) ∨ ∃ m u, szOf z = some m ∧ PySem.W.nsIn K a z = some (some u) ∧ RelV (.int (m : Int)) u
theorem rep_str {K : PySem.W.Frag} {G : Hp} {v : V} {z : Str} (h : Rep K G v (.str z)) : v = .str z := by
  cases h
  rfl
section
variable {X : Cx} {R : Rs} {κ ν μ : Kd} {a : Addr}
theorem re_kdN (h : Sz X.K X.w X.mg a) : RE X.K R κ ν μ (fun x y H Q => ∃ (z : Str) (r : Option Value), x = .str z ∧ y = .ref a ∧ PySem.W.nsIn X.K a z = some r ∧ Q (.bl (!r.isSome)) H) (fun x y P => ∃ z, x = .str z ∧ y = .op (.ref a) ∧ P (.bl (!(szOf z).isSome))) := by
  intro F0 H0 F H x y tx ty Q P s hx hy f k
  obtain ⟨z, rfl, rfl, p⟩ := f
  rcases h.v z with ⟨e1, e2⟩ | ⟨m, u, e1, e2, _⟩
  · rw [e1] at p
    exact ⟨z, _, rep_str hx, op_rep hy, e2, k p (Step.refl s.ok) (.bl _)⟩
  · rw [e1] at p
    exact ⟨z, _, rep_str hx, op_rep hy, e2, k p (Step.refl s.ok) (.bl _)⟩
def wIxD (a : Addr) (wa wb : WE) : WE := wOp (fun x y P => ∃ z m, x = .op (.ref a) ∧ y = .str z ∧ szOf z = some m ∧ P (.int (m : Int))) wa wb
theorem pixD_ (h : Sz X.K X.w X.mg a) {x y : Expr} {pos} {wa wb : WE} (ha : PEv κ R X x wa) (hb : PEv ν R X y wb) (hs : PlainIx y := by intro _ _; rfl) : PEv μ R X (.Subscript x y pos) (wIxD a wa wb) := by
  obtain ⟨ta, a1, a2⟩ := ha.ex
  obtain ⟨tb, b1, b2⟩ := hb.ex
  refine ⟨_, pe_ix ix_kdict a1 b1 hs, evOp a2 b2 ?_⟩
  intro F0 H0 F H x y tx ty Q P s hx hy f k
  obtain ⟨z, m, rfl, rfl, e0, p⟩ := f
  obtain ⟨es, n, kd⟩ := h.d
  rcases h.v z with ⟨e1, e2⟩ | ⟨m', u, e1, e2, r⟩
  · rw [e1] at e0
    cases e0
  · rw [e1] at e0
    cases e0
    exact ⟨a, z, _, op_rep hx, rep_str hy, ⟨es, n, u, kd.at_, kd.lit, e2, r⟩, k p (Step.refl s.ok) (.int _)⟩
theorem pglob_ {e : Expr} {v : V} (h : PE X e (tC v)) : PEv κ R X e (wC (.op v)) := pc_ h fun _ => .op _
theorem pglobI_ {e : Expr} {i : Int} (h : PE X e (tC (.int i))) : PEv κ R X e (wC (.int i)) := pc_ h fun _ => .int _
end
theorem sz_cases {z : Str} {m : Nat} (h : szOf z = some m) : (z = "atmost" ∧ m = 4) ∨ (z = "missing" ∧ m = 2) ∨ (z = "must" ∧ m = 4) ∨ (z = "not" ∧ m = 2) ∨ (z = "and" ∧ m = 2) ∨ (z = "or" ∧ m = 2) ∨ (z = "case" ∧ m = 3) := by
  unfold szOf at h
  repeat' split at h
  all_goals first | (cases h; done) | skip
  all_goals
    rename_i e
    have e := eq_of_beq e
    have h := Option.some.inj h
    subst e h
    simp
theorem form_sz {t : T} (hf : formB t = true) : ∃ z us, t = .tup (.str z :: us) ∧ szOf z = some (us.length + 1) := by
  have ff := form_of hf
  clear hf
  cases ff with
  | atmost a b n h => exact ⟨_, _, rfl, by show szOf "atmost" = some 4; decide +kernel⟩
  | must c l p h1 h2 => exact ⟨_, _, rfl, by show szOf "must" = some 4; decide +kernel⟩
  | missing a => exact ⟨_, _, rfl, by show szOf "missing" = some 2; decide +kernel⟩
  | not a => exact ⟨_, _, rfl, by show szOf "not" = some 2; decide +kernel⟩
  | join u ps hu h1 h2 =>
    rcases hu with rfl | rfl
    · exact ⟨_, _, rfl, by show szOf "and" = some 2; decide +kernel⟩
    · exact ⟨_, _, rfl, by show szOf "or" = some 2; decide +kernel⟩
  | case bs l h1 h2 => exact ⟨_, _, rfl, by show szOf "case" = some 3; decide +kernel⟩
theorem form_no {t : T} (h : ∀ z us, t = .tup (.str z :: us) → szOf z ≠ some (us.length + 1)) : formB t = false := by
  cases e : formB t with
  | false => rfl
  | true =>
    obtain ⟨z, us, h1, h2⟩ := form_sz e
    exact (h z us h1 h2).elim
theorem formB_atmost {a b c : T} : formB (.tup [.str "atmost", a, b, c]) = isIntB c := by
  rw [formB4, show (("atmost" : Str) == "atmost") = true from by decide +kernel, show (("atmost" : Str) == "must") = false from by decide +kernel, Bool.true_and, Bool.false_and, Bool.or_false]
theorem formB_must {a b c : T} : formB (.tup [.str "must", a, b, c]) = (nameB a && tripleB b) := by
  rw [formB4, show (("must" : Str) == "atmost") = false from by decide +kernel, show (("must" : Str) == "must") = true from by decide +kernel, Bool.true_and, Bool.false_and, Bool.false_or]
theorem formB_missing {a : T} : formB (.tup [.str "missing", a]) = true := (Form.missing a).b
theorem formB_not {a : T} : formB (.tup [.str "not", a]) = true := (Form.not a).b
theorem formB_join {u : Str} {a : T} (h : u = "and" ∨ u = "or") : formB (.tup [.str u, a]) = upToB 4 a := by
  rcases h with rfl | rfl
  · rw [formB2, show (("and" : Str) == "missing") = false from by decide +kernel, show (("and" : Str) == "not") = false from by decide +kernel, show (("and" : Str) == "and") = true from by decide +kernel, Bool.false_or, Bool.false_or, Bool.true_or, Bool.true_and]
  · rw [formB2, show (("or" : Str) == "missing") = false from by decide +kernel, show (("or" : Str) == "not") = false from by decide +kernel, show (("or" : Str) == "or") = true from by decide +kernel, Bool.false_or, Bool.false_or, Bool.or_true, Bool.true_and]
theorem formB_case {a b : T} : formB (.tup [.str "case", a, b]) = branchesB 3 a := by
  rw [formB3, show (("case" : Str) == "case") = true from by decide +kernel, Bool.true_and]
theorem branches_up {m : Nat} {a : T} : branchesB m a = (upToB m a && (itemsT a).all pairB) := by cases a <;> rfl
def cCon (C : Addr) (_ : Rs) (ts : List T) (Pt : T → Prop) : Prop := ∃ zs t, ts = [colsT C zs, t] ∧ isD t = true ∧ Pt (.bl (inB zs t))
def cTerm (C : Addr) (_ : Rs) (ts : List T) (Pt : T → Prop) : Prop := ∃ zs t, ts = [colsT C zs, t] ∧ isD t = true ∧ Pt (.bl (termB zs t))
def cHasTerms (C : Addr) (_ : Rs) (ts : List T) (Pt : T → Prop) : Prop := ∃ zs a b n, ts = [colsT C zs, .tup [a, b, n]] ∧ isD a = true ∧ isD b = true ∧ Pt (.bl (litB zs a b))
def cHasForm (_ : Rs) (ts : List T) (Pt : T → Prop) : Prop := ∃ t, ts = [t] ∧ datR t = true ∧ Pt (.bl (formB t))
def cRight (C : Addr) (_ : Rs) (ts : List T) (Pt : T → Prop) : Prop := ∃ zs t, ts = [colsT C zs, t] ∧ datR t = true ∧ formB t = true ∧ Pt (.bl (termsB zs t))
def cLitOf (_ : Rs) (ts : List T) (Pt : T → Prop) : Prop := ∃ t, ts = [t] ∧ formB t = true ∧ Pt (litOf t)
def cInner (_ : Rs) (ts : List T) (Pt : T → Prop) : Prop := ∃ t, ts = [t] ∧ formB t = true ∧ Pt (.lst (innerT t))
def faultT (zs : List Str) (t : T) : T := if formB t = true then (if termsB zs t = true then .non else .str "name") else .str "form"
def cFaultOf (C : Addr) (_ : Rs) (ts : List T) (Pt : T → Prop) : Prop := ∃ zs t, ts = [colsT C zs, t] ∧ datR t = true ∧ Pt (faultT zs t)
def cPair (_ : Rs) (ts : List T) (Pt : T → Prop) : Prop := ∃ t, ts = [t] ∧ isD t = true ∧ Pt (.bl (pairB t))
/-- a method of a class, with its promise -/
structure Om (P : Program) (w : World) (K : PySem.W.Frag) (mg : Str → Option Value) (base : Heap) (k : Nat) (C : Addr) (m : Str) (ps : List Str) (sp : Sp) (f : Addr) (fd : FuncData) : Prop where
  at_ : PySem.W.findIn K (.ref C) m = some (some (.ref f))
  fn : PySem.W.isFn K (.ref f) = true
  F : FnOk P w K mg base CX0 k f fd ps sp
  b : Binds K fd ps []
theorem Om.om {X : Cx} {k : Nat} {C : Addr} {m : Str} {ps : List Str} {sp : Sp} {f : Addr} {fd : FuncData} (h : Om X.prog X.w X.K X.mg X.base k C m ps sp f fd) : Ow.OM X k C m f fd ps sp := ⟨h.at_, h.fn, h.F, h.b⟩
theorem repA_B {K : PySem.W.Frag} {R : Rs} {F H : Hp} {vs : List V} {t : T} (h : RepA K R H F H [.B] vs [t]) : ∃ v, vs = [v] ∧ Rep K (base .B R H F H) v t := by
  cases h with
  | cons h l =>
    cases l
    exact ⟨_, rfl, h⟩
section
variable {P : Program} {w : World} {K : PySem.W.Frag} {mg : Str → Option Value} {base : Heap}
abbrev CI3 (P : Program) (w : World) (K : PySem.W.Frag) (mg : Str → Option Value) (base : Heap) : Prop := Cl P w K mg base 1 "is_integer" (spT K [.B] false cIsInt)
abbrev CNm (P : Program) (w : World) (K : PySem.W.Frag) (mg : Str → Option Value) (base : Heap) : Prop := Cl P w K mg base 1 "is_name" (spT K [.B] false cIsName)
abbrev CTr (P : Program) (w : World) (K : PySem.W.Frag) (mg : Str → Option Value) (base : Heap) : Prop := Cl P w K mg base 2 "is_triple" (spT K [.B] false cTriple)

theorem scIsInt3 : FnScope ["value"] ["value"] (defScope sIsInt3) := ⟨rfl, rfl, rfl, by decide +kernel, rfl, by decide +kernel, by decide +kernel⟩
theorem okIsInt3 {f : Addr} {fd : FuncData} (F : Fun K "is_integer" "is_integer" sIsInt3 f fd) (B : Bt mg)  : FnOk P w K mg base CX0 1 f fd ["value"] (spT K [.B] false cIsInt) := by
  refine okv2 F scIsInt3 rfl (by decide) fun cdv A outer s H E R ts Pt hr hc => ?_
  obtain ⟨t, rfl, hd, k⟩ := hc
  refine ⟨_, (one_ (ret_ (pandV_ (pcb_ (μ := .M) rc_isi (fun a => pe_callB call_isi (by rfl) B.isi (by decide +kernel) a) (pa1_ (pv_ (κ := .M) 0 (pv 0)) (pa1_ (pty_ (κ := .M) (pe_bltn (v := .ty "int") (by rfl) B.int (by decide +kernel) rfl)) pa0_))) (pone_ (pnotV_ (μ := .S) (pcb_ (μ := .M) rc_isi (fun a => pe_callB call_isi (by rfl) B.isi (by decide +kernel) a) (pa1_ (pv_ (κ := .M) 0 (pv 0)) (pa1_ (pty_ (κ := .M) (pe_bltn (v := .ty "bool") (by rfl) B.bool (by decide +kernel) rfl)) pa0_)))))))), ?_⟩
  simp only [Tv.wSeq, Tv.wNext, Tv.wIfS, Tv.wSet, Tv.wSetN, Tv.wRet, Tv.wRetO, Tv.wFrz, Tv.wApp, Tv.wOp, Tv.wTest, Tv.wAnd, Tv.wOr, Tv.wNot, Tv.wIf, Tv.wAndV, Tv.wOrV, Tv.wNotV, Tv.wCall, Tv.wCons, Tv.wNil, Tv.wV, Tv.wC, Tv.wTup, Tv.wLst, Tv.wSeqT, Tv.wO, Tv.wLen, Tv.wList, Tv.wTuple, Tv.wCat, Tv.wSl, Tv.wLst1, Tv.wTup1, Tv.wRng1, Tv.wRng2, Tv.wEnum, Tv.wFor, Tv.wLc, Tv.wYes, Tv.wCB, Tv.wipeE, Tv.gSet, Tv.gNilT, Tv.gConsT, Tv.gTupT, Tv.cellOf, Tv.env0, Tv.fEq, Tv.fIn, Tv.fI0, Tv.fI, Tv.fSc, Tv.fIsN, Tv.fIsB, Tv.fIx, Tv.fIxS, Tv.fCatT, Tv.fInt1, Tv.fMin2, List.zipWith_cons_cons, List.zipWith_nil_left, List.length_cons, List.length_nil, List.cons_append, List.nil_append, List.replicate, List.getElem?_cons_zero, List.getElem?_cons_succ, List.set_cons_zero, List.set_cons_succ, Tv.wRoom, Tv.wRoomSet, Tv.wIfDraw, Tv.wStar, Tv.wLen6, Tv.wFld, Tv.wExt, Tv.wTru, Tv.wChain, Tv.fIsi, Tv.fInF, Tv.seq_l, Tv.seq_t, Tv.lst_l, Tv.tup_t, Tv.scal_ii, Tv.scal_ss, Tv.scal_bb, Tv.same_ii, Tv.same_ss, Tv.same_bb, Tv.at_0, Tv.at_1, Tv.at_2, Tv.at_3, Tv.isN_non, Tv.isN_int, Tv.isN_str, Tv.isN_tup, Tv.isN_lst, Tv.isN_bl, Cell.val.injEq, T.op.injEq, forall_const, Tv.isi_non_tuple, Tv.isi_non_str, Tv.isi_non_int, Tv.isi_non_bool, Tv.isi_non_dict, Tv.isi_non_list, Tv.isi_bl_tuple, Tv.isi_bl_str, Tv.isi_bl_int, Tv.isi_bl_bool, Tv.isi_bl_dict, Tv.isi_bl_list, Tv.isi_int_tuple, Tv.isi_int_str, Tv.isi_int_int, Tv.isi_int_bool, Tv.isi_int_dict, Tv.isi_int_list, Tv.isi_str_tuple, Tv.isi_str_str, Tv.isi_str_int, Tv.isi_str_bool, Tv.isi_str_dict, Tv.isi_str_list, Tv.isi_tup_tuple, Tv.isi_tup_str, Tv.isi_tup_int, Tv.isi_tup_bool, Tv.isi_tup_dict, Tv.isi_tup_list, Tv.isi_lst_tuple, Tv.isi_lst_str, Tv.isi_lst_int, Tv.isi_lst_bool, Tv.isi_lst_dict, Tv.isi_lst_list, Tv.isi_dic_tuple, Tv.isi_dic_str, Tv.isi_dic_int, Tv.isi_dic_bool, Tv.isi_dic_dict, Tv.isi_dic_list, V.ty.injEq, Tv.wLc2, Tv.fAll, Tv.wDropX, Tv.wSetX, Tv.wRaise, Tv.wIsi2, Tv.wDead, Tv.wStr1, Tv.fInS, Tv.fAddS, Tv.fLenS, Tv.wDisp, Tv.fDIn, Tv.fDGet, Tv.wISet, ↓reduceIte, Bool.false_eq_true, decide_eq_true_eq, T.int.injEq, T.str.injEq, T.bl.injEq, T.lst.injEq, T.tup.injEq, exists_eq_left', exists_eq_left, exists_and_left, true_and, and_true, reduceCtorEq, ne_eq, not_false_eq_true, not_true_eq_false, forall_eq', forall_eq, Option.some.injEq, Option.isSome_some]
  refine ⟨_, _, rfl, _, isiI hd, ?_⟩
  split
  · refine ⟨_, _, rfl, _, isiB hd, ?_⟩
    cases t <;> first | exact k | simp_all [isIntB, isBlB]
  · cases t <;> first | exact k | simp_all [isIntB, isBlB]
theorem scTriple : FnScope ["thing"] ["thing"] (defScope sTriple) := ⟨rfl, rfl, rfl, by decide +kernel, rfl, by decide +kernel, by decide +kernel⟩
theorem okTriple {f : Addr} {fd : FuncData} (F : Fun K "is_triple" "is_triple" sTriple f fd) (B : Bt mg) (cI : CI3 P w K mg base) : FnOk P w K mg base CX0 2 f fd ["thing"] (spT K [.B] false cTriple) := by
  refine okv2 F scTriple rfl (by decide) fun cdv A outer s H E R ts Pt hr hc => ?_
  obtain ⟨t, rfl, hd, hu, k⟩ := hc
  refine ⟨_, (one_ (ret_ (pandV_ (pcb_ (μ := .M) rc_isi (fun a => pe_callB call_isi (by rfl) B.isi (by decide +kernel) a) (pa1_ (pv_ (κ := .M) 0 (pv 0)) (pa1_ (pty_ (κ := .M) (pe_bltn (v := .ty "tuple") (by rfl) B.tuple (by decide +kernel) rfl)) pa0_))) (pandV_ (pcmp_ (μ := .M) op_eq re_sc (nomark _) (plen_ (μ := .M) (PEv.items (pv_ (κ := .B) 0 (pv 0))) (fun a => pe_callB call_len_seq (by rfl) B.len PySem.boot_len (pa_cons a pa_nil))) (pint_ (κ := .M))) (pone_ (callS_ (κ := .S) (κs := [.B]) (ms := [.M]) rfl (fun a => cI.pe hr (by decide) (by rfl) a) (pa1_ (pix_ (pv_ (κ := .M) 0 (pv 0)) (pint_ (κ := .M))) pa0_))))))), ?_⟩
  simp only [Tv.wSeq, Tv.wNext, Tv.wIfS, Tv.wSet, Tv.wSetN, Tv.wRet, Tv.wRetO, Tv.wFrz, Tv.wApp, Tv.wOp, Tv.wTest, Tv.wAnd, Tv.wOr, Tv.wNot, Tv.wIf, Tv.wAndV, Tv.wOrV, Tv.wNotV, Tv.wCall, Tv.wCons, Tv.wNil, Tv.wV, Tv.wC, Tv.wTup, Tv.wLst, Tv.wSeqT, Tv.wO, Tv.wLen, Tv.wList, Tv.wTuple, Tv.wCat, Tv.wSl, Tv.wLst1, Tv.wTup1, Tv.wRng1, Tv.wRng2, Tv.wEnum, Tv.wFor, Tv.wLc, Tv.wYes, Tv.wCB, Tv.wipeE, Tv.gSet, Tv.gNilT, Tv.gConsT, Tv.gTupT, Tv.cellOf, Tv.env0, Tv.fEq, Tv.fIn, Tv.fI0, Tv.fI, Tv.fSc, Tv.fIsN, Tv.fIsB, Tv.fIx, Tv.fIxS, Tv.fCatT, Tv.fInt1, Tv.fMin2, List.zipWith_cons_cons, List.zipWith_nil_left, List.length_cons, List.length_nil, List.cons_append, List.nil_append, List.replicate, List.getElem?_cons_zero, List.getElem?_cons_succ, List.set_cons_zero, List.set_cons_succ, Tv.wRoom, Tv.wRoomSet, Tv.wIfDraw, Tv.wStar, Tv.wLen6, Tv.wFld, Tv.wExt, Tv.wTru, Tv.wChain, Tv.fIsi, Tv.fInF, Tv.seq_l, Tv.seq_t, Tv.lst_l, Tv.tup_t, Tv.scal_ii, Tv.scal_ss, Tv.scal_bb, Tv.same_ii, Tv.same_ss, Tv.same_bb, Tv.at_0, Tv.at_1, Tv.at_2, Tv.at_3, Tv.isN_non, Tv.isN_int, Tv.isN_str, Tv.isN_tup, Tv.isN_lst, Tv.isN_bl, Cell.val.injEq, T.op.injEq, forall_const, Tv.isi_non_tuple, Tv.isi_non_str, Tv.isi_non_int, Tv.isi_non_bool, Tv.isi_non_dict, Tv.isi_non_list, Tv.isi_bl_tuple, Tv.isi_bl_str, Tv.isi_bl_int, Tv.isi_bl_bool, Tv.isi_bl_dict, Tv.isi_bl_list, Tv.isi_int_tuple, Tv.isi_int_str, Tv.isi_int_int, Tv.isi_int_bool, Tv.isi_int_dict, Tv.isi_int_list, Tv.isi_str_tuple, Tv.isi_str_str, Tv.isi_str_int, Tv.isi_str_bool, Tv.isi_str_dict, Tv.isi_str_list, Tv.isi_tup_tuple, Tv.isi_tup_str, Tv.isi_tup_int, Tv.isi_tup_bool, Tv.isi_tup_dict, Tv.isi_tup_list, Tv.isi_lst_tuple, Tv.isi_lst_str, Tv.isi_lst_int, Tv.isi_lst_bool, Tv.isi_lst_dict, Tv.isi_lst_list, Tv.isi_dic_tuple, Tv.isi_dic_str, Tv.isi_dic_int, Tv.isi_dic_bool, Tv.isi_dic_dict, Tv.isi_dic_list, V.ty.injEq, Tv.wLc2, Tv.fAll, Tv.wDropX, Tv.wSetX, Tv.wRaise, Tv.wIsi2, Tv.wDead, Tv.wStr1, Tv.fInS, Tv.fAddS, Tv.fLenS, Tv.wDisp, Tv.fDIn, Tv.fDGet, Tv.wISet, ↓reduceIte, Bool.false_eq_true, decide_eq_true_eq, T.int.injEq, T.str.injEq, T.bl.injEq, T.lst.injEq, T.tup.injEq, exists_eq_left', exists_eq_left, exists_and_left, true_and, and_true, reduceCtorEq, ne_eq, not_false_eq_true, not_true_eq_false, forall_eq', forall_eq, Option.some.injEq, Option.isSome_some]
  refine ⟨_, _, rfl, _, isiU hd, ?_⟩
  cases t with
  | tup us =>
    refine (if_pos rfl).mpr ⟨rfl, fun ts e => ?_⟩
    cases e
    match us, hu, k with
    | [], _, k => exact k
    | [_], _, k => exact k
    | [_, _], _, k => exact k
    | [a, b, n], hu, k => exact (if_pos rfl).mpr ⟨_, rfl, n, rfl, n, rfl, hu _ rfl n (by simp), k⟩
    | _ :: _ :: _ :: _ :: r, _, k =>
      rw [if_neg (by simp only [List.length_cons]; omega)]
      exact k
  | obj C fs => cases hd
  | op v => cases hd
  | exc C d us => cases hd
  | mk o C us => cases hd
  | _ => exact k
theorem scUpTo : FnScope ["most", "thing"] ["most", "thing"] (defScope sUpTo) := ⟨rfl, rfl, rfl, by decide +kernel, rfl, by decide +kernel, by decide +kernel⟩
theorem okUpTo {f : Addr} {fd : FuncData} (F : Fun K "is_tuple_up_to" "is_tuple_up_to" sUpTo f fd) (B : Bt mg)  : FnOk P w K mg base CX0 1 f fd ["most", "thing"] (spT K [.B, .B] false cUpTo) := by
  refine okv2 F scUpTo rfl (by decide) fun cdv A outer s H E R ts Pt hr hc => ?_
  obtain ⟨m, t, rfl, hd, k⟩ := hc
  refine ⟨_, (one_ (ret_ (pandV_ (pcb_ (μ := .M) rc_isi (fun a => pe_callB call_isi (by rfl) B.isi (by decide +kernel) a) (pa1_ (pv_ (κ := .M) 1 (pv 1)) (pa1_ (pty_ (κ := .M) (pe_bltn (v := .ty "tuple") (by rfl) B.tuple (by decide +kernel) rfl)) pa0_))) (pone_ (pchain_ (μ := .S) (f := (fun i j => decide (i ≤ j))) (g := (fun i j => decide (i ≤ j))) op_le op_le (pint_ (κ := .M)) (plen_ (μ := .M) (PEv.items (pv_ (κ := .B) 1 (pv 1))) (fun a => pe_callB call_len_seq (by rfl) B.len PySem.boot_len (pa_cons a pa_nil))) (pv_ (κ := .M) 0 (pv 0))))))), ?_⟩
  simp only [Tv.wSeq, Tv.wNext, Tv.wIfS, Tv.wSet, Tv.wSetN, Tv.wRet, Tv.wRetO, Tv.wFrz, Tv.wApp, Tv.wOp, Tv.wTest, Tv.wAnd, Tv.wOr, Tv.wNot, Tv.wIf, Tv.wAndV, Tv.wOrV, Tv.wNotV, Tv.wCall, Tv.wCons, Tv.wNil, Tv.wV, Tv.wC, Tv.wTup, Tv.wLst, Tv.wSeqT, Tv.wO, Tv.wLen, Tv.wList, Tv.wTuple, Tv.wCat, Tv.wSl, Tv.wLst1, Tv.wTup1, Tv.wRng1, Tv.wRng2, Tv.wEnum, Tv.wFor, Tv.wLc, Tv.wYes, Tv.wCB, Tv.wipeE, Tv.gSet, Tv.gNilT, Tv.gConsT, Tv.gTupT, Tv.cellOf, Tv.env0, Tv.fEq, Tv.fIn, Tv.fI0, Tv.fI, Tv.fSc, Tv.fIsN, Tv.fIsB, Tv.fIx, Tv.fIxS, Tv.fCatT, Tv.fInt1, Tv.fMin2, List.zipWith_cons_cons, List.zipWith_nil_left, List.length_cons, List.length_nil, List.cons_append, List.nil_append, List.replicate, List.getElem?_cons_zero, List.getElem?_cons_succ, List.set_cons_zero, List.set_cons_succ, Tv.wRoom, Tv.wRoomSet, Tv.wIfDraw, Tv.wStar, Tv.wLen6, Tv.wFld, Tv.wExt, Tv.wTru, Tv.wChain, Tv.fIsi, Tv.fInF, Tv.seq_l, Tv.seq_t, Tv.lst_l, Tv.tup_t, Tv.scal_ii, Tv.scal_ss, Tv.scal_bb, Tv.same_ii, Tv.same_ss, Tv.same_bb, Tv.at_0, Tv.at_1, Tv.at_2, Tv.at_3, Tv.isN_non, Tv.isN_int, Tv.isN_str, Tv.isN_tup, Tv.isN_lst, Tv.isN_bl, Cell.val.injEq, T.op.injEq, forall_const, Tv.isi_non_tuple, Tv.isi_non_str, Tv.isi_non_int, Tv.isi_non_bool, Tv.isi_non_dict, Tv.isi_non_list, Tv.isi_bl_tuple, Tv.isi_bl_str, Tv.isi_bl_int, Tv.isi_bl_bool, Tv.isi_bl_dict, Tv.isi_bl_list, Tv.isi_int_tuple, Tv.isi_int_str, Tv.isi_int_int, Tv.isi_int_bool, Tv.isi_int_dict, Tv.isi_int_list, Tv.isi_str_tuple, Tv.isi_str_str, Tv.isi_str_int, Tv.isi_str_bool, Tv.isi_str_dict, Tv.isi_str_list, Tv.isi_tup_tuple, Tv.isi_tup_str, Tv.isi_tup_int, Tv.isi_tup_bool, Tv.isi_tup_dict, Tv.isi_tup_list, Tv.isi_lst_tuple, Tv.isi_lst_str, Tv.isi_lst_int, Tv.isi_lst_bool, Tv.isi_lst_dict, Tv.isi_lst_list, Tv.isi_dic_tuple, Tv.isi_dic_str, Tv.isi_dic_int, Tv.isi_dic_bool, Tv.isi_dic_dict, Tv.isi_dic_list, V.ty.injEq, Tv.wLc2, Tv.fAll, Tv.wDropX, Tv.wSetX, Tv.wRaise, Tv.wIsi2, Tv.wDead, Tv.wStr1, Tv.fInS, Tv.fAddS, Tv.fLenS, Tv.wDisp, Tv.fDIn, Tv.fDGet, Tv.wISet, ↓reduceIte, Bool.false_eq_true, decide_eq_true_eq, T.int.injEq, T.str.injEq, T.bl.injEq, T.lst.injEq, T.tup.injEq, exists_eq_left', exists_eq_left, exists_and_left, true_and, and_true, reduceCtorEq, ne_eq, not_false_eq_true, not_true_eq_false, forall_eq', forall_eq, Option.some.injEq, Option.isSome_some]
  refine ⟨_, _, rfl, _, isiU hd, ?_⟩
  cases t with
  | tup us =>
    refine (if_pos rfl).mpr ⟨rfl, fun ts e => ?_⟩
    cases e
    have e : upToB m (.tup us) = (decide (1 ≤ us.length) && decide (us.length ≤ m)) := rfl
    rw [e] at k
    split
    · rename_i h
      rw [decide_eq_true (show 1 ≤ us.length by omega), Bool.true_and] at k
      rw [show decide ((us.length : Int) ≤ (m : Int)) = decide (us.length ≤ m) from decide_eq_decide.mpr (by omega)]
      exact k
    · rw [decide_eq_false (show ¬ 1 ≤ us.length by omega), Bool.false_and] at k
      exact k
  | obj C fs => cases hd
  | op v => cases hd
  | exc C d us => cases hd
  | mk o C us => cases hd
  | _ => exact k
theorem scPair : FnScope ["thing"] ["thing"] (defScope sPair) := ⟨rfl, rfl, rfl, by decide +kernel, rfl, by decide +kernel, by decide +kernel⟩
theorem okPair {f : Addr} {fd : FuncData} (F : Fun K "is_pair" "is_pair" sPair f fd) (B : Bt mg)  : FnOk P w K mg base CX0 1 f fd ["thing"] (spT K [.B] false cPair) := by
  refine okv2 F scPair rfl (by decide) fun cdv A outer s H E R ts Pt hr hc => ?_
  obtain ⟨t, rfl, hd, k⟩ := hc
  refine ⟨_, (one_ (ret_ (pandV_ (pcb_ (μ := .M) rc_isi (fun a => pe_callB call_isi (by rfl) B.isi (by decide +kernel) a) (pa1_ (pv_ (κ := .M) 0 (pv 0)) (pa1_ (pty_ (κ := .M) (pe_bltn (v := .ty "tuple") (by rfl) B.tuple (by decide +kernel) rfl)) pa0_))) (pone_ (pcmp_ (μ := .S) op_eq re_sc (nomark _) (plen_ (μ := .M) (PEv.items (pv_ (κ := .B) 0 (pv 0))) (fun a => pe_callB call_len_seq (by rfl) B.len PySem.boot_len (pa_cons a pa_nil))) (pint_ (κ := .M))))))), ?_⟩
  simp only [Tv.wSeq, Tv.wNext, Tv.wIfS, Tv.wSet, Tv.wSetN, Tv.wRet, Tv.wRetO, Tv.wFrz, Tv.wApp, Tv.wOp, Tv.wTest, Tv.wAnd, Tv.wOr, Tv.wNot, Tv.wIf, Tv.wAndV, Tv.wOrV, Tv.wNotV, Tv.wCall, Tv.wCons, Tv.wNil, Tv.wV, Tv.wC, Tv.wTup, Tv.wLst, Tv.wSeqT, Tv.wO, Tv.wLen, Tv.wList, Tv.wTuple, Tv.wCat, Tv.wSl, Tv.wLst1, Tv.wTup1, Tv.wRng1, Tv.wRng2, Tv.wEnum, Tv.wFor, Tv.wLc, Tv.wYes, Tv.wCB, Tv.wipeE, Tv.gSet, Tv.gNilT, Tv.gConsT, Tv.gTupT, Tv.cellOf, Tv.env0, Tv.fEq, Tv.fIn, Tv.fI0, Tv.fI, Tv.fSc, Tv.fIsN, Tv.fIsB, Tv.fIx, Tv.fIxS, Tv.fCatT, Tv.fInt1, Tv.fMin2, List.zipWith_cons_cons, List.zipWith_nil_left, List.length_cons, List.length_nil, List.cons_append, List.nil_append, List.replicate, List.getElem?_cons_zero, List.getElem?_cons_succ, List.set_cons_zero, List.set_cons_succ, Tv.wRoom, Tv.wRoomSet, Tv.wIfDraw, Tv.wStar, Tv.wLen6, Tv.wFld, Tv.wExt, Tv.wTru, Tv.wChain, Tv.fIsi, Tv.fInF, Tv.seq_l, Tv.seq_t, Tv.lst_l, Tv.tup_t, Tv.scal_ii, Tv.scal_ss, Tv.scal_bb, Tv.same_ii, Tv.same_ss, Tv.same_bb, Tv.at_0, Tv.at_1, Tv.at_2, Tv.at_3, Tv.isN_non, Tv.isN_int, Tv.isN_str, Tv.isN_tup, Tv.isN_lst, Tv.isN_bl, Cell.val.injEq, T.op.injEq, forall_const, Tv.isi_non_tuple, Tv.isi_non_str, Tv.isi_non_int, Tv.isi_non_bool, Tv.isi_non_dict, Tv.isi_non_list, Tv.isi_bl_tuple, Tv.isi_bl_str, Tv.isi_bl_int, Tv.isi_bl_bool, Tv.isi_bl_dict, Tv.isi_bl_list, Tv.isi_int_tuple, Tv.isi_int_str, Tv.isi_int_int, Tv.isi_int_bool, Tv.isi_int_dict, Tv.isi_int_list, Tv.isi_str_tuple, Tv.isi_str_str, Tv.isi_str_int, Tv.isi_str_bool, Tv.isi_str_dict, Tv.isi_str_list, Tv.isi_tup_tuple, Tv.isi_tup_str, Tv.isi_tup_int, Tv.isi_tup_bool, Tv.isi_tup_dict, Tv.isi_tup_list, Tv.isi_lst_tuple, Tv.isi_lst_str, Tv.isi_lst_int, Tv.isi_lst_bool, Tv.isi_lst_dict, Tv.isi_lst_list, Tv.isi_dic_tuple, Tv.isi_dic_str, Tv.isi_dic_int, Tv.isi_dic_bool, Tv.isi_dic_dict, Tv.isi_dic_list, V.ty.injEq, Tv.wLc2, Tv.fAll, Tv.wDropX, Tv.wSetX, Tv.wRaise, Tv.wIsi2, Tv.wDead, Tv.wStr1, Tv.fInS, Tv.fAddS, Tv.fLenS, Tv.wDisp, Tv.fDIn, Tv.fDGet, Tv.wISet, ↓reduceIte, Bool.false_eq_true, decide_eq_true_eq, T.int.injEq, T.str.injEq, T.bl.injEq, T.lst.injEq, T.tup.injEq, exists_eq_left', exists_eq_left, exists_and_left, true_and, and_true, reduceCtorEq, ne_eq, not_false_eq_true, not_true_eq_false, forall_eq', forall_eq, Option.some.injEq, Option.isSome_some]
  refine ⟨_, _, rfl, _, isiU hd, ?_⟩
  cases t with
  | tup us =>
    refine (if_pos rfl).mpr ⟨rfl, fun ts e => ?_⟩
    cases e
    match us, k with
    | [], k => exact k
    | [_], k => exact k
    | [_, _], k => exact k
    | _ :: _ :: _ :: r, k =>
      rw [decide_eq_false (by simp only [List.length_cons]; omega)]
      exact k
  | obj C fs => cases hd
  | op v => cases hd
  | exc C d us => cases hd
  | mk o C us => cases hd
  | _ => exact k
abbrev sCon3 : Stmt := inClass (Lw.top 33) 3
theorem strs_flat {zs : List Str} : (zs.map T.str).all flatT = true := by
  induction zs with
  | nil => rfl
  | cons z zs ih => rw [List.map_cons, List.all_cons, ih]; rfl
theorem any_strs {zs : List Str} {z : Str} : ((zs.map T.str).any fun y => eqF y (.str z)) = decide (z ∈ zs) := by
  induction zs with
  | nil => rfl
  | cons y zs ih =>
    rw [List.map_cons, List.any_cons, ih]
    show ((y == z) || _) = _
    by_cases e : y = z
    · subst e
      rw [beq_self_eq_true]
      exact (decide_eq_true List.mem_cons_self).symm
    · rw [beq_false_of_ne e, Bool.false_or]
      exact decide_eq_decide.mpr ⟨fun h => List.mem_cons_of_mem _ h, fun h => (List.mem_cons.mp h).resolve_left fun q => e q.symm⟩
theorem scCon3 : FnScope ["self", "name"] ["self", "name"] (defScope sCon3) := ⟨rfl, rfl, rfl, by decide +kernel, rfl, by decide +kernel, by decide +kernel⟩
theorem okCon3 {f : Addr} {fd : FuncData} (F : Fun K "__contains__" "Columns.__contains__" sCon3 f fd) (B : Bt mg) {C : Addr} (hcl : Cls K C) (hno : NoAttr K C "names") : FnOk P w K mg base CX0 1 f fd ["self", "name"] (spT K [.B, .B] false (cCon C)) := by
  refine okv2 F scCon3 rfl (by decide) fun cdv A outer s H E R ts Pt hr hc => ?_
  obtain ⟨zs, t, rfl, hd, k⟩ := hc
  refine ⟨_, (one_ (ret_ (pandV_ (pcb_ (μ := .M) rc_isi (fun a => pe_callB call_isi (by rfl) B.isi (by decide +kernel) a) (pa1_ (pv_ (κ := .M) 1 (pv 1)) (pa1_ (pty_ (κ := .M) (pe_bltn (v := .ty "str") (by rfl) B.str (by decide +kernel) rfl)) pa0_))) (pone_ (pcmp_ (μ := .S) op_in_seq (re_inF false) (by rfl) (pv_ (κ := .M) 1 (pv 1)) (pfld_ (pv_ (κ := .M) 0 (pv 0)) hcl hno)))))), ?_⟩
  simp only [Tv.wSeq, Tv.wNext, Tv.wIfS, Tv.wSet, Tv.wSetN, Tv.wRet, Tv.wRetO, Tv.wFrz, Tv.wApp, Tv.wOp, Tv.wTest, Tv.wAnd, Tv.wOr, Tv.wNot, Tv.wIf, Tv.wAndV, Tv.wOrV, Tv.wNotV, Tv.wCall, Tv.wCons, Tv.wNil, Tv.wV, Tv.wC, Tv.wTup, Tv.wLst, Tv.wSeqT, Tv.wO, Tv.wLen, Tv.wList, Tv.wTuple, Tv.wCat, Tv.wSl, Tv.wLst1, Tv.wTup1, Tv.wRng1, Tv.wRng2, Tv.wEnum, Tv.wFor, Tv.wLc, Tv.wYes, Tv.wCB, Tv.wipeE, Tv.gSet, Tv.gNilT, Tv.gConsT, Tv.gTupT, Tv.cellOf, Tv.env0, Tv.fEq, Tv.fIn, Tv.fI0, Tv.fI, Tv.fSc, Tv.fIsN, Tv.fIsB, Tv.fIx, Tv.fIxS, Tv.fCatT, Tv.fInt1, Tv.fMin2, List.zipWith_cons_cons, List.zipWith_nil_left, List.length_cons, List.length_nil, List.cons_append, List.nil_append, List.replicate, List.getElem?_cons_zero, List.getElem?_cons_succ, List.set_cons_zero, List.set_cons_succ, Tv.wRoom, Tv.wRoomSet, Tv.wIfDraw, Tv.wStar, Tv.wLen6, Tv.wFld, Tv.wExt, Tv.wTru, Tv.wChain, Tv.fIsi, Tv.fInF, Tv.seq_l, Tv.seq_t, Tv.lst_l, Tv.tup_t, Tv.scal_ii, Tv.scal_ss, Tv.scal_bb, Tv.same_ii, Tv.same_ss, Tv.same_bb, Tv.at_0, Tv.at_1, Tv.at_2, Tv.at_3, Tv.isN_non, Tv.isN_int, Tv.isN_str, Tv.isN_tup, Tv.isN_lst, Tv.isN_bl, Cell.val.injEq, T.op.injEq, forall_const, Tv.isi_non_tuple, Tv.isi_non_str, Tv.isi_non_int, Tv.isi_non_bool, Tv.isi_non_dict, Tv.isi_non_list, Tv.isi_bl_tuple, Tv.isi_bl_str, Tv.isi_bl_int, Tv.isi_bl_bool, Tv.isi_bl_dict, Tv.isi_bl_list, Tv.isi_int_tuple, Tv.isi_int_str, Tv.isi_int_int, Tv.isi_int_bool, Tv.isi_int_dict, Tv.isi_int_list, Tv.isi_str_tuple, Tv.isi_str_str, Tv.isi_str_int, Tv.isi_str_bool, Tv.isi_str_dict, Tv.isi_str_list, Tv.isi_tup_tuple, Tv.isi_tup_str, Tv.isi_tup_int, Tv.isi_tup_bool, Tv.isi_tup_dict, Tv.isi_tup_list, Tv.isi_lst_tuple, Tv.isi_lst_str, Tv.isi_lst_int, Tv.isi_lst_bool, Tv.isi_lst_dict, Tv.isi_lst_list, Tv.isi_dic_tuple, Tv.isi_dic_str, Tv.isi_dic_int, Tv.isi_dic_bool, Tv.isi_dic_dict, Tv.isi_dic_list, V.ty.injEq, Tv.wLc2, Tv.fAll, Tv.wDropX, Tv.wSetX, Tv.wRaise, Tv.wIsi2, Tv.wDead, Tv.wStr1, Tv.fInS, Tv.fAddS, Tv.fLenS, Tv.wDisp, Tv.fDIn, Tv.fDGet, Tv.wISet, ↓reduceIte, Bool.false_eq_true, decide_eq_true_eq, T.int.injEq, T.str.injEq, T.bl.injEq, T.lst.injEq, T.tup.injEq, exists_eq_left', exists_eq_left, exists_and_left, true_and, and_true, reduceCtorEq, ne_eq, not_false_eq_true, not_true_eq_false, forall_eq', forall_eq, Option.some.injEq, Option.isSome_some]
  refine ⟨_, _, rfl, _, isiS hd, ?_⟩
  cases t with
  | str z =>
    refine (if_pos rfl).mpr ⟨_, rfl, _, rfl, _, rfl, rfl, strs_flat, ?_⟩
    rw [any_strs]
    exact k
  | obj C fs => cases hd
  | op v => cases hd
  | exc C d us => cases hd
  | mk o C us => cases hd
  | _ => exact k
theorem scTerm : FnScope ["columns", "thing"] ["columns", "thing"] (defScope sTerm) := ⟨rfl, rfl, rfl, by decide +kernel, rfl, by decide +kernel, by decide +kernel⟩
theorem okTerm {f : Addr} {fd : FuncData} (F : Fun K "is_term" "is_term" sTerm f fd) (B : Bt mg) {C : Addr} {fC : Addr} {fdC : FuncData} (cC : Om P w K mg base 1 C "__contains__" ["self", "name"] (spT K [.B, .B] false (cCon C)) fC fdC) : FnOk P w K mg base CX0 2 f fd ["columns", "thing"] (spT K [.B, .B] false (cTerm C)) := by
  refine okv2 F scTerm rfl (by decide) fun cdv A outer s H E R ts Pt hr hc => ?_
  obtain ⟨zs, t, rfl, hd, k⟩ := hc
  refine ⟨_, (one_ (ret_ (porV_ (pcmp_ (μ := .M) (Ow.op_inO cC.om (hr.mono (by decide))) (re_own2 fun h => h) (by rfl) (pv_ (κ := .M) 1 (pv 1)) (pv_ (κ := .M) 0 (pv 0))) (pone_ (pandV_ (pcb_ (μ := .M) rc_isi (fun a => pe_callB call_isi (by rfl) B.isi (by decide +kernel) a) (pa1_ (pv_ (κ := .M) 1 (pv 1)) (pa1_ (pty_ (κ := .M) (pe_bltn (v := .ty "str") (by rfl) B.str (by decide +kernel) rfl)) pa0_))) (pone_ (pcmp_ (μ := .S) op_eq re_sc (nomark _) (pv_ (κ := .M) 1 (pv 1)) (pstr_ (κ := .M))))))))), ?_⟩
  simp only [Tv.wSeq, Tv.wNext, Tv.wIfS, Tv.wSet, Tv.wSetN, Tv.wRet, Tv.wRetO, Tv.wFrz, Tv.wApp, Tv.wOp, Tv.wTest, Tv.wAnd, Tv.wOr, Tv.wNot, Tv.wIf, Tv.wAndV, Tv.wOrV, Tv.wNotV, Tv.wCall, Tv.wCons, Tv.wNil, Tv.wV, Tv.wC, Tv.wTup, Tv.wLst, Tv.wSeqT, Tv.wO, Tv.wLen, Tv.wList, Tv.wTuple, Tv.wCat, Tv.wSl, Tv.wLst1, Tv.wTup1, Tv.wRng1, Tv.wRng2, Tv.wEnum, Tv.wFor, Tv.wLc, Tv.wYes, Tv.wCB, Tv.wipeE, Tv.gSet, Tv.gNilT, Tv.gConsT, Tv.gTupT, Tv.cellOf, Tv.env0, Tv.fEq, Tv.fIn, Tv.fI0, Tv.fI, Tv.fSc, Tv.fIsN, Tv.fIsB, Tv.fIx, Tv.fIxS, Tv.fCatT, Tv.fInt1, Tv.fMin2, List.zipWith_cons_cons, List.zipWith_nil_left, List.length_cons, List.length_nil, List.cons_append, List.nil_append, List.replicate, List.getElem?_cons_zero, List.getElem?_cons_succ, List.set_cons_zero, List.set_cons_succ, Tv.wRoom, Tv.wRoomSet, Tv.wIfDraw, Tv.wStar, Tv.wLen6, Tv.wFld, Tv.wExt, Tv.wTru, Tv.wChain, Tv.fIsi, Tv.fInF, Tv.seq_l, Tv.seq_t, Tv.lst_l, Tv.tup_t, Tv.scal_ii, Tv.scal_ss, Tv.scal_bb, Tv.same_ii, Tv.same_ss, Tv.same_bb, Tv.at_0, Tv.at_1, Tv.at_2, Tv.at_3, Tv.isN_non, Tv.isN_int, Tv.isN_str, Tv.isN_tup, Tv.isN_lst, Tv.isN_bl, Cell.val.injEq, T.op.injEq, forall_const, Tv.isi_non_tuple, Tv.isi_non_str, Tv.isi_non_int, Tv.isi_non_bool, Tv.isi_non_dict, Tv.isi_non_list, Tv.isi_bl_tuple, Tv.isi_bl_str, Tv.isi_bl_int, Tv.isi_bl_bool, Tv.isi_bl_dict, Tv.isi_bl_list, Tv.isi_int_tuple, Tv.isi_int_str, Tv.isi_int_int, Tv.isi_int_bool, Tv.isi_int_dict, Tv.isi_int_list, Tv.isi_str_tuple, Tv.isi_str_str, Tv.isi_str_int, Tv.isi_str_bool, Tv.isi_str_dict, Tv.isi_str_list, Tv.isi_tup_tuple, Tv.isi_tup_str, Tv.isi_tup_int, Tv.isi_tup_bool, Tv.isi_tup_dict, Tv.isi_tup_list, Tv.isi_lst_tuple, Tv.isi_lst_str, Tv.isi_lst_int, Tv.isi_lst_bool, Tv.isi_lst_dict, Tv.isi_lst_list, Tv.isi_dic_tuple, Tv.isi_dic_str, Tv.isi_dic_int, Tv.isi_dic_bool, Tv.isi_dic_dict, Tv.isi_dic_list, V.ty.injEq, Tv.wLc2, Tv.fAll, Tv.wDropX, Tv.wSetX, Tv.wRaise, Tv.wIsi2, Tv.wDead, Tv.wStr1, Tv.fInS, Tv.fAddS, Tv.fLenS, Tv.wDisp, Tv.fDIn, Tv.fDGet, Tv.wISet, ↓reduceIte, Bool.false_eq_true, decide_eq_true_eq, T.int.injEq, T.str.injEq, T.bl.injEq, T.lst.injEq, T.tup.injEq, exists_eq_left', exists_eq_left, exists_and_left, true_and, and_true, reduceCtorEq, ne_eq, not_false_eq_true, not_true_eq_false, forall_eq', forall_eq, Option.some.injEq, Option.isSome_some]
  refine ⟨_, rfl, zs, t, rfl, hd, _, rfl, ?_⟩
  split
  · rename_i h
    cases t with
    | str z =>
      have e : termB zs (.str z) = true := by
        show (decide (z ∈ zs) || z == "") = true
        rw [show decide (z ∈ zs) = true from h]
        rfl
      rw [e] at k
      exact k
    | _ => cases h
  · rename_i h
    refine ⟨_, _, rfl, _, isiS hd, ?_⟩
    cases t with
    | str z =>
      refine (if_pos rfl).mpr ⟨rfl, ?_⟩
      have e : termB zs (.str z) = (z == "") := by
        show (decide (z ∈ zs) || z == "") = _
        rw [show decide (z ∈ zs) = false from Bool.eq_false_iff.mpr h]
        rfl
      rw [e] at k
      exact k
    | obj C fs => cases hd
    | op v => cases hd
    | exc C d us => cases hd
    | mk o C us => cases hd
    | _ => exact k
theorem scLitOf : FnScope ["part"] ["part"] (defScope sLitOf) := ⟨rfl, rfl, rfl, by decide +kernel, rfl, by decide +kernel, by decide +kernel⟩
theorem okLitOf {f : Addr} {fd : FuncData} (F : Fun K "literal_of" "literal_of" sLitOf f fd) (B : Bt mg)  : FnOk P w K mg base CX0 1 f fd ["part"] (spT K [.S] false cLitOf) := by
  refine okv2 F scLitOf rfl (by decide) fun cdv A outer s H E R ts Pt hr hc => ?_
  obtain ⟨t, rfl, hf, k⟩ := hc
  refine ⟨_, (cons_ (if_ (ptcmp_ op_eq re_sc (nomark _) (pix_ (pv_ (κ := .M) 0 (pv 0)) (pint_ (κ := .M))) (pstr_ (κ := .M))) (one_ (ret_ (pslT_ (μ := .S) (pv_ (κ := .S) 0 (pv 0)) (po1_ (pint_ (κ := .M))) po0_ (fun a b c => pe_slice sl_tupA a b c)))) nil_)
      (cons_ (if_ (ptcmp_ op_eq re_sc (nomark _) (pix_ (pv_ (κ := .M) 0 (pv 0)) (pint_ (κ := .M))) (pstr_ (κ := .M))) (one_ (ret_ (pix_ (pv_ (κ := .S) 0 (pv 0)) (pint_ (κ := .M))))) nil_)
      (one_ (ret_ (pnon_ (κ := .S)))))), ?_⟩
  simp only [Tv.wSeq, Tv.wNext, Tv.wIfS, Tv.wSet, Tv.wSetN, Tv.wRet, Tv.wRetO, Tv.wFrz, Tv.wApp, Tv.wOp, Tv.wTest, Tv.wAnd, Tv.wOr, Tv.wNot, Tv.wIf, Tv.wAndV, Tv.wOrV, Tv.wNotV, Tv.wCall, Tv.wCons, Tv.wNil, Tv.wV, Tv.wC, Tv.wTup, Tv.wLst, Tv.wSeqT, Tv.wO, Tv.wLen, Tv.wList, Tv.wTuple, Tv.wCat, Tv.wSl, Tv.wLst1, Tv.wTup1, Tv.wRng1, Tv.wRng2, Tv.wEnum, Tv.wFor, Tv.wLc, Tv.wYes, Tv.wCB, Tv.wipeE, Tv.gSet, Tv.gNilT, Tv.gConsT, Tv.gTupT, Tv.cellOf, Tv.env0, Tv.fEq, Tv.fIn, Tv.fI0, Tv.fI, Tv.fSc, Tv.fIsN, Tv.fIsB, Tv.fIx, Tv.fIxS, Tv.fCatT, Tv.fInt1, Tv.fMin2, List.zipWith_cons_cons, List.zipWith_nil_left, List.length_cons, List.length_nil, List.cons_append, List.nil_append, List.replicate, List.getElem?_cons_zero, List.getElem?_cons_succ, List.set_cons_zero, List.set_cons_succ, Tv.wRoom, Tv.wRoomSet, Tv.wIfDraw, Tv.wStar, Tv.wLen6, Tv.wFld, Tv.wExt, Tv.wTru, Tv.wChain, Tv.fIsi, Tv.fInF, Tv.seq_l, Tv.seq_t, Tv.lst_l, Tv.tup_t, Tv.scal_ii, Tv.scal_ss, Tv.scal_bb, Tv.same_ii, Tv.same_ss, Tv.same_bb, Tv.at_0, Tv.at_1, Tv.at_2, Tv.at_3, Tv.isN_non, Tv.isN_int, Tv.isN_str, Tv.isN_tup, Tv.isN_lst, Tv.isN_bl, Cell.val.injEq, T.op.injEq, forall_const, Tv.isi_non_tuple, Tv.isi_non_str, Tv.isi_non_int, Tv.isi_non_bool, Tv.isi_non_dict, Tv.isi_non_list, Tv.isi_bl_tuple, Tv.isi_bl_str, Tv.isi_bl_int, Tv.isi_bl_bool, Tv.isi_bl_dict, Tv.isi_bl_list, Tv.isi_int_tuple, Tv.isi_int_str, Tv.isi_int_int, Tv.isi_int_bool, Tv.isi_int_dict, Tv.isi_int_list, Tv.isi_str_tuple, Tv.isi_str_str, Tv.isi_str_int, Tv.isi_str_bool, Tv.isi_str_dict, Tv.isi_str_list, Tv.isi_tup_tuple, Tv.isi_tup_str, Tv.isi_tup_int, Tv.isi_tup_bool, Tv.isi_tup_dict, Tv.isi_tup_list, Tv.isi_lst_tuple, Tv.isi_lst_str, Tv.isi_lst_int, Tv.isi_lst_bool, Tv.isi_lst_dict, Tv.isi_lst_list, Tv.isi_dic_tuple, Tv.isi_dic_str, Tv.isi_dic_int, Tv.isi_dic_bool, Tv.isi_dic_dict, Tv.isi_dic_list, V.ty.injEq, Tv.wLc2, Tv.fAll, Tv.wDropX, Tv.wSetX, Tv.wRaise, Tv.wIsi2, Tv.wDead, Tv.wStr1, Tv.fInS, Tv.fAddS, Tv.fLenS, Tv.wDisp, Tv.fDIn, Tv.fDGet, Tv.wISet, ↓reduceIte, Bool.false_eq_true, decide_eq_true_eq, T.int.injEq, T.str.injEq, T.bl.injEq, T.lst.injEq, T.tup.injEq, exists_eq_left', exists_eq_left, exists_and_left, true_and, and_true, reduceCtorEq, ne_eq, not_false_eq_true, not_true_eq_false, forall_eq', forall_eq, Option.some.injEq, Option.isSome_some]
  have ff := form_of hf
  cases ff with
  | atmost a b n h =>
    rw [litOf_atmost] at k
    exact ⟨_, rfl, _, Tv.at_0, rfl, (if_pos (by decide +kernel)).mpr ⟨_, rfl, k⟩⟩
  | must c l p h1 h2 =>
    rw [litOf_must] at k
    exact ⟨_, rfl, _, Tv.at_0, rfl, (if_neg (by decide +kernel)).mpr ⟨_, rfl, _, Tv.at_0, rfl, (if_pos (by decide +kernel)).mpr ⟨_, rfl, _, Tv.at_2, k⟩⟩⟩
  | missing a => exact ⟨_, rfl, _, Tv.at_0, rfl, (if_neg (by decide +kernel)).mpr ⟨_, rfl, _, Tv.at_0, rfl, (if_neg (by decide +kernel)).mpr k⟩⟩
  | not a => exact ⟨_, rfl, _, Tv.at_0, rfl, (if_neg (by decide +kernel)).mpr ⟨_, rfl, _, Tv.at_0, rfl, (if_neg (by decide +kernel)).mpr k⟩⟩
  | join u ps h h1 h2 =>
    rcases h with rfl | rfl
    · exact ⟨_, rfl, _, Tv.at_0, rfl, (if_neg (by decide +kernel)).mpr ⟨_, rfl, _, Tv.at_0, rfl, (if_neg (by decide +kernel)).mpr k⟩⟩
    · exact ⟨_, rfl, _, Tv.at_0, rfl, (if_neg (by decide +kernel)).mpr ⟨_, rfl, _, Tv.at_0, rfl, (if_neg (by decide +kernel)).mpr k⟩⟩
  | case bs l h1 h2 => exact ⟨_, rfl, _, Tv.at_0, rfl, (if_neg (by decide +kernel)).mpr ⟨_, rfl, _, Tv.at_0, rfl, (if_neg (by decide +kernel)).mpr k⟩⟩
abbrev CTm (P : Program) (w : World) (K : PySem.W.Frag) (mg : Str → Option Value) (base : Heap) (C : Addr) : Prop := Cl P w K mg base 2 "is_term" (spT K [.B, .B] false (cTerm C))
abbrev CHt (P : Program) (w : World) (K : PySem.W.Frag) (mg : Str → Option Value) (base : Heap) (C : Addr) : Prop := Cl P w K mg base 3 "has_terms" (spT K [.B, .B] false (cHasTerms C))
abbrev CLi (P : Program) (w : World) (K : PySem.W.Frag) (mg : Str → Option Value) (base : Heap) : Prop := Cl P w K mg base 1 "literal_of" (spT K [.S] false cLitOf)
abbrev CUp (P : Program) (w : World) (K : PySem.W.Frag) (mg : Str → Option Value) (base : Heap) : Prop := Cl P w K mg base 1 "is_tuple_up_to" (spT K [.B, .B] false cUpTo)
abbrev CPr (P : Program) (w : World) (K : PySem.W.Frag) (mg : Str → Option Value) (base : Heap) : Prop := Cl P w K mg base 1 "is_pair" (spT K [.B] false cPair)
theorem scHasTerms : FnScope ["columns", "literal", "a", "b", "_"] ["columns", "literal"] (defScope sHasTerms) := ⟨rfl, rfl, rfl, by decide +kernel, rfl, by decide +kernel, by decide +kernel⟩
theorem okHasTerms {f : Addr} {fd : FuncData} (F : Fun K "has_terms" "has_terms" sHasTerms f fd) (B : Bt mg) {C : Addr} (cT : CTm P w K mg base C) : FnOk P w K mg base CX0 3 f fd ["columns", "literal"] (spT K [.B, .B] false (cHasTerms C)) := by
  refine okv2 F scHasTerms rfl (by decide) fun cdv A outer s H E R ts Pt hr hc => ?_
  obtain ⟨zs, a, b, n, rfl, ha, hb, k⟩ := hc
  refine ⟨_, (cons_ (asg_ (pv_ (κ := .B) 1 (pv 1)) (gtp_ (gs1_ (gnm_ (κ := .B) 2 (by decide) (pg_name (i := 2) scHasTerms.nd rfl (Or.inl rfl))) (gs1_ (gnm_ (κ := .B) 3 (by decide) (pg_name (i := 3) scHasTerms.nd rfl (Or.inl rfl))) (gs1_ (gnm_ (κ := .B) 4 (by decide) (pg_name (i := 4) scHasTerms.nd rfl (Or.inl rfl))) gs0_))) (hn := by rintro _ _ _ ⟨_, _, rfl, _, _, rfl, _, _, rfl, rfl, _⟩; rfl)) (fun a b => ps_asg a b))
      (one_ (ret_ (pandV_ (callS_ (κ := .M) (κs := [.B, .B]) (ms := [.M, .M]) rfl (fun a => cT.pe hr (by decide) (by rfl) a) (pa1_ (pv_ (κ := .M) 0 (pv 0)) (pa1_ (pv_ (κ := .M) 2 (pv 2)) pa0_))) (pandV_ (callS_ (κ := .M) (κs := [.B, .B]) (ms := [.M, .M]) rfl (fun a => cT.pe hr (by decide) (by rfl) a) (pa1_ (pv_ (κ := .M) 0 (pv 0)) (pa1_ (pv_ (κ := .M) 3 (pv 3)) pa0_))) (pone_ (pcmp_ (μ := .S) op_ne re_nsc (nomark _) (pv_ (κ := .M) 2 (pv 2)) (pv_ (κ := .M) 3 (pv 3))))))))), ?_⟩
  simp only [Tv.wSeq, Tv.wNext, Tv.wIfS, Tv.wSet, Tv.wSetN, Tv.wRet, Tv.wRetO, Tv.wFrz, Tv.wApp, Tv.wOp, Tv.wTest, Tv.wAnd, Tv.wOr, Tv.wNot, Tv.wIf, Tv.wAndV, Tv.wOrV, Tv.wNotV, Tv.wCall, Tv.wCons, Tv.wNil, Tv.wV, Tv.wC, Tv.wTup, Tv.wLst, Tv.wSeqT, Tv.wO, Tv.wLen, Tv.wList, Tv.wTuple, Tv.wCat, Tv.wSl, Tv.wLst1, Tv.wTup1, Tv.wRng1, Tv.wRng2, Tv.wEnum, Tv.wFor, Tv.wLc, Tv.wYes, Tv.wCB, Tv.wipeE, Tv.gSet, Tv.gNilT, Tv.gConsT, Tv.gTupT, Tv.cellOf, Tv.env0, Tv.fEq, Tv.fIn, Tv.fI0, Tv.fI, Tv.fSc, Tv.fIsN, Tv.fIsB, Tv.fIx, Tv.fIxS, Tv.fCatT, Tv.fInt1, Tv.fMin2, List.zipWith_cons_cons, List.zipWith_nil_left, List.length_cons, List.length_nil, List.cons_append, List.nil_append, List.replicate, List.getElem?_cons_zero, List.getElem?_cons_succ, List.set_cons_zero, List.set_cons_succ, Tv.wRoom, Tv.wRoomSet, Tv.wIfDraw, Tv.wStar, Tv.wLen6, Tv.wFld, Tv.wExt, Tv.wTru, Tv.wChain, Tv.fIsi, Tv.fInF, Tv.seq_l, Tv.seq_t, Tv.lst_l, Tv.tup_t, Tv.scal_ii, Tv.scal_ss, Tv.scal_bb, Tv.same_ii, Tv.same_ss, Tv.same_bb, Tv.at_0, Tv.at_1, Tv.at_2, Tv.at_3, Tv.isN_non, Tv.isN_int, Tv.isN_str, Tv.isN_tup, Tv.isN_lst, Tv.isN_bl, Cell.val.injEq, T.op.injEq, forall_const, Tv.isi_non_tuple, Tv.isi_non_str, Tv.isi_non_int, Tv.isi_non_bool, Tv.isi_non_dict, Tv.isi_non_list, Tv.isi_bl_tuple, Tv.isi_bl_str, Tv.isi_bl_int, Tv.isi_bl_bool, Tv.isi_bl_dict, Tv.isi_bl_list, Tv.isi_int_tuple, Tv.isi_int_str, Tv.isi_int_int, Tv.isi_int_bool, Tv.isi_int_dict, Tv.isi_int_list, Tv.isi_str_tuple, Tv.isi_str_str, Tv.isi_str_int, Tv.isi_str_bool, Tv.isi_str_dict, Tv.isi_str_list, Tv.isi_tup_tuple, Tv.isi_tup_str, Tv.isi_tup_int, Tv.isi_tup_bool, Tv.isi_tup_dict, Tv.isi_tup_list, Tv.isi_lst_tuple, Tv.isi_lst_str, Tv.isi_lst_int, Tv.isi_lst_bool, Tv.isi_lst_dict, Tv.isi_lst_list, Tv.isi_dic_tuple, Tv.isi_dic_str, Tv.isi_dic_int, Tv.isi_dic_bool, Tv.isi_dic_dict, Tv.isi_dic_list, V.ty.injEq, Tv.wLc2, Tv.fAll, Tv.wDropX, Tv.wSetX, Tv.wRaise, Tv.wIsi2, Tv.wDead, Tv.wStr1, Tv.fInS, Tv.fAddS, Tv.fLenS, Tv.wDisp, Tv.fDIn, Tv.fDGet, Tv.wISet, ↓reduceIte, Bool.false_eq_true, decide_eq_true_eq, T.int.injEq, T.str.injEq, T.bl.injEq, T.lst.injEq, T.tup.injEq, exists_eq_left', exists_eq_left, exists_and_left, true_and, and_true, reduceCtorEq, ne_eq, not_false_eq_true, not_true_eq_false, forall_eq', forall_eq, Option.some.injEq, Option.isSome_some]
  refine ⟨a, _, rfl, b, _, rfl, n, _, rfl, rfl, zs, a, rfl, ha, _, rfl, ?_⟩
  have e : litB zs a b = (termB zs a && (termB zs b && !eqF a b)) := rfl
  split
  · rename_i h1
    refine ⟨zs, b, rfl, hb, _, rfl, ?_⟩
    split
    · rename_i h2
      rw [e, h1, h2] at k
      cases a with
      | str x =>
        cases b with
        | str y => exact ⟨rfl, k⟩
        | _ => cases h2
      | _ => cases h1
    · rename_i h2
      rw [e, Bool.eq_false_iff.mpr h2, Bool.false_and, Bool.and_false] at k
      exact k
  · rename_i h1
    rw [e, Bool.eq_false_iff.mpr h1, Bool.false_and] at k
    exact k
theorem scRight : FnScope ["columns", "part", "literal"] ["columns", "part"] (defScope sRight) := ⟨rfl, rfl, rfl, by decide +kernel, rfl, by decide +kernel, by decide +kernel⟩
theorem okRight {f : Addr} {fd : FuncData} (F : Fun K "has_right_terms" "has_right_terms" sRight f fd) (B : Bt mg) {C : Addr} (cH : CHt P w K mg base C) (cL : CLi P w K mg base) {fC : Addr} {fdC : FuncData} (cC : Om P w K mg base 1 C "__contains__" ["self", "name"] (spT K [.B, .B] false (cCon C)) fC fdC) : FnOk P w K mg base CX0 4 f fd ["columns", "part"] (spT K [.B, .S] false (cRight C)) := by
  refine okv2 F scRight rfl (by decide) fun cdv A outer s H E R ts Pt hr hc => ?_
  obtain ⟨zs, t, rfl, dt, hf, k⟩ := hc
  refine ⟨_, (cons_ (if_ (ptcmp_ op_eq re_sc (nomark _) (pix_ (pv_ (κ := .M) 1 (pv 1)) (pint_ (κ := .M))) (pstr_ (κ := .M))) (one_ (ret_ (pcmp_ (μ := .S) (Ow.op_inO cC.om (hr.mono (by decide))) (re_own2 fun h => h) (by rfl) (pix_ (pv_ (κ := .M) 1 (pv 1)) (pint_ (κ := .M))) (pv_ (κ := .M) 0 (pv 0))))) nil_)
      (cons_ (set_ (κ := .S) 2 (fun a => ps_set (i := 2) scRight.nd rfl (Or.inl rfl) a) (callS_ (κ := .S) (κs := [.S]) (ms := [.S]) rfl (fun a => cL.pe hr (by decide) (by rfl) a) (pa1_ (pv_ (κ := .S) 1 (pv 1)) pa0_)))
      (one_ (ret_ (porV_ (pcmp_ (μ := .M) op_isN re_isN (nomark _) (pv_ (κ := .M) 2 (pv 2)) (pnon_ (κ := .M))) (pone_ (callS_ (κ := .S) (κs := [.B, .B]) (ms := [.M, .M]) rfl (fun a => cH.pe hr (by decide) (by rfl) a) (pa1_ (pv_ (κ := .M) 0 (pv 0)) (pa1_ (pv_ (κ := .M) 2 (pv 2)) pa0_))))))))), ?_⟩
  simp only [Tv.wSeq, Tv.wNext, Tv.wIfS, Tv.wSet, Tv.wSetN, Tv.wRet, Tv.wRetO, Tv.wFrz, Tv.wApp, Tv.wOp, Tv.wTest, Tv.wAnd, Tv.wOr, Tv.wNot, Tv.wIf, Tv.wAndV, Tv.wOrV, Tv.wNotV, Tv.wCall, Tv.wCons, Tv.wNil, Tv.wV, Tv.wC, Tv.wTup, Tv.wLst, Tv.wSeqT, Tv.wO, Tv.wLen, Tv.wList, Tv.wTuple, Tv.wCat, Tv.wSl, Tv.wLst1, Tv.wTup1, Tv.wRng1, Tv.wRng2, Tv.wEnum, Tv.wFor, Tv.wLc, Tv.wYes, Tv.wCB, Tv.wipeE, Tv.gSet, Tv.gNilT, Tv.gConsT, Tv.gTupT, Tv.cellOf, Tv.env0, Tv.fEq, Tv.fIn, Tv.fI0, Tv.fI, Tv.fSc, Tv.fIsN, Tv.fIsB, Tv.fIx, Tv.fIxS, Tv.fCatT, Tv.fInt1, Tv.fMin2, List.zipWith_cons_cons, List.zipWith_nil_left, List.length_cons, List.length_nil, List.cons_append, List.nil_append, List.replicate, List.getElem?_cons_zero, List.getElem?_cons_succ, List.set_cons_zero, List.set_cons_succ, Tv.wRoom, Tv.wRoomSet, Tv.wIfDraw, Tv.wStar, Tv.wLen6, Tv.wFld, Tv.wExt, Tv.wTru, Tv.wChain, Tv.fIsi, Tv.fInF, Tv.seq_l, Tv.seq_t, Tv.lst_l, Tv.tup_t, Tv.scal_ii, Tv.scal_ss, Tv.scal_bb, Tv.same_ii, Tv.same_ss, Tv.same_bb, Tv.at_0, Tv.at_1, Tv.at_2, Tv.at_3, Tv.isN_non, Tv.isN_int, Tv.isN_str, Tv.isN_tup, Tv.isN_lst, Tv.isN_bl, Cell.val.injEq, T.op.injEq, forall_const, Tv.isi_non_tuple, Tv.isi_non_str, Tv.isi_non_int, Tv.isi_non_bool, Tv.isi_non_dict, Tv.isi_non_list, Tv.isi_bl_tuple, Tv.isi_bl_str, Tv.isi_bl_int, Tv.isi_bl_bool, Tv.isi_bl_dict, Tv.isi_bl_list, Tv.isi_int_tuple, Tv.isi_int_str, Tv.isi_int_int, Tv.isi_int_bool, Tv.isi_int_dict, Tv.isi_int_list, Tv.isi_str_tuple, Tv.isi_str_str, Tv.isi_str_int, Tv.isi_str_bool, Tv.isi_str_dict, Tv.isi_str_list, Tv.isi_tup_tuple, Tv.isi_tup_str, Tv.isi_tup_int, Tv.isi_tup_bool, Tv.isi_tup_dict, Tv.isi_tup_list, Tv.isi_lst_tuple, Tv.isi_lst_str, Tv.isi_lst_int, Tv.isi_lst_bool, Tv.isi_lst_dict, Tv.isi_lst_list, Tv.isi_dic_tuple, Tv.isi_dic_str, Tv.isi_dic_int, Tv.isi_dic_bool, Tv.isi_dic_dict, Tv.isi_dic_list, V.ty.injEq, Tv.wLc2, Tv.fAll, Tv.wDropX, Tv.wSetX, Tv.wRaise, Tv.wIsi2, Tv.wDead, Tv.wStr1, Tv.fInS, Tv.fAddS, Tv.fLenS, Tv.wDisp, Tv.fDIn, Tv.fDGet, Tv.wISet, ↓reduceIte, Bool.false_eq_true, decide_eq_true_eq, T.int.injEq, T.str.injEq, T.bl.injEq, T.lst.injEq, T.tup.injEq, exists_eq_left', exists_eq_left, exists_and_left, true_and, and_true, reduceCtorEq, ne_eq, not_false_eq_true, not_true_eq_false, forall_eq', forall_eq, Option.some.injEq, Option.isSome_some]
  have ff := form_of hf
  cases ff with
  | atmost a b n h =>
    rw [terms_atmost] at k
    refine ⟨_, rfl, _, Tv.at_0, rfl, (if_neg (by decide +kernel)).mpr ⟨_, rfl, hf, ?_⟩⟩
    rw [litOf_atmost]
    exact (if_neg Bool.false_ne_true).mpr ⟨zs, a, b, n, rfl, dat_d (dat_i dt (by simp)), dat_d (dat_i dt (by simp)), k⟩
  | must c l p h1 h2 =>
    obtain ⟨x, y, n, rfl, _⟩ := triple_of h2
    rw [terms_must] at k
    refine ⟨_, rfl, _, Tv.at_0, rfl, (if_neg (by decide +kernel)).mpr ⟨_, rfl, hf, ?_⟩⟩
    rw [litOf_must]
    have dl := dat_i dt (t := .tup [x, y, n]) (by simp)
    exact (if_neg Bool.false_ne_true).mpr ⟨zs, x, y, n, rfl, dat_d (dat_i dl (by simp)), dat_d (dat_i dl (by simp)), k⟩
  | missing a =>
    rw [terms_missing] at k
    exact ⟨_, rfl, _, Tv.at_0, rfl, (if_pos (by decide +kernel)).mpr ⟨_, rfl, _, Tv.at_1, _, rfl, zs, a, rfl, dat_d (dat_i dt (by simp)), _, rfl, k⟩⟩
  | not a =>
    rw [terms_not] at k
    exact ⟨_, rfl, _, Tv.at_0, rfl, (if_neg (by decide +kernel)).mpr ⟨_, rfl, hf, (if_pos rfl).mpr k⟩⟩
  | join u ps h h1 h2 =>
    rw [terms_join h] at k
    rcases h with rfl | rfl
    · exact ⟨_, rfl, _, Tv.at_0, rfl, (if_neg (by decide +kernel)).mpr ⟨_, rfl, hf, (if_pos rfl).mpr k⟩⟩
    · exact ⟨_, rfl, _, Tv.at_0, rfl, (if_neg (by decide +kernel)).mpr ⟨_, rfl, hf, (if_pos rfl).mpr k⟩⟩
  | case bs l h1 h2 => exact ⟨_, rfl, _, Tv.at_0, rfl, (if_neg (by decide +kernel)).mpr ⟨_, rfl, hf, (if_pos rfl).mpr k⟩⟩
theorem scInner : FnScope ["part", "word", "branch", "one", "inside"] ["part"] (defScope sInner) := ⟨rfl, rfl, rfl, by decide +kernel, rfl, by decide +kernel, by decide +kernel⟩
theorem okInner {f : Addr} {fd : FuncData} (F : Fun K "inner_parts" "inner_parts" sInner f fd) (B : Bt mg)  : FnOk P w K mg base CX0 1 f fd ["part"] (spT K [.S] true cInner) := by
  refine okv2 F scInner rfl (by decide) fun cdv A outer s H E R ts Pt hr hc => ?_
  obtain ⟨t, rfl, hf, k⟩ := hc
  refine ⟨_, (cons_ (set_ (κ := .S) 1 (fun a => ps_set (i := 1) scInner.nd rfl (Or.inl rfl) a) (pix_ (pv_ (κ := .S) 0 (pv 0)) (pint_ (κ := .M))))
      (cons_ (if_ (ptcmp_ op_eq re_sc (nomark _) (pv_ (κ := .M) 1 (pv 1)) (pstr_ (κ := .M))) (one_ (retN_ (plst_ (pa1_ (pix_ (pv_ (κ := .S) 0 (pv 0)) (pint_ (κ := .M))) pa0_) rfl))) nil_)
      (cons_ (if_ (ptcmp_ op_eq re_sc (nomark _) (pv_ (κ := .M) 1 (pv 1)) (pstr_ (κ := .M))) (one_ (retN_ (plst_ (pa1_ (pix_ (pv_ (κ := .S) 0 (pv 0)) (pint_ (κ := .M))) pa0_) rfl))) nil_)
      (cons_ (if_ (ptcmp_ op_in_seq (re_inF false) (by rfl) (pv_ (κ := .M) 1 (pv 1)) (ptup_ (κ := .M) (pa1_ (pstr_ (κ := .S)) (pa1_ (pstr_ (κ := .S)) pa0_)) rfl)) (one_ (retN_ (plist_ (PEv.items (pix_ (pv_ (κ := .S) 0 (pv 0)) (pint_ (κ := .M)))) (fun a => pe_callTy call_list_of (by rfl) B.list (by decide +kernel) (pa_cons a pa_nil))))) nil_)
      (cons_ (if_ (ptcmp_ op_eq re_sc (nomark _) (pv_ (κ := .M) 1 (pv 1)) (pstr_ (κ := .M))) (cons_ (setLc2_ 4 (own := [("branch", 2), ("one", 3)]) (vs1 := [3]) rfl scInner.nd rfl rfl (sw_true rfl rfl rfl (by decide +kernel)) (srcT_ (pix_ (pv_ (κ := .S) 0 (pv 0)) (pint_ (κ := .M)))) (blkOk_by (N := ["part", "word", "branch", "one", "inside"]) (sc := defScope sInner) (by decide +kernel)) (fun _ _ _ _ _ => (gnm_ (κ := .S) 2 (by decide) (pg_name (i := 2) scInner.nd rfl (Or.inl rfl)))) (fun _ _ _ _ _ => (srcT_ (pv_ (κ := .S) 2 (pv 2)))) (fun _ _ _ _ _ => (gnm_ (κ := .S) 3 (by decide) (pg_name (i := 3) scInner.nd rfl (Or.inl rfl)))) (fun _ _ _ _ _ => (pv_ (κ := .S) 3 (pv 3))) rfl rfl rfl)
      (one_ (retN_ (plstl_ (pks_ (PEv.items (pv_ (κ := .S) 4 (pv 4))) (pk1_ (pix_ (pv_ (κ := .S) 0 (pv 0)) (pint_ (κ := .M))) pk0_)))))) nil_)
      (one_ (retN_ (plst_ pa0_ rfl)))))))), ?_⟩
  simp only [List.map, Tv.wSeq, Tv.wNext, Tv.wIfS, Tv.wSet, Tv.wSetN, Tv.wRet, Tv.wRetO, Tv.wFrz, Tv.wApp, Tv.wOp, Tv.wTest, Tv.wAnd, Tv.wOr, Tv.wNot, Tv.wIf, Tv.wAndV, Tv.wOrV, Tv.wNotV, Tv.wCall, Tv.wCons, Tv.wNil, Tv.wV, Tv.wC, Tv.wTup, Tv.wLst, Tv.wSeqT, Tv.wO, Tv.wLen, Tv.wList, Tv.wTuple, Tv.wCat, Tv.wSl, Tv.wLst1, Tv.wTup1, Tv.wRng1, Tv.wRng2, Tv.wEnum, Tv.wFor, Tv.wLc, Tv.wYes, Tv.wCB, Tv.wipeE, Tv.gSet, Tv.gNilT, Tv.gConsT, Tv.gTupT, Tv.cellOf, Tv.env0, Tv.fEq, Tv.fIn, Tv.fI0, Tv.fI, Tv.fSc, Tv.fIsN, Tv.fIsB, Tv.fIx, Tv.fIxS, Tv.fCatT, Tv.fInt1, Tv.fMin2, List.zipWith_cons_cons, List.zipWith_nil_left, List.length_cons, List.length_nil, List.cons_append, List.nil_append, List.replicate, List.getElem?_cons_zero, List.getElem?_cons_succ, List.set_cons_zero, List.set_cons_succ, Tv.wRoom, Tv.wRoomSet, Tv.wIfDraw, Tv.wStar, Tv.wLen6, Tv.wFld, Tv.wExt, Tv.wTru, Tv.wChain, Tv.fIsi, Tv.fInF, Tv.seq_l, Tv.seq_t, Tv.lst_l, Tv.tup_t, Tv.scal_ii, Tv.scal_ss, Tv.scal_bb, Tv.same_ii, Tv.same_ss, Tv.same_bb, Tv.at_0, Tv.at_1, Tv.at_2, Tv.at_3, Tv.isN_non, Tv.isN_int, Tv.isN_str, Tv.isN_tup, Tv.isN_lst, Tv.isN_bl, Cell.val.injEq, T.op.injEq, forall_const, Tv.isi_non_tuple, Tv.isi_non_str, Tv.isi_non_int, Tv.isi_non_bool, Tv.isi_non_dict, Tv.isi_non_list, Tv.isi_bl_tuple, Tv.isi_bl_str, Tv.isi_bl_int, Tv.isi_bl_bool, Tv.isi_bl_dict, Tv.isi_bl_list, Tv.isi_int_tuple, Tv.isi_int_str, Tv.isi_int_int, Tv.isi_int_bool, Tv.isi_int_dict, Tv.isi_int_list, Tv.isi_str_tuple, Tv.isi_str_str, Tv.isi_str_int, Tv.isi_str_bool, Tv.isi_str_dict, Tv.isi_str_list, Tv.isi_tup_tuple, Tv.isi_tup_str, Tv.isi_tup_int, Tv.isi_tup_bool, Tv.isi_tup_dict, Tv.isi_tup_list, Tv.isi_lst_tuple, Tv.isi_lst_str, Tv.isi_lst_int, Tv.isi_lst_bool, Tv.isi_lst_dict, Tv.isi_lst_list, Tv.isi_dic_tuple, Tv.isi_dic_str, Tv.isi_dic_int, Tv.isi_dic_bool, Tv.isi_dic_dict, Tv.isi_dic_list, V.ty.injEq, Tv.wLc2, Tv.fAll, Tv.wDropX, Tv.wSetX, Tv.wRaise, Tv.wIsi2, Tv.wDead, Tv.wStr1, Tv.fInS, Tv.fAddS, Tv.fLenS, Tv.wDisp, Tv.fDIn, Tv.fDGet, Tv.wISet, ↓reduceIte, Bool.false_eq_true, decide_eq_true_eq, T.int.injEq, T.str.injEq, T.bl.injEq, T.lst.injEq, T.tup.injEq, exists_eq_left', exists_eq_left, exists_and_left, true_and, and_true, reduceCtorEq, ne_eq, not_false_eq_true, not_true_eq_false, forall_eq', forall_eq, Option.some.injEq, Option.isSome_some]
  have ff := form_of hf
  cases ff with
  | atmost a b n h =>
    rw [inner_atmost] at k
    exact ⟨_, rfl, _, Tv.at_0, rfl, (if_neg (by decide +kernel)).mpr  ⟨rfl, (if_neg (by decide +kernel)).mpr  ⟨rfl, rfl, (if_neg (by decide +kernel)).mpr  ⟨rfl, (if_neg (by decide +kernel)).mpr  k⟩⟩⟩⟩
  | must c l p h1 h2 =>
    rw [inner_must] at k
    exact ⟨_, rfl, _, Tv.at_0, rfl, (if_neg (by decide +kernel)).mpr  ⟨rfl, (if_pos (by decide +kernel)).mpr  ⟨_, rfl, _, Tv.at_3, k⟩⟩⟩
  | missing a =>
    rw [inner_missing] at k
    exact ⟨_, rfl, _, Tv.at_0, rfl, (if_neg (by decide +kernel)).mpr  ⟨rfl, (if_neg (by decide +kernel)).mpr  ⟨rfl, rfl, (if_neg (by decide +kernel)).mpr  ⟨rfl, (if_neg (by decide +kernel)).mpr  k⟩⟩⟩⟩
  | not a =>
    rw [inner_not] at k
    exact ⟨_, rfl, _, Tv.at_0, rfl, (if_pos (by decide +kernel)).mpr  ⟨_, rfl, _, Tv.at_1, k⟩⟩
  | join u ps h h1 h2 =>
    rw [inner_join h] at k
    rcases h with rfl | rfl
    · exact ⟨_, rfl, _, Tv.at_0, rfl, (if_neg (by decide +kernel)).mpr  ⟨rfl, (if_neg (by decide +kernel)).mpr  ⟨rfl, rfl, (if_pos (by decide +kernel)).mpr  ⟨_, rfl, _, Tv.at_1, rfl, fun ts e => by cases e; exact k⟩⟩⟩⟩
    · exact ⟨_, rfl, _, Tv.at_0, rfl, (if_neg (by decide +kernel)).mpr  ⟨rfl, (if_neg (by decide +kernel)).mpr  ⟨rfl, rfl, (if_pos (by decide +kernel)).mpr  ⟨_, rfl, _, Tv.at_1, rfl, fun ts e => by cases e; exact k⟩⟩⟩⟩
  | case bs l h1 h2 =>
    rw [inner_case] at k
    refine ⟨_, rfl, _, Tv.at_0, rfl, (if_neg (by decide +kernel)).mpr  ⟨rfl, (if_neg (by decide +kernel)).mpr  ⟨rfl, rfl, (if_neg (by decide +kernel)).mpr  ⟨rfl, (if_pos (by decide +kernel)).mpr  ?_⟩⟩⟩⟩
    refine ⟨_, rfl, _, Tv.at_1, _, rfl, by rw [List.length_map]; omega, fun i acc => acc = (bs.take i).flatMap (fun b => [b.1, b.2]), rfl, fun i t acc hi ha => ?_, fun acc ha => ?_⟩
    · obtain ⟨b, hb, rfl⟩ : ∃ b, bs[i]? = some b ∧ t = .tup [b.1, b.2] := by
        rw [List.getElem?_map] at hi
        obtain ⟨b, h3, h4⟩ := Option.map_eq_some_iff.mp hi
        exact ⟨b, h3, h4.symm⟩
      have no : ∀ x y : T, noOwn [.val x, .val (.str "case"), .val y, .un, .un] := fun x y a u e => by
        match a, e with
        | 0, e => cases e
        | 1, e => cases e
        | 2, e => cases e
        | 3, e => cases e
        | 4, e => cases e
      refine ⟨no _ _, _, rfl, by simp, fun j c => c = acc ++ [b.1, b.2].take j, by simp, fun j u acc2 hj hc => ?_, fun c hc => ?_⟩
      · show acc2 ++ [u] = acc ++ [b.1, b.2].take (j + 1)
        rw [hc, List.append_assoc, List.take_add_one, hj]
        rfl
      · show c = (bs.take (i + 1)).flatMap (fun b => [b.1, b.2])
        rw [hc, ha, List.take_add_one, hb, List.flatMap_append]
        rfl
    · rw [List.length_map, List.take_length] at ha
      subst ha
      exact ⟨_, rfl, _, Tv.at_2, by rw [List.length_append, len_flat]; simp only [List.length_cons, List.length_nil]; omega, k⟩
def cHasForm3 : Rs → List T → (T → Prop) → Prop := cHasForm
theorem scHasForm : FnScope ["thing", "word", "branch"] ["thing"] (defScope sHasForm) := ⟨rfl, rfl, rfl, by decide +kernel, rfl, by decide +kernel, by decide +kernel⟩
theorem okHasForm {f : Addr} {fd : FuncData} (F : Fun K "has_form" "has_form" sHasForm f fd) (B : Bt mg) {aS : Addr} (hsz : Sz K w mg aS) {tJ tB : Tok} (mJ : mg "MOST_JOINED" = some (.int 4 tJ)) (mBr : mg "MOST_BRANCHES" = some (.int 3 tB)) (hall : mg "all" = none) (cI : CTr P w K mg base) (cN : CNm P w K mg base) (cU : CUp P w K mg base) (cPr : CPr P w K mg base) : FnOk P w K mg base CX0 3 f fd ["thing"] (spT K [.S] false cHasForm) := by
  refine okv2 F scHasForm rfl (by decide) fun cdv A outer s H E R ts Pt hr hc => ?_
  obtain ⟨t, rfl, dt, k⟩ := hc
  obtain ⟨es, nn, hkd⟩ := hsz.d
  refine ⟨_, (cut_ (if_ (PWv.pt (por_ (pnot_ (ptval_ (fun a => pt_val a) (pcb_ (μ := .M) rc_isi (fun a => pe_callB call_isi (by rfl) B.isi (by decide +kernel) a) (pa1_ (pv_ (κ := .M) 0 (pv 0)) (pa1_ (pty_ (κ := .M) (pe_bltn (v := .ty "tuple") (by rfl) B.tuple (by decide +kernel) rfl)) pa0_))))) (por1_ (pnot_ (ptru_ (pv_ (κ := .M) 0 (pv 0))))))) (one_ (ret_ (pbl_ (κ := .S)))) nil_)
      (cons_ (set_ (κ := .S) 1 (fun a => ps_set (i := 1) scHasForm.nd rfl (Or.inl rfl) a) (pix_ (pv_ (κ := .S) 0 (pv 0)) (pint_ (κ := .M))))
      (cut_ (if_ (PWv.pt (por_ (pnot_ (ptval_ (fun a => pt_val a) (pcb_ (μ := .M) rc_isi (fun a => pe_callB call_isi (by rfl) B.isi (by decide +kernel) a) (pa1_ (pv_ (κ := .M) 1 (pv 1)) (pa1_ (pty_ (κ := .M) (pe_bltn (v := .ty "str") (by rfl) B.str (by decide +kernel) rfl)) pa0_))))) (por_ (ptcmp_ (op_notIn_kd hkd) (re_kdN hsz) (by rfl) (pv_ (κ := .M) 1 (pv 1)) (pglob_ (pe_glob (v := .ref aS) (by rfl) hsz.at_ rfl) (κ := .M))) (por1_ (ptcmp_ op_ne re_nsc (nomark _) (plen_ (μ := .M) (PEv.items (pv_ (κ := .S) 0 (pv 0))) (fun a => pe_callB call_len_seq (by rfl) B.len PySem.boot_len (pa_cons a pa_nil))) (pixD_ (μ := .M) hsz (pglob_ (pe_glob (v := .ref aS) (by rfl) hsz.at_ rfl) (κ := .M)) (pv_ (κ := .M) 1 (pv 1)))))))) (one_ (ret_ (pbl_ (κ := .S)))) nil_)
      (cons_ (if_ (ptcmp_ op_eq re_sc (nomark _) (pv_ (κ := .M) 1 (pv 1)) (pstr_ (κ := .M))) (one_ (ret_ (callS_ (κ := .S) (κs := [.B]) (ms := [.M]) rfl (fun a => cI.pe hr (by decide) (by rfl) a) (pa1_ (pslT_ (μ := .M) (pv_ (κ := .S) 0 (pv 0)) (po1_ (pint_ (κ := .M))) po0_ (fun a b c => pe_slice sl_tupA a b c)) pa0_)))) nil_)
      (cons_ (if_ (ptcmp_ op_eq re_sc (nomark _) (pv_ (κ := .M) 1 (pv 1)) (pstr_ (κ := .M))) (one_ (ret_ (pandV_ (callS_ (κ := .M) (κs := [.B]) (ms := [.M]) rfl (fun a => cN.pe hr (by decide) (by rfl) a) (pa1_ (pix_ (pv_ (κ := .M) 0 (pv 0)) (pint_ (κ := .M))) pa0_)) (pone_ (callS_ (κ := .S) (κs := [.B]) (ms := [.M]) rfl (fun a => cI.pe hr (by decide) (by rfl) a) (pa1_ (pix_ (pv_ (κ := .M) 0 (pv 0)) (pint_ (κ := .M))) pa0_)))))) nil_)
      (cons_ (if_ (ptcmp_ op_in_seq (re_inF false) (by rfl) (pv_ (κ := .M) 1 (pv 1)) (ptup_ (κ := .M) (pa1_ (pstr_ (κ := .S)) (pa1_ (pstr_ (κ := .S)) pa0_)) rfl)) (one_ (ret_ (callS_ (κ := .S) (κs := [.B, .B]) (ms := [.M, .M]) rfl (fun a => cU.pe hr (by decide) (by rfl) a) (pa1_ (pglobI_ (pe_glob (v := .int 4) (by rfl) mJ ⟨tJ, rfl⟩) (κ := .M)) (pa1_ (pix_ (pv_ (κ := .M) 0 (pv 0)) (pint_ (κ := .M))) pa0_))))) nil_)
      (cons_ (if_ (ptcmp_ op_eq re_sc (nomark _) (pv_ (κ := .M) 1 (pv 1)) (pstr_ (κ := .M))) (one_ (ret_ (pandV_ (callS_ (κ := .M) (κs := [.B, .B]) (ms := [.M, .M]) rfl (fun a => cU.pe hr (by decide) (by rfl) a) (pa1_ (pglobI_ (pe_glob (v := .int 3) (by rfl) mBr ⟨tB, rfl⟩) (κ := .M)) (pa1_ (pix_ (pv_ (κ := .M) 0 (pv 0)) (pint_ (κ := .M))) pa0_))) (pone_ (pcb_ (μ := .S) rc_all (fun a => pe_callB (cr_all rfl) (by rfl) hall (by decide +kernel) a) (pa1_ (PEn.up (κ := .M) (plc_ (own := [("branch", 2)]) rfl scHasForm.nd (srcT_ (pix_ (pv_ (κ := .S) 0 (pv 0)) (pint_ (κ := .M)))) (blkOk_by (N := ["thing", "word", "branch"]) (sc := defScope sHasForm) (by decide +kernel)) (fun _ _ _ _ _ => (gnm_ (κ := .S) 2 (by decide) (pg_name (i := 2) scHasForm.nd rfl (Or.inl rfl)))) (fun _ _ _ _ _ => (callS_ (κ := .S) (κs := [.B]) (ms := [.M]) rfl (fun a => cPr.pe hr (by decide) (by rfl) a) (pa1_ (pv_ (κ := .M) 2 (pv 2)) pa0_))) rfl)) pa0_)))))) nil_)
      (one_ (ret_ (pbl_ (κ := .S))))))))))), ?_⟩
  simp only [Tv.wSeq, Tv.wNext, Tv.wIfS, Tv.wSet, Tv.wSetN, Tv.wRet, Tv.wRetO, Tv.wFrz, Tv.wApp, Tv.wOp, Tv.wTest, Tv.wAnd, Tv.wOr, Tv.wNot, Tv.wIf, Tv.wAndV, Tv.wOrV, Tv.wNotV, Tv.wCall, Tv.wCons, Tv.wNil, Tv.wV, Tv.wC, Tv.wTup, Tv.wLst, Tv.wSeqT, Tv.wO, Tv.wLen, Tv.wList, Tv.wTuple, Tv.wCat, Tv.wSl, Tv.wLst1, Tv.wTup1, Tv.wRng1, Tv.wRng2, Tv.wEnum, Tv.wFor, Tv.wLc, Tv.wYes, Tv.wCB, Tv.wipeE, Tv.gSet, Tv.gNilT, Tv.gConsT, Tv.gTupT, Tv.cellOf, Tv.env0, Tv.fEq, Tv.fIn, Tv.fI0, Tv.fI, Tv.fSc, Tv.fIsN, Tv.fIsB, Tv.fIx, Tv.fIxS, Tv.fCatT, Tv.fInt1, Tv.fMin2, List.zipWith_cons_cons, List.zipWith_nil_left, List.length_cons, List.length_nil, List.cons_append, List.nil_append, List.replicate, List.getElem?_cons_zero, List.getElem?_cons_succ, List.set_cons_zero, List.set_cons_succ, Tv.wRoom, Tv.wRoomSet, Tv.wIfDraw, Tv.wStar, Tv.wLen6, Tv.wFld, Tv.wExt, Tv.wTru, Tv.wChain, Tv.fIsi, Tv.fInF, Tv.seq_l, Tv.seq_t, Tv.lst_l, Tv.tup_t, Tv.scal_ii, Tv.scal_ss, Tv.scal_bb, Tv.same_ii, Tv.same_ss, Tv.same_bb, Tv.at_0, Tv.at_1, Tv.at_2, Tv.at_3, Tv.isN_non, Tv.isN_int, Tv.isN_str, Tv.isN_tup, Tv.isN_lst, Tv.isN_bl, Cell.val.injEq, T.op.injEq, forall_const, Tv.isi_non_tuple, Tv.isi_non_str, Tv.isi_non_int, Tv.isi_non_bool, Tv.isi_non_dict, Tv.isi_non_list, Tv.isi_bl_tuple, Tv.isi_bl_str, Tv.isi_bl_int, Tv.isi_bl_bool, Tv.isi_bl_dict, Tv.isi_bl_list, Tv.isi_int_tuple, Tv.isi_int_str, Tv.isi_int_int, Tv.isi_int_bool, Tv.isi_int_dict, Tv.isi_int_list, Tv.isi_str_tuple, Tv.isi_str_str, Tv.isi_str_int, Tv.isi_str_bool, Tv.isi_str_dict, Tv.isi_str_list, Tv.isi_tup_tuple, Tv.isi_tup_str, Tv.isi_tup_int, Tv.isi_tup_bool, Tv.isi_tup_dict, Tv.isi_tup_list, Tv.isi_lst_tuple, Tv.isi_lst_str, Tv.isi_lst_int, Tv.isi_lst_bool, Tv.isi_lst_dict, Tv.isi_lst_list, Tv.isi_dic_tuple, Tv.isi_dic_str, Tv.isi_dic_int, Tv.isi_dic_bool, Tv.isi_dic_dict, Tv.isi_dic_list, V.ty.injEq, Tv.wLc2, Tv.fAll, Tv.wDropX, Tv.wSetX, Tv.wRaise, Tv.wIsi2, Tv.wDead, Tv.wStr1, Tv.fInS, Tv.fAddS, Tv.fLenS, Tv.wDisp, Tv.fDIn, Tv.fDGet, Tv.wISet, ↓reduceIte, Bool.false_eq_true, decide_eq_true_eq, T.int.injEq, T.str.injEq, T.bl.injEq, T.lst.injEq, T.tup.injEq, exists_eq_left', exists_eq_left, exists_and_left, true_and, and_true, reduceCtorEq, ne_eq, not_false_eq_true, not_true_eq_false, forall_eq', forall_eq, Option.some.injEq, Option.isSome_some]
  refine ⟨fun e => e = [.val t, .un, .un] ∧ ∃ u us, t = .tup (u :: us), ?_, ?_⟩
  · simp only [Tl.wIxD, List.map, Tv.wSeq, Tv.wNext, Tv.wIfS, Tv.wSet, Tv.wSetN, Tv.wRet, Tv.wRetO, Tv.wFrz, Tv.wApp, Tv.wOp, Tv.wTest, Tv.wAnd, Tv.wOr, Tv.wNot, Tv.wIf, Tv.wAndV, Tv.wOrV, Tv.wNotV, Tv.wCall, Tv.wCons, Tv.wNil, Tv.wV, Tv.wC, Tv.wTup, Tv.wLst, Tv.wSeqT, Tv.wO, Tv.wLen, Tv.wList, Tv.wTuple, Tv.wCat, Tv.wSl, Tv.wLst1, Tv.wTup1, Tv.wRng1, Tv.wRng2, Tv.wEnum, Tv.wFor, Tv.wLc, Tv.wYes, Tv.wCB, Tv.wipeE, Tv.gSet, Tv.gNilT, Tv.gConsT, Tv.gTupT, Tv.cellOf, Tv.env0, Tv.fEq, Tv.fIn, Tv.fI0, Tv.fI, Tv.fSc, Tv.fIsN, Tv.fIsB, Tv.fIx, Tv.fIxS, Tv.fCatT, Tv.fInt1, Tv.fMin2, List.zipWith_cons_cons, List.zipWith_nil_left, List.length_cons, List.length_nil, List.cons_append, List.nil_append, List.replicate, List.getElem?_cons_zero, List.getElem?_cons_succ, List.set_cons_zero, List.set_cons_succ, Tv.wRoom, Tv.wRoomSet, Tv.wIfDraw, Tv.wStar, Tv.wLen6, Tv.wFld, Tv.wExt, Tv.wTru, Tv.wChain, Tv.fIsi, Tv.fInF, Tv.seq_l, Tv.seq_t, Tv.lst_l, Tv.tup_t, Tv.scal_ii, Tv.scal_ss, Tv.scal_bb, Tv.same_ii, Tv.same_ss, Tv.same_bb, Tv.at_0, Tv.at_1, Tv.at_2, Tv.at_3, Tv.isN_non, Tv.isN_int, Tv.isN_str, Tv.isN_tup, Tv.isN_lst, Tv.isN_bl, Cell.val.injEq, T.op.injEq, forall_const, Tv.isi_non_tuple, Tv.isi_non_str, Tv.isi_non_int, Tv.isi_non_bool, Tv.isi_non_dict, Tv.isi_non_list, Tv.isi_bl_tuple, Tv.isi_bl_str, Tv.isi_bl_int, Tv.isi_bl_bool, Tv.isi_bl_dict, Tv.isi_bl_list, Tv.isi_int_tuple, Tv.isi_int_str, Tv.isi_int_int, Tv.isi_int_bool, Tv.isi_int_dict, Tv.isi_int_list, Tv.isi_str_tuple, Tv.isi_str_str, Tv.isi_str_int, Tv.isi_str_bool, Tv.isi_str_dict, Tv.isi_str_list, Tv.isi_tup_tuple, Tv.isi_tup_str, Tv.isi_tup_int, Tv.isi_tup_bool, Tv.isi_tup_dict, Tv.isi_tup_list, Tv.isi_lst_tuple, Tv.isi_lst_str, Tv.isi_lst_int, Tv.isi_lst_bool, Tv.isi_lst_dict, Tv.isi_lst_list, Tv.isi_dic_tuple, Tv.isi_dic_str, Tv.isi_dic_int, Tv.isi_dic_bool, Tv.isi_dic_dict, Tv.isi_dic_list, V.ty.injEq, Tv.wLc2, Tv.fAll, Tv.wDropX, Tv.wSetX, Tv.wRaise, Tv.wIsi2, Tv.wDead, Tv.wStr1, Tv.fInS, Tv.fAddS, Tv.fLenS, Tv.wDisp, Tv.fDIn, Tv.fDGet, Tv.wISet, ↓reduceIte, Bool.false_eq_true, decide_eq_true_eq, T.int.injEq, T.str.injEq, T.bl.injEq, T.lst.injEq, T.tup.injEq, exists_eq_left', exists_eq_left, exists_and_left, true_and, and_true, reduceCtorEq, ne_eq, not_false_eq_true, not_true_eq_false, forall_eq', forall_eq, Option.some.injEq, Option.isSome_some]
    refine ⟨_, _, rfl, _, isiU (dat_d dt), ?_⟩
    have fb : (∀ u us, t ≠ .tup (u :: us)) → Pt (.bl false) := fun h => by
      rw [form_no fun z us e => (h _ _ e).elim] at k
      exact k
    cases t with
    | tup us =>
      cases us with
      | nil => exact (if_neg Bool.false_ne_true).mpr ⟨_, rfl, (if_pos rfl).mpr (fb fun u us e => by cases e)⟩
      | cons u us => exact (if_neg Bool.false_ne_true).mpr ⟨_, rfl, (if_neg Bool.false_ne_true).mpr ⟨u, us, rfl⟩⟩
    | obj C fs => cases dt
    | op v => cases dt
    | exc C d us => cases dt
    | mk o C us => cases dt
    | dic v => cases dt
    | _ => exact (if_pos rfl).mpr (fb fun u us e => by cases e)
  · rintro _ ⟨rfl, u, us, rfl⟩
    simp only [Tl.wIxD, List.map, Tv.wSeq, Tv.wNext, Tv.wIfS, Tv.wSet, Tv.wSetN, Tv.wRet, Tv.wRetO, Tv.wFrz, Tv.wApp, Tv.wOp, Tv.wTest, Tv.wAnd, Tv.wOr, Tv.wNot, Tv.wIf, Tv.wAndV, Tv.wOrV, Tv.wNotV, Tv.wCall, Tv.wCons, Tv.wNil, Tv.wV, Tv.wC, Tv.wTup, Tv.wLst, Tv.wSeqT, Tv.wO, Tv.wLen, Tv.wList, Tv.wTuple, Tv.wCat, Tv.wSl, Tv.wLst1, Tv.wTup1, Tv.wRng1, Tv.wRng2, Tv.wEnum, Tv.wFor, Tv.wLc, Tv.wYes, Tv.wCB, Tv.wipeE, Tv.gSet, Tv.gNilT, Tv.gConsT, Tv.gTupT, Tv.cellOf, Tv.env0, Tv.fEq, Tv.fIn, Tv.fI0, Tv.fI, Tv.fSc, Tv.fIsN, Tv.fIsB, Tv.fIx, Tv.fIxS, Tv.fCatT, Tv.fInt1, Tv.fMin2, List.zipWith_cons_cons, List.zipWith_nil_left, List.length_cons, List.length_nil, List.cons_append, List.nil_append, List.replicate, List.getElem?_cons_zero, List.getElem?_cons_succ, List.set_cons_zero, List.set_cons_succ, Tv.wRoom, Tv.wRoomSet, Tv.wIfDraw, Tv.wStar, Tv.wLen6, Tv.wFld, Tv.wExt, Tv.wTru, Tv.wChain, Tv.fIsi, Tv.fInF, Tv.seq_l, Tv.seq_t, Tv.lst_l, Tv.tup_t, Tv.scal_ii, Tv.scal_ss, Tv.scal_bb, Tv.same_ii, Tv.same_ss, Tv.same_bb, Tv.at_0, Tv.at_1, Tv.at_2, Tv.at_3, Tv.isN_non, Tv.isN_int, Tv.isN_str, Tv.isN_tup, Tv.isN_lst, Tv.isN_bl, Cell.val.injEq, T.op.injEq, forall_const, Tv.isi_non_tuple, Tv.isi_non_str, Tv.isi_non_int, Tv.isi_non_bool, Tv.isi_non_dict, Tv.isi_non_list, Tv.isi_bl_tuple, Tv.isi_bl_str, Tv.isi_bl_int, Tv.isi_bl_bool, Tv.isi_bl_dict, Tv.isi_bl_list, Tv.isi_int_tuple, Tv.isi_int_str, Tv.isi_int_int, Tv.isi_int_bool, Tv.isi_int_dict, Tv.isi_int_list, Tv.isi_str_tuple, Tv.isi_str_str, Tv.isi_str_int, Tv.isi_str_bool, Tv.isi_str_dict, Tv.isi_str_list, Tv.isi_tup_tuple, Tv.isi_tup_str, Tv.isi_tup_int, Tv.isi_tup_bool, Tv.isi_tup_dict, Tv.isi_tup_list, Tv.isi_lst_tuple, Tv.isi_lst_str, Tv.isi_lst_int, Tv.isi_lst_bool, Tv.isi_lst_dict, Tv.isi_lst_list, Tv.isi_dic_tuple, Tv.isi_dic_str, Tv.isi_dic_int, Tv.isi_dic_bool, Tv.isi_dic_dict, Tv.isi_dic_list, V.ty.injEq, Tv.wLc2, Tv.fAll, Tv.wDropX, Tv.wSetX, Tv.wRaise, Tv.wIsi2, Tv.wDead, Tv.wStr1, Tv.fInS, Tv.fAddS, Tv.fLenS, Tv.wDisp, Tv.fDIn, Tv.fDGet, Tv.wISet, ↓reduceIte, Bool.false_eq_true, decide_eq_true_eq, T.int.injEq, T.str.injEq, T.bl.injEq, T.lst.injEq, T.tup.injEq, exists_eq_left', exists_eq_left, exists_and_left, true_and, and_true, reduceCtorEq, ne_eq, not_false_eq_true, not_true_eq_false, forall_eq', forall_eq, Option.some.injEq, Option.isSome_some]
    refine ⟨fun e => e = [.val (.tup (u :: us)), .val u, .un] ∧ ∃ z, u = .str z ∧ szOf z = some (us.length + 1), ?_, ?_⟩
    · simp only [Tl.wIxD, List.map, Tv.wSeq, Tv.wNext, Tv.wIfS, Tv.wSet, Tv.wSetN, Tv.wRet, Tv.wRetO, Tv.wFrz, Tv.wApp, Tv.wOp, Tv.wTest, Tv.wAnd, Tv.wOr, Tv.wNot, Tv.wIf, Tv.wAndV, Tv.wOrV, Tv.wNotV, Tv.wCall, Tv.wCons, Tv.wNil, Tv.wV, Tv.wC, Tv.wTup, Tv.wLst, Tv.wSeqT, Tv.wO, Tv.wLen, Tv.wList, Tv.wTuple, Tv.wCat, Tv.wSl, Tv.wLst1, Tv.wTup1, Tv.wRng1, Tv.wRng2, Tv.wEnum, Tv.wFor, Tv.wLc, Tv.wYes, Tv.wCB, Tv.wipeE, Tv.gSet, Tv.gNilT, Tv.gConsT, Tv.gTupT, Tv.cellOf, Tv.env0, Tv.fEq, Tv.fIn, Tv.fI0, Tv.fI, Tv.fSc, Tv.fIsN, Tv.fIsB, Tv.fIx, Tv.fIxS, Tv.fCatT, Tv.fInt1, Tv.fMin2, List.zipWith_cons_cons, List.zipWith_nil_left, List.length_cons, List.length_nil, List.cons_append, List.nil_append, List.replicate, List.getElem?_cons_zero, List.getElem?_cons_succ, List.set_cons_zero, List.set_cons_succ, Tv.wRoom, Tv.wRoomSet, Tv.wIfDraw, Tv.wStar, Tv.wLen6, Tv.wFld, Tv.wExt, Tv.wTru, Tv.wChain, Tv.fIsi, Tv.fInF, Tv.seq_l, Tv.seq_t, Tv.lst_l, Tv.tup_t, Tv.scal_ii, Tv.scal_ss, Tv.scal_bb, Tv.same_ii, Tv.same_ss, Tv.same_bb, Tv.at_0, Tv.at_1, Tv.at_2, Tv.at_3, Tv.isN_non, Tv.isN_int, Tv.isN_str, Tv.isN_tup, Tv.isN_lst, Tv.isN_bl, Cell.val.injEq, T.op.injEq, forall_const, Tv.isi_non_tuple, Tv.isi_non_str, Tv.isi_non_int, Tv.isi_non_bool, Tv.isi_non_dict, Tv.isi_non_list, Tv.isi_bl_tuple, Tv.isi_bl_str, Tv.isi_bl_int, Tv.isi_bl_bool, Tv.isi_bl_dict, Tv.isi_bl_list, Tv.isi_int_tuple, Tv.isi_int_str, Tv.isi_int_int, Tv.isi_int_bool, Tv.isi_int_dict, Tv.isi_int_list, Tv.isi_str_tuple, Tv.isi_str_str, Tv.isi_str_int, Tv.isi_str_bool, Tv.isi_str_dict, Tv.isi_str_list, Tv.isi_tup_tuple, Tv.isi_tup_str, Tv.isi_tup_int, Tv.isi_tup_bool, Tv.isi_tup_dict, Tv.isi_tup_list, Tv.isi_lst_tuple, Tv.isi_lst_str, Tv.isi_lst_int, Tv.isi_lst_bool, Tv.isi_lst_dict, Tv.isi_lst_list, Tv.isi_dic_tuple, Tv.isi_dic_str, Tv.isi_dic_int, Tv.isi_dic_bool, Tv.isi_dic_dict, Tv.isi_dic_list, V.ty.injEq, Tv.wLc2, Tv.fAll, Tv.wDropX, Tv.wSetX, Tv.wRaise, Tv.wIsi2, Tv.wDead, Tv.wStr1, Tv.fInS, Tv.fAddS, Tv.fLenS, Tv.wDisp, Tv.fDIn, Tv.fDGet, Tv.wISet, ↓reduceIte, Bool.false_eq_true, decide_eq_true_eq, T.int.injEq, T.str.injEq, T.bl.injEq, T.lst.injEq, T.tup.injEq, exists_eq_left', exists_eq_left, exists_and_left, true_and, and_true, reduceCtorEq, ne_eq, not_false_eq_true, not_true_eq_false, forall_eq', forall_eq, Option.some.injEq, Option.isSome_some]
      have du : datR u = true := dat_i dt (by simp)
      refine ⟨_, _, rfl, _, isiS (dat_d du), ?_⟩
      have fb : (∀ z, u = .str z → szOf z ≠ some (us.length + 1)) → Pt (.bl false) := fun h => by
        rw [form_no fun z vs e => by cases e; exact h _ rfl] at k
        exact k
      cases u with
      | str z =>
        refine (if_neg Bool.false_ne_true).mpr ⟨z, rfl, ?_⟩
        cases hz : szOf z with
        | none => exact (if_pos rfl).mpr (fb fun z' e => by cases e; rw [hz]; exact fun q => by cases q)
        | some m =>
          refine (if_neg Bool.false_ne_true).mpr ⟨z, rfl, m, hz, ?_⟩
          by_cases e : m = us.length + 1
          · subst e
            refine (if_neg ?_).mpr ⟨z, rfl, hz⟩
            rw [decide_eq_true rfl]
            exact Bool.false_ne_true
          · refine (if_pos ?_).mpr (fb fun z' q => by cases q; rw [hz]; exact fun q => e (Option.some.inj q))
            rw [decide_eq_false (by omega)]
            rfl
      | obj C fs => cases du
      | op v => cases du
      | exc C d us => cases du
      | mk o C us => cases du
      | dic v => cases du
      | _ => exact (if_pos rfl).mpr (fb fun z e => by cases e)
    · rintro _ ⟨rfl, z, rfl, hz⟩
      simp only [Tl.wIxD, List.map, Tv.wSeq, Tv.wNext, Tv.wIfS, Tv.wSet, Tv.wSetN, Tv.wRet, Tv.wRetO, Tv.wFrz, Tv.wApp, Tv.wOp, Tv.wTest, Tv.wAnd, Tv.wOr, Tv.wNot, Tv.wIf, Tv.wAndV, Tv.wOrV, Tv.wNotV, Tv.wCall, Tv.wCons, Tv.wNil, Tv.wV, Tv.wC, Tv.wTup, Tv.wLst, Tv.wSeqT, Tv.wO, Tv.wLen, Tv.wList, Tv.wTuple, Tv.wCat, Tv.wSl, Tv.wLst1, Tv.wTup1, Tv.wRng1, Tv.wRng2, Tv.wEnum, Tv.wFor, Tv.wLc, Tv.wYes, Tv.wCB, Tv.wipeE, Tv.gSet, Tv.gNilT, Tv.gConsT, Tv.gTupT, Tv.cellOf, Tv.env0, Tv.fEq, Tv.fIn, Tv.fI0, Tv.fI, Tv.fSc, Tv.fIsN, Tv.fIsB, Tv.fIx, Tv.fIxS, Tv.fCatT, Tv.fInt1, Tv.fMin2, List.zipWith_cons_cons, List.zipWith_nil_left, List.length_cons, List.length_nil, List.cons_append, List.nil_append, List.replicate, List.getElem?_cons_zero, List.getElem?_cons_succ, List.set_cons_zero, List.set_cons_succ, Tv.wRoom, Tv.wRoomSet, Tv.wIfDraw, Tv.wStar, Tv.wLen6, Tv.wFld, Tv.wExt, Tv.wTru, Tv.wChain, Tv.fIsi, Tv.fInF, Tv.seq_l, Tv.seq_t, Tv.lst_l, Tv.tup_t, Tv.scal_ii, Tv.scal_ss, Tv.scal_bb, Tv.same_ii, Tv.same_ss, Tv.same_bb, Tv.at_0, Tv.at_1, Tv.at_2, Tv.at_3, Tv.isN_non, Tv.isN_int, Tv.isN_str, Tv.isN_tup, Tv.isN_lst, Tv.isN_bl, Cell.val.injEq, T.op.injEq, forall_const, Tv.isi_non_tuple, Tv.isi_non_str, Tv.isi_non_int, Tv.isi_non_bool, Tv.isi_non_dict, Tv.isi_non_list, Tv.isi_bl_tuple, Tv.isi_bl_str, Tv.isi_bl_int, Tv.isi_bl_bool, Tv.isi_bl_dict, Tv.isi_bl_list, Tv.isi_int_tuple, Tv.isi_int_str, Tv.isi_int_int, Tv.isi_int_bool, Tv.isi_int_dict, Tv.isi_int_list, Tv.isi_str_tuple, Tv.isi_str_str, Tv.isi_str_int, Tv.isi_str_bool, Tv.isi_str_dict, Tv.isi_str_list, Tv.isi_tup_tuple, Tv.isi_tup_str, Tv.isi_tup_int, Tv.isi_tup_bool, Tv.isi_tup_dict, Tv.isi_tup_list, Tv.isi_lst_tuple, Tv.isi_lst_str, Tv.isi_lst_int, Tv.isi_lst_bool, Tv.isi_lst_dict, Tv.isi_lst_list, Tv.isi_dic_tuple, Tv.isi_dic_str, Tv.isi_dic_int, Tv.isi_dic_bool, Tv.isi_dic_dict, Tv.isi_dic_list, V.ty.injEq, Tv.wLc2, Tv.fAll, Tv.wDropX, Tv.wSetX, Tv.wRaise, Tv.wIsi2, Tv.wDead, Tv.wStr1, Tv.fInS, Tv.fAddS, Tv.fLenS, Tv.wDisp, Tv.fDIn, Tv.fDGet, Tv.wISet, ↓reduceIte, Bool.false_eq_true, decide_eq_true_eq, T.int.injEq, T.str.injEq, T.bl.injEq, T.lst.injEq, T.tup.injEq, exists_eq_left', exists_eq_left, exists_and_left, true_and, and_true, reduceCtorEq, ne_eq, not_false_eq_true, not_true_eq_false, forall_eq', forall_eq, Option.some.injEq, Option.isSome_some]
      have dd : ∀ x : T, x ∈ us → datR x = true := fun x h => dat_i dt (List.mem_cons_of_mem _ h)
      rcases sz_cases hz with ⟨rfl, e⟩ | ⟨rfl, e⟩ | ⟨rfl, e⟩ | ⟨rfl, e⟩ | ⟨rfl, e⟩ | ⟨rfl, e⟩ | ⟨rfl, e⟩
      · match us, e, dd, k with
        | [a, b, c], _, dd, k =>
          rw [formB_atmost] at k
          exact (if_pos (by decide +kernel)).mpr ⟨_, rfl, rfl, fun us e u hu => by cases e; exact dat_d (dd _ hu), k⟩
      · match us, e, dd, k with
        | [a], _, dd, k =>
          rw [formB_missing] at k
          exact (if_neg (by decide +kernel)).mpr <| (if_neg (by decide +kernel)).mpr ⟨rfl, rfl, (if_neg (by decide +kernel)).mpr <| (if_neg (by decide +kernel)).mpr <| k⟩
      · match us, e, dd, k with
        | [a, b, c], _, dd, k =>
          rw [formB_must] at k
          refine (if_neg (by decide +kernel)).mpr <| (if_pos (by decide +kernel)).mpr ⟨_, Tv.at_1, a, rfl, dat_0 (dd _ (by simp)), _, rfl, ?_⟩
          cases ea : nameB a with
          | true =>
            rw [ea] at k
            exact (if_pos rfl).mpr ⟨_, Tv.at_2, b, rfl, dat_d (dd _ (by simp)), fun us e u hu => by subst e; exact dat_d (dat_i (dd (.tup us) (by simp)) hu), k⟩
          | false =>
            rw [ea] at k
            exact (if_neg Bool.false_ne_true).mpr k
      · match us, e, dd, k with
        | [a], _, dd, k =>
          rw [formB_not] at k
          exact (if_neg (by decide +kernel)).mpr <| (if_neg (by decide +kernel)).mpr ⟨rfl, rfl, (if_neg (by decide +kernel)).mpr <| (if_neg (by decide +kernel)).mpr <| k⟩
      · match us, e, dd, k with
        | [a], _, dd, k =>
          rw [formB_join (.inl rfl)] at k
          exact (if_neg (by decide +kernel)).mpr <| (if_neg (by decide +kernel)).mpr ⟨rfl, rfl, (if_pos (by decide +kernel)).mpr ⟨_, Tv.at_1, 4, _, rfl, dat_d (dd _ (by simp)), k⟩⟩
      · match us, e, dd, k with
        | [a], _, dd, k =>
          rw [formB_join (.inr rfl)] at k
          exact (if_neg (by decide +kernel)).mpr <| (if_neg (by decide +kernel)).mpr ⟨rfl, rfl, (if_pos (by decide +kernel)).mpr ⟨_, Tv.at_1, 4, _, rfl, dat_d (dd _ (by simp)), k⟩⟩
      · match us, e, dd, k with
        | [a, b], _, dd, k =>
          rw [formB_case] at k
          refine (if_neg (by decide +kernel)).mpr <| (if_neg (by decide +kernel)).mpr ⟨rfl, rfl, (if_neg (by decide +kernel)).mpr <| (if_pos (by decide +kernel)).mpr ⟨_, Tv.at_1, 3, _, rfl, dat_d (dd _ (by simp)), _, rfl, ?_⟩⟩
          rw [branches_up] at k
          cases eu : upToB 3 a with
          | false =>
            rw [eu] at k
            exact (if_neg Bool.false_ne_true).mpr k
          | true =>
            rw [eu] at k
            have da : datR a = true := dd _ (by simp)
            cases a with
            | tup bs =>
              have l3 := of_decide_eq_true (Bool.and_eq_true_iff.mp (show (decide (1 ≤ bs.length) && decide (bs.length ≤ 3)) = true from eu)).2
              refine (if_pos rfl).mpr ⟨_, Tv.at_1, bs, rfl, by omega, fun i acc => acc = (bs.take i).map fun b => T.bl (pairB b), rfl, fun i t acc hi ha => ?_, fun acc ha => ?_⟩
              · refine ⟨t, rfl, dat_d (dat_i da (List.mem_of_getElem? hi)), ?_⟩
                show acc ++ [.bl (pairB t)] = (bs.take (i + 1)).map fun b => T.bl (pairB b)
                rw [ha, List.take_add_one, hi, List.map_append]
                rfl
              · have ha : acc = (bs.take bs.length).map fun b => T.bl (pairB b) := ha
                rw [List.take_length] at ha
                refine ⟨bs.map pairB, by rw [ha, List.map_map]; rfl, ?_⟩
                rw [List.all_map]
                exact k
            | _ => cases eu
end
end Tl
/-! fault_of, check_part -/
namespace Tl
open PySem PySem.Spec PyProof.Rows L2 Lw Tv Nm
abbrev sBadPart3 : Stmt := inClass (Lw.top 4) 0
/-- the part's first fault in reading order, with its place -/
def firstT (f : Nat → T → Option (List T × Str)) : Nat → List T → Option (List T × Str)
  | _, [] => none
  | i, u :: us => match f i u with
    | some y => some y
    | none => firstT f (i + 1) us
def chkT (zs : List Str) : Nat → T → List T → Option (List T × Str)
  | 0, _, _ => none
  | n + 1, t, p => if formB t = true then (if termsB zs t = true then firstT (fun i u => chkT zs n u (p ++ [T.int (i : Int)])) 0 (innerT t) else some (p, "name")) else some (p, "form")
/-- the parts stand at most so deep -/
def deepT : Nat → T → Prop
  | 0, _ => False
  | n + 1, t => formB t = true → ∀ u ∈ innerT t, deepT n u
def cCheck (C CB : Addr) (n : Nat) : CtX := fun _ ts Pt PX => ∃ (zs : List Str) (t : T) (p : List T), ts = [colsT C zs, t, .tup p] ∧ datR t = true ∧ deepT n t ∧ p.length + n ≤ 1000 ∧
  (chkT zs n t p = none → Pt .non) ∧ ∀ q why, chkT zs n t p = some (q, why) → PX CB [("why", .str why), ("place", .tup q)]
theorem dat_inner {t u : T} (hf : formB t = true) (hd : datR t = true) (m : u ∈ innerT t) : datR u = true := by
  have ff := form_of hf
  cases ff with
  | atmost a b n h =>
    rw [inner_atmost] at m
    cases m
  | must c l p h1 h2 =>
    rw [inner_must] at m
    rw [List.mem_singleton.mp m]
    exact dat_i hd (by simp)
  | missing a =>
    rw [inner_missing] at m
    cases m
  | not a =>
    rw [inner_not] at m
    rw [List.mem_singleton.mp m]
    exact dat_i hd (by simp)
  | join x ps h h1 h2 =>
    rw [inner_join h] at m
    exact dat_i (dat_i hd (t := .tup ps) (by simp)) m
  | case bs l h1 h2 =>
    rw [inner_case] at m
    rcases List.mem_append.mp m with m | m
    · obtain ⟨b, hb, m⟩ := List.mem_flatMap.mp m
      have d1 := dat_i hd (t := .tup (bs.map fun b : T × T => T.tup [b.1, b.2])) (by simp)
      have d2 := dat_i d1 (t := .tup [b.1, b.2]) (List.mem_map.mpr ⟨b, hb, rfl⟩)
      exact dat_i d2 m
    · rw [List.mem_singleton.mp m]
      exact dat_i hd (by simp)
theorem step_same {R : Rs} {F H H' : Hp} (ok : Ok R F H) (e : Same H H') : Step R F H F H' := by
  have g : Same (sans R.ad H) (sans R.ad H') := fun a o h => by
    obtain ⟨h1, h2⟩ := sans_some h
    rw [sans_of h1]
    exact e _ _ h2
  refine ⟨Same.refl _, g, fun a o h z => (by rw [z] at h; cases h), ⟨ok.sub.trans g, R.loc ok.inv fun a ha => ?_⟩⟩
  cases q : H a with
  | none => exact (R.al ok.inv ha q).elim
  | some o => exact e _ _ q
theorem rep_t {K : PySem.W.Frag} {G : Hp} {v : V} {t : T} (h : Rep K G v t) (hd : isD t = true) (hs : isStrB t = false) : ∃ n : String, kitB n "str" = some false ∧ TyX K G v (.type n) ∧ okV v = false := by
  have e := isiS hd
  rw [hs] at e
  obtain ⟨n, e1, e2⟩ := Option.bind_eq_some_iff.mp e
  refine ⟨n, e2, rep_ty h e1, ?_⟩
  cases h with
  | str x => cases hs
  | op v => cases hd
  | exc g l => cases hd
  | mk g l => cases hd
  | _ => rfl
theorem name_is {K : PySem.W.Frag} {vs : List V} {H : Hp} {Q : VK} {E : XK} (h : spT K [.B] false cIsName vs H Q E) : spIsName K vs H Q E := by
  obtain ⟨R, F, ts, Pt, ok, r, ⟨t, rfl, hd, k⟩, hq⟩ := h
  obtain ⟨v, rfl, rv⟩ := repA_B r
  have m : Same (base .B R H F H) H := base_H (Step.refl ok)
  have fin : ∀ b, nameB t = b → ∀ H', Same H H' → Q (.bl b) H' := fun b e H' s => by
    subst e
    exact hq _ _ _ _ k (step_same ok s) (.bl _)
  cases e : isStrB t with
  | true =>
    cases t with
    | str z =>
      rw [rep_str rv]
      exact ⟨_, rfl, .inl ⟨z, rfl, of_decide_eq_true hd⟩, fin _ rfl⟩
    | _ => cases e
  | false =>
    have d : isD t = true := by
      cases t with
      | str z => cases e
      | _ => exact hd
    obtain ⟨n, e1, e2, e3⟩ := rep_t rv d e
    refine ⟨v, rfl, .inr ⟨n, e3, e1, tyX_mono m e2⟩, fin _ ?_⟩
    rw [e3]
    cases t with
    | str z => cases e
    | _ => rfl
/-- the class BadPart -/
structure Bp (K : PySem.W.Frag) (mg : Str → Option Value) (CB fI : Addr) : Prop where
  T : OexC K CB
  iC : PySem.W.findIn K (.ref CB) "__init__" = some (some (.ref fI))
  tI : PySem.W.typeIn K (.ref fI) = some (.type "function")
  n1 : PySem.W.findIn K (.ref CB) "place" = some none
  n2 : PySem.W.findIn K (.ref CB) "why" = some none
  g : mg "BadPart" = some (.ref CB)
section
variable {P : Program} {w : World} {K : PySem.W.Frag} {mg : Str → Option Value} {base : Heap}
theorem scBadPart3 : FnScope ["self", "place", "why"] ["self", "place", "why"] (defScope sBadPart3) := ⟨rfl, rfl, rfl, by decide +kernel, rfl, by decide +kernel, by decide +kernel⟩
theorem okBadPart3 {f CB : Addr} {fd : FuncData} (F : Fun K "__init__" "BadPart.__init__" sBadPart3 f fd) (D : Bp K mg CB f) : FnOk P w K mg base CX0 1 f fd ["self", "place", "why"] (spErrG CB ["place", "why"]) := by
  refine F.ok scBadPart3 (fun vs H Q E h => ?_) (fun cdv A outer s H vs Q E hr h => ?_)
  · obtain ⟨a, ys, rfl, hl, _⟩ := h
    exact congrArg Nat.succ hl
  · obtain ⟨a, ys, rfl, hl, ha, k⟩ := h
    obtain ⟨y, z, rfl⟩ : ∃ y z, ys = [y, z] := by
      match ys, hl with
      | [y, z], _ => exact ⟨y, z, rfl⟩
    refine ⟨_, pss_cons (ps_ost (pv 0) (pv 1)) (pss_one (ps_ost (pv 0) (pv 2))), ?_⟩
    refine ⟨_, rfl, _, rfl, a, CB, rfl, D.T, D.n1, .inl ⟨ha, fun dx hn ne => ?_⟩⟩
    refine ⟨_, rfl, _, rfl, a, CB, rfl, D.T, D.n2, .inr ⟨dx, _, upd_same, by rw [upd_ne ne, upd_same], (by show 1 ≤ 900; decide), ?_⟩⟩
    have kk := k dx hn ne
    have e : ∀ x y z : HO, upd (upd (upd H dx x) a y) dx z = upd (upd H dx z) a y := fun x y z => by
      funext b
      by_cases bd : b = dx
      · subst bd
        rw [upd_same, upd_ne ne, upd_same]
      · rw [upd_ne bd]
        by_cases ba : b = a
        · subst ba
          rw [upd_same, upd_same]
        · rw [upd_ne ba, upd_ne ba, upd_ne bd, upd_ne bd]
    rw [e]
    exact kk
abbrev CHf (P : Program) (w : World) (K : PySem.W.Frag) (mg : Str → Option Value) (base : Heap) : Prop := Cl P w K mg base 3 "has_form" (spT K [.S] false cHasForm)
abbrev CRt (P : Program) (w : World) (K : PySem.W.Frag) (mg : Str → Option Value) (base : Heap) (C : Addr) : Prop := Cl P w K mg base 4 "has_right_terms" (spT K [.B, .S] false (cRight C))
abbrev CFo (P : Program) (w : World) (K : PySem.W.Frag) (mg : Str → Option Value) (base : Heap) (C : Addr) : Prop := Cl P w K mg base 5 "fault_of" (spT K [.B, .S] false (cFaultOf C))
abbrev CIn (P : Program) (w : World) (K : PySem.W.Frag) (mg : Str → Option Value) (base : Heap) : Prop := Cl P w K mg base 1 "inner_parts" (spT K [.S] true cInner)
abbrev CCk (P : Program) (w : World) (K : PySem.W.Frag) (mg : Str → Option Value) (base : Heap) (C CB : Addr) (n : Nat) : Prop := ClX P w K mg base (6 + n) "check_part" (spTX K [.S, .S, .S] false (cCheck C CB n))

theorem scFaultOf : FnScope ["columns", "thing"] ["columns", "thing"] (defScope sFaultOf) := ⟨rfl, rfl, rfl, by decide +kernel, rfl, by decide +kernel, by decide +kernel⟩
theorem okFaultOf {f : Addr} {fd : FuncData} (F : Fun K "fault_of" "fault_of" sFaultOf f fd) (B : Bt mg) {C : Addr} (cF : CHf P w K mg base) (cR : CRt P w K mg base C) : FnOk P w K mg base CX0 5 f fd ["columns", "thing"] (spT K [.B, .S] false (cFaultOf C)) := by
  refine okv2 F scFaultOf rfl (by decide) fun cdv A outer s H E R ts Pt hr hc => ?_
  obtain ⟨zs, t, rfl, dt, k⟩ := hc
  refine ⟨_, (cons_ (if_ (pnot_ (ptval_ (fun a => pt_val a) (callS_ (κ := .M) (κs := [.S]) (ms := [.S]) rfl (fun a => cF.pe hr (by decide) (by rfl) a) (pa1_ (pv_ (κ := .S) 1 (pv 1)) pa0_)))) (one_ (ret_ (pstr_ (κ := .S)))) nil_)
      (cons_ (if_ (pnot_ (ptval_ (fun a => pt_val a) (callS_ (κ := .M) (κs := [.B, .S]) (ms := [.M, .S]) rfl (fun a => cR.pe hr (by decide) (by rfl) a) (pa1_ (pv_ (κ := .M) 0 (pv 0)) (pa1_ (pv_ (κ := .S) 1 (pv 1)) pa0_))))) (one_ (ret_ (pstr_ (κ := .S)))) nil_)
      (one_ (ret_ (pnon_ (κ := .S)))))), ?_⟩
  simp only [Tv.wSeq, Tv.wNext, Tv.wIfS, Tv.wSet, Tv.wSetN, Tv.wRet, Tv.wRetO, Tv.wFrz, Tv.wApp, Tv.wOp, Tv.wTest, Tv.wAnd, Tv.wOr, Tv.wNot, Tv.wIf, Tv.wAndV, Tv.wOrV, Tv.wNotV, Tv.wCall, Tv.wCons, Tv.wNil, Tv.wV, Tv.wC, Tv.wTup, Tv.wLst, Tv.wSeqT, Tv.wO, Tv.wLen, Tv.wList, Tv.wTuple, Tv.wCat, Tv.wSl, Tv.wLst1, Tv.wTup1, Tv.wRng1, Tv.wRng2, Tv.wEnum, Tv.wFor, Tv.wLc, Tv.wYes, Tv.wCB, Tv.wipeE, Tv.gSet, Tv.gNilT, Tv.gConsT, Tv.gTupT, Tv.cellOf, Tv.env0, Tv.fEq, Tv.fIn, Tv.fI0, Tv.fI, Tv.fSc, Tv.fIsN, Tv.fIsB, Tv.fIx, Tv.fIxS, Tv.fCatT, Tv.fInt1, Tv.fMin2, List.zipWith_cons_cons, List.zipWith_nil_left, List.length_cons, List.length_nil, List.cons_append, List.nil_append, List.replicate, List.getElem?_cons_zero, List.getElem?_cons_succ, List.set_cons_zero, List.set_cons_succ, Tv.wRoom, Tv.wRoomSet, Tv.wIfDraw, Tv.wStar, Tv.wLen6, Tv.wFld, Tv.wExt, Tv.wTru, Tv.wChain, Tv.fIsi, Tv.fInF, Tv.seq_l, Tv.seq_t, Tv.lst_l, Tv.tup_t, Tv.scal_ii, Tv.scal_ss, Tv.scal_bb, Tv.same_ii, Tv.same_ss, Tv.same_bb, Tv.at_0, Tv.at_1, Tv.at_2, Tv.at_3, Tv.isN_non, Tv.isN_int, Tv.isN_str, Tv.isN_tup, Tv.isN_lst, Tv.isN_bl, Cell.val.injEq, T.op.injEq, forall_const, Tv.isi_non_tuple, Tv.isi_non_str, Tv.isi_non_int, Tv.isi_non_bool, Tv.isi_non_dict, Tv.isi_non_list, Tv.isi_bl_tuple, Tv.isi_bl_str, Tv.isi_bl_int, Tv.isi_bl_bool, Tv.isi_bl_dict, Tv.isi_bl_list, Tv.isi_int_tuple, Tv.isi_int_str, Tv.isi_int_int, Tv.isi_int_bool, Tv.isi_int_dict, Tv.isi_int_list, Tv.isi_str_tuple, Tv.isi_str_str, Tv.isi_str_int, Tv.isi_str_bool, Tv.isi_str_dict, Tv.isi_str_list, Tv.isi_tup_tuple, Tv.isi_tup_str, Tv.isi_tup_int, Tv.isi_tup_bool, Tv.isi_tup_dict, Tv.isi_tup_list, Tv.isi_lst_tuple, Tv.isi_lst_str, Tv.isi_lst_int, Tv.isi_lst_bool, Tv.isi_lst_dict, Tv.isi_lst_list, Tv.isi_dic_tuple, Tv.isi_dic_str, Tv.isi_dic_int, Tv.isi_dic_bool, Tv.isi_dic_dict, Tv.isi_dic_list, V.ty.injEq, Tv.wLc2, Tv.fAll, Tv.wDropX, Tv.wSetX, Tv.wRaise, Tv.wIsi2, Tv.wDead, Tv.wStr1, Tv.fInS, Tv.fAddS, Tv.fLenS, Tv.wDisp, Tv.fDIn, Tv.fDGet, Tv.wISet, ↓reduceIte, Bool.false_eq_true, decide_eq_true_eq, T.int.injEq, T.str.injEq, T.bl.injEq, T.lst.injEq, T.tup.injEq, exists_eq_left', exists_eq_left, exists_and_left, true_and, and_true, reduceCtorEq, ne_eq, not_false_eq_true, not_true_eq_false, forall_eq', forall_eq, Option.some.injEq, Option.isSome_some]
  unfold faultT at k
  refine ⟨t, rfl, dt, _, rfl, ?_⟩
  cases e : formB t with
  | false =>
    rw [e] at k
    exact (if_pos rfl).mpr k
  | true =>
    rw [e, if_pos rfl] at k
    refine (if_neg Bool.false_ne_true).mpr ⟨zs, t, rfl, dt, e, _, rfl, ?_⟩
    cases e2 : termsB zs t with
    | false =>
      rw [e2] at k
      exact (if_pos rfl).mpr k
    | true =>
      rw [e2, if_pos rfl] at k
      exact (if_neg Bool.false_ne_true).mpr k
theorem scCheck : FnScope ["columns", "thing", "place", "why", "index", "inside"] ["columns", "thing", "place"] (defScope sCheck) := ⟨rfl, rfl, rfl, by decide +kernel, rfl, by decide +kernel, by decide +kernel⟩
theorem okCheck {f C CB fB : Addr} {fd fdB : FuncData} {n : Nat} (F : Fun K "check_part" "check_part" sCheck f fd) (B : Bt mg) (henum : mg "enumerate" = none) (cF : CFo P w K mg base C) (cI : CIn P w K mg base) (DB : Bp K mg CB fB) (GE : FnOk P w K mg base CX0 1 fB fdB ["self", "place", "why"] (spErrG CB ["place", "why"])) (bE : Binds K fdB ["self", "place", "why"] []) (cK : CCk P w K mg base C CB n) : FnOk P w K mg base (L2.CX P w) (6 + n + 1) f fd ["columns", "thing", "place"] (spTX K [.S, .S, .S] false (cCheck C CB (n + 1))) := by
  refine okvX F scCheck rfl (by decide) fun cdv A outer s H E R ts Pt PX hr hc => ?_
  obtain ⟨zs, t, p, rfl, dt, dp, hp, k0, k1⟩ := hc
  refine ⟨_, (cons_ (set_ (κ := .S) 3 (fun a => ps_set (i := 3) scCheck.nd rfl (Or.inl rfl) a) (callS_ (κ := .S) (κs := [.B, .S]) (ms := [.M, .S]) rfl (fun a => cF.pe hr (by omega) (by rfl) a) (pa1_ (pv_ (κ := .M) 0 (pv 0)) (pa1_ (pv_ (κ := .S) 1 (pv 1)) pa0_))))
      (cons_ (if_ (ptcmp_ op_notN re_notN (nomark _) (pv_ (κ := .M) 3 (pv 3)) (pnon_ (κ := .M))) (one_ (raise_ (pk1_ (pv_ (κ := .S) 2 (pv 2)) (pk1_ (pv_ (κ := .S) 3 (pv 3)) pk0_)) (fun a => ps_raise rfl (takes_of rfl rfl rfl rfl) (pmk_oex DB.T DB.iC DB.tI GE (hr.mono (by omega)) bE .nil pass0 (by rfl) DB.g a)))) nil_)
      (one_ (for_ (srcE_ (PEn.up (κ := .S) (callN_ (κs := [.S]) (ms := [.S]) rfl (fun a => cI.pe hr (by omega) (by rfl) a) (pa1_ (pv_ (κ := .S) 1 (pv 1)) pa0_))) (by decide) (fun a => pi_enum (by rfl) henum (pa_cons a pa_nil))) (gtp_ (gs1_ (gnm_ (κ := .S) 4 (by decide) (pg_name (i := 4) scCheck.nd rfl (Or.inl rfl))) (gs1_ (gnm_ (κ := .S) 5 (by decide) (pg_name (i := 5) scCheck.nd rfl (Or.inl rfl))) gs0_)) (hn := by rintro _ _ _ ⟨_, _, rfl, _, _, rfl, rfl, _⟩; rfl))
      (one_ (dropX_ (κs := [.S, .S, .S]) (ms := [.S, .S, .S]) rfl (fun a => cK.pe (takes_of rfl rfl rfl rfl) hr (by omega) (by rfl) a) (pa1_ (pv_ (κ := .S) 0 (pv 0)) (pa1_ (pv_ (κ := .S) 5 (pv 5)) (pa1_ (ptupl_ (μ := .S) (pks_ (PEv.items (pv_ (κ := .S) 2 (pv 2))) (pk1_ (pv_ (κ := .S) 4 (pv 4)) pk0_))) pa0_))))) (fun a b c => ps_for (passes_of rfl) rfl a b c))))), ?_⟩
  simp only [Tv.wSeq, Tv.wNext, Tv.wIfS, Tv.wSet, Tv.wSetN, Tv.wRet, Tv.wRetO, Tv.wFrz, Tv.wApp, Tv.wOp, Tv.wTest, Tv.wAnd, Tv.wOr, Tv.wNot, Tv.wIf, Tv.wAndV, Tv.wOrV, Tv.wNotV, Tv.wCall, Tv.wCons, Tv.wNil, Tv.wV, Tv.wC, Tv.wTup, Tv.wLst, Tv.wSeqT, Tv.wO, Tv.wLen, Tv.wList, Tv.wTuple, Tv.wCat, Tv.wSl, Tv.wLst1, Tv.wTup1, Tv.wRng1, Tv.wRng2, Tv.wEnum, Tv.wLc, Tv.wYes, Tv.wCB, Tv.wipeE, Tv.gSet, Tv.gNilT, Tv.gConsT, Tv.gTupT, Tv.cellOf, Tv.env0, Tv.fEq, Tv.fIn, Tv.fI0, Tv.fI, Tv.fSc, Tv.fIsN, Tv.fIsB, Tv.fIx, Tv.fIxS, Tv.fCatT, Tv.fInt1, Tv.fMin2, List.zipWith_cons_cons, List.zipWith_nil_left, List.length_cons, List.length_nil, List.cons_append, List.nil_append, List.replicate, List.getElem?_cons_zero, List.getElem?_cons_succ, List.set_cons_zero, List.set_cons_succ, Tv.wRoom, Tv.wRoomSet, Tv.wIfDraw, Tv.wStar, Tv.wLen6, Tv.wFld, Tv.wExt, Tv.wTru, Tv.wChain, Tv.fIsi, Tv.fInF, Tv.seq_l, Tv.seq_t, Tv.lst_l, Tv.tup_t, Tv.scal_ii, Tv.scal_ss, Tv.scal_bb, Tv.same_ii, Tv.same_ss, Tv.same_bb, Tv.at_0, Tv.at_1, Tv.at_2, Tv.at_3, Tv.isN_non, Tv.isN_int, Tv.isN_str, Tv.isN_tup, Tv.isN_lst, Tv.isN_bl, Cell.val.injEq, T.op.injEq, forall_const, Tv.isi_non_tuple, Tv.isi_non_str, Tv.isi_non_int, Tv.isi_non_bool, Tv.isi_non_dict, Tv.isi_non_list, Tv.isi_bl_tuple, Tv.isi_bl_str, Tv.isi_bl_int, Tv.isi_bl_bool, Tv.isi_bl_dict, Tv.isi_bl_list, Tv.isi_int_tuple, Tv.isi_int_str, Tv.isi_int_int, Tv.isi_int_bool, Tv.isi_int_dict, Tv.isi_int_list, Tv.isi_str_tuple, Tv.isi_str_str, Tv.isi_str_int, Tv.isi_str_bool, Tv.isi_str_dict, Tv.isi_str_list, Tv.isi_tup_tuple, Tv.isi_tup_str, Tv.isi_tup_int, Tv.isi_tup_bool, Tv.isi_tup_dict, Tv.isi_tup_list, Tv.isi_lst_tuple, Tv.isi_lst_str, Tv.isi_lst_int, Tv.isi_lst_bool, Tv.isi_lst_dict, Tv.isi_lst_list, Tv.isi_dic_tuple, Tv.isi_dic_str, Tv.isi_dic_int, Tv.isi_dic_bool, Tv.isi_dic_dict, Tv.isi_dic_list, V.ty.injEq, Tv.wLc2, Tv.fAll, Tv.wDropX, Tv.wSetX, Tv.wRaise, Tv.wIsi2, Tv.wDead, Tv.wStr1, Tv.fInS, Tv.fAddS, Tv.fLenS, Tv.wDisp, Tv.fDIn, Tv.fDGet, Tv.wISet, ↓reduceIte, Bool.false_eq_true, decide_eq_true_eq, T.int.injEq, T.str.injEq, T.bl.injEq, T.lst.injEq, T.tup.injEq, exists_eq_left', exists_eq_left, exists_and_left, true_and, and_true, reduceCtorEq, ne_eq, not_false_eq_true, not_true_eq_false, forall_eq', forall_eq, Option.some.injEq, Option.isSome_some]
  refine ⟨zs, t, rfl, dt, ?_⟩
  have ec : chkT zs (n + 1) t p = if formB t = true then (if termsB zs t = true then firstT (fun i u => chkT zs n u (p ++ [T.int (i : Int)])) 0 (innerT t) else some (p, "name")) else some (p, "form") := rfl
  have ef : faultT zs t = if formB t = true then (if termsB zs t = true then .non else .str "name") else .str "form" := rfl
  cases e1 : formB t with
  | false =>
    rw [e1] at ec ef
    rw [ef]
    exact (if_pos rfl).mpr (k1 _ _ ec)
  | true =>
    cases e2 : termsB zs t with
    | false =>
      rw [e1, e2] at ec ef
      rw [ef]
      exact (if_pos rfl).mpr (k1 _ _ ec)
    | true =>
      rw [e1, e2] at ec ef
      rw [ef]
      have ec : chkT zs (n + 1) t p = firstT (fun i u => chkT zs n u (p ++ [T.int (i : Int)])) 0 (innerT t) := ec
      refine (if_neg Bool.false_ne_true).mpr ?_
      unfold Tv.wFor
      simp only [Tv.wEnum, Tv.wCall, Tv.wCons, Tv.wNil, Tv.wV, List.getElem?_cons_zero, List.getElem?_cons_succ]
      refine ⟨t, rfl, e1, innerT t, rfl, fun i env => (∃ c3 c4 c5, env = [.val (colsT C zs), .val t, .val (.tup p), c3, c4, c5]) ∧ firstT (fun i u => chkT zs n u (p ++ [T.int (i : Int)])) i ((innerT t).drop i) = chkT zs (n + 1) t p, ⟨⟨_, _, _, rfl⟩, by rw [ec]; rfl⟩, ?_, ?_⟩
      · rintro i y env' hy ⟨⟨c3, c4, c5, rfl⟩, hI⟩
        have hl : i < (innerT t).length := by
          have := (List.getElem?_eq_some_iff.mp hy).1
          rwa [enumT_len] at this
        obtain ⟨u, hu⟩ : ∃ u, (innerT t)[i]? = some u := ⟨_, List.getElem?_eq_getElem hl⟩
        rw [enumT_get hu] at hy
        cases hy
        have mu : u ∈ innerT t := List.mem_of_getElem? hu
        have step : (innerT t).drop i = u :: (innerT t).drop (i + 1) := by
          rw [List.drop_eq_getElem_cons hl]
          rw [List.getElem?_eq_getElem hl] at hu
          cases hu
          rfl
        rw [step] at hI
        simp only [Tv.wSeq, Tv.wNext, Tv.wIfS, Tv.wSet, Tv.wSetN, Tv.wRet, Tv.wRetO, Tv.wFrz, Tv.wApp, Tv.wOp, Tv.wTest, Tv.wAnd, Tv.wOr, Tv.wNot, Tv.wIf, Tv.wAndV, Tv.wOrV, Tv.wNotV, Tv.wCall, Tv.wCons, Tv.wNil, Tv.wV, Tv.wC, Tv.wTup, Tv.wLst, Tv.wSeqT, Tv.wO, Tv.wLen, Tv.wList, Tv.wTuple, Tv.wCat, Tv.wSl, Tv.wLst1, Tv.wTup1, Tv.wRng1, Tv.wRng2, Tv.wEnum, Tv.wFor, Tv.wLc, Tv.wYes, Tv.wCB, Tv.wipeE, Tv.gSet, Tv.gNilT, Tv.gConsT, Tv.gTupT, Tv.cellOf, Tv.env0, Tv.fEq, Tv.fIn, Tv.fI0, Tv.fI, Tv.fSc, Tv.fIsN, Tv.fIsB, Tv.fIx, Tv.fIxS, Tv.fCatT, Tv.fInt1, Tv.fMin2, List.zipWith_cons_cons, List.zipWith_nil_left, List.length_cons, List.length_nil, List.cons_append, List.nil_append, List.replicate, List.getElem?_cons_zero, List.getElem?_cons_succ, List.set_cons_zero, List.set_cons_succ, Tv.wRoom, Tv.wRoomSet, Tv.wIfDraw, Tv.wStar, Tv.wLen6, Tv.wFld, Tv.wExt, Tv.wTru, Tv.wChain, Tv.fIsi, Tv.fInF, Tv.seq_l, Tv.seq_t, Tv.lst_l, Tv.tup_t, Tv.scal_ii, Tv.scal_ss, Tv.scal_bb, Tv.same_ii, Tv.same_ss, Tv.same_bb, Tv.at_0, Tv.at_1, Tv.at_2, Tv.at_3, Tv.isN_non, Tv.isN_int, Tv.isN_str, Tv.isN_tup, Tv.isN_lst, Tv.isN_bl, Cell.val.injEq, T.op.injEq, forall_const, Tv.isi_non_tuple, Tv.isi_non_str, Tv.isi_non_int, Tv.isi_non_bool, Tv.isi_non_dict, Tv.isi_non_list, Tv.isi_bl_tuple, Tv.isi_bl_str, Tv.isi_bl_int, Tv.isi_bl_bool, Tv.isi_bl_dict, Tv.isi_bl_list, Tv.isi_int_tuple, Tv.isi_int_str, Tv.isi_int_int, Tv.isi_int_bool, Tv.isi_int_dict, Tv.isi_int_list, Tv.isi_str_tuple, Tv.isi_str_str, Tv.isi_str_int, Tv.isi_str_bool, Tv.isi_str_dict, Tv.isi_str_list, Tv.isi_tup_tuple, Tv.isi_tup_str, Tv.isi_tup_int, Tv.isi_tup_bool, Tv.isi_tup_dict, Tv.isi_tup_list, Tv.isi_lst_tuple, Tv.isi_lst_str, Tv.isi_lst_int, Tv.isi_lst_bool, Tv.isi_lst_dict, Tv.isi_lst_list, Tv.isi_dic_tuple, Tv.isi_dic_str, Tv.isi_dic_int, Tv.isi_dic_bool, Tv.isi_dic_dict, Tv.isi_dic_list, V.ty.injEq, Tv.wLc2, Tv.fAll, Tv.wDropX, Tv.wSetX, Tv.wRaise, Tv.wIsi2, Tv.wDead, Tv.wStr1, Tv.fInS, Tv.fAddS, Tv.fLenS, Tv.wDisp, Tv.fDIn, Tv.fDGet, Tv.wISet, ↓reduceIte, Bool.false_eq_true, decide_eq_true_eq, T.int.injEq, T.str.injEq, T.bl.injEq, T.lst.injEq, T.tup.injEq, exists_eq_left', exists_eq_left, exists_and_left, true_and, and_true, reduceCtorEq, ne_eq, not_false_eq_true, not_true_eq_false, forall_eq', forall_eq, Option.some.injEq, Option.isSome_some]
        refine ⟨_, _, rfl, _, _, rfl, rfl, by rw [List.length_append]; simp only [List.length_cons, List.length_nil]; omega, zs, u, p ++ [T.int (i : Int)], rfl, dat_inner e1 dt mu, dp e1 u mu, by rw [List.length_append]; simp only [List.length_cons, List.length_nil]; omega, fun z => ⟨⟨_, _, _, rfl⟩, ?_⟩, fun q why z => k1 q why ?_⟩
        · rw [← hI]
          show _ = match chkT zs n u (p ++ [T.int (i : Int)]) with
            | some y => some y
            | none => firstT (fun i u => chkT zs n u (p ++ [T.int (i : Int)])) (i + 1) ((innerT t).drop (i + 1))
          rw [z]
        · rw [← hI]
          show (match chkT zs n u (p ++ [T.int (i : Int)]) with
            | some y => some y
            | none => firstT (fun i u => chkT zs n u (p ++ [T.int (i : Int)])) (i + 1) ((innerT t).drop (i + 1))) = _
          rw [z]
      · rintro env' ⟨_, hI⟩
        refine k0 ?_
        rw [← hI, enumT_len, List.drop_length]
        rfl
theorem okChecks {f C CB fB : Addr} {fd fdB : FuncData} (F : Fun K "check_part" "check_part" sCheck f fd) (m : mg "check_part" = some (.ref f)) (kp : PySem.W.keepIn K (.ref f) = true) (bd : Binds K fd ["columns", "thing", "place"] []) (B : Bt mg) (henum : mg "enumerate" = none) (cF : CFo P w K mg base C) (cI : CIn P w K mg base) (DB : Bp K mg CB fB)
    (GE : FnOk P w K mg base CX0 1 fB fdB ["self", "place", "why"] (spErrG CB ["place", "why"])) (bE : Binds K fdB ["self", "place", "why"] []) : ∀ n, CCk P w K mg base C CB n
  | 0 => ⟨f, fd, ["columns", "thing", "place"], fn_no fun vs H Q E h => by
      obtain ⟨R, F, ts, Pt, PX, _, _, ⟨_, _, _, _, _, h, _⟩, _⟩ := h
      exact h, m, kp, bd⟩
  | n + 1 => ⟨f, fd, ["columns", "thing", "place"], okCheck F B henum cF cI DB GE bE (okChecks F m kp bd B henum cF cI DB GE bE n), m, kp, bd⟩
end
end Tl
/-! the law's own words about parts -/
namespace Tl
open PySem PySem.Spec PyProof.Rows L2 Lw Tv Nm
abbrev sLInner : Stmt := Lw.top 52
abbrev sLNum : Stmt := Lw.top 54
abbrev sLBr : Stmt := Lw.top 55
abbrev sLTerms : Stmt := Lw.top 57
abbrev sLFault : Stmt := Lw.top 58
abbrev sLPlaces : Stmt := Lw.top 47
abbrev sLRepl : Stmt := Lw.top 50
abbrev sLRes : Stmt := Lw.top 51
abbrev sLStr : Stmt := Lw.top 59
abbrev sLSame : Stmt := Lw.top 48
def cTODO (_ : Rs) (_ : List T) (_ : T → Prop) : Prop := False
def cBr (_ : Rs) (ts : List T) (Pt : T → Prop) : Prop := ∃ t, ts = [t] ∧ datR t = true ∧ Pt (.bl (branchesB 3 t))
def cTerms (_ : Rs) (ts : List T) (Pt : T → Prop) : Prop := ∃ zs t, ts = [strsT zs, t] ∧ datR t = true ∧ formB t = true ∧ zs.length ≤ 10 ∧ Pt (.bl (termsB zs t))
theorem lit_no {zs : List Str} {a b t : T} (m : t ∈ [a, b]) (h : termB zs t = false) : litB zs a b = false := by
  unfold litB
  simp only [List.mem_cons, List.not_mem_nil, or_false] at m
  rcases m with rfl | rfl
  · rw [h]; rfl
  · rw [h]; cases termB zs a <;> rfl
section
variable {P : Program} {w : World} {K : PySem.W.Frag} {mg : Str → Option Value} {base : Heap}

theorem scLInner : FnScope ["_law_part_here", "_law_found", "_law_branch"] ["_law_part_here"] (defScope sLInner) := ⟨rfl, rfl, rfl, by decide +kernel, rfl, by decide +kernel, by decide +kernel⟩
theorem okLInner {f : Addr} {fd : FuncData} (F : Fun K "_law_inner" "_law_inner" sLInner f fd) (B : Bt mg)  : FnOk P w K mg base CX0 1 f fd ["_law_part_here"] (spT K [.S] true cInner) := by
  refine okv2 F scLInner rfl (by decide) fun cdv A outer s H E R ts Pt hr hc => ?_
  obtain ⟨t, rfl, hf, k⟩ := hc
  refine ⟨_, (cons_ (if_ (ptcmp_ op_eq re_sc (nomark _) (pix_ (pv_ (κ := .M) 0 (pv 0)) (pint_ (κ := .M))) (pstr_ (κ := .M))) (one_ (retN_ (plst_ (pa1_ (pix_ (pv_ (κ := .S) 0 (pv 0)) (pint_ (κ := .M))) pa0_) rfl))) nil_)
      (cons_ (if_ (ptcmp_ op_eq re_sc (nomark _) (pix_ (pv_ (κ := .M) 0 (pv 0)) (pint_ (κ := .M))) (pstr_ (κ := .M))) (one_ (retN_ (plst_ (pa1_ (pix_ (pv_ (κ := .S) 0 (pv 0)) (pint_ (κ := .M))) pa0_) rfl))) nil_)
      (cut_ (if_ (PWv.pt (por_ (ptcmp_ op_eq re_sc (nomark _) (pix_ (pv_ (κ := .M) 0 (pv 0)) (pint_ (κ := .M))) (pstr_ (κ := .M))) (por1_ (ptcmp_ op_eq re_sc (nomark _) (pix_ (pv_ (κ := .M) 0 (pv 0)) (pint_ (κ := .M))) (pstr_ (κ := .M)))))) (one_ (retN_ (plist_ (PEv.items (pix_ (pv_ (κ := .S) 0 (pv 0)) (pint_ (κ := .M)))) (fun a => pe_callTy call_list_of (by rfl) B.list (by decide +kernel) (pa_cons a pa_nil))))) nil_)
      (cons_ (setN_ 1 (fun a => ps_set (i := 1) scLInner.nd rfl (Or.inl rfl) a) (plst_ pa0_ rfl))
      (cons_ (if_ (ptcmp_ op_eq re_sc (nomark _) (pix_ (pv_ (κ := .M) 0 (pv 0)) (pint_ (κ := .M))) (pstr_ (κ := .M))) (cons_ (for_ (srcT_ (pix_ (pv_ (κ := .S) 0 (pv 0)) (pint_ (κ := .M)))) (gnm_ (κ := .S) 2 (by decide) (pg_name (i := 2) scLInner.nd rfl (Or.inl rfl)))
      (one_ (setN_ 1 (fun a => ps_set (i := 1) scLInner.nd rfl (Or.inl rfl) a) (pcat_ (pio_ 1 (pv 1)) (PEn.items (plst_ (pa1_ (pix_ (pv_ (κ := .S) 2 (pv 2)) (pint_ (κ := .M))) (pa1_ (pix_ (pv_ (κ := .S) 2 (pv 2)) (pint_ (κ := .M))) pa0_)) rfl))))) (fun a b c => ps_for PassesOwn.never rfl a b c))
      (one_ (app_ 1 (pv 1) (pix_ (pv_ (κ := .S) 0 (pv 0)) (pint_ (κ := .M))) (fun a b => ps_expr (pe_bm PySem.F.plainAttrs_list PySem.F.slot_list_append PySem.F.type_list_append mt_append a (pa_cons b pa_nil)))))) nil_)
      (one_ (retO_ 1 (pv 1)))))))), ?_⟩
  simp only [Tv.wSeq, Tv.wNext, Tv.wIfS, Tv.wSet, Tv.wSetN, Tv.wRet, Tv.wRetO, Tv.wFrz, Tv.wApp, Tv.wOp, Tv.wTest, Tv.wAnd, Tv.wOr, Tv.wNot, Tv.wIf, Tv.wAndV, Tv.wOrV, Tv.wNotV, Tv.wCall, Tv.wCons, Tv.wNil, Tv.wV, Tv.wC, Tv.wTup, Tv.wLst, Tv.wSeqT, Tv.wO, Tv.wLen, Tv.wList, Tv.wTuple, Tv.wCat, Tv.wSl, Tv.wLst1, Tv.wTup1, Tv.wRng1, Tv.wRng2, Tv.wEnum, Tv.wLc, Tv.wYes, Tv.wCB, Tv.wipeE, Tv.gSet, Tv.gNilT, Tv.gConsT, Tv.gTupT, Tv.cellOf, Tv.env0, Tv.fEq, Tv.fIn, Tv.fI0, Tv.fI, Tv.fSc, Tv.fIsN, Tv.fIsB, Tv.fIx, Tv.fIxS, Tv.fCatT, Tv.fInt1, Tv.fMin2, List.zipWith_cons_cons, List.zipWith_nil_left, List.length_cons, List.length_nil, List.cons_append, List.nil_append, List.replicate, List.getElem?_cons_zero, List.getElem?_cons_succ, List.set_cons_zero, List.set_cons_succ, Tv.wRoom, Tv.wRoomSet, Tv.wIfDraw, Tv.wStar, Tv.wLen6, Tv.wFld, Tv.wExt, Tv.wTru, Tv.wChain, Tv.fIsi, Tv.fInF, Tv.seq_l, Tv.seq_t, Tv.lst_l, Tv.tup_t, Tv.scal_ii, Tv.scal_ss, Tv.scal_bb, Tv.same_ii, Tv.same_ss, Tv.same_bb, Tv.at_0, Tv.at_1, Tv.at_2, Tv.at_3, Tv.isN_non, Tv.isN_int, Tv.isN_str, Tv.isN_tup, Tv.isN_lst, Tv.isN_bl, Cell.val.injEq, T.op.injEq, forall_const, Tv.isi_non_tuple, Tv.isi_non_str, Tv.isi_non_int, Tv.isi_non_bool, Tv.isi_non_dict, Tv.isi_non_list, Tv.isi_bl_tuple, Tv.isi_bl_str, Tv.isi_bl_int, Tv.isi_bl_bool, Tv.isi_bl_dict, Tv.isi_bl_list, Tv.isi_int_tuple, Tv.isi_int_str, Tv.isi_int_int, Tv.isi_int_bool, Tv.isi_int_dict, Tv.isi_int_list, Tv.isi_str_tuple, Tv.isi_str_str, Tv.isi_str_int, Tv.isi_str_bool, Tv.isi_str_dict, Tv.isi_str_list, Tv.isi_tup_tuple, Tv.isi_tup_str, Tv.isi_tup_int, Tv.isi_tup_bool, Tv.isi_tup_dict, Tv.isi_tup_list, Tv.isi_lst_tuple, Tv.isi_lst_str, Tv.isi_lst_int, Tv.isi_lst_bool, Tv.isi_lst_dict, Tv.isi_lst_list, Tv.isi_dic_tuple, Tv.isi_dic_str, Tv.isi_dic_int, Tv.isi_dic_bool, Tv.isi_dic_dict, Tv.isi_dic_list, V.ty.injEq, Tv.wLc2, Tv.fAll, Tv.wDropX, Tv.wSetX, Tv.wRaise, Tv.wIsi2, Tv.wDead, Tv.wStr1, Tv.fInS, Tv.fAddS, Tv.fLenS, Tv.wDisp, Tv.fDIn, Tv.fDGet, Tv.wISet, ↓reduceIte, Bool.false_eq_true, decide_eq_true_eq, T.int.injEq, T.str.injEq, T.bl.injEq, T.lst.injEq, T.tup.injEq, exists_eq_left', exists_eq_left, exists_and_left, true_and, and_true, reduceCtorEq, ne_eq, not_false_eq_true, not_true_eq_false, forall_eq', forall_eq, Option.some.injEq, Option.isSome_some]
  have ff := form_of hf
  cases ff with
  | must c l p h1 h2 =>
    rw [inner_must] at k
    exact ⟨_, rfl, _, Tv.at_0, rfl, (if_pos (by decide +kernel)).mpr ⟨_, rfl, _, Tv.at_3, k⟩⟩
  | not a =>
    rw [inner_not] at k
    exact ⟨_, rfl, _, Tv.at_0, rfl, (if_neg (by decide +kernel)).mpr ⟨_, rfl, _, Tv.at_0, rfl, (if_pos (by decide +kernel)).mpr ⟨_, rfl, _, Tv.at_1, k⟩⟩⟩
  | atmost a b n h =>
    rw [inner_atmost] at k
    refine ⟨_, rfl, _, Tv.at_0, rfl, (if_neg (by decide +kernel)).mpr ⟨_, rfl, _, Tv.at_0, rfl, (if_neg (by decide +kernel)).mpr ⟨fun e => e = [.val (.tup [.str "atmost", a, b, n]), .un, .un], ?_, ?_⟩⟩⟩
    · simp only [Tv.wSeq, Tv.wNext, Tv.wIfS, Tv.wSet, Tv.wSetN, Tv.wRet, Tv.wRetO, Tv.wFrz, Tv.wApp, Tv.wOp, Tv.wTest, Tv.wAnd, Tv.wOr, Tv.wNot, Tv.wIf, Tv.wAndV, Tv.wOrV, Tv.wNotV, Tv.wCall, Tv.wCons, Tv.wNil, Tv.wV, Tv.wC, Tv.wTup, Tv.wLst, Tv.wSeqT, Tv.wO, Tv.wLen, Tv.wList, Tv.wTuple, Tv.wCat, Tv.wSl, Tv.wLst1, Tv.wTup1, Tv.wRng1, Tv.wRng2, Tv.wEnum, Tv.wFor, Tv.wLc, Tv.wYes, Tv.wCB, Tv.wipeE, Tv.gSet, Tv.gNilT, Tv.gConsT, Tv.gTupT, Tv.cellOf, Tv.env0, Tv.fEq, Tv.fIn, Tv.fI0, Tv.fI, Tv.fSc, Tv.fIsN, Tv.fIsB, Tv.fIx, Tv.fIxS, Tv.fCatT, Tv.fInt1, Tv.fMin2, List.zipWith_cons_cons, List.zipWith_nil_left, List.length_cons, List.length_nil, List.cons_append, List.nil_append, List.replicate, List.getElem?_cons_zero, List.getElem?_cons_succ, List.set_cons_zero, List.set_cons_succ, Tv.wRoom, Tv.wRoomSet, Tv.wIfDraw, Tv.wStar, Tv.wLen6, Tv.wFld, Tv.wExt, Tv.wTru, Tv.wChain, Tv.fIsi, Tv.fInF, Tv.seq_l, Tv.seq_t, Tv.lst_l, Tv.tup_t, Tv.scal_ii, Tv.scal_ss, Tv.scal_bb, Tv.same_ii, Tv.same_ss, Tv.same_bb, Tv.at_0, Tv.at_1, Tv.at_2, Tv.at_3, Tv.isN_non, Tv.isN_int, Tv.isN_str, Tv.isN_tup, Tv.isN_lst, Tv.isN_bl, Cell.val.injEq, T.op.injEq, forall_const, Tv.isi_non_tuple, Tv.isi_non_str, Tv.isi_non_int, Tv.isi_non_bool, Tv.isi_non_dict, Tv.isi_non_list, Tv.isi_bl_tuple, Tv.isi_bl_str, Tv.isi_bl_int, Tv.isi_bl_bool, Tv.isi_bl_dict, Tv.isi_bl_list, Tv.isi_int_tuple, Tv.isi_int_str, Tv.isi_int_int, Tv.isi_int_bool, Tv.isi_int_dict, Tv.isi_int_list, Tv.isi_str_tuple, Tv.isi_str_str, Tv.isi_str_int, Tv.isi_str_bool, Tv.isi_str_dict, Tv.isi_str_list, Tv.isi_tup_tuple, Tv.isi_tup_str, Tv.isi_tup_int, Tv.isi_tup_bool, Tv.isi_tup_dict, Tv.isi_tup_list, Tv.isi_lst_tuple, Tv.isi_lst_str, Tv.isi_lst_int, Tv.isi_lst_bool, Tv.isi_lst_dict, Tv.isi_lst_list, Tv.isi_dic_tuple, Tv.isi_dic_str, Tv.isi_dic_int, Tv.isi_dic_bool, Tv.isi_dic_dict, Tv.isi_dic_list, V.ty.injEq, Tv.wLc2, Tv.fAll, Tv.wDropX, Tv.wSetX, Tv.wRaise, Tv.wIsi2, Tv.wDead, Tv.wStr1, Tv.fInS, Tv.fAddS, Tv.fLenS, Tv.wDisp, Tv.fDIn, Tv.fDGet, Tv.wISet, ↓reduceIte, Bool.false_eq_true, decide_eq_true_eq, T.int.injEq, T.str.injEq, T.bl.injEq, T.lst.injEq, T.tup.injEq, exists_eq_left', exists_eq_left, exists_and_left, true_and, and_true, reduceCtorEq, ne_eq, not_false_eq_true, not_true_eq_false, forall_eq', forall_eq, Option.some.injEq, Option.isSome_some]
      exact (if_neg (by decide +kernel)).mpr <| (if_neg (by decide +kernel)).mpr <| trivial
    · rintro _ rfl
      simp only [Tv.wSeq, Tv.wNext, Tv.wIfS, Tv.wSet, Tv.wSetN, Tv.wRet, Tv.wRetO, Tv.wFrz, Tv.wApp, Tv.wOp, Tv.wTest, Tv.wAnd, Tv.wOr, Tv.wNot, Tv.wIf, Tv.wAndV, Tv.wOrV, Tv.wNotV, Tv.wCall, Tv.wCons, Tv.wNil, Tv.wV, Tv.wC, Tv.wTup, Tv.wLst, Tv.wSeqT, Tv.wO, Tv.wLen, Tv.wList, Tv.wTuple, Tv.wCat, Tv.wSl, Tv.wLst1, Tv.wTup1, Tv.wRng1, Tv.wRng2, Tv.wEnum, Tv.wLc, Tv.wYes, Tv.wCB, Tv.wipeE, Tv.gSet, Tv.gNilT, Tv.gConsT, Tv.gTupT, Tv.cellOf, Tv.env0, Tv.fEq, Tv.fIn, Tv.fI0, Tv.fI, Tv.fSc, Tv.fIsN, Tv.fIsB, Tv.fIx, Tv.fIxS, Tv.fCatT, Tv.fInt1, Tv.fMin2, List.zipWith_cons_cons, List.zipWith_nil_left, List.length_cons, List.length_nil, List.cons_append, List.nil_append, List.replicate, List.getElem?_cons_zero, List.getElem?_cons_succ, List.set_cons_zero, List.set_cons_succ, Tv.wRoom, Tv.wRoomSet, Tv.wIfDraw, Tv.wStar, Tv.wLen6, Tv.wFld, Tv.wExt, Tv.wTru, Tv.wChain, Tv.fIsi, Tv.fInF, Tv.seq_l, Tv.seq_t, Tv.lst_l, Tv.tup_t, Tv.scal_ii, Tv.scal_ss, Tv.scal_bb, Tv.same_ii, Tv.same_ss, Tv.same_bb, Tv.at_0, Tv.at_1, Tv.at_2, Tv.at_3, Tv.isN_non, Tv.isN_int, Tv.isN_str, Tv.isN_tup, Tv.isN_lst, Tv.isN_bl, Cell.val.injEq, T.op.injEq, forall_const, Tv.isi_non_tuple, Tv.isi_non_str, Tv.isi_non_int, Tv.isi_non_bool, Tv.isi_non_dict, Tv.isi_non_list, Tv.isi_bl_tuple, Tv.isi_bl_str, Tv.isi_bl_int, Tv.isi_bl_bool, Tv.isi_bl_dict, Tv.isi_bl_list, Tv.isi_int_tuple, Tv.isi_int_str, Tv.isi_int_int, Tv.isi_int_bool, Tv.isi_int_dict, Tv.isi_int_list, Tv.isi_str_tuple, Tv.isi_str_str, Tv.isi_str_int, Tv.isi_str_bool, Tv.isi_str_dict, Tv.isi_str_list, Tv.isi_tup_tuple, Tv.isi_tup_str, Tv.isi_tup_int, Tv.isi_tup_bool, Tv.isi_tup_dict, Tv.isi_tup_list, Tv.isi_lst_tuple, Tv.isi_lst_str, Tv.isi_lst_int, Tv.isi_lst_bool, Tv.isi_lst_dict, Tv.isi_lst_list, Tv.isi_dic_tuple, Tv.isi_dic_str, Tv.isi_dic_int, Tv.isi_dic_bool, Tv.isi_dic_dict, Tv.isi_dic_list, V.ty.injEq, Tv.wLc2, Tv.fAll, Tv.wDropX, Tv.wSetX, Tv.wRaise, Tv.wIsi2, Tv.wDead, Tv.wStr1, Tv.fInS, Tv.fAddS, Tv.fLenS, Tv.wDisp, Tv.fDIn, Tv.fDGet, Tv.wISet, ↓reduceIte, Bool.false_eq_true, decide_eq_true_eq, T.int.injEq, T.str.injEq, T.bl.injEq, T.lst.injEq, T.tup.injEq, exists_eq_left', exists_eq_left, exists_and_left, true_and, and_true, reduceCtorEq, ne_eq, not_false_eq_true, not_true_eq_false, forall_eq', forall_eq, Option.some.injEq, Option.isSome_some]
      exact (if_neg (by decide +kernel)).mpr <| k
  | missing a =>
    rw [inner_missing] at k
    refine ⟨_, rfl, _, Tv.at_0, rfl, (if_neg (by decide +kernel)).mpr ⟨_, rfl, _, Tv.at_0, rfl, (if_neg (by decide +kernel)).mpr ⟨fun e => e = [.val (.tup [.str "missing", a]), .un, .un], ?_, ?_⟩⟩⟩
    · simp only [Tv.wSeq, Tv.wNext, Tv.wIfS, Tv.wSet, Tv.wSetN, Tv.wRet, Tv.wRetO, Tv.wFrz, Tv.wApp, Tv.wOp, Tv.wTest, Tv.wAnd, Tv.wOr, Tv.wNot, Tv.wIf, Tv.wAndV, Tv.wOrV, Tv.wNotV, Tv.wCall, Tv.wCons, Tv.wNil, Tv.wV, Tv.wC, Tv.wTup, Tv.wLst, Tv.wSeqT, Tv.wO, Tv.wLen, Tv.wList, Tv.wTuple, Tv.wCat, Tv.wSl, Tv.wLst1, Tv.wTup1, Tv.wRng1, Tv.wRng2, Tv.wEnum, Tv.wFor, Tv.wLc, Tv.wYes, Tv.wCB, Tv.wipeE, Tv.gSet, Tv.gNilT, Tv.gConsT, Tv.gTupT, Tv.cellOf, Tv.env0, Tv.fEq, Tv.fIn, Tv.fI0, Tv.fI, Tv.fSc, Tv.fIsN, Tv.fIsB, Tv.fIx, Tv.fIxS, Tv.fCatT, Tv.fInt1, Tv.fMin2, List.zipWith_cons_cons, List.zipWith_nil_left, List.length_cons, List.length_nil, List.cons_append, List.nil_append, List.replicate, List.getElem?_cons_zero, List.getElem?_cons_succ, List.set_cons_zero, List.set_cons_succ, Tv.wRoom, Tv.wRoomSet, Tv.wIfDraw, Tv.wStar, Tv.wLen6, Tv.wFld, Tv.wExt, Tv.wTru, Tv.wChain, Tv.fIsi, Tv.fInF, Tv.seq_l, Tv.seq_t, Tv.lst_l, Tv.tup_t, Tv.scal_ii, Tv.scal_ss, Tv.scal_bb, Tv.same_ii, Tv.same_ss, Tv.same_bb, Tv.at_0, Tv.at_1, Tv.at_2, Tv.at_3, Tv.isN_non, Tv.isN_int, Tv.isN_str, Tv.isN_tup, Tv.isN_lst, Tv.isN_bl, Cell.val.injEq, T.op.injEq, forall_const, Tv.isi_non_tuple, Tv.isi_non_str, Tv.isi_non_int, Tv.isi_non_bool, Tv.isi_non_dict, Tv.isi_non_list, Tv.isi_bl_tuple, Tv.isi_bl_str, Tv.isi_bl_int, Tv.isi_bl_bool, Tv.isi_bl_dict, Tv.isi_bl_list, Tv.isi_int_tuple, Tv.isi_int_str, Tv.isi_int_int, Tv.isi_int_bool, Tv.isi_int_dict, Tv.isi_int_list, Tv.isi_str_tuple, Tv.isi_str_str, Tv.isi_str_int, Tv.isi_str_bool, Tv.isi_str_dict, Tv.isi_str_list, Tv.isi_tup_tuple, Tv.isi_tup_str, Tv.isi_tup_int, Tv.isi_tup_bool, Tv.isi_tup_dict, Tv.isi_tup_list, Tv.isi_lst_tuple, Tv.isi_lst_str, Tv.isi_lst_int, Tv.isi_lst_bool, Tv.isi_lst_dict, Tv.isi_lst_list, Tv.isi_dic_tuple, Tv.isi_dic_str, Tv.isi_dic_int, Tv.isi_dic_bool, Tv.isi_dic_dict, Tv.isi_dic_list, V.ty.injEq, Tv.wLc2, Tv.fAll, Tv.wDropX, Tv.wSetX, Tv.wRaise, Tv.wIsi2, Tv.wDead, Tv.wStr1, Tv.fInS, Tv.fAddS, Tv.fLenS, Tv.wDisp, Tv.fDIn, Tv.fDGet, Tv.wISet, ↓reduceIte, Bool.false_eq_true, decide_eq_true_eq, T.int.injEq, T.str.injEq, T.bl.injEq, T.lst.injEq, T.tup.injEq, exists_eq_left', exists_eq_left, exists_and_left, true_and, and_true, reduceCtorEq, ne_eq, not_false_eq_true, not_true_eq_false, forall_eq', forall_eq, Option.some.injEq, Option.isSome_some]
      exact (if_neg (by decide +kernel)).mpr <| (if_neg (by decide +kernel)).mpr <| trivial
    · rintro _ rfl
      simp only [Tv.wSeq, Tv.wNext, Tv.wIfS, Tv.wSet, Tv.wSetN, Tv.wRet, Tv.wRetO, Tv.wFrz, Tv.wApp, Tv.wOp, Tv.wTest, Tv.wAnd, Tv.wOr, Tv.wNot, Tv.wIf, Tv.wAndV, Tv.wOrV, Tv.wNotV, Tv.wCall, Tv.wCons, Tv.wNil, Tv.wV, Tv.wC, Tv.wTup, Tv.wLst, Tv.wSeqT, Tv.wO, Tv.wLen, Tv.wList, Tv.wTuple, Tv.wCat, Tv.wSl, Tv.wLst1, Tv.wTup1, Tv.wRng1, Tv.wRng2, Tv.wEnum, Tv.wLc, Tv.wYes, Tv.wCB, Tv.wipeE, Tv.gSet, Tv.gNilT, Tv.gConsT, Tv.gTupT, Tv.cellOf, Tv.env0, Tv.fEq, Tv.fIn, Tv.fI0, Tv.fI, Tv.fSc, Tv.fIsN, Tv.fIsB, Tv.fIx, Tv.fIxS, Tv.fCatT, Tv.fInt1, Tv.fMin2, List.zipWith_cons_cons, List.zipWith_nil_left, List.length_cons, List.length_nil, List.cons_append, List.nil_append, List.replicate, List.getElem?_cons_zero, List.getElem?_cons_succ, List.set_cons_zero, List.set_cons_succ, Tv.wRoom, Tv.wRoomSet, Tv.wIfDraw, Tv.wStar, Tv.wLen6, Tv.wFld, Tv.wExt, Tv.wTru, Tv.wChain, Tv.fIsi, Tv.fInF, Tv.seq_l, Tv.seq_t, Tv.lst_l, Tv.tup_t, Tv.scal_ii, Tv.scal_ss, Tv.scal_bb, Tv.same_ii, Tv.same_ss, Tv.same_bb, Tv.at_0, Tv.at_1, Tv.at_2, Tv.at_3, Tv.isN_non, Tv.isN_int, Tv.isN_str, Tv.isN_tup, Tv.isN_lst, Tv.isN_bl, Cell.val.injEq, T.op.injEq, forall_const, Tv.isi_non_tuple, Tv.isi_non_str, Tv.isi_non_int, Tv.isi_non_bool, Tv.isi_non_dict, Tv.isi_non_list, Tv.isi_bl_tuple, Tv.isi_bl_str, Tv.isi_bl_int, Tv.isi_bl_bool, Tv.isi_bl_dict, Tv.isi_bl_list, Tv.isi_int_tuple, Tv.isi_int_str, Tv.isi_int_int, Tv.isi_int_bool, Tv.isi_int_dict, Tv.isi_int_list, Tv.isi_str_tuple, Tv.isi_str_str, Tv.isi_str_int, Tv.isi_str_bool, Tv.isi_str_dict, Tv.isi_str_list, Tv.isi_tup_tuple, Tv.isi_tup_str, Tv.isi_tup_int, Tv.isi_tup_bool, Tv.isi_tup_dict, Tv.isi_tup_list, Tv.isi_lst_tuple, Tv.isi_lst_str, Tv.isi_lst_int, Tv.isi_lst_bool, Tv.isi_lst_dict, Tv.isi_lst_list, Tv.isi_dic_tuple, Tv.isi_dic_str, Tv.isi_dic_int, Tv.isi_dic_bool, Tv.isi_dic_dict, Tv.isi_dic_list, V.ty.injEq, Tv.wLc2, Tv.fAll, Tv.wDropX, Tv.wSetX, Tv.wRaise, Tv.wIsi2, Tv.wDead, Tv.wStr1, Tv.fInS, Tv.fAddS, Tv.fLenS, Tv.wDisp, Tv.fDIn, Tv.fDGet, Tv.wISet, ↓reduceIte, Bool.false_eq_true, decide_eq_true_eq, T.int.injEq, T.str.injEq, T.bl.injEq, T.lst.injEq, T.tup.injEq, exists_eq_left', exists_eq_left, exists_and_left, true_and, and_true, reduceCtorEq, ne_eq, not_false_eq_true, not_true_eq_false, forall_eq', forall_eq, Option.some.injEq, Option.isSome_some]
      exact (if_neg (by decide +kernel)).mpr <| k
  | join u ps h h1 h2 =>
    rw [inner_join h] at k
    rcases h with rfl | rfl
    · refine ⟨_, rfl, _, Tv.at_0, rfl, (if_neg (by decide +kernel)).mpr ⟨_, rfl, _, Tv.at_0, rfl, (if_neg (by decide +kernel)).mpr ⟨fun e => False, ?_, fun _ h => h.elim⟩⟩⟩
      simp only [Tv.wSeq, Tv.wNext, Tv.wIfS, Tv.wSet, Tv.wSetN, Tv.wRet, Tv.wRetO, Tv.wFrz, Tv.wApp, Tv.wOp, Tv.wTest, Tv.wAnd, Tv.wOr, Tv.wNot, Tv.wIf, Tv.wAndV, Tv.wOrV, Tv.wNotV, Tv.wCall, Tv.wCons, Tv.wNil, Tv.wV, Tv.wC, Tv.wTup, Tv.wLst, Tv.wSeqT, Tv.wO, Tv.wLen, Tv.wList, Tv.wTuple, Tv.wCat, Tv.wSl, Tv.wLst1, Tv.wTup1, Tv.wRng1, Tv.wRng2, Tv.wEnum, Tv.wFor, Tv.wLc, Tv.wYes, Tv.wCB, Tv.wipeE, Tv.gSet, Tv.gNilT, Tv.gConsT, Tv.gTupT, Tv.cellOf, Tv.env0, Tv.fEq, Tv.fIn, Tv.fI0, Tv.fI, Tv.fSc, Tv.fIsN, Tv.fIsB, Tv.fIx, Tv.fIxS, Tv.fCatT, Tv.fInt1, Tv.fMin2, List.zipWith_cons_cons, List.zipWith_nil_left, List.length_cons, List.length_nil, List.cons_append, List.nil_append, List.replicate, List.getElem?_cons_zero, List.getElem?_cons_succ, List.set_cons_zero, List.set_cons_succ, Tv.wRoom, Tv.wRoomSet, Tv.wIfDraw, Tv.wStar, Tv.wLen6, Tv.wFld, Tv.wExt, Tv.wTru, Tv.wChain, Tv.fIsi, Tv.fInF, Tv.seq_l, Tv.seq_t, Tv.lst_l, Tv.tup_t, Tv.scal_ii, Tv.scal_ss, Tv.scal_bb, Tv.same_ii, Tv.same_ss, Tv.same_bb, Tv.at_0, Tv.at_1, Tv.at_2, Tv.at_3, Tv.isN_non, Tv.isN_int, Tv.isN_str, Tv.isN_tup, Tv.isN_lst, Tv.isN_bl, Cell.val.injEq, T.op.injEq, forall_const, Tv.isi_non_tuple, Tv.isi_non_str, Tv.isi_non_int, Tv.isi_non_bool, Tv.isi_non_dict, Tv.isi_non_list, Tv.isi_bl_tuple, Tv.isi_bl_str, Tv.isi_bl_int, Tv.isi_bl_bool, Tv.isi_bl_dict, Tv.isi_bl_list, Tv.isi_int_tuple, Tv.isi_int_str, Tv.isi_int_int, Tv.isi_int_bool, Tv.isi_int_dict, Tv.isi_int_list, Tv.isi_str_tuple, Tv.isi_str_str, Tv.isi_str_int, Tv.isi_str_bool, Tv.isi_str_dict, Tv.isi_str_list, Tv.isi_tup_tuple, Tv.isi_tup_str, Tv.isi_tup_int, Tv.isi_tup_bool, Tv.isi_tup_dict, Tv.isi_tup_list, Tv.isi_lst_tuple, Tv.isi_lst_str, Tv.isi_lst_int, Tv.isi_lst_bool, Tv.isi_lst_dict, Tv.isi_lst_list, Tv.isi_dic_tuple, Tv.isi_dic_str, Tv.isi_dic_int, Tv.isi_dic_bool, Tv.isi_dic_dict, Tv.isi_dic_list, V.ty.injEq, Tv.wLc2, Tv.fAll, Tv.wDropX, Tv.wSetX, Tv.wRaise, Tv.wIsi2, Tv.wDead, Tv.wStr1, Tv.fInS, Tv.fAddS, Tv.fLenS, Tv.wDisp, Tv.fDIn, Tv.fDGet, Tv.wISet, ↓reduceIte, Bool.false_eq_true, decide_eq_true_eq, T.int.injEq, T.str.injEq, T.bl.injEq, T.lst.injEq, T.tup.injEq, exists_eq_left', exists_eq_left, exists_and_left, true_and, and_true, reduceCtorEq, ne_eq, not_false_eq_true, not_true_eq_false, forall_eq', forall_eq, Option.some.injEq, Option.isSome_some]
      exact k
    · refine ⟨_, rfl, _, Tv.at_0, rfl, (if_neg (by decide +kernel)).mpr ⟨_, rfl, _, Tv.at_0, rfl, (if_neg (by decide +kernel)).mpr ⟨fun e => False, ?_, fun _ h => h.elim⟩⟩⟩
      simp only [Tv.wSeq, Tv.wNext, Tv.wIfS, Tv.wSet, Tv.wSetN, Tv.wRet, Tv.wRetO, Tv.wFrz, Tv.wApp, Tv.wOp, Tv.wTest, Tv.wAnd, Tv.wOr, Tv.wNot, Tv.wIf, Tv.wAndV, Tv.wOrV, Tv.wNotV, Tv.wCall, Tv.wCons, Tv.wNil, Tv.wV, Tv.wC, Tv.wTup, Tv.wLst, Tv.wSeqT, Tv.wO, Tv.wLen, Tv.wList, Tv.wTuple, Tv.wCat, Tv.wSl, Tv.wLst1, Tv.wTup1, Tv.wRng1, Tv.wRng2, Tv.wEnum, Tv.wFor, Tv.wLc, Tv.wYes, Tv.wCB, Tv.wipeE, Tv.gSet, Tv.gNilT, Tv.gConsT, Tv.gTupT, Tv.cellOf, Tv.env0, Tv.fEq, Tv.fIn, Tv.fI0, Tv.fI, Tv.fSc, Tv.fIsN, Tv.fIsB, Tv.fIx, Tv.fIxS, Tv.fCatT, Tv.fInt1, Tv.fMin2, List.zipWith_cons_cons, List.zipWith_nil_left, List.length_cons, List.length_nil, List.cons_append, List.nil_append, List.replicate, List.getElem?_cons_zero, List.getElem?_cons_succ, List.set_cons_zero, List.set_cons_succ, Tv.wRoom, Tv.wRoomSet, Tv.wIfDraw, Tv.wStar, Tv.wLen6, Tv.wFld, Tv.wExt, Tv.wTru, Tv.wChain, Tv.fIsi, Tv.fInF, Tv.seq_l, Tv.seq_t, Tv.lst_l, Tv.tup_t, Tv.scal_ii, Tv.scal_ss, Tv.scal_bb, Tv.same_ii, Tv.same_ss, Tv.same_bb, Tv.at_0, Tv.at_1, Tv.at_2, Tv.at_3, Tv.isN_non, Tv.isN_int, Tv.isN_str, Tv.isN_tup, Tv.isN_lst, Tv.isN_bl, Cell.val.injEq, T.op.injEq, forall_const, Tv.isi_non_tuple, Tv.isi_non_str, Tv.isi_non_int, Tv.isi_non_bool, Tv.isi_non_dict, Tv.isi_non_list, Tv.isi_bl_tuple, Tv.isi_bl_str, Tv.isi_bl_int, Tv.isi_bl_bool, Tv.isi_bl_dict, Tv.isi_bl_list, Tv.isi_int_tuple, Tv.isi_int_str, Tv.isi_int_int, Tv.isi_int_bool, Tv.isi_int_dict, Tv.isi_int_list, Tv.isi_str_tuple, Tv.isi_str_str, Tv.isi_str_int, Tv.isi_str_bool, Tv.isi_str_dict, Tv.isi_str_list, Tv.isi_tup_tuple, Tv.isi_tup_str, Tv.isi_tup_int, Tv.isi_tup_bool, Tv.isi_tup_dict, Tv.isi_tup_list, Tv.isi_lst_tuple, Tv.isi_lst_str, Tv.isi_lst_int, Tv.isi_lst_bool, Tv.isi_lst_dict, Tv.isi_lst_list, Tv.isi_dic_tuple, Tv.isi_dic_str, Tv.isi_dic_int, Tv.isi_dic_bool, Tv.isi_dic_dict, Tv.isi_dic_list, V.ty.injEq, Tv.wLc2, Tv.fAll, Tv.wDropX, Tv.wSetX, Tv.wRaise, Tv.wIsi2, Tv.wDead, Tv.wStr1, Tv.fInS, Tv.fAddS, Tv.fLenS, Tv.wDisp, Tv.fDIn, Tv.fDGet, Tv.wISet, ↓reduceIte, Bool.false_eq_true, decide_eq_true_eq, T.int.injEq, T.str.injEq, T.bl.injEq, T.lst.injEq, T.tup.injEq, exists_eq_left', exists_eq_left, exists_and_left, true_and, and_true, reduceCtorEq, ne_eq, not_false_eq_true, not_true_eq_false, forall_eq', forall_eq, Option.some.injEq, Option.isSome_some]
      exact k
  | case bs l h1 h2 =>
    rw [inner_case] at k
    refine ⟨_, rfl, _, Tv.at_0, rfl, (if_neg (by decide +kernel)).mpr ⟨_, rfl, _, Tv.at_0, rfl, (if_neg (by decide +kernel)).mpr ⟨fun e => e = [.val (.tup [.str "case", .tup (bs.map fun b : T × T => T.tup [b.1, b.2]), l]), .un, .un], ?_, ?_⟩⟩⟩
    · simp only [Tv.wSeq, Tv.wNext, Tv.wIfS, Tv.wSet, Tv.wSetN, Tv.wRet, Tv.wRetO, Tv.wFrz, Tv.wApp, Tv.wOp, Tv.wTest, Tv.wAnd, Tv.wOr, Tv.wNot, Tv.wIf, Tv.wAndV, Tv.wOrV, Tv.wNotV, Tv.wCall, Tv.wCons, Tv.wNil, Tv.wV, Tv.wC, Tv.wTup, Tv.wLst, Tv.wSeqT, Tv.wO, Tv.wLen, Tv.wList, Tv.wTuple, Tv.wCat, Tv.wSl, Tv.wLst1, Tv.wTup1, Tv.wRng1, Tv.wRng2, Tv.wEnum, Tv.wFor, Tv.wLc, Tv.wYes, Tv.wCB, Tv.wipeE, Tv.gSet, Tv.gNilT, Tv.gConsT, Tv.gTupT, Tv.cellOf, Tv.env0, Tv.fEq, Tv.fIn, Tv.fI0, Tv.fI, Tv.fSc, Tv.fIsN, Tv.fIsB, Tv.fIx, Tv.fIxS, Tv.fCatT, Tv.fInt1, Tv.fMin2, List.zipWith_cons_cons, List.zipWith_nil_left, List.length_cons, List.length_nil, List.cons_append, List.nil_append, List.replicate, List.getElem?_cons_zero, List.getElem?_cons_succ, List.set_cons_zero, List.set_cons_succ, Tv.wRoom, Tv.wRoomSet, Tv.wIfDraw, Tv.wStar, Tv.wLen6, Tv.wFld, Tv.wExt, Tv.wTru, Tv.wChain, Tv.fIsi, Tv.fInF, Tv.seq_l, Tv.seq_t, Tv.lst_l, Tv.tup_t, Tv.scal_ii, Tv.scal_ss, Tv.scal_bb, Tv.same_ii, Tv.same_ss, Tv.same_bb, Tv.at_0, Tv.at_1, Tv.at_2, Tv.at_3, Tv.isN_non, Tv.isN_int, Tv.isN_str, Tv.isN_tup, Tv.isN_lst, Tv.isN_bl, Cell.val.injEq, T.op.injEq, forall_const, Tv.isi_non_tuple, Tv.isi_non_str, Tv.isi_non_int, Tv.isi_non_bool, Tv.isi_non_dict, Tv.isi_non_list, Tv.isi_bl_tuple, Tv.isi_bl_str, Tv.isi_bl_int, Tv.isi_bl_bool, Tv.isi_bl_dict, Tv.isi_bl_list, Tv.isi_int_tuple, Tv.isi_int_str, Tv.isi_int_int, Tv.isi_int_bool, Tv.isi_int_dict, Tv.isi_int_list, Tv.isi_str_tuple, Tv.isi_str_str, Tv.isi_str_int, Tv.isi_str_bool, Tv.isi_str_dict, Tv.isi_str_list, Tv.isi_tup_tuple, Tv.isi_tup_str, Tv.isi_tup_int, Tv.isi_tup_bool, Tv.isi_tup_dict, Tv.isi_tup_list, Tv.isi_lst_tuple, Tv.isi_lst_str, Tv.isi_lst_int, Tv.isi_lst_bool, Tv.isi_lst_dict, Tv.isi_lst_list, Tv.isi_dic_tuple, Tv.isi_dic_str, Tv.isi_dic_int, Tv.isi_dic_bool, Tv.isi_dic_dict, Tv.isi_dic_list, V.ty.injEq, Tv.wLc2, Tv.fAll, Tv.wDropX, Tv.wSetX, Tv.wRaise, Tv.wIsi2, Tv.wDead, Tv.wStr1, Tv.fInS, Tv.fAddS, Tv.fLenS, Tv.wDisp, Tv.fDIn, Tv.fDGet, Tv.wISet, ↓reduceIte, Bool.false_eq_true, decide_eq_true_eq, T.int.injEq, T.str.injEq, T.bl.injEq, T.lst.injEq, T.tup.injEq, exists_eq_left', exists_eq_left, exists_and_left, true_and, and_true, reduceCtorEq, ne_eq, not_false_eq_true, not_true_eq_false, forall_eq', forall_eq, Option.some.injEq, Option.isSome_some]
      exact (if_neg (by decide +kernel)).mpr <| (if_neg (by decide +kernel)).mpr <| trivial
    · rintro _ rfl
      simp only [Tv.wSeq, Tv.wNext, Tv.wIfS, Tv.wSet, Tv.wSetN, Tv.wRet, Tv.wRetO, Tv.wFrz, Tv.wApp, Tv.wOp, Tv.wTest, Tv.wAnd, Tv.wOr, Tv.wNot, Tv.wIf, Tv.wAndV, Tv.wOrV, Tv.wNotV, Tv.wCall, Tv.wCons, Tv.wNil, Tv.wV, Tv.wC, Tv.wTup, Tv.wLst, Tv.wSeqT, Tv.wO, Tv.wLen, Tv.wList, Tv.wTuple, Tv.wCat, Tv.wSl, Tv.wLst1, Tv.wTup1, Tv.wRng1, Tv.wRng2, Tv.wEnum, Tv.wLc, Tv.wYes, Tv.wCB, Tv.wipeE, Tv.gSet, Tv.gNilT, Tv.gConsT, Tv.gTupT, Tv.cellOf, Tv.env0, Tv.fEq, Tv.fIn, Tv.fI0, Tv.fI, Tv.fSc, Tv.fIsN, Tv.fIsB, Tv.fIx, Tv.fIxS, Tv.fCatT, Tv.fInt1, Tv.fMin2, List.zipWith_cons_cons, List.zipWith_nil_left, List.length_cons, List.length_nil, List.cons_append, List.nil_append, List.replicate, List.getElem?_cons_zero, List.getElem?_cons_succ, List.set_cons_zero, List.set_cons_succ, Tv.wRoom, Tv.wRoomSet, Tv.wIfDraw, Tv.wStar, Tv.wLen6, Tv.wFld, Tv.wExt, Tv.wTru, Tv.wChain, Tv.fIsi, Tv.fInF, Tv.seq_l, Tv.seq_t, Tv.lst_l, Tv.tup_t, Tv.scal_ii, Tv.scal_ss, Tv.scal_bb, Tv.same_ii, Tv.same_ss, Tv.same_bb, Tv.at_0, Tv.at_1, Tv.at_2, Tv.at_3, Tv.isN_non, Tv.isN_int, Tv.isN_str, Tv.isN_tup, Tv.isN_lst, Tv.isN_bl, Cell.val.injEq, T.op.injEq, forall_const, Tv.isi_non_tuple, Tv.isi_non_str, Tv.isi_non_int, Tv.isi_non_bool, Tv.isi_non_dict, Tv.isi_non_list, Tv.isi_bl_tuple, Tv.isi_bl_str, Tv.isi_bl_int, Tv.isi_bl_bool, Tv.isi_bl_dict, Tv.isi_bl_list, Tv.isi_int_tuple, Tv.isi_int_str, Tv.isi_int_int, Tv.isi_int_bool, Tv.isi_int_dict, Tv.isi_int_list, Tv.isi_str_tuple, Tv.isi_str_str, Tv.isi_str_int, Tv.isi_str_bool, Tv.isi_str_dict, Tv.isi_str_list, Tv.isi_tup_tuple, Tv.isi_tup_str, Tv.isi_tup_int, Tv.isi_tup_bool, Tv.isi_tup_dict, Tv.isi_tup_list, Tv.isi_lst_tuple, Tv.isi_lst_str, Tv.isi_lst_int, Tv.isi_lst_bool, Tv.isi_lst_dict, Tv.isi_lst_list, Tv.isi_dic_tuple, Tv.isi_dic_str, Tv.isi_dic_int, Tv.isi_dic_bool, Tv.isi_dic_dict, Tv.isi_dic_list, V.ty.injEq, Tv.wLc2, Tv.fAll, Tv.wDropX, Tv.wSetX, Tv.wRaise, Tv.wIsi2, Tv.wDead, Tv.wStr1, Tv.fInS, Tv.fAddS, Tv.fLenS, Tv.wDisp, Tv.fDIn, Tv.fDGet, Tv.wISet, ↓reduceIte, Bool.false_eq_true, decide_eq_true_eq, T.int.injEq, T.str.injEq, T.bl.injEq, T.lst.injEq, T.tup.injEq, exists_eq_left', exists_eq_left, exists_and_left, true_and, and_true, reduceCtorEq, ne_eq, not_false_eq_true, not_true_eq_false, forall_eq', forall_eq, Option.some.injEq, Option.isSome_some]
      unfold Tv.wFor
      simp only [Tv.wTup1, Tv.wLst1, Tv.wOp, Tv.wV, Tv.wC, Tv.fIx, List.getElem?_cons_zero, List.getElem?_cons_succ, ↓reduceIte, Bool.false_eq_true, decide_eq_true_eq, T.int.injEq, T.str.injEq, T.bl.injEq, T.lst.injEq, T.tup.injEq, exists_eq_left', exists_eq_left, exists_and_left, true_and, and_true, reduceCtorEq, ne_eq, not_false_eq_true, not_true_eq_false, forall_eq', forall_eq, Option.some.injEq, Option.isSome_some]
      refine ⟨_, rfl, _, Tv.at_1, _, rfl, fun i e => ∃ c, e = [.val (.tup [.str "case", .tup (bs.map fun b : T × T => T.tup [b.1, b.2]), l]), .own (.lst ((bs.take i).flatMap fun b => [b.1, b.2])), c], ⟨_, rfl⟩, ?_, ?_⟩
      · rintro i t env' hi ⟨c, rfl⟩
        obtain ⟨b, hb, rfl⟩ : ∃ b, bs[i]? = some b ∧ t = .tup [b.1, b.2] := by
          rw [List.getElem?_map] at hi
          obtain ⟨b, h3, h4⟩ := Option.map_eq_some_iff.mp hi
          exact ⟨b, h3, h4.symm⟩
        simp only [Tv.wSeq, Tv.wNext, Tv.wIfS, Tv.wSet, Tv.wSetN, Tv.wRet, Tv.wRetO, Tv.wFrz, Tv.wApp, Tv.wOp, Tv.wTest, Tv.wAnd, Tv.wOr, Tv.wNot, Tv.wIf, Tv.wAndV, Tv.wOrV, Tv.wNotV, Tv.wCall, Tv.wCons, Tv.wNil, Tv.wV, Tv.wC, Tv.wTup, Tv.wLst, Tv.wSeqT, Tv.wO, Tv.wLen, Tv.wList, Tv.wTuple, Tv.wCat, Tv.wSl, Tv.wLst1, Tv.wTup1, Tv.wRng1, Tv.wRng2, Tv.wEnum, Tv.wFor, Tv.wLc, Tv.wYes, Tv.wCB, Tv.wipeE, Tv.gSet, Tv.gNilT, Tv.gConsT, Tv.gTupT, Tv.cellOf, Tv.env0, Tv.fEq, Tv.fIn, Tv.fI0, Tv.fI, Tv.fSc, Tv.fIsN, Tv.fIsB, Tv.fIx, Tv.fIxS, Tv.fCatT, Tv.fInt1, Tv.fMin2, List.zipWith_cons_cons, List.zipWith_nil_left, List.length_cons, List.length_nil, List.cons_append, List.nil_append, List.replicate, List.getElem?_cons_zero, List.getElem?_cons_succ, List.set_cons_zero, List.set_cons_succ, Tv.wRoom, Tv.wRoomSet, Tv.wIfDraw, Tv.wStar, Tv.wLen6, Tv.wFld, Tv.wExt, Tv.wTru, Tv.wChain, Tv.fIsi, Tv.fInF, Tv.seq_l, Tv.seq_t, Tv.lst_l, Tv.tup_t, Tv.scal_ii, Tv.scal_ss, Tv.scal_bb, Tv.same_ii, Tv.same_ss, Tv.same_bb, Tv.at_0, Tv.at_1, Tv.at_2, Tv.at_3, Tv.isN_non, Tv.isN_int, Tv.isN_str, Tv.isN_tup, Tv.isN_lst, Tv.isN_bl, Cell.val.injEq, T.op.injEq, forall_const, Tv.isi_non_tuple, Tv.isi_non_str, Tv.isi_non_int, Tv.isi_non_bool, Tv.isi_non_dict, Tv.isi_non_list, Tv.isi_bl_tuple, Tv.isi_bl_str, Tv.isi_bl_int, Tv.isi_bl_bool, Tv.isi_bl_dict, Tv.isi_bl_list, Tv.isi_int_tuple, Tv.isi_int_str, Tv.isi_int_int, Tv.isi_int_bool, Tv.isi_int_dict, Tv.isi_int_list, Tv.isi_str_tuple, Tv.isi_str_str, Tv.isi_str_int, Tv.isi_str_bool, Tv.isi_str_dict, Tv.isi_str_list, Tv.isi_tup_tuple, Tv.isi_tup_str, Tv.isi_tup_int, Tv.isi_tup_bool, Tv.isi_tup_dict, Tv.isi_tup_list, Tv.isi_lst_tuple, Tv.isi_lst_str, Tv.isi_lst_int, Tv.isi_lst_bool, Tv.isi_lst_dict, Tv.isi_lst_list, Tv.isi_dic_tuple, Tv.isi_dic_str, Tv.isi_dic_int, Tv.isi_dic_bool, Tv.isi_dic_dict, Tv.isi_dic_list, V.ty.injEq, Tv.wLc2, Tv.fAll, Tv.wDropX, Tv.wSetX, Tv.wRaise, Tv.wIsi2, Tv.wDead, Tv.wStr1, Tv.fInS, Tv.fAddS, Tv.fLenS, Tv.wDisp, Tv.fDIn, Tv.fDGet, Tv.wISet, ↓reduceIte, Bool.false_eq_true, decide_eq_true_eq, T.int.injEq, T.str.injEq, T.bl.injEq, T.lst.injEq, T.tup.injEq, exists_eq_left', exists_eq_left, exists_and_left, true_and, and_true, reduceCtorEq, ne_eq, not_false_eq_true, not_true_eq_false, forall_eq', forall_eq, Option.some.injEq, Option.isSome_some]
        have e : (bs.take (i + 1)).flatMap (fun b => [b.1, b.2]) = (bs.take i).flatMap (fun b => [b.1, b.2]) ++ [b.1, b.2] := by
          rw [List.take_add_one, hb, List.flatMap_append]
          rfl
        rw [e]
        exact ⟨by rw [len_flat, List.length_take]; omega, _, rfl⟩
      · rintro env' ⟨c, rfl⟩
        simp only [Tv.wSeq, Tv.wNext, Tv.wIfS, Tv.wSet, Tv.wSetN, Tv.wRet, Tv.wRetO, Tv.wFrz, Tv.wApp, Tv.wOp, Tv.wTest, Tv.wAnd, Tv.wOr, Tv.wNot, Tv.wIf, Tv.wAndV, Tv.wOrV, Tv.wNotV, Tv.wCall, Tv.wCons, Tv.wNil, Tv.wV, Tv.wC, Tv.wTup, Tv.wLst, Tv.wSeqT, Tv.wO, Tv.wLen, Tv.wList, Tv.wTuple, Tv.wCat, Tv.wSl, Tv.wLst1, Tv.wTup1, Tv.wRng1, Tv.wRng2, Tv.wEnum, Tv.wFor, Tv.wLc, Tv.wYes, Tv.wCB, Tv.wipeE, Tv.gSet, Tv.gNilT, Tv.gConsT, Tv.gTupT, Tv.cellOf, Tv.env0, Tv.fEq, Tv.fIn, Tv.fI0, Tv.fI, Tv.fSc, Tv.fIsN, Tv.fIsB, Tv.fIx, Tv.fIxS, Tv.fCatT, Tv.fInt1, Tv.fMin2, List.zipWith_cons_cons, List.zipWith_nil_left, List.length_cons, List.length_nil, List.cons_append, List.nil_append, List.replicate, List.getElem?_cons_zero, List.getElem?_cons_succ, List.set_cons_zero, List.set_cons_succ, Tv.wRoom, Tv.wRoomSet, Tv.wIfDraw, Tv.wStar, Tv.wLen6, Tv.wFld, Tv.wExt, Tv.wTru, Tv.wChain, Tv.fIsi, Tv.fInF, Tv.seq_l, Tv.seq_t, Tv.lst_l, Tv.tup_t, Tv.scal_ii, Tv.scal_ss, Tv.scal_bb, Tv.same_ii, Tv.same_ss, Tv.same_bb, Tv.at_0, Tv.at_1, Tv.at_2, Tv.at_3, Tv.isN_non, Tv.isN_int, Tv.isN_str, Tv.isN_tup, Tv.isN_lst, Tv.isN_bl, Cell.val.injEq, T.op.injEq, forall_const, Tv.isi_non_tuple, Tv.isi_non_str, Tv.isi_non_int, Tv.isi_non_bool, Tv.isi_non_dict, Tv.isi_non_list, Tv.isi_bl_tuple, Tv.isi_bl_str, Tv.isi_bl_int, Tv.isi_bl_bool, Tv.isi_bl_dict, Tv.isi_bl_list, Tv.isi_int_tuple, Tv.isi_int_str, Tv.isi_int_int, Tv.isi_int_bool, Tv.isi_int_dict, Tv.isi_int_list, Tv.isi_str_tuple, Tv.isi_str_str, Tv.isi_str_int, Tv.isi_str_bool, Tv.isi_str_dict, Tv.isi_str_list, Tv.isi_tup_tuple, Tv.isi_tup_str, Tv.isi_tup_int, Tv.isi_tup_bool, Tv.isi_tup_dict, Tv.isi_tup_list, Tv.isi_lst_tuple, Tv.isi_lst_str, Tv.isi_lst_int, Tv.isi_lst_bool, Tv.isi_lst_dict, Tv.isi_lst_list, Tv.isi_dic_tuple, Tv.isi_dic_str, Tv.isi_dic_int, Tv.isi_dic_bool, Tv.isi_dic_dict, Tv.isi_dic_list, V.ty.injEq, Tv.wLc2, Tv.fAll, Tv.wDropX, Tv.wSetX, Tv.wRaise, Tv.wIsi2, Tv.wDead, Tv.wStr1, Tv.fInS, Tv.fAddS, Tv.fLenS, Tv.wDisp, Tv.fDIn, Tv.fDGet, Tv.wISet, ↓reduceIte, Bool.false_eq_true, decide_eq_true_eq, T.int.injEq, T.str.injEq, T.bl.injEq, T.lst.injEq, T.tup.injEq, exists_eq_left', exists_eq_left, exists_and_left, true_and, and_true, reduceCtorEq, ne_eq, not_false_eq_true, not_true_eq_false, forall_eq', forall_eq, Option.some.injEq, Option.isSome_some]
        rw [List.length_map, List.take_length]
        exact ⟨by rw [len_flat]; omega, k⟩
theorem scLNum : FnScope ["_law_item"] ["_law_item"] (defScope sLNum) := ⟨rfl, rfl, rfl, by decide +kernel, rfl, by decide +kernel, by decide +kernel⟩
theorem okLNum {f : Addr} {fd : FuncData} (F : Fun K "_law_number_fits" "_law_number_fits" sLNum f fd) (B : Bt mg)  : FnOk P w K mg base CX0 1 f fd ["_law_item"] (spT K [.B] false cIsInt) := by
  refine okv2 F scLNum rfl (by decide) fun cdv A outer s H E R ts Pt hr hc => ?_
  obtain ⟨t, rfl, hd, k⟩ := hc
  refine ⟨_, (one_ (ret_ (pandV_ (pcb_ (μ := .M) rc_isi (fun a => pe_callB call_isi (by rfl) B.isi (by decide +kernel) a) (pa1_ (pv_ (κ := .M) 0 (pv 0)) (pa1_ (pty_ (κ := .M) (pe_bltn (v := .ty "int") (by rfl) B.int (by decide +kernel) rfl)) pa0_))) (pone_ (pnotV_ (μ := .S) (pcb_ (μ := .M) rc_isi (fun a => pe_callB call_isi (by rfl) B.isi (by decide +kernel) a) (pa1_ (pv_ (κ := .M) 0 (pv 0)) (pa1_ (pty_ (κ := .M) (pe_bltn (v := .ty "bool") (by rfl) B.bool (by decide +kernel) rfl)) pa0_)))))))), ?_⟩
  simp only [Tv.wSeq, Tv.wNext, Tv.wIfS, Tv.wSet, Tv.wSetN, Tv.wRet, Tv.wRetO, Tv.wFrz, Tv.wApp, Tv.wOp, Tv.wTest, Tv.wAnd, Tv.wOr, Tv.wNot, Tv.wIf, Tv.wAndV, Tv.wOrV, Tv.wNotV, Tv.wCall, Tv.wCons, Tv.wNil, Tv.wV, Tv.wC, Tv.wTup, Tv.wLst, Tv.wSeqT, Tv.wO, Tv.wLen, Tv.wList, Tv.wTuple, Tv.wCat, Tv.wSl, Tv.wLst1, Tv.wTup1, Tv.wRng1, Tv.wRng2, Tv.wEnum, Tv.wFor, Tv.wLc, Tv.wYes, Tv.wCB, Tv.wipeE, Tv.gSet, Tv.gNilT, Tv.gConsT, Tv.gTupT, Tv.cellOf, Tv.env0, Tv.fEq, Tv.fIn, Tv.fI0, Tv.fI, Tv.fSc, Tv.fIsN, Tv.fIsB, Tv.fIx, Tv.fIxS, Tv.fCatT, Tv.fInt1, Tv.fMin2, List.zipWith_cons_cons, List.zipWith_nil_left, List.length_cons, List.length_nil, List.cons_append, List.nil_append, List.replicate, List.getElem?_cons_zero, List.getElem?_cons_succ, List.set_cons_zero, List.set_cons_succ, Tv.wRoom, Tv.wRoomSet, Tv.wIfDraw, Tv.wStar, Tv.wLen6, Tv.wFld, Tv.wExt, Tv.wTru, Tv.wChain, Tv.fIsi, Tv.fInF, Tv.seq_l, Tv.seq_t, Tv.lst_l, Tv.tup_t, Tv.scal_ii, Tv.scal_ss, Tv.scal_bb, Tv.same_ii, Tv.same_ss, Tv.same_bb, Tv.at_0, Tv.at_1, Tv.at_2, Tv.at_3, Tv.isN_non, Tv.isN_int, Tv.isN_str, Tv.isN_tup, Tv.isN_lst, Tv.isN_bl, Cell.val.injEq, T.op.injEq, forall_const, Tv.isi_non_tuple, Tv.isi_non_str, Tv.isi_non_int, Tv.isi_non_bool, Tv.isi_non_dict, Tv.isi_non_list, Tv.isi_bl_tuple, Tv.isi_bl_str, Tv.isi_bl_int, Tv.isi_bl_bool, Tv.isi_bl_dict, Tv.isi_bl_list, Tv.isi_int_tuple, Tv.isi_int_str, Tv.isi_int_int, Tv.isi_int_bool, Tv.isi_int_dict, Tv.isi_int_list, Tv.isi_str_tuple, Tv.isi_str_str, Tv.isi_str_int, Tv.isi_str_bool, Tv.isi_str_dict, Tv.isi_str_list, Tv.isi_tup_tuple, Tv.isi_tup_str, Tv.isi_tup_int, Tv.isi_tup_bool, Tv.isi_tup_dict, Tv.isi_tup_list, Tv.isi_lst_tuple, Tv.isi_lst_str, Tv.isi_lst_int, Tv.isi_lst_bool, Tv.isi_lst_dict, Tv.isi_lst_list, Tv.isi_dic_tuple, Tv.isi_dic_str, Tv.isi_dic_int, Tv.isi_dic_bool, Tv.isi_dic_dict, Tv.isi_dic_list, V.ty.injEq, Tv.wLc2, Tv.fAll, Tv.wDropX, Tv.wSetX, Tv.wRaise, Tv.wIsi2, Tv.wDead, Tv.wStr1, Tv.fInS, Tv.fAddS, Tv.fLenS, Tv.wDisp, Tv.fDIn, Tv.fDGet, Tv.wISet, ↓reduceIte, Bool.false_eq_true, decide_eq_true_eq, T.int.injEq, T.str.injEq, T.bl.injEq, T.lst.injEq, T.tup.injEq, exists_eq_left', exists_eq_left, exists_and_left, true_and, and_true, reduceCtorEq, ne_eq, not_false_eq_true, not_true_eq_false, forall_eq', forall_eq, Option.some.injEq, Option.isSome_some]
  refine ⟨_, _, rfl, _, isiI hd, ?_⟩
  split
  · refine ⟨_, _, rfl, _, isiB hd, ?_⟩
    cases t <;> first | exact k | simp_all [isIntB, isBlB]
  · cases t <;> first | exact k | simp_all [isIntB, isBlB]
theorem scLBr : FnScope ["_law_item", "_law_branch"] ["_law_item"] (defScope sLBr) := ⟨rfl, rfl, rfl, by decide +kernel, rfl, by decide +kernel, by decide +kernel⟩
theorem okLBr {f : Addr} {fd : FuncData} (F : Fun K "_law_branches_fit" "_law_branches_fit" sLBr f fd) (B : Bt mg)  : FnOk P w K mg base CX0 1 f fd ["_law_item"] (spT K [.S] false cBr) := by
  refine okv2 F scLBr rfl (by decide) fun cdv A outer s H E R ts Pt hr hc => ?_
  obtain ⟨t, rfl, dt, k⟩ := hc
  refine ⟨_, (cut_ (if_ (PWv.pt (por_ (pnot_ (ptval_ (fun a => pt_val a) (pcb_ (μ := .M) rc_isi (fun a => pe_callB call_isi (by rfl) B.isi (by decide +kernel) a) (pa1_ (pv_ (κ := .M) 0 (pv 0)) (pa1_ (pty_ (κ := .M) (pe_bltn (v := .ty "tuple") (by rfl) B.tuple (by decide +kernel) rfl)) pa0_))))) (por_ (ptcmp_ op_lt (re_I0 fun _ _ _ => .bl _) (nomark _) (plen_ (μ := .M) (PEv.items (pv_ (κ := .S) 0 (pv 0))) (fun a => pe_callB call_len_seq (by rfl) B.len PySem.boot_len (pa_cons a pa_nil))) (pint_ (κ := .M))) (por1_ (ptcmp_ op_gt (re_I0 fun _ _ _ => .bl _) (nomark _) (plen_ (μ := .M) (PEv.items (pv_ (κ := .S) 0 (pv 0))) (fun a => pe_callB call_len_seq (by rfl) B.len PySem.boot_len (pa_cons a pa_nil))) (pint_ (κ := .M))))))) (one_ (ret_ (pbl_ (κ := .S)))) nil_)
      (cons_ (for_ (srcT_ (pv_ (κ := .S) 0 (pv 0))) (gnm_ (κ := .S) 1 (by decide) (pg_name (i := 1) scLBr.nd rfl (Or.inl rfl)))
      (one_ (if_ (PWv.pt (por_ (pnot_ (ptval_ (fun a => pt_val a) (pcb_ (μ := .M) rc_isi (fun a => pe_callB call_isi (by rfl) B.isi (by decide +kernel) a) (pa1_ (pv_ (κ := .M) 1 (pv 1)) (pa1_ (pty_ (κ := .M) (pe_bltn (v := .ty "tuple") (by rfl) B.tuple (by decide +kernel) rfl)) pa0_))))) (por1_ (ptcmp_ op_ne re_nsc (nomark _) (plen_ (μ := .M) (PEv.items (pv_ (κ := .S) 1 (pv 1))) (fun a => pe_callB call_len_seq (by rfl) B.len PySem.boot_len (pa_cons a pa_nil))) (pint_ (κ := .M)))))) (one_ (ret_ (pbl_ (κ := .S)))) nil_)) (fun a b c => ps_for PassesOwn.never rfl a b c))
      (one_ (ret_ (pbl_ (κ := .S)))))), ?_⟩
  simp only [Tv.wSeq, Tv.wNext, Tv.wIfS, Tv.wSet, Tv.wSetN, Tv.wRet, Tv.wRetO, Tv.wFrz, Tv.wApp, Tv.wOp, Tv.wTest, Tv.wAnd, Tv.wOr, Tv.wNot, Tv.wIf, Tv.wAndV, Tv.wOrV, Tv.wNotV, Tv.wCall, Tv.wCons, Tv.wNil, Tv.wV, Tv.wC, Tv.wTup, Tv.wLst, Tv.wSeqT, Tv.wO, Tv.wLen, Tv.wList, Tv.wTuple, Tv.wCat, Tv.wSl, Tv.wLst1, Tv.wTup1, Tv.wRng1, Tv.wRng2, Tv.wEnum, Tv.wLc, Tv.wYes, Tv.wCB, Tv.wipeE, Tv.gSet, Tv.gNilT, Tv.gConsT, Tv.gTupT, Tv.cellOf, Tv.env0, Tv.fEq, Tv.fIn, Tv.fI0, Tv.fI, Tv.fSc, Tv.fIsN, Tv.fIsB, Tv.fIx, Tv.fIxS, Tv.fCatT, Tv.fInt1, Tv.fMin2, List.zipWith_cons_cons, List.zipWith_nil_left, List.length_cons, List.length_nil, List.cons_append, List.nil_append, List.replicate, List.getElem?_cons_zero, List.getElem?_cons_succ, List.set_cons_zero, List.set_cons_succ, Tv.wRoom, Tv.wRoomSet, Tv.wIfDraw, Tv.wStar, Tv.wLen6, Tv.wFld, Tv.wExt, Tv.wTru, Tv.wChain, Tv.fIsi, Tv.fInF, Tv.seq_l, Tv.seq_t, Tv.lst_l, Tv.tup_t, Tv.scal_ii, Tv.scal_ss, Tv.scal_bb, Tv.same_ii, Tv.same_ss, Tv.same_bb, Tv.at_0, Tv.at_1, Tv.at_2, Tv.at_3, Tv.isN_non, Tv.isN_int, Tv.isN_str, Tv.isN_tup, Tv.isN_lst, Tv.isN_bl, Cell.val.injEq, T.op.injEq, forall_const, Tv.isi_non_tuple, Tv.isi_non_str, Tv.isi_non_int, Tv.isi_non_bool, Tv.isi_non_dict, Tv.isi_non_list, Tv.isi_bl_tuple, Tv.isi_bl_str, Tv.isi_bl_int, Tv.isi_bl_bool, Tv.isi_bl_dict, Tv.isi_bl_list, Tv.isi_int_tuple, Tv.isi_int_str, Tv.isi_int_int, Tv.isi_int_bool, Tv.isi_int_dict, Tv.isi_int_list, Tv.isi_str_tuple, Tv.isi_str_str, Tv.isi_str_int, Tv.isi_str_bool, Tv.isi_str_dict, Tv.isi_str_list, Tv.isi_tup_tuple, Tv.isi_tup_str, Tv.isi_tup_int, Tv.isi_tup_bool, Tv.isi_tup_dict, Tv.isi_tup_list, Tv.isi_lst_tuple, Tv.isi_lst_str, Tv.isi_lst_int, Tv.isi_lst_bool, Tv.isi_lst_dict, Tv.isi_lst_list, Tv.isi_dic_tuple, Tv.isi_dic_str, Tv.isi_dic_int, Tv.isi_dic_bool, Tv.isi_dic_dict, Tv.isi_dic_list, V.ty.injEq, Tv.wLc2, Tv.fAll, Tv.wDropX, Tv.wSetX, Tv.wRaise, Tv.wIsi2, Tv.wDead, Tv.wStr1, Tv.fInS, Tv.fAddS, Tv.fLenS, Tv.wDisp, Tv.fDIn, Tv.fDGet, Tv.wISet, ↓reduceIte, Bool.false_eq_true, decide_eq_true_eq, T.int.injEq, T.str.injEq, T.bl.injEq, T.lst.injEq, T.tup.injEq, exists_eq_left', exists_eq_left, exists_and_left, true_and, and_true, reduceCtorEq, ne_eq, not_false_eq_true, not_true_eq_false, forall_eq', forall_eq, Option.some.injEq, Option.isSome_some]
  refine ⟨fun e => e = [.val t, .un] ∧ ∃ us, t = .tup us ∧ 1 ≤ us.length ∧ us.length ≤ 3, ?_, ?_⟩
  · simp only [Tv.wSeq, Tv.wNext, Tv.wIfS, Tv.wSet, Tv.wSetN, Tv.wRet, Tv.wRetO, Tv.wFrz, Tv.wApp, Tv.wOp, Tv.wTest, Tv.wAnd, Tv.wOr, Tv.wNot, Tv.wIf, Tv.wAndV, Tv.wOrV, Tv.wNotV, Tv.wCall, Tv.wCons, Tv.wNil, Tv.wV, Tv.wC, Tv.wTup, Tv.wLst, Tv.wSeqT, Tv.wO, Tv.wLen, Tv.wList, Tv.wTuple, Tv.wCat, Tv.wSl, Tv.wLst1, Tv.wTup1, Tv.wRng1, Tv.wRng2, Tv.wEnum, Tv.wFor, Tv.wLc, Tv.wYes, Tv.wCB, Tv.wipeE, Tv.gSet, Tv.gNilT, Tv.gConsT, Tv.gTupT, Tv.cellOf, Tv.env0, Tv.fEq, Tv.fIn, Tv.fI0, Tv.fI, Tv.fSc, Tv.fIsN, Tv.fIsB, Tv.fIx, Tv.fIxS, Tv.fCatT, Tv.fInt1, Tv.fMin2, List.zipWith_cons_cons, List.zipWith_nil_left, List.length_cons, List.length_nil, List.cons_append, List.nil_append, List.replicate, List.getElem?_cons_zero, List.getElem?_cons_succ, List.set_cons_zero, List.set_cons_succ, Tv.wRoom, Tv.wRoomSet, Tv.wIfDraw, Tv.wStar, Tv.wLen6, Tv.wFld, Tv.wExt, Tv.wTru, Tv.wChain, Tv.fIsi, Tv.fInF, Tv.seq_l, Tv.seq_t, Tv.lst_l, Tv.tup_t, Tv.scal_ii, Tv.scal_ss, Tv.scal_bb, Tv.same_ii, Tv.same_ss, Tv.same_bb, Tv.at_0, Tv.at_1, Tv.at_2, Tv.at_3, Tv.isN_non, Tv.isN_int, Tv.isN_str, Tv.isN_tup, Tv.isN_lst, Tv.isN_bl, Cell.val.injEq, T.op.injEq, forall_const, Tv.isi_non_tuple, Tv.isi_non_str, Tv.isi_non_int, Tv.isi_non_bool, Tv.isi_non_dict, Tv.isi_non_list, Tv.isi_bl_tuple, Tv.isi_bl_str, Tv.isi_bl_int, Tv.isi_bl_bool, Tv.isi_bl_dict, Tv.isi_bl_list, Tv.isi_int_tuple, Tv.isi_int_str, Tv.isi_int_int, Tv.isi_int_bool, Tv.isi_int_dict, Tv.isi_int_list, Tv.isi_str_tuple, Tv.isi_str_str, Tv.isi_str_int, Tv.isi_str_bool, Tv.isi_str_dict, Tv.isi_str_list, Tv.isi_tup_tuple, Tv.isi_tup_str, Tv.isi_tup_int, Tv.isi_tup_bool, Tv.isi_tup_dict, Tv.isi_tup_list, Tv.isi_lst_tuple, Tv.isi_lst_str, Tv.isi_lst_int, Tv.isi_lst_bool, Tv.isi_lst_dict, Tv.isi_lst_list, Tv.isi_dic_tuple, Tv.isi_dic_str, Tv.isi_dic_int, Tv.isi_dic_bool, Tv.isi_dic_dict, Tv.isi_dic_list, V.ty.injEq, Tv.wLc2, Tv.fAll, Tv.wDropX, Tv.wSetX, Tv.wRaise, Tv.wIsi2, Tv.wDead, Tv.wStr1, Tv.fInS, Tv.fAddS, Tv.fLenS, Tv.wDisp, Tv.fDIn, Tv.fDGet, Tv.wISet, ↓reduceIte, Bool.false_eq_true, decide_eq_true_eq, T.int.injEq, T.str.injEq, T.bl.injEq, T.lst.injEq, T.tup.injEq, exists_eq_left', exists_eq_left, exists_and_left, true_and, and_true, reduceCtorEq, ne_eq, not_false_eq_true, not_true_eq_false, forall_eq', forall_eq, Option.some.injEq, Option.isSome_some]
    refine ⟨_, _, rfl, _, isiU (dat_d dt), ?_⟩
    have fb : upToB 3 t = false → Pt (.bl false) := fun h => by
      rw [branches_up, h] at k
      exact k
    cases t with
    | tup us =>
      refine (if_neg Bool.false_ne_true).mpr ⟨rfl, fun ts e => ?_⟩
      cases e
      split
      · exact fb (by show (decide _ && decide _) = false; rw [decide_eq_false (show ¬ 1 ≤ us.length by omega)]; rfl)
      · refine ⟨rfl, fun ts e => ?_⟩
        cases e
        split
        · exact fb (by show (decide _ && decide _) = false; rw [decide_eq_false (show ¬ us.length ≤ 3 by omega), Bool.and_false])
        · exact ⟨us, rfl, by omega, by omega⟩
    | obj C fs => cases dt
    | op v => cases dt
    | exc C d us => cases dt
    | mk o C us => cases dt
    | dic v => cases dt
    | _ => exact (if_pos rfl).mpr (fb rfl)
  · rintro _ ⟨rfl, us, rfl, l1, l3⟩
    simp only [Tv.wSeq, Tv.wNext, Tv.wIfS, Tv.wSet, Tv.wSetN, Tv.wRet, Tv.wRetO, Tv.wFrz, Tv.wApp, Tv.wOp, Tv.wTest, Tv.wAnd, Tv.wOr, Tv.wNot, Tv.wIf, Tv.wAndV, Tv.wOrV, Tv.wNotV, Tv.wCall, Tv.wCons, Tv.wNil, Tv.wV, Tv.wC, Tv.wTup, Tv.wLst, Tv.wSeqT, Tv.wO, Tv.wLen, Tv.wList, Tv.wTuple, Tv.wCat, Tv.wSl, Tv.wLst1, Tv.wTup1, Tv.wRng1, Tv.wRng2, Tv.wEnum, Tv.wLc, Tv.wYes, Tv.wCB, Tv.wipeE, Tv.gSet, Tv.gNilT, Tv.gConsT, Tv.gTupT, Tv.cellOf, Tv.env0, Tv.fEq, Tv.fIn, Tv.fI0, Tv.fI, Tv.fSc, Tv.fIsN, Tv.fIsB, Tv.fIx, Tv.fIxS, Tv.fCatT, Tv.fInt1, Tv.fMin2, List.zipWith_cons_cons, List.zipWith_nil_left, List.length_cons, List.length_nil, List.cons_append, List.nil_append, List.replicate, List.getElem?_cons_zero, List.getElem?_cons_succ, List.set_cons_zero, List.set_cons_succ, Tv.wRoom, Tv.wRoomSet, Tv.wIfDraw, Tv.wStar, Tv.wLen6, Tv.wFld, Tv.wExt, Tv.wTru, Tv.wChain, Tv.fIsi, Tv.fInF, Tv.seq_l, Tv.seq_t, Tv.lst_l, Tv.tup_t, Tv.scal_ii, Tv.scal_ss, Tv.scal_bb, Tv.same_ii, Tv.same_ss, Tv.same_bb, Tv.at_0, Tv.at_1, Tv.at_2, Tv.at_3, Tv.isN_non, Tv.isN_int, Tv.isN_str, Tv.isN_tup, Tv.isN_lst, Tv.isN_bl, Cell.val.injEq, T.op.injEq, forall_const, Tv.isi_non_tuple, Tv.isi_non_str, Tv.isi_non_int, Tv.isi_non_bool, Tv.isi_non_dict, Tv.isi_non_list, Tv.isi_bl_tuple, Tv.isi_bl_str, Tv.isi_bl_int, Tv.isi_bl_bool, Tv.isi_bl_dict, Tv.isi_bl_list, Tv.isi_int_tuple, Tv.isi_int_str, Tv.isi_int_int, Tv.isi_int_bool, Tv.isi_int_dict, Tv.isi_int_list, Tv.isi_str_tuple, Tv.isi_str_str, Tv.isi_str_int, Tv.isi_str_bool, Tv.isi_str_dict, Tv.isi_str_list, Tv.isi_tup_tuple, Tv.isi_tup_str, Tv.isi_tup_int, Tv.isi_tup_bool, Tv.isi_tup_dict, Tv.isi_tup_list, Tv.isi_lst_tuple, Tv.isi_lst_str, Tv.isi_lst_int, Tv.isi_lst_bool, Tv.isi_lst_dict, Tv.isi_lst_list, Tv.isi_dic_tuple, Tv.isi_dic_str, Tv.isi_dic_int, Tv.isi_dic_bool, Tv.isi_dic_dict, Tv.isi_dic_list, V.ty.injEq, Tv.wLc2, Tv.fAll, Tv.wDropX, Tv.wSetX, Tv.wRaise, Tv.wIsi2, Tv.wDead, Tv.wStr1, Tv.fInS, Tv.fAddS, Tv.fLenS, Tv.wDisp, Tv.fDIn, Tv.fDGet, Tv.wISet, ↓reduceIte, Bool.false_eq_true, decide_eq_true_eq, T.int.injEq, T.str.injEq, T.bl.injEq, T.lst.injEq, T.tup.injEq, exists_eq_left', exists_eq_left, exists_and_left, true_and, and_true, reduceCtorEq, ne_eq, not_false_eq_true, not_true_eq_false, forall_eq', forall_eq, Option.some.injEq, Option.isSome_some]
    unfold Tv.wFor
    simp only [Tv.wTup1, Tv.wLst1, Tv.wOp, Tv.wV, Tv.wC, Tv.fIx, List.getElem?_cons_zero, List.getElem?_cons_succ, ↓reduceIte, Bool.false_eq_true, decide_eq_true_eq, T.int.injEq, T.str.injEq, T.bl.injEq, T.lst.injEq, T.tup.injEq, exists_eq_left', exists_eq_left, exists_and_left, true_and, and_true, reduceCtorEq, ne_eq, not_false_eq_true, not_true_eq_false, forall_eq', forall_eq, Option.some.injEq, Option.isSome_some]
    have e : branchesB 3 (.tup us) = us.all pairB := by
      rw [branches_up, show upToB 3 (.tup us) = true from by show (decide _ && decide _) = true; rw [decide_eq_true l1, decide_eq_true l3]; rfl]
      rfl
    rw [e] at k
    refine ⟨fun i e => (∃ c, e = [.val (.tup us), c]) ∧ (us.take i).all pairB = true, ⟨⟨_, rfl⟩, rfl⟩, ?_, ?_⟩
    · rintro i t env' hi ⟨⟨c, rfl⟩, hI⟩
      simp only [Tv.wSeq, Tv.wNext, Tv.wIfS, Tv.wSet, Tv.wSetN, Tv.wRet, Tv.wRetO, Tv.wFrz, Tv.wApp, Tv.wOp, Tv.wTest, Tv.wAnd, Tv.wOr, Tv.wNot, Tv.wIf, Tv.wAndV, Tv.wOrV, Tv.wNotV, Tv.wCall, Tv.wCons, Tv.wNil, Tv.wV, Tv.wC, Tv.wTup, Tv.wLst, Tv.wSeqT, Tv.wO, Tv.wLen, Tv.wList, Tv.wTuple, Tv.wCat, Tv.wSl, Tv.wLst1, Tv.wTup1, Tv.wRng1, Tv.wRng2, Tv.wEnum, Tv.wFor, Tv.wLc, Tv.wYes, Tv.wCB, Tv.wipeE, Tv.gSet, Tv.gNilT, Tv.gConsT, Tv.gTupT, Tv.cellOf, Tv.env0, Tv.fEq, Tv.fIn, Tv.fI0, Tv.fI, Tv.fSc, Tv.fIsN, Tv.fIsB, Tv.fIx, Tv.fIxS, Tv.fCatT, Tv.fInt1, Tv.fMin2, List.zipWith_cons_cons, List.zipWith_nil_left, List.length_cons, List.length_nil, List.cons_append, List.nil_append, List.replicate, List.getElem?_cons_zero, List.getElem?_cons_succ, List.set_cons_zero, List.set_cons_succ, Tv.wRoom, Tv.wRoomSet, Tv.wIfDraw, Tv.wStar, Tv.wLen6, Tv.wFld, Tv.wExt, Tv.wTru, Tv.wChain, Tv.fIsi, Tv.fInF, Tv.seq_l, Tv.seq_t, Tv.lst_l, Tv.tup_t, Tv.scal_ii, Tv.scal_ss, Tv.scal_bb, Tv.same_ii, Tv.same_ss, Tv.same_bb, Tv.at_0, Tv.at_1, Tv.at_2, Tv.at_3, Tv.isN_non, Tv.isN_int, Tv.isN_str, Tv.isN_tup, Tv.isN_lst, Tv.isN_bl, Cell.val.injEq, T.op.injEq, forall_const, Tv.isi_non_tuple, Tv.isi_non_str, Tv.isi_non_int, Tv.isi_non_bool, Tv.isi_non_dict, Tv.isi_non_list, Tv.isi_bl_tuple, Tv.isi_bl_str, Tv.isi_bl_int, Tv.isi_bl_bool, Tv.isi_bl_dict, Tv.isi_bl_list, Tv.isi_int_tuple, Tv.isi_int_str, Tv.isi_int_int, Tv.isi_int_bool, Tv.isi_int_dict, Tv.isi_int_list, Tv.isi_str_tuple, Tv.isi_str_str, Tv.isi_str_int, Tv.isi_str_bool, Tv.isi_str_dict, Tv.isi_str_list, Tv.isi_tup_tuple, Tv.isi_tup_str, Tv.isi_tup_int, Tv.isi_tup_bool, Tv.isi_tup_dict, Tv.isi_tup_list, Tv.isi_lst_tuple, Tv.isi_lst_str, Tv.isi_lst_int, Tv.isi_lst_bool, Tv.isi_lst_dict, Tv.isi_lst_list, Tv.isi_dic_tuple, Tv.isi_dic_str, Tv.isi_dic_int, Tv.isi_dic_bool, Tv.isi_dic_dict, Tv.isi_dic_list, V.ty.injEq, Tv.wLc2, Tv.fAll, Tv.wDropX, Tv.wSetX, Tv.wRaise, Tv.wIsi2, Tv.wDead, Tv.wStr1, Tv.fInS, Tv.fAddS, Tv.fLenS, Tv.wDisp, Tv.fDIn, Tv.fDGet, Tv.wISet, ↓reduceIte, Bool.false_eq_true, decide_eq_true_eq, T.int.injEq, T.str.injEq, T.bl.injEq, T.lst.injEq, T.tup.injEq, exists_eq_left', exists_eq_left, exists_and_left, true_and, and_true, reduceCtorEq, ne_eq, not_false_eq_true, not_true_eq_false, forall_eq', forall_eq, Option.some.injEq, Option.isSome_some]
      have du := dat_i dt (List.mem_of_getElem? hi)
      refine ⟨_, _, rfl, _, isiU (dat_d du), ?_⟩
      have no : pairB t = false → Pt (.bl false) := fun h => by
        have : us.all pairB = false := by
          rw [List.all_eq_false]
          exact ⟨t, List.mem_of_getElem? hi, by rw [h]; exact Bool.false_ne_true⟩
        rw [this] at k
        exact k
      have ye : pairB t = true → (us.take (i + 1)).all pairB = true := fun h => by
        rw [List.take_add_one, hi, List.all_append, hI]
        show (true && (pairB t && true)) = true
        rw [h]
        rfl
      cases t with
      | tup vs =>
        refine (if_neg Bool.false_ne_true).mpr ⟨rfl, fun ts e => ?_⟩
        cases e
        match vs, no, ye with
        | [], no, _ => exact no rfl
        | [_], no, _ => exact no rfl
        | [_, _], _, ye => exact ⟨⟨_, rfl⟩, ye rfl⟩
        | _ :: _ :: _ :: r, no, _ =>
          refine (if_pos ?_).mpr (no rfl)
          rw [decide_eq_false (by simp only [List.length_cons]; omega)]
          rfl
      | obj C fs => cases du
      | op v => cases du
      | exc C d us => cases du
      | mk o C us => cases du
      | dic v => cases du
      | _ => exact (if_pos rfl).mpr (no rfl)
    · rintro env' ⟨_, hI⟩
      rw [List.take_length] at hI
      rw [hI] at k
      exact k
theorem scLTerms : FnScope ["_law_names_here", "_law_item", "_law_pair", "_law_term"] ["_law_names_here", "_law_item"] (defScope sLTerms) := ⟨rfl, rfl, rfl, by decide +kernel, rfl, by decide +kernel, by decide +kernel⟩
theorem okLTerms {f : Addr} {fd : FuncData} (F : Fun K "_law_terms_fit" "_law_terms_fit" sLTerms f fd) (B : Bt mg)  : FnOk P w K mg base CX0 1 f fd ["_law_names_here", "_law_item"] (spT K [.S, .S] false cTerms) := by
  refine okv2 F scLTerms rfl (by decide) fun cdv A outer s H E R ts Pt hr hc => ?_
  obtain ⟨zs, t, rfl, dt, hf, hz, k⟩ := hc
  refine ⟨_, (cons_ (if_ (ptcmp_ op_eq re_sc (nomark _) (pix_ (pv_ (κ := .M) 1 (pv 1)) (pint_ (κ := .M))) (pstr_ (κ := .M))) (one_ (ret_ (pandV_ (pcb_ (μ := .M) rc_isi (fun a => pe_callB call_isi (by rfl) B.isi (by decide +kernel) a) (pa1_ (pix_ (pv_ (κ := .M) 1 (pv 1)) (pint_ (κ := .M))) (pa1_ (pty_ (κ := .M) (pe_bltn (v := .ty "str") (by rfl) B.str (by decide +kernel) rfl)) pa0_))) (pone_ (pcmp_ (μ := .S) op_in_seq (re_inF false) (by rfl) (pix_ (pv_ (κ := .M) 1 (pv 1)) (pint_ (κ := .M))) (pv_ (κ := .M) 0 (pv 0))))))) nil_)
      (cut_ (if_ (PWv.pt (pand_ (ptcmp_ op_ne re_nsc (nomark _) (pix_ (pv_ (κ := .M) 1 (pv 1)) (pint_ (κ := .M))) (pstr_ (κ := .M))) (pand1_ (ptcmp_ op_ne re_nsc (nomark _) (pix_ (pv_ (κ := .M) 1 (pv 1)) (pint_ (κ := .M))) (pstr_ (κ := .M)))))) (one_ (ret_ (pbl_ (κ := .S)))) nil_)
      (cons_ (set_ (κ := .S) 2 (fun a => ps_set (i := 2) scLTerms.nd rfl (Or.inl rfl) a) (PEn.up (κ := .S) (plst_ (pa1_ (pix_ (pv_ (κ := .S) 1 (pv 1)) (pint_ (κ := .M))) (pa1_ (pix_ (pv_ (κ := .S) 1 (pv 1)) (pint_ (κ := .M))) pa0_)) rfl)))
      (cons_ (if_ (ptcmp_ op_eq re_sc (nomark _) (pix_ (pv_ (κ := .M) 1 (pv 1)) (pint_ (κ := .M))) (pstr_ (κ := .M))) (one_ (set_ (κ := .S) 2 (fun a => ps_set (i := 2) scLTerms.nd rfl (Or.inl rfl) a) (PEn.up (κ := .S) (plst_ (pa1_ (pix_ (pix_ (pv_ (κ := .S) 1 (pv 1)) (pint_ (κ := .M))) (pint_ (κ := .M))) (pa1_ (pix_ (pix_ (pv_ (κ := .S) 1 (pv 1)) (pint_ (κ := .M))) (pint_ (κ := .M))) pa0_)) rfl)))) nil_)
      (cons_ (for_ (srcL_ (pv_ (κ := .S) 2 (pv 2))) (gnm_ (κ := .S) 3 (by decide) (pg_name (i := 3) scLTerms.nd rfl (Or.inl rfl)))
      (one_ (if_ (PWv.pt (por_ (pnot_ (ptval_ (fun a => pt_val a) (pcb_ (μ := .M) rc_isi (fun a => pe_callB call_isi (by rfl) B.isi (by decide +kernel) a) (pa1_ (pv_ (κ := .M) 3 (pv 3)) (pa1_ (pty_ (κ := .M) (pe_bltn (v := .ty "str") (by rfl) B.str (by decide +kernel) rfl)) pa0_))))) (por1_ (ptcmp_ op_notIn_seq (re_inF true) (by rfl) (pv_ (κ := .M) 3 (pv 3)) (PEn.up (κ := .M) (pcat_ (PEn.items (plst_ (pa1_ (pstr_ (κ := .S)) pa0_) rfl)) (PEv.items (pv_ (κ := .S) 0 (pv 0))))))))) (one_ (ret_ (pbl_ (κ := .S)))) nil_)) (fun a b c => ps_for PassesOwn.never rfl a b c))
      (one_ (ret_ (pcmp_ (μ := .S) op_ne re_nsc (nomark _) (pix_ (pv_ (κ := .M) 2 (pv 2)) (pint_ (κ := .M))) (pix_ (pv_ (κ := .M) 2 (pv 2)) (pint_ (κ := .M))))))))))), ?_⟩
  simp only [Tv.wSeq, Tv.wNext, Tv.wIfS, Tv.wSet, Tv.wSetN, Tv.wRet, Tv.wRetO, Tv.wFrz, Tv.wApp, Tv.wOp, Tv.wTest, Tv.wAnd, Tv.wOr, Tv.wNot, Tv.wIf, Tv.wAndV, Tv.wOrV, Tv.wNotV, Tv.wCall, Tv.wCons, Tv.wNil, Tv.wV, Tv.wC, Tv.wTup, Tv.wLst, Tv.wSeqT, Tv.wO, Tv.wLen, Tv.wList, Tv.wTuple, Tv.wCat, Tv.wSl, Tv.wLst1, Tv.wTup1, Tv.wRng1, Tv.wRng2, Tv.wEnum, Tv.wLc, Tv.wYes, Tv.wCB, Tv.wipeE, Tv.gSet, Tv.gNilT, Tv.gConsT, Tv.gTupT, Tv.cellOf, Tv.env0, Tv.fEq, Tv.fIn, Tv.fI0, Tv.fI, Tv.fSc, Tv.fIsN, Tv.fIsB, Tv.fIx, Tv.fIxS, Tv.fCatT, Tv.fInt1, Tv.fMin2, List.zipWith_cons_cons, List.zipWith_nil_left, List.length_cons, List.length_nil, List.cons_append, List.nil_append, List.replicate, List.getElem?_cons_zero, List.getElem?_cons_succ, List.set_cons_zero, List.set_cons_succ, Tv.wRoom, Tv.wRoomSet, Tv.wIfDraw, Tv.wStar, Tv.wLen6, Tv.wFld, Tv.wExt, Tv.wTru, Tv.wChain, Tv.fIsi, Tv.fInF, Tv.seq_l, Tv.seq_t, Tv.lst_l, Tv.tup_t, Tv.scal_ii, Tv.scal_ss, Tv.scal_bb, Tv.same_ii, Tv.same_ss, Tv.same_bb, Tv.at_0, Tv.at_1, Tv.at_2, Tv.at_3, Tv.isN_non, Tv.isN_int, Tv.isN_str, Tv.isN_tup, Tv.isN_lst, Tv.isN_bl, Cell.val.injEq, T.op.injEq, forall_const, Tv.isi_non_tuple, Tv.isi_non_str, Tv.isi_non_int, Tv.isi_non_bool, Tv.isi_non_dict, Tv.isi_non_list, Tv.isi_bl_tuple, Tv.isi_bl_str, Tv.isi_bl_int, Tv.isi_bl_bool, Tv.isi_bl_dict, Tv.isi_bl_list, Tv.isi_int_tuple, Tv.isi_int_str, Tv.isi_int_int, Tv.isi_int_bool, Tv.isi_int_dict, Tv.isi_int_list, Tv.isi_str_tuple, Tv.isi_str_str, Tv.isi_str_int, Tv.isi_str_bool, Tv.isi_str_dict, Tv.isi_str_list, Tv.isi_tup_tuple, Tv.isi_tup_str, Tv.isi_tup_int, Tv.isi_tup_bool, Tv.isi_tup_dict, Tv.isi_tup_list, Tv.isi_lst_tuple, Tv.isi_lst_str, Tv.isi_lst_int, Tv.isi_lst_bool, Tv.isi_lst_dict, Tv.isi_lst_list, Tv.isi_dic_tuple, Tv.isi_dic_str, Tv.isi_dic_int, Tv.isi_dic_bool, Tv.isi_dic_dict, Tv.isi_dic_list, V.ty.injEq, Tv.wLc2, Tv.fAll, Tv.wDropX, Tv.wSetX, Tv.wRaise, Tv.wIsi2, Tv.wDead, Tv.wStr1, Tv.fInS, Tv.fAddS, Tv.fLenS, Tv.wDisp, Tv.fDIn, Tv.fDGet, Tv.wISet, ↓reduceIte, Bool.false_eq_true, decide_eq_true_eq, T.int.injEq, T.str.injEq, T.bl.injEq, T.lst.injEq, T.tup.injEq, exists_eq_left', exists_eq_left, exists_and_left, true_and, and_true, reduceCtorEq, ne_eq, not_false_eq_true, not_true_eq_false, forall_eq', forall_eq, Option.some.injEq, Option.isSome_some]
  have ff := form_of hf
  cases ff with
  | atmost a b n h =>
    rw [terms_atmost] at k
    refine ⟨_, rfl, _, Tv.at_0, rfl, (if_neg (by decide +kernel)).mpr ⟨fun e => e = [.val (strsT zs), .val (.tup [.str "atmost", a, b, n]), .un, .un], ?_, ?_⟩⟩
    · simp only [Tv.wSeq, Tv.wNext, Tv.wIfS, Tv.wSet, Tv.wSetN, Tv.wRet, Tv.wRetO, Tv.wFrz, Tv.wApp, Tv.wOp, Tv.wTest, Tv.wAnd, Tv.wOr, Tv.wNot, Tv.wIf, Tv.wAndV, Tv.wOrV, Tv.wNotV, Tv.wCall, Tv.wCons, Tv.wNil, Tv.wV, Tv.wC, Tv.wTup, Tv.wLst, Tv.wSeqT, Tv.wO, Tv.wLen, Tv.wList, Tv.wTuple, Tv.wCat, Tv.wSl, Tv.wLst1, Tv.wTup1, Tv.wRng1, Tv.wRng2, Tv.wEnum, Tv.wFor, Tv.wLc, Tv.wYes, Tv.wCB, Tv.wipeE, Tv.gSet, Tv.gNilT, Tv.gConsT, Tv.gTupT, Tv.cellOf, Tv.env0, Tv.fEq, Tv.fIn, Tv.fI0, Tv.fI, Tv.fSc, Tv.fIsN, Tv.fIsB, Tv.fIx, Tv.fIxS, Tv.fCatT, Tv.fInt1, Tv.fMin2, List.zipWith_cons_cons, List.zipWith_nil_left, List.length_cons, List.length_nil, List.cons_append, List.nil_append, List.replicate, List.getElem?_cons_zero, List.getElem?_cons_succ, List.set_cons_zero, List.set_cons_succ, Tv.wRoom, Tv.wRoomSet, Tv.wIfDraw, Tv.wStar, Tv.wLen6, Tv.wFld, Tv.wExt, Tv.wTru, Tv.wChain, Tv.fIsi, Tv.fInF, Tv.seq_l, Tv.seq_t, Tv.lst_l, Tv.tup_t, Tv.scal_ii, Tv.scal_ss, Tv.scal_bb, Tv.same_ii, Tv.same_ss, Tv.same_bb, Tv.at_0, Tv.at_1, Tv.at_2, Tv.at_3, Tv.isN_non, Tv.isN_int, Tv.isN_str, Tv.isN_tup, Tv.isN_lst, Tv.isN_bl, Cell.val.injEq, T.op.injEq, forall_const, Tv.isi_non_tuple, Tv.isi_non_str, Tv.isi_non_int, Tv.isi_non_bool, Tv.isi_non_dict, Tv.isi_non_list, Tv.isi_bl_tuple, Tv.isi_bl_str, Tv.isi_bl_int, Tv.isi_bl_bool, Tv.isi_bl_dict, Tv.isi_bl_list, Tv.isi_int_tuple, Tv.isi_int_str, Tv.isi_int_int, Tv.isi_int_bool, Tv.isi_int_dict, Tv.isi_int_list, Tv.isi_str_tuple, Tv.isi_str_str, Tv.isi_str_int, Tv.isi_str_bool, Tv.isi_str_dict, Tv.isi_str_list, Tv.isi_tup_tuple, Tv.isi_tup_str, Tv.isi_tup_int, Tv.isi_tup_bool, Tv.isi_tup_dict, Tv.isi_tup_list, Tv.isi_lst_tuple, Tv.isi_lst_str, Tv.isi_lst_int, Tv.isi_lst_bool, Tv.isi_lst_dict, Tv.isi_lst_list, Tv.isi_dic_tuple, Tv.isi_dic_str, Tv.isi_dic_int, Tv.isi_dic_bool, Tv.isi_dic_dict, Tv.isi_dic_list, V.ty.injEq, Tv.wLc2, Tv.fAll, Tv.wDropX, Tv.wSetX, Tv.wRaise, Tv.wIsi2, Tv.wDead, Tv.wStr1, Tv.fInS, Tv.fAddS, Tv.fLenS, Tv.wDisp, Tv.fDIn, Tv.fDGet, Tv.wISet, ↓reduceIte, Bool.false_eq_true, decide_eq_true_eq, T.int.injEq, T.str.injEq, T.bl.injEq, T.lst.injEq, T.tup.injEq, exists_eq_left', exists_eq_left, exists_and_left, true_and, and_true, reduceCtorEq, ne_eq, not_false_eq_true, not_true_eq_false, forall_eq', forall_eq, Option.some.injEq, Option.isSome_some]
      exact (if_neg (by decide +kernel)).mpr <| trivial
    · rintro _ rfl
      simp only [Tv.wSeq, Tv.wNext, Tv.wIfS, Tv.wSet, Tv.wSetN, Tv.wRet, Tv.wRetO, Tv.wFrz, Tv.wApp, Tv.wOp, Tv.wTest, Tv.wAnd, Tv.wOr, Tv.wNot, Tv.wIf, Tv.wAndV, Tv.wOrV, Tv.wNotV, Tv.wCall, Tv.wCons, Tv.wNil, Tv.wV, Tv.wC, Tv.wTup, Tv.wLst, Tv.wSeqT, Tv.wO, Tv.wLen, Tv.wList, Tv.wTuple, Tv.wCat, Tv.wSl, Tv.wLst1, Tv.wTup1, Tv.wRng1, Tv.wRng2, Tv.wEnum, Tv.wLc, Tv.wYes, Tv.wCB, Tv.wipeE, Tv.gSet, Tv.gNilT, Tv.gConsT, Tv.gTupT, Tv.cellOf, Tv.env0, Tv.fEq, Tv.fIn, Tv.fI0, Tv.fI, Tv.fSc, Tv.fIsN, Tv.fIsB, Tv.fIx, Tv.fIxS, Tv.fCatT, Tv.fInt1, Tv.fMin2, List.zipWith_cons_cons, List.zipWith_nil_left, List.length_cons, List.length_nil, List.cons_append, List.nil_append, List.replicate, List.getElem?_cons_zero, List.getElem?_cons_succ, List.set_cons_zero, List.set_cons_succ, Tv.wRoom, Tv.wRoomSet, Tv.wIfDraw, Tv.wStar, Tv.wLen6, Tv.wFld, Tv.wExt, Tv.wTru, Tv.wChain, Tv.fIsi, Tv.fInF, Tv.seq_l, Tv.seq_t, Tv.lst_l, Tv.tup_t, Tv.scal_ii, Tv.scal_ss, Tv.scal_bb, Tv.same_ii, Tv.same_ss, Tv.same_bb, Tv.at_0, Tv.at_1, Tv.at_2, Tv.at_3, Tv.isN_non, Tv.isN_int, Tv.isN_str, Tv.isN_tup, Tv.isN_lst, Tv.isN_bl, Cell.val.injEq, T.op.injEq, forall_const, Tv.isi_non_tuple, Tv.isi_non_str, Tv.isi_non_int, Tv.isi_non_bool, Tv.isi_non_dict, Tv.isi_non_list, Tv.isi_bl_tuple, Tv.isi_bl_str, Tv.isi_bl_int, Tv.isi_bl_bool, Tv.isi_bl_dict, Tv.isi_bl_list, Tv.isi_int_tuple, Tv.isi_int_str, Tv.isi_int_int, Tv.isi_int_bool, Tv.isi_int_dict, Tv.isi_int_list, Tv.isi_str_tuple, Tv.isi_str_str, Tv.isi_str_int, Tv.isi_str_bool, Tv.isi_str_dict, Tv.isi_str_list, Tv.isi_tup_tuple, Tv.isi_tup_str, Tv.isi_tup_int, Tv.isi_tup_bool, Tv.isi_tup_dict, Tv.isi_tup_list, Tv.isi_lst_tuple, Tv.isi_lst_str, Tv.isi_lst_int, Tv.isi_lst_bool, Tv.isi_lst_dict, Tv.isi_lst_list, Tv.isi_dic_tuple, Tv.isi_dic_str, Tv.isi_dic_int, Tv.isi_dic_bool, Tv.isi_dic_dict, Tv.isi_dic_list, V.ty.injEq, Tv.wLc2, Tv.fAll, Tv.wDropX, Tv.wSetX, Tv.wRaise, Tv.wIsi2, Tv.wDead, Tv.wStr1, Tv.fInS, Tv.fAddS, Tv.fLenS, Tv.wDisp, Tv.fDIn, Tv.fDGet, Tv.wISet, ↓reduceIte, Bool.false_eq_true, decide_eq_true_eq, T.int.injEq, T.str.injEq, T.bl.injEq, T.lst.injEq, T.tup.injEq, exists_eq_left', exists_eq_left, exists_and_left, true_and, and_true, reduceCtorEq, ne_eq, not_false_eq_true, not_true_eq_false, forall_eq', forall_eq, Option.some.injEq, Option.isSome_some]
      refine (if_neg (by decide +kernel)).mpr <| ?_
      unfold Tv.wFor
      simp only [Tv.wTup1, Tv.wLst1, Tv.wOp, Tv.wV, Tv.wC, Tv.fIx, List.getElem?_cons_zero, List.getElem?_cons_succ, ↓reduceIte, Bool.false_eq_true, decide_eq_true_eq, T.int.injEq, T.str.injEq, T.bl.injEq, T.lst.injEq, T.tup.injEq, exists_eq_left', exists_eq_left, exists_and_left, true_and, and_true, reduceCtorEq, ne_eq, not_false_eq_true, not_true_eq_false, forall_eq', forall_eq, Option.some.injEq, Option.isSome_some]
      have da : ∀ u ∈ [a, b], datR u = true := by
        intro u hu
        simp only [List.mem_cons, List.not_mem_nil, or_false] at hu
        rcases hu with hu | hu
        · rw [hu]
          exact dat_i dt (by simp)
        · rw [hu]
          exact dat_i dt (by simp)
      refine ⟨fun i e => (∃ c9, e = [.val (strsT zs), .val (.tup [.str "atmost", a, b, n]), .val (.lst [a, b]), c9]) ∧ ([a, b].take i).all (termB zs) = true, ⟨⟨_, rfl⟩, rfl⟩, ?_, ?_⟩
      · rintro i t env' hi ⟨⟨c, rfl⟩, hI⟩
        simp only [Tv.wSeq, Tv.wNext, Tv.wIfS, Tv.wSet, Tv.wSetN, Tv.wRet, Tv.wRetO, Tv.wFrz, Tv.wApp, Tv.wOp, Tv.wTest, Tv.wAnd, Tv.wOr, Tv.wNot, Tv.wIf, Tv.wAndV, Tv.wOrV, Tv.wNotV, Tv.wCall, Tv.wCons, Tv.wNil, Tv.wV, Tv.wC, Tv.wTup, Tv.wLst, Tv.wSeqT, Tv.wO, Tv.wLen, Tv.wList, Tv.wTuple, Tv.wCat, Tv.wSl, Tv.wLst1, Tv.wTup1, Tv.wRng1, Tv.wRng2, Tv.wEnum, Tv.wFor, Tv.wLc, Tv.wYes, Tv.wCB, Tv.wipeE, Tv.gSet, Tv.gNilT, Tv.gConsT, Tv.gTupT, Tv.cellOf, Tv.env0, Tv.fEq, Tv.fIn, Tv.fI0, Tv.fI, Tv.fSc, Tv.fIsN, Tv.fIsB, Tv.fIx, Tv.fIxS, Tv.fCatT, Tv.fInt1, Tv.fMin2, List.zipWith_cons_cons, List.zipWith_nil_left, List.length_cons, List.length_nil, List.cons_append, List.nil_append, List.replicate, List.getElem?_cons_zero, List.getElem?_cons_succ, List.set_cons_zero, List.set_cons_succ, Tv.wRoom, Tv.wRoomSet, Tv.wIfDraw, Tv.wStar, Tv.wLen6, Tv.wFld, Tv.wExt, Tv.wTru, Tv.wChain, Tv.fIsi, Tv.fInF, Tv.seq_l, Tv.seq_t, Tv.lst_l, Tv.tup_t, Tv.scal_ii, Tv.scal_ss, Tv.scal_bb, Tv.same_ii, Tv.same_ss, Tv.same_bb, Tv.at_0, Tv.at_1, Tv.at_2, Tv.at_3, Tv.isN_non, Tv.isN_int, Tv.isN_str, Tv.isN_tup, Tv.isN_lst, Tv.isN_bl, Cell.val.injEq, T.op.injEq, forall_const, Tv.isi_non_tuple, Tv.isi_non_str, Tv.isi_non_int, Tv.isi_non_bool, Tv.isi_non_dict, Tv.isi_non_list, Tv.isi_bl_tuple, Tv.isi_bl_str, Tv.isi_bl_int, Tv.isi_bl_bool, Tv.isi_bl_dict, Tv.isi_bl_list, Tv.isi_int_tuple, Tv.isi_int_str, Tv.isi_int_int, Tv.isi_int_bool, Tv.isi_int_dict, Tv.isi_int_list, Tv.isi_str_tuple, Tv.isi_str_str, Tv.isi_str_int, Tv.isi_str_bool, Tv.isi_str_dict, Tv.isi_str_list, Tv.isi_tup_tuple, Tv.isi_tup_str, Tv.isi_tup_int, Tv.isi_tup_bool, Tv.isi_tup_dict, Tv.isi_tup_list, Tv.isi_lst_tuple, Tv.isi_lst_str, Tv.isi_lst_int, Tv.isi_lst_bool, Tv.isi_lst_dict, Tv.isi_lst_list, Tv.isi_dic_tuple, Tv.isi_dic_str, Tv.isi_dic_int, Tv.isi_dic_bool, Tv.isi_dic_dict, Tv.isi_dic_list, V.ty.injEq, Tv.wLc2, Tv.fAll, Tv.wDropX, Tv.wSetX, Tv.wRaise, Tv.wIsi2, Tv.wDead, Tv.wStr1, Tv.fInS, Tv.fAddS, Tv.fLenS, Tv.wDisp, Tv.fDIn, Tv.fDGet, Tv.wISet, ↓reduceIte, Bool.false_eq_true, decide_eq_true_eq, T.int.injEq, T.str.injEq, T.bl.injEq, T.lst.injEq, T.tup.injEq, exists_eq_left', exists_eq_left, exists_and_left, true_and, and_true, reduceCtorEq, ne_eq, not_false_eq_true, not_true_eq_false, forall_eq', forall_eq, Option.some.injEq, Option.isSome_some]
        have mt := List.mem_of_getElem? hi
        have no : termB zs t = false → Pt (.bl false) := fun h => by
          rw [lit_no mt h] at k
          exact k
        have ye : termB zs t = true → ([a, b].take (i + 1)).all (termB zs) = true := fun h => by
          rw [List.take_add_one, hi, List.all_append, hI]
          show (true && (termB zs t && true)) = true
          rw [h]
          rfl
        refine ⟨_, _, rfl, _, isiS (dat_d (da t mt)), ?_⟩
        have dt' := da t mt
        cases t with
        | str z =>
          refine (if_neg Bool.false_ne_true).mpr ⟨rfl, _, rfl, by rw [List.length_map]; omega, rfl, ?_, ?_⟩
          · show (true && (zs.map T.str).all flatT) = true
            rw [strs_flat]
            rfl
          · have e : ((T.str "" :: zs.map T.str).any fun y => eqF y (.str z)) = termB zs (.str z) := by
              show ((("" : Str) == z) || ((zs.map T.str).any fun y => eqF y (.str z))) = (decide (z ∈ zs) || z == "")
              rw [any_strs, Bool.or_comm]
              congr 1
              exact BEq.comm
            cases et : termB zs (.str z) with
            | true =>
              refine (if_neg ?_).mpr ⟨⟨_, rfl⟩, ye et⟩
              rw [e, et]
              exact Bool.false_ne_true
            | false =>
              refine (if_pos ?_).mpr (no et)
              rw [e, et]
              rfl
        | obj C fs => cases dt'
        | op v => cases dt'
        | exc C d us => cases dt'
        | mk o C us => cases dt'
        | dic v => cases dt'
        | _ => exact (if_pos rfl).mpr (no rfl)
      · rintro env' ⟨⟨c, rfl⟩, hI⟩
        simp only [Tv.wSeq, Tv.wNext, Tv.wIfS, Tv.wSet, Tv.wSetN, Tv.wRet, Tv.wRetO, Tv.wFrz, Tv.wApp, Tv.wOp, Tv.wTest, Tv.wAnd, Tv.wOr, Tv.wNot, Tv.wIf, Tv.wAndV, Tv.wOrV, Tv.wNotV, Tv.wCall, Tv.wCons, Tv.wNil, Tv.wV, Tv.wC, Tv.wTup, Tv.wLst, Tv.wSeqT, Tv.wO, Tv.wLen, Tv.wList, Tv.wTuple, Tv.wCat, Tv.wSl, Tv.wLst1, Tv.wTup1, Tv.wRng1, Tv.wRng2, Tv.wEnum, Tv.wFor, Tv.wLc, Tv.wYes, Tv.wCB, Tv.wipeE, Tv.gSet, Tv.gNilT, Tv.gConsT, Tv.gTupT, Tv.cellOf, Tv.env0, Tv.fEq, Tv.fIn, Tv.fI0, Tv.fI, Tv.fSc, Tv.fIsN, Tv.fIsB, Tv.fIx, Tv.fIxS, Tv.fCatT, Tv.fInt1, Tv.fMin2, List.zipWith_cons_cons, List.zipWith_nil_left, List.length_cons, List.length_nil, List.cons_append, List.nil_append, List.replicate, List.getElem?_cons_zero, List.getElem?_cons_succ, List.set_cons_zero, List.set_cons_succ, Tv.wRoom, Tv.wRoomSet, Tv.wIfDraw, Tv.wStar, Tv.wLen6, Tv.wFld, Tv.wExt, Tv.wTru, Tv.wChain, Tv.fIsi, Tv.fInF, Tv.seq_l, Tv.seq_t, Tv.lst_l, Tv.tup_t, Tv.scal_ii, Tv.scal_ss, Tv.scal_bb, Tv.same_ii, Tv.same_ss, Tv.same_bb, Tv.at_0, Tv.at_1, Tv.at_2, Tv.at_3, Tv.isN_non, Tv.isN_int, Tv.isN_str, Tv.isN_tup, Tv.isN_lst, Tv.isN_bl, Cell.val.injEq, T.op.injEq, forall_const, Tv.isi_non_tuple, Tv.isi_non_str, Tv.isi_non_int, Tv.isi_non_bool, Tv.isi_non_dict, Tv.isi_non_list, Tv.isi_bl_tuple, Tv.isi_bl_str, Tv.isi_bl_int, Tv.isi_bl_bool, Tv.isi_bl_dict, Tv.isi_bl_list, Tv.isi_int_tuple, Tv.isi_int_str, Tv.isi_int_int, Tv.isi_int_bool, Tv.isi_int_dict, Tv.isi_int_list, Tv.isi_str_tuple, Tv.isi_str_str, Tv.isi_str_int, Tv.isi_str_bool, Tv.isi_str_dict, Tv.isi_str_list, Tv.isi_tup_tuple, Tv.isi_tup_str, Tv.isi_tup_int, Tv.isi_tup_bool, Tv.isi_tup_dict, Tv.isi_tup_list, Tv.isi_lst_tuple, Tv.isi_lst_str, Tv.isi_lst_int, Tv.isi_lst_bool, Tv.isi_lst_dict, Tv.isi_lst_list, Tv.isi_dic_tuple, Tv.isi_dic_str, Tv.isi_dic_int, Tv.isi_dic_bool, Tv.isi_dic_dict, Tv.isi_dic_list, V.ty.injEq, Tv.wLc2, Tv.fAll, Tv.wDropX, Tv.wSetX, Tv.wRaise, Tv.wIsi2, Tv.wDead, Tv.wStr1, Tv.fInS, Tv.fAddS, Tv.fLenS, Tv.wDisp, Tv.fDIn, Tv.fDGet, Tv.wISet, ↓reduceIte, Bool.false_eq_true, decide_eq_true_eq, T.int.injEq, T.str.injEq, T.bl.injEq, T.lst.injEq, T.tup.injEq, exists_eq_left', exists_eq_left, exists_and_left, true_and, and_true, reduceCtorEq, ne_eq, not_false_eq_true, not_true_eq_false, forall_eq', forall_eq, Option.some.injEq, Option.isSome_some]
        have hI : ([a, b].all (termB zs)) = true := hI
        simp only [List.all_cons, List.all_nil, Bool.and_true, Bool.and_eq_true] at hI
        obtain ⟨t1, t2⟩ := hI
        have e : litB zs a b = !eqF a b := by
          unfold litB
          rw [t1, t2]
          rfl
        rw [e] at k
        cases a with
        | str u =>
          cases b with
          | str v => exact ⟨rfl, k⟩
          | _ => cases t2
        | _ => cases t1
  | must c l p h1 h2 =>
    obtain ⟨x, y, n, rfl, _⟩ := triple_of h2
    rw [terms_must] at k
    refine ⟨_, rfl, _, Tv.at_0, rfl, (if_neg (by decide +kernel)).mpr ⟨fun e => e = [.val (strsT zs), .val (.tup [.str "must", c, .tup [x, y, n], p]), .un, .un], ?_, ?_⟩⟩
    · simp only [Tv.wSeq, Tv.wNext, Tv.wIfS, Tv.wSet, Tv.wSetN, Tv.wRet, Tv.wRetO, Tv.wFrz, Tv.wApp, Tv.wOp, Tv.wTest, Tv.wAnd, Tv.wOr, Tv.wNot, Tv.wIf, Tv.wAndV, Tv.wOrV, Tv.wNotV, Tv.wCall, Tv.wCons, Tv.wNil, Tv.wV, Tv.wC, Tv.wTup, Tv.wLst, Tv.wSeqT, Tv.wO, Tv.wLen, Tv.wList, Tv.wTuple, Tv.wCat, Tv.wSl, Tv.wLst1, Tv.wTup1, Tv.wRng1, Tv.wRng2, Tv.wEnum, Tv.wFor, Tv.wLc, Tv.wYes, Tv.wCB, Tv.wipeE, Tv.gSet, Tv.gNilT, Tv.gConsT, Tv.gTupT, Tv.cellOf, Tv.env0, Tv.fEq, Tv.fIn, Tv.fI0, Tv.fI, Tv.fSc, Tv.fIsN, Tv.fIsB, Tv.fIx, Tv.fIxS, Tv.fCatT, Tv.fInt1, Tv.fMin2, List.zipWith_cons_cons, List.zipWith_nil_left, List.length_cons, List.length_nil, List.cons_append, List.nil_append, List.replicate, List.getElem?_cons_zero, List.getElem?_cons_succ, List.set_cons_zero, List.set_cons_succ, Tv.wRoom, Tv.wRoomSet, Tv.wIfDraw, Tv.wStar, Tv.wLen6, Tv.wFld, Tv.wExt, Tv.wTru, Tv.wChain, Tv.fIsi, Tv.fInF, Tv.seq_l, Tv.seq_t, Tv.lst_l, Tv.tup_t, Tv.scal_ii, Tv.scal_ss, Tv.scal_bb, Tv.same_ii, Tv.same_ss, Tv.same_bb, Tv.at_0, Tv.at_1, Tv.at_2, Tv.at_3, Tv.isN_non, Tv.isN_int, Tv.isN_str, Tv.isN_tup, Tv.isN_lst, Tv.isN_bl, Cell.val.injEq, T.op.injEq, forall_const, Tv.isi_non_tuple, Tv.isi_non_str, Tv.isi_non_int, Tv.isi_non_bool, Tv.isi_non_dict, Tv.isi_non_list, Tv.isi_bl_tuple, Tv.isi_bl_str, Tv.isi_bl_int, Tv.isi_bl_bool, Tv.isi_bl_dict, Tv.isi_bl_list, Tv.isi_int_tuple, Tv.isi_int_str, Tv.isi_int_int, Tv.isi_int_bool, Tv.isi_int_dict, Tv.isi_int_list, Tv.isi_str_tuple, Tv.isi_str_str, Tv.isi_str_int, Tv.isi_str_bool, Tv.isi_str_dict, Tv.isi_str_list, Tv.isi_tup_tuple, Tv.isi_tup_str, Tv.isi_tup_int, Tv.isi_tup_bool, Tv.isi_tup_dict, Tv.isi_tup_list, Tv.isi_lst_tuple, Tv.isi_lst_str, Tv.isi_lst_int, Tv.isi_lst_bool, Tv.isi_lst_dict, Tv.isi_lst_list, Tv.isi_dic_tuple, Tv.isi_dic_str, Tv.isi_dic_int, Tv.isi_dic_bool, Tv.isi_dic_dict, Tv.isi_dic_list, V.ty.injEq, Tv.wLc2, Tv.fAll, Tv.wDropX, Tv.wSetX, Tv.wRaise, Tv.wIsi2, Tv.wDead, Tv.wStr1, Tv.fInS, Tv.fAddS, Tv.fLenS, Tv.wDisp, Tv.fDIn, Tv.fDGet, Tv.wISet, ↓reduceIte, Bool.false_eq_true, decide_eq_true_eq, T.int.injEq, T.str.injEq, T.bl.injEq, T.lst.injEq, T.tup.injEq, exists_eq_left', exists_eq_left, exists_and_left, true_and, and_true, reduceCtorEq, ne_eq, not_false_eq_true, not_true_eq_false, forall_eq', forall_eq, Option.some.injEq, Option.isSome_some]
      exact (if_pos (by decide +kernel)).mpr <| (if_neg (by decide +kernel)).mpr <| trivial
    · rintro _ rfl
      simp only [Tv.wSeq, Tv.wNext, Tv.wIfS, Tv.wSet, Tv.wSetN, Tv.wRet, Tv.wRetO, Tv.wFrz, Tv.wApp, Tv.wOp, Tv.wTest, Tv.wAnd, Tv.wOr, Tv.wNot, Tv.wIf, Tv.wAndV, Tv.wOrV, Tv.wNotV, Tv.wCall, Tv.wCons, Tv.wNil, Tv.wV, Tv.wC, Tv.wTup, Tv.wLst, Tv.wSeqT, Tv.wO, Tv.wLen, Tv.wList, Tv.wTuple, Tv.wCat, Tv.wSl, Tv.wLst1, Tv.wTup1, Tv.wRng1, Tv.wRng2, Tv.wEnum, Tv.wLc, Tv.wYes, Tv.wCB, Tv.wipeE, Tv.gSet, Tv.gNilT, Tv.gConsT, Tv.gTupT, Tv.cellOf, Tv.env0, Tv.fEq, Tv.fIn, Tv.fI0, Tv.fI, Tv.fSc, Tv.fIsN, Tv.fIsB, Tv.fIx, Tv.fIxS, Tv.fCatT, Tv.fInt1, Tv.fMin2, List.zipWith_cons_cons, List.zipWith_nil_left, List.length_cons, List.length_nil, List.cons_append, List.nil_append, List.replicate, List.getElem?_cons_zero, List.getElem?_cons_succ, List.set_cons_zero, List.set_cons_succ, Tv.wRoom, Tv.wRoomSet, Tv.wIfDraw, Tv.wStar, Tv.wLen6, Tv.wFld, Tv.wExt, Tv.wTru, Tv.wChain, Tv.fIsi, Tv.fInF, Tv.seq_l, Tv.seq_t, Tv.lst_l, Tv.tup_t, Tv.scal_ii, Tv.scal_ss, Tv.scal_bb, Tv.same_ii, Tv.same_ss, Tv.same_bb, Tv.at_0, Tv.at_1, Tv.at_2, Tv.at_3, Tv.isN_non, Tv.isN_int, Tv.isN_str, Tv.isN_tup, Tv.isN_lst, Tv.isN_bl, Cell.val.injEq, T.op.injEq, forall_const, Tv.isi_non_tuple, Tv.isi_non_str, Tv.isi_non_int, Tv.isi_non_bool, Tv.isi_non_dict, Tv.isi_non_list, Tv.isi_bl_tuple, Tv.isi_bl_str, Tv.isi_bl_int, Tv.isi_bl_bool, Tv.isi_bl_dict, Tv.isi_bl_list, Tv.isi_int_tuple, Tv.isi_int_str, Tv.isi_int_int, Tv.isi_int_bool, Tv.isi_int_dict, Tv.isi_int_list, Tv.isi_str_tuple, Tv.isi_str_str, Tv.isi_str_int, Tv.isi_str_bool, Tv.isi_str_dict, Tv.isi_str_list, Tv.isi_tup_tuple, Tv.isi_tup_str, Tv.isi_tup_int, Tv.isi_tup_bool, Tv.isi_tup_dict, Tv.isi_tup_list, Tv.isi_lst_tuple, Tv.isi_lst_str, Tv.isi_lst_int, Tv.isi_lst_bool, Tv.isi_lst_dict, Tv.isi_lst_list, Tv.isi_dic_tuple, Tv.isi_dic_str, Tv.isi_dic_int, Tv.isi_dic_bool, Tv.isi_dic_dict, Tv.isi_dic_list, V.ty.injEq, Tv.wLc2, Tv.fAll, Tv.wDropX, Tv.wSetX, Tv.wRaise, Tv.wIsi2, Tv.wDead, Tv.wStr1, Tv.fInS, Tv.fAddS, Tv.fLenS, Tv.wDisp, Tv.fDIn, Tv.fDGet, Tv.wISet, ↓reduceIte, Bool.false_eq_true, decide_eq_true_eq, T.int.injEq, T.str.injEq, T.bl.injEq, T.lst.injEq, T.tup.injEq, exists_eq_left', exists_eq_left, exists_and_left, true_and, and_true, reduceCtorEq, ne_eq, not_false_eq_true, not_true_eq_false, forall_eq', forall_eq, Option.some.injEq, Option.isSome_some]
      unfold Tv.wFor
      simp only [Tv.wTup1, Tv.wLst1, Tv.wOp, Tv.wV, Tv.wC, Tv.fIx, List.getElem?_cons_zero, List.getElem?_cons_succ, ↓reduceIte, Bool.false_eq_true, decide_eq_true_eq, T.int.injEq, T.str.injEq, T.bl.injEq, T.lst.injEq, T.tup.injEq, exists_eq_left', exists_eq_left, exists_and_left, true_and, and_true, reduceCtorEq, ne_eq, not_false_eq_true, not_true_eq_false, forall_eq', forall_eq, Option.some.injEq, Option.isSome_some]
      have da : ∀ u ∈ [x, y], datR u = true := by
        intro u hu
        simp only [List.mem_cons, List.not_mem_nil, or_false] at hu
        rcases hu with hu | hu
        · rw [hu]
          exact dat_i (dat_i dt (t := .tup [x, y, n]) (by simp)) (by simp)
        · rw [hu]
          exact dat_i (dat_i dt (t := .tup [x, y, n]) (by simp)) (by simp)
      refine ⟨fun i e => (∃ c9, e = [.val (strsT zs), .val (.tup [.str "must", c, .tup [x, y, n], p]), .val (.lst [x, y]), c9]) ∧ ([x, y].take i).all (termB zs) = true, ⟨⟨_, rfl⟩, rfl⟩, ?_, ?_⟩
      · rintro i t env' hi ⟨⟨c1, rfl⟩, hI⟩
        simp only [Tv.wSeq, Tv.wNext, Tv.wIfS, Tv.wSet, Tv.wSetN, Tv.wRet, Tv.wRetO, Tv.wFrz, Tv.wApp, Tv.wOp, Tv.wTest, Tv.wAnd, Tv.wOr, Tv.wNot, Tv.wIf, Tv.wAndV, Tv.wOrV, Tv.wNotV, Tv.wCall, Tv.wCons, Tv.wNil, Tv.wV, Tv.wC, Tv.wTup, Tv.wLst, Tv.wSeqT, Tv.wO, Tv.wLen, Tv.wList, Tv.wTuple, Tv.wCat, Tv.wSl, Tv.wLst1, Tv.wTup1, Tv.wRng1, Tv.wRng2, Tv.wEnum, Tv.wFor, Tv.wLc, Tv.wYes, Tv.wCB, Tv.wipeE, Tv.gSet, Tv.gNilT, Tv.gConsT, Tv.gTupT, Tv.cellOf, Tv.env0, Tv.fEq, Tv.fIn, Tv.fI0, Tv.fI, Tv.fSc, Tv.fIsN, Tv.fIsB, Tv.fIx, Tv.fIxS, Tv.fCatT, Tv.fInt1, Tv.fMin2, List.zipWith_cons_cons, List.zipWith_nil_left, List.length_cons, List.length_nil, List.cons_append, List.nil_append, List.replicate, List.getElem?_cons_zero, List.getElem?_cons_succ, List.set_cons_zero, List.set_cons_succ, Tv.wRoom, Tv.wRoomSet, Tv.wIfDraw, Tv.wStar, Tv.wLen6, Tv.wFld, Tv.wExt, Tv.wTru, Tv.wChain, Tv.fIsi, Tv.fInF, Tv.seq_l, Tv.seq_t, Tv.lst_l, Tv.tup_t, Tv.scal_ii, Tv.scal_ss, Tv.scal_bb, Tv.same_ii, Tv.same_ss, Tv.same_bb, Tv.at_0, Tv.at_1, Tv.at_2, Tv.at_3, Tv.isN_non, Tv.isN_int, Tv.isN_str, Tv.isN_tup, Tv.isN_lst, Tv.isN_bl, Cell.val.injEq, T.op.injEq, forall_const, Tv.isi_non_tuple, Tv.isi_non_str, Tv.isi_non_int, Tv.isi_non_bool, Tv.isi_non_dict, Tv.isi_non_list, Tv.isi_bl_tuple, Tv.isi_bl_str, Tv.isi_bl_int, Tv.isi_bl_bool, Tv.isi_bl_dict, Tv.isi_bl_list, Tv.isi_int_tuple, Tv.isi_int_str, Tv.isi_int_int, Tv.isi_int_bool, Tv.isi_int_dict, Tv.isi_int_list, Tv.isi_str_tuple, Tv.isi_str_str, Tv.isi_str_int, Tv.isi_str_bool, Tv.isi_str_dict, Tv.isi_str_list, Tv.isi_tup_tuple, Tv.isi_tup_str, Tv.isi_tup_int, Tv.isi_tup_bool, Tv.isi_tup_dict, Tv.isi_tup_list, Tv.isi_lst_tuple, Tv.isi_lst_str, Tv.isi_lst_int, Tv.isi_lst_bool, Tv.isi_lst_dict, Tv.isi_lst_list, Tv.isi_dic_tuple, Tv.isi_dic_str, Tv.isi_dic_int, Tv.isi_dic_bool, Tv.isi_dic_dict, Tv.isi_dic_list, V.ty.injEq, Tv.wLc2, Tv.fAll, Tv.wDropX, Tv.wSetX, Tv.wRaise, Tv.wIsi2, Tv.wDead, Tv.wStr1, Tv.fInS, Tv.fAddS, Tv.fLenS, Tv.wDisp, Tv.fDIn, Tv.fDGet, Tv.wISet, ↓reduceIte, Bool.false_eq_true, decide_eq_true_eq, T.int.injEq, T.str.injEq, T.bl.injEq, T.lst.injEq, T.tup.injEq, exists_eq_left', exists_eq_left, exists_and_left, true_and, and_true, reduceCtorEq, ne_eq, not_false_eq_true, not_true_eq_false, forall_eq', forall_eq, Option.some.injEq, Option.isSome_some]
        have mt := List.mem_of_getElem? hi
        have no : termB zs t = false → Pt (.bl false) := fun h => by
          rw [lit_no mt h] at k
          exact k
        have ye : termB zs t = true → ([x, y].take (i + 1)).all (termB zs) = true := fun h => by
          rw [List.take_add_one, hi, List.all_append, hI]
          show (true && (termB zs t && true)) = true
          rw [h]
          rfl
        refine ⟨_, _, rfl, _, isiS (dat_d (da t mt)), ?_⟩
        have dt' := da t mt
        cases t with
        | str z =>
          refine (if_neg Bool.false_ne_true).mpr ⟨rfl, _, rfl, by rw [List.length_map]; omega, rfl, ?_, ?_⟩
          · show (true && (zs.map T.str).all flatT) = true
            rw [strs_flat]
            rfl
          · have e : ((T.str "" :: zs.map T.str).any fun y => eqF y (.str z)) = termB zs (.str z) := by
              show ((("" : Str) == z) || ((zs.map T.str).any fun y => eqF y (.str z))) = (decide (z ∈ zs) || z == "")
              rw [any_strs, Bool.or_comm]
              congr 1
              exact BEq.comm
            cases et : termB zs (.str z) with
            | true =>
              refine (if_neg ?_).mpr ⟨⟨_, rfl⟩, ye et⟩
              rw [e, et]
              exact Bool.false_ne_true
            | false =>
              refine (if_pos ?_).mpr (no et)
              rw [e, et]
              rfl
        | obj C fs => cases dt'
        | op v => cases dt'
        | exc C d us => cases dt'
        | mk o C us => cases dt'
        | dic v => cases dt'
        | _ => exact (if_pos rfl).mpr (no rfl)
      · rintro env' ⟨⟨c1, rfl⟩, hI⟩
        simp only [Tv.wSeq, Tv.wNext, Tv.wIfS, Tv.wSet, Tv.wSetN, Tv.wRet, Tv.wRetO, Tv.wFrz, Tv.wApp, Tv.wOp, Tv.wTest, Tv.wAnd, Tv.wOr, Tv.wNot, Tv.wIf, Tv.wAndV, Tv.wOrV, Tv.wNotV, Tv.wCall, Tv.wCons, Tv.wNil, Tv.wV, Tv.wC, Tv.wTup, Tv.wLst, Tv.wSeqT, Tv.wO, Tv.wLen, Tv.wList, Tv.wTuple, Tv.wCat, Tv.wSl, Tv.wLst1, Tv.wTup1, Tv.wRng1, Tv.wRng2, Tv.wEnum, Tv.wFor, Tv.wLc, Tv.wYes, Tv.wCB, Tv.wipeE, Tv.gSet, Tv.gNilT, Tv.gConsT, Tv.gTupT, Tv.cellOf, Tv.env0, Tv.fEq, Tv.fIn, Tv.fI0, Tv.fI, Tv.fSc, Tv.fIsN, Tv.fIsB, Tv.fIx, Tv.fIxS, Tv.fCatT, Tv.fInt1, Tv.fMin2, List.zipWith_cons_cons, List.zipWith_nil_left, List.length_cons, List.length_nil, List.cons_append, List.nil_append, List.replicate, List.getElem?_cons_zero, List.getElem?_cons_succ, List.set_cons_zero, List.set_cons_succ, Tv.wRoom, Tv.wRoomSet, Tv.wIfDraw, Tv.wStar, Tv.wLen6, Tv.wFld, Tv.wExt, Tv.wTru, Tv.wChain, Tv.fIsi, Tv.fInF, Tv.seq_l, Tv.seq_t, Tv.lst_l, Tv.tup_t, Tv.scal_ii, Tv.scal_ss, Tv.scal_bb, Tv.same_ii, Tv.same_ss, Tv.same_bb, Tv.at_0, Tv.at_1, Tv.at_2, Tv.at_3, Tv.isN_non, Tv.isN_int, Tv.isN_str, Tv.isN_tup, Tv.isN_lst, Tv.isN_bl, Cell.val.injEq, T.op.injEq, forall_const, Tv.isi_non_tuple, Tv.isi_non_str, Tv.isi_non_int, Tv.isi_non_bool, Tv.isi_non_dict, Tv.isi_non_list, Tv.isi_bl_tuple, Tv.isi_bl_str, Tv.isi_bl_int, Tv.isi_bl_bool, Tv.isi_bl_dict, Tv.isi_bl_list, Tv.isi_int_tuple, Tv.isi_int_str, Tv.isi_int_int, Tv.isi_int_bool, Tv.isi_int_dict, Tv.isi_int_list, Tv.isi_str_tuple, Tv.isi_str_str, Tv.isi_str_int, Tv.isi_str_bool, Tv.isi_str_dict, Tv.isi_str_list, Tv.isi_tup_tuple, Tv.isi_tup_str, Tv.isi_tup_int, Tv.isi_tup_bool, Tv.isi_tup_dict, Tv.isi_tup_list, Tv.isi_lst_tuple, Tv.isi_lst_str, Tv.isi_lst_int, Tv.isi_lst_bool, Tv.isi_lst_dict, Tv.isi_lst_list, Tv.isi_dic_tuple, Tv.isi_dic_str, Tv.isi_dic_int, Tv.isi_dic_bool, Tv.isi_dic_dict, Tv.isi_dic_list, V.ty.injEq, Tv.wLc2, Tv.fAll, Tv.wDropX, Tv.wSetX, Tv.wRaise, Tv.wIsi2, Tv.wDead, Tv.wStr1, Tv.fInS, Tv.fAddS, Tv.fLenS, Tv.wDisp, Tv.fDIn, Tv.fDGet, Tv.wISet, ↓reduceIte, Bool.false_eq_true, decide_eq_true_eq, T.int.injEq, T.str.injEq, T.bl.injEq, T.lst.injEq, T.tup.injEq, exists_eq_left', exists_eq_left, exists_and_left, true_and, and_true, reduceCtorEq, ne_eq, not_false_eq_true, not_true_eq_false, forall_eq', forall_eq, Option.some.injEq, Option.isSome_some]
        have hI : ([x, y].all (termB zs)) = true := hI
        simp only [List.all_cons, List.all_nil, Bool.and_true, Bool.and_eq_true] at hI
        obtain ⟨t1, t2⟩ := hI
        have e : litB zs x y = !eqF x y := by
          unfold litB
          rw [t1, t2]
          rfl
        rw [e] at k
        cases x with
        | str u =>
          cases y with
          | str v => exact ⟨rfl, k⟩
          | _ => cases t2
        | _ => cases t1
  | missing a =>
    rw [terms_missing] at k
    refine ⟨_, rfl, _, Tv.at_0, rfl, (if_pos (by decide +kernel)).mpr ⟨_, rfl, _, Tv.at_1, _, _, rfl, _, isiS (dat_d (dat_i dt (by simp))), ?_⟩⟩
    have da := dat_i dt (t := a) (by simp)
    cases a with
    | str z =>
      refine (if_pos rfl).mpr ⟨_, rfl, _, Tv.at_1, _, rfl, rfl, strs_flat, ?_⟩
      rw [any_strs]
      exact k
    | obj C fs => cases da
    | op v => cases da
    | exc C d us => cases da
    | mk o C us => cases da
    | dic v => cases da
    | _ => exact k
  | not a =>
    rw [terms_not] at k
    refine ⟨_, rfl, _, Tv.at_0, rfl, (if_neg (by decide +kernel)).mpr ⟨fun e => False, ?_, fun _ h => h.elim⟩⟩
    simp only [Tv.wSeq, Tv.wNext, Tv.wIfS, Tv.wSet, Tv.wSetN, Tv.wRet, Tv.wRetO, Tv.wFrz, Tv.wApp, Tv.wOp, Tv.wTest, Tv.wAnd, Tv.wOr, Tv.wNot, Tv.wIf, Tv.wAndV, Tv.wOrV, Tv.wNotV, Tv.wCall, Tv.wCons, Tv.wNil, Tv.wV, Tv.wC, Tv.wTup, Tv.wLst, Tv.wSeqT, Tv.wO, Tv.wLen, Tv.wList, Tv.wTuple, Tv.wCat, Tv.wSl, Tv.wLst1, Tv.wTup1, Tv.wRng1, Tv.wRng2, Tv.wEnum, Tv.wFor, Tv.wLc, Tv.wYes, Tv.wCB, Tv.wipeE, Tv.gSet, Tv.gNilT, Tv.gConsT, Tv.gTupT, Tv.cellOf, Tv.env0, Tv.fEq, Tv.fIn, Tv.fI0, Tv.fI, Tv.fSc, Tv.fIsN, Tv.fIsB, Tv.fIx, Tv.fIxS, Tv.fCatT, Tv.fInt1, Tv.fMin2, List.zipWith_cons_cons, List.zipWith_nil_left, List.length_cons, List.length_nil, List.cons_append, List.nil_append, List.replicate, List.getElem?_cons_zero, List.getElem?_cons_succ, List.set_cons_zero, List.set_cons_succ, Tv.wRoom, Tv.wRoomSet, Tv.wIfDraw, Tv.wStar, Tv.wLen6, Tv.wFld, Tv.wExt, Tv.wTru, Tv.wChain, Tv.fIsi, Tv.fInF, Tv.seq_l, Tv.seq_t, Tv.lst_l, Tv.tup_t, Tv.scal_ii, Tv.scal_ss, Tv.scal_bb, Tv.same_ii, Tv.same_ss, Tv.same_bb, Tv.at_0, Tv.at_1, Tv.at_2, Tv.at_3, Tv.isN_non, Tv.isN_int, Tv.isN_str, Tv.isN_tup, Tv.isN_lst, Tv.isN_bl, Cell.val.injEq, T.op.injEq, forall_const, Tv.isi_non_tuple, Tv.isi_non_str, Tv.isi_non_int, Tv.isi_non_bool, Tv.isi_non_dict, Tv.isi_non_list, Tv.isi_bl_tuple, Tv.isi_bl_str, Tv.isi_bl_int, Tv.isi_bl_bool, Tv.isi_bl_dict, Tv.isi_bl_list, Tv.isi_int_tuple, Tv.isi_int_str, Tv.isi_int_int, Tv.isi_int_bool, Tv.isi_int_dict, Tv.isi_int_list, Tv.isi_str_tuple, Tv.isi_str_str, Tv.isi_str_int, Tv.isi_str_bool, Tv.isi_str_dict, Tv.isi_str_list, Tv.isi_tup_tuple, Tv.isi_tup_str, Tv.isi_tup_int, Tv.isi_tup_bool, Tv.isi_tup_dict, Tv.isi_tup_list, Tv.isi_lst_tuple, Tv.isi_lst_str, Tv.isi_lst_int, Tv.isi_lst_bool, Tv.isi_lst_dict, Tv.isi_lst_list, Tv.isi_dic_tuple, Tv.isi_dic_str, Tv.isi_dic_int, Tv.isi_dic_bool, Tv.isi_dic_dict, Tv.isi_dic_list, V.ty.injEq, Tv.wLc2, Tv.fAll, Tv.wDropX, Tv.wSetX, Tv.wRaise, Tv.wIsi2, Tv.wDead, Tv.wStr1, Tv.fInS, Tv.fAddS, Tv.fLenS, Tv.wDisp, Tv.fDIn, Tv.fDGet, Tv.wISet, ↓reduceIte, Bool.false_eq_true, decide_eq_true_eq, T.int.injEq, T.str.injEq, T.bl.injEq, T.lst.injEq, T.tup.injEq, exists_eq_left', exists_eq_left, exists_and_left, true_and, and_true, reduceCtorEq, ne_eq, not_false_eq_true, not_true_eq_false, forall_eq', forall_eq, Option.some.injEq, Option.isSome_some]
    exact k
  | join u ps h h1 h2 =>
    rw [terms_join h] at k
    rcases h with rfl | rfl
    · refine ⟨_, rfl, _, Tv.at_0, rfl, (if_neg (by decide +kernel)).mpr ⟨fun e => False, ?_, fun _ h => h.elim⟩⟩
      simp only [Tv.wSeq, Tv.wNext, Tv.wIfS, Tv.wSet, Tv.wSetN, Tv.wRet, Tv.wRetO, Tv.wFrz, Tv.wApp, Tv.wOp, Tv.wTest, Tv.wAnd, Tv.wOr, Tv.wNot, Tv.wIf, Tv.wAndV, Tv.wOrV, Tv.wNotV, Tv.wCall, Tv.wCons, Tv.wNil, Tv.wV, Tv.wC, Tv.wTup, Tv.wLst, Tv.wSeqT, Tv.wO, Tv.wLen, Tv.wList, Tv.wTuple, Tv.wCat, Tv.wSl, Tv.wLst1, Tv.wTup1, Tv.wRng1, Tv.wRng2, Tv.wEnum, Tv.wFor, Tv.wLc, Tv.wYes, Tv.wCB, Tv.wipeE, Tv.gSet, Tv.gNilT, Tv.gConsT, Tv.gTupT, Tv.cellOf, Tv.env0, Tv.fEq, Tv.fIn, Tv.fI0, Tv.fI, Tv.fSc, Tv.fIsN, Tv.fIsB, Tv.fIx, Tv.fIxS, Tv.fCatT, Tv.fInt1, Tv.fMin2, List.zipWith_cons_cons, List.zipWith_nil_left, List.length_cons, List.length_nil, List.cons_append, List.nil_append, List.replicate, List.getElem?_cons_zero, List.getElem?_cons_succ, List.set_cons_zero, List.set_cons_succ, Tv.wRoom, Tv.wRoomSet, Tv.wIfDraw, Tv.wStar, Tv.wLen6, Tv.wFld, Tv.wExt, Tv.wTru, Tv.wChain, Tv.fIsi, Tv.fInF, Tv.seq_l, Tv.seq_t, Tv.lst_l, Tv.tup_t, Tv.scal_ii, Tv.scal_ss, Tv.scal_bb, Tv.same_ii, Tv.same_ss, Tv.same_bb, Tv.at_0, Tv.at_1, Tv.at_2, Tv.at_3, Tv.isN_non, Tv.isN_int, Tv.isN_str, Tv.isN_tup, Tv.isN_lst, Tv.isN_bl, Cell.val.injEq, T.op.injEq, forall_const, Tv.isi_non_tuple, Tv.isi_non_str, Tv.isi_non_int, Tv.isi_non_bool, Tv.isi_non_dict, Tv.isi_non_list, Tv.isi_bl_tuple, Tv.isi_bl_str, Tv.isi_bl_int, Tv.isi_bl_bool, Tv.isi_bl_dict, Tv.isi_bl_list, Tv.isi_int_tuple, Tv.isi_int_str, Tv.isi_int_int, Tv.isi_int_bool, Tv.isi_int_dict, Tv.isi_int_list, Tv.isi_str_tuple, Tv.isi_str_str, Tv.isi_str_int, Tv.isi_str_bool, Tv.isi_str_dict, Tv.isi_str_list, Tv.isi_tup_tuple, Tv.isi_tup_str, Tv.isi_tup_int, Tv.isi_tup_bool, Tv.isi_tup_dict, Tv.isi_tup_list, Tv.isi_lst_tuple, Tv.isi_lst_str, Tv.isi_lst_int, Tv.isi_lst_bool, Tv.isi_lst_dict, Tv.isi_lst_list, Tv.isi_dic_tuple, Tv.isi_dic_str, Tv.isi_dic_int, Tv.isi_dic_bool, Tv.isi_dic_dict, Tv.isi_dic_list, V.ty.injEq, Tv.wLc2, Tv.fAll, Tv.wDropX, Tv.wSetX, Tv.wRaise, Tv.wIsi2, Tv.wDead, Tv.wStr1, Tv.fInS, Tv.fAddS, Tv.fLenS, Tv.wDisp, Tv.fDIn, Tv.fDGet, Tv.wISet, ↓reduceIte, Bool.false_eq_true, decide_eq_true_eq, T.int.injEq, T.str.injEq, T.bl.injEq, T.lst.injEq, T.tup.injEq, exists_eq_left', exists_eq_left, exists_and_left, true_and, and_true, reduceCtorEq, ne_eq, not_false_eq_true, not_true_eq_false, forall_eq', forall_eq, Option.some.injEq, Option.isSome_some]
      exact k
    · refine ⟨_, rfl, _, Tv.at_0, rfl, (if_neg (by decide +kernel)).mpr ⟨fun e => False, ?_, fun _ h => h.elim⟩⟩
      simp only [Tv.wSeq, Tv.wNext, Tv.wIfS, Tv.wSet, Tv.wSetN, Tv.wRet, Tv.wRetO, Tv.wFrz, Tv.wApp, Tv.wOp, Tv.wTest, Tv.wAnd, Tv.wOr, Tv.wNot, Tv.wIf, Tv.wAndV, Tv.wOrV, Tv.wNotV, Tv.wCall, Tv.wCons, Tv.wNil, Tv.wV, Tv.wC, Tv.wTup, Tv.wLst, Tv.wSeqT, Tv.wO, Tv.wLen, Tv.wList, Tv.wTuple, Tv.wCat, Tv.wSl, Tv.wLst1, Tv.wTup1, Tv.wRng1, Tv.wRng2, Tv.wEnum, Tv.wFor, Tv.wLc, Tv.wYes, Tv.wCB, Tv.wipeE, Tv.gSet, Tv.gNilT, Tv.gConsT, Tv.gTupT, Tv.cellOf, Tv.env0, Tv.fEq, Tv.fIn, Tv.fI0, Tv.fI, Tv.fSc, Tv.fIsN, Tv.fIsB, Tv.fIx, Tv.fIxS, Tv.fCatT, Tv.fInt1, Tv.fMin2, List.zipWith_cons_cons, List.zipWith_nil_left, List.length_cons, List.length_nil, List.cons_append, List.nil_append, List.replicate, List.getElem?_cons_zero, List.getElem?_cons_succ, List.set_cons_zero, List.set_cons_succ, Tv.wRoom, Tv.wRoomSet, Tv.wIfDraw, Tv.wStar, Tv.wLen6, Tv.wFld, Tv.wExt, Tv.wTru, Tv.wChain, Tv.fIsi, Tv.fInF, Tv.seq_l, Tv.seq_t, Tv.lst_l, Tv.tup_t, Tv.scal_ii, Tv.scal_ss, Tv.scal_bb, Tv.same_ii, Tv.same_ss, Tv.same_bb, Tv.at_0, Tv.at_1, Tv.at_2, Tv.at_3, Tv.isN_non, Tv.isN_int, Tv.isN_str, Tv.isN_tup, Tv.isN_lst, Tv.isN_bl, Cell.val.injEq, T.op.injEq, forall_const, Tv.isi_non_tuple, Tv.isi_non_str, Tv.isi_non_int, Tv.isi_non_bool, Tv.isi_non_dict, Tv.isi_non_list, Tv.isi_bl_tuple, Tv.isi_bl_str, Tv.isi_bl_int, Tv.isi_bl_bool, Tv.isi_bl_dict, Tv.isi_bl_list, Tv.isi_int_tuple, Tv.isi_int_str, Tv.isi_int_int, Tv.isi_int_bool, Tv.isi_int_dict, Tv.isi_int_list, Tv.isi_str_tuple, Tv.isi_str_str, Tv.isi_str_int, Tv.isi_str_bool, Tv.isi_str_dict, Tv.isi_str_list, Tv.isi_tup_tuple, Tv.isi_tup_str, Tv.isi_tup_int, Tv.isi_tup_bool, Tv.isi_tup_dict, Tv.isi_tup_list, Tv.isi_lst_tuple, Tv.isi_lst_str, Tv.isi_lst_int, Tv.isi_lst_bool, Tv.isi_lst_dict, Tv.isi_lst_list, Tv.isi_dic_tuple, Tv.isi_dic_str, Tv.isi_dic_int, Tv.isi_dic_bool, Tv.isi_dic_dict, Tv.isi_dic_list, V.ty.injEq, Tv.wLc2, Tv.fAll, Tv.wDropX, Tv.wSetX, Tv.wRaise, Tv.wIsi2, Tv.wDead, Tv.wStr1, Tv.fInS, Tv.fAddS, Tv.fLenS, Tv.wDisp, Tv.fDIn, Tv.fDGet, Tv.wISet, ↓reduceIte, Bool.false_eq_true, decide_eq_true_eq, T.int.injEq, T.str.injEq, T.bl.injEq, T.lst.injEq, T.tup.injEq, exists_eq_left', exists_eq_left, exists_and_left, true_and, and_true, reduceCtorEq, ne_eq, not_false_eq_true, not_true_eq_false, forall_eq', forall_eq, Option.some.injEq, Option.isSome_some]
      exact k
  | case bs l h1 h2 =>
    refine ⟨_, rfl, _, Tv.at_0, rfl, (if_neg (by decide +kernel)).mpr ⟨fun e => False, ?_, fun _ h => h.elim⟩⟩
    simp only [Tv.wSeq, Tv.wNext, Tv.wIfS, Tv.wSet, Tv.wSetN, Tv.wRet, Tv.wRetO, Tv.wFrz, Tv.wApp, Tv.wOp, Tv.wTest, Tv.wAnd, Tv.wOr, Tv.wNot, Tv.wIf, Tv.wAndV, Tv.wOrV, Tv.wNotV, Tv.wCall, Tv.wCons, Tv.wNil, Tv.wV, Tv.wC, Tv.wTup, Tv.wLst, Tv.wSeqT, Tv.wO, Tv.wLen, Tv.wList, Tv.wTuple, Tv.wCat, Tv.wSl, Tv.wLst1, Tv.wTup1, Tv.wRng1, Tv.wRng2, Tv.wEnum, Tv.wFor, Tv.wLc, Tv.wYes, Tv.wCB, Tv.wipeE, Tv.gSet, Tv.gNilT, Tv.gConsT, Tv.gTupT, Tv.cellOf, Tv.env0, Tv.fEq, Tv.fIn, Tv.fI0, Tv.fI, Tv.fSc, Tv.fIsN, Tv.fIsB, Tv.fIx, Tv.fIxS, Tv.fCatT, Tv.fInt1, Tv.fMin2, List.zipWith_cons_cons, List.zipWith_nil_left, List.length_cons, List.length_nil, List.cons_append, List.nil_append, List.replicate, List.getElem?_cons_zero, List.getElem?_cons_succ, List.set_cons_zero, List.set_cons_succ, Tv.wRoom, Tv.wRoomSet, Tv.wIfDraw, Tv.wStar, Tv.wLen6, Tv.wFld, Tv.wExt, Tv.wTru, Tv.wChain, Tv.fIsi, Tv.fInF, Tv.seq_l, Tv.seq_t, Tv.lst_l, Tv.tup_t, Tv.scal_ii, Tv.scal_ss, Tv.scal_bb, Tv.same_ii, Tv.same_ss, Tv.same_bb, Tv.at_0, Tv.at_1, Tv.at_2, Tv.at_3, Tv.isN_non, Tv.isN_int, Tv.isN_str, Tv.isN_tup, Tv.isN_lst, Tv.isN_bl, Cell.val.injEq, T.op.injEq, forall_const, Tv.isi_non_tuple, Tv.isi_non_str, Tv.isi_non_int, Tv.isi_non_bool, Tv.isi_non_dict, Tv.isi_non_list, Tv.isi_bl_tuple, Tv.isi_bl_str, Tv.isi_bl_int, Tv.isi_bl_bool, Tv.isi_bl_dict, Tv.isi_bl_list, Tv.isi_int_tuple, Tv.isi_int_str, Tv.isi_int_int, Tv.isi_int_bool, Tv.isi_int_dict, Tv.isi_int_list, Tv.isi_str_tuple, Tv.isi_str_str, Tv.isi_str_int, Tv.isi_str_bool, Tv.isi_str_dict, Tv.isi_str_list, Tv.isi_tup_tuple, Tv.isi_tup_str, Tv.isi_tup_int, Tv.isi_tup_bool, Tv.isi_tup_dict, Tv.isi_tup_list, Tv.isi_lst_tuple, Tv.isi_lst_str, Tv.isi_lst_int, Tv.isi_lst_bool, Tv.isi_lst_dict, Tv.isi_lst_list, Tv.isi_dic_tuple, Tv.isi_dic_str, Tv.isi_dic_int, Tv.isi_dic_bool, Tv.isi_dic_dict, Tv.isi_dic_list, V.ty.injEq, Tv.wLc2, Tv.fAll, Tv.wDropX, Tv.wSetX, Tv.wRaise, Tv.wIsi2, Tv.wDead, Tv.wStr1, Tv.fInS, Tv.fAddS, Tv.fLenS, Tv.wDisp, Tv.fDIn, Tv.fDGet, Tv.wISet, ↓reduceIte, Bool.false_eq_true, decide_eq_true_eq, T.int.injEq, T.str.injEq, T.bl.injEq, T.lst.injEq, T.tup.injEq, exists_eq_left', exists_eq_left, exists_and_left, true_and, and_true, reduceCtorEq, ne_eq, not_false_eq_true, not_true_eq_false, forall_eq', forall_eq, Option.some.injEq, Option.isSome_some]
    exact k
end
end Tl
/-! the law's walk over parts -/
namespace Tl
open PySem PySem.Spec PyProof.Rows L2 Lw Tv Nm
def resT : Option (List T × Str) → T
  | none => .non
  | some (q, why) => .tup [.tup q, .str why]
def cLFault (n : Nat) (_ : Rs) (ts : List T) (Pt : T → Prop) : Prop := ∃ (zs : List Str) (t : T) (p : List T), ts = [strsT zs, t, .tup p] ∧ datR t = true ∧ deepT n t ∧ p.length + n ≤ 1000 ∧ zs.length ≤ 10 ∧ Pt (resT (chkT zs n t p))
/-- a way into a part, by the indexes of inner parts -/
def Walk : T → List Nat → Prop
  | _, [] => True
  | t, i :: q => formB t = true ∧ ∃ u, (innerT t)[i]? = some u ∧ Walk u q
def wellT : Nat → T → Prop
  | 0, _ => False
  | n + 1, t => formB t = true ∧ ∀ u ∈ innerT t, wellT n u
def natsT (q : List Nat) : List T := q.map fun i : Nat => T.int (i : Int)
def PlOk (n : Nat) (t : T) (p : List T) (x : T) : Prop := ∃ q u, x = .tup [.tup (p ++ natsT q), u] ∧ Walk t q ∧ q.length < n
def cPlaces (n : Nat) (_ : Rs) (ts : List T) (Pt : T → Prop) : Prop := ∃ (t : T) (p : List T), ts = [t, .tup p] ∧ wellT n t ∧ p.length + n ≤ 1000 ∧ n ≤ 6 ∧ ∀ ls, ls ≠ [] → ls.length ≤ 8 ^ n → (∀ x ∈ ls, PlOk n t p x) → Pt (.lst ls)
/- how deep -/
mutual
def depT : T → Nat
  | .tup ts => depTs ts + 1
  | .lst ts => depTs ts + 1
  | _ => 0
def depTs : List T → Nat
  | [] => 0
  | t :: ts => max (depT t) (depTs ts)
end
def cSame (n : Nat) (_ : Rs) (ts : List T) (Pt : T → Prop) : Prop := ∃ t, ts = [t, t] ∧ datR t = true ∧ depT t < n ∧ Pt (.bl true)
theorem dep_le {u : T} : ∀ {us : List T}, u ∈ us → depT u ≤ depTs us
  | t :: us, m => by
    show depT u ≤ max (depT t) (depTs us)
    rcases List.mem_cons.mp m with rfl | m
    · exact Nat.le_max_left _ _
    · exact Nat.le_trans (dep_le m) (Nat.le_max_right _ _)
theorem dep_lt {u : T} {us : List T} {n : Nat} (m : u ∈ us) (h : depTs us + 1 < n + 1) : depT u < n := Nat.lt_of_le_of_lt (dep_le m) (Nat.lt_of_succ_lt_succ h)
theorem inner_len {t : T} (h : formB t = true) : (innerT t).length ≤ 7 := by
  have ff := form_of h
  cases ff with
  | atmost a b n h => rw [inner_atmost]; simp
  | must c l p h1 h2 => rw [inner_must]; simp
  | missing a => rw [inner_missing]; simp
  | not a => rw [inner_not]; simp
  | join x ps hu h1 h2 => rw [inner_join hu]; omega
  | case bs l h1 h2 =>
    rw [inner_case, List.length_append, len_flat]
    simp only [List.length_cons, List.length_nil]
    omega
section
variable {P : Program} {w : World} {K : PySem.W.Frag} {mg : Str → Option Value} {base : Heap}
abbrev CLFF (P : Program) (w : World) (K : PySem.W.Frag) (mg : Str → Option Value) (base : Heap) : Prop := Cl P w K mg base 2 "_law_form_fits" (spT K [.S] false cHasForm)
abbrev CLTF (P : Program) (w : World) (K : PySem.W.Frag) (mg : Str → Option Value) (base : Heap) : Prop := Cl P w K mg base 1 "_law_terms_fit" (spT K [.S, .S] false cTerms)
abbrev CLIn (P : Program) (w : World) (K : PySem.W.Frag) (mg : Str → Option Value) (base : Heap) : Prop := Cl P w K mg base 1 "_law_inner" (spT K [.S] true cInner)
abbrev CLFa (P : Program) (w : World) (K : PySem.W.Frag) (mg : Str → Option Value) (base : Heap) (n : Nat) : Prop := Cl P w K mg base (3 + n) "_law_fault" (spT K [.S, .S, .S] false (cLFault n))
abbrev CLPl (P : Program) (w : World) (K : PySem.W.Frag) (mg : Str → Option Value) (base : Heap) (n : Nat) : Prop := Cl P w K mg base (2 + n) "_law_places" (spT K [.S, .S] false (cPlaces n))
abbrev CLSm (P : Program) (w : World) (K : PySem.W.Frag) (mg : Str → Option Value) (base : Heap) (n : Nat) : Prop := Cl P w K mg base (1 + n) "_law_same" (spT K [.S, .S] false (cSame n))

theorem scLFault : FnScope ["_law_names_here", "_law_item", "_law_place", "_law_inner_here", "_law_at", "_law_found"] ["_law_names_here", "_law_item", "_law_place"] (defScope sLFault) := ⟨rfl, rfl, rfl, by decide +kernel, rfl, by decide +kernel, by decide +kernel⟩
theorem okLFault {f : Addr} {fd : FuncData} (F : Fun K "_law_fault" "_law_fault" sLFault f fd) (B : Bt mg) {n : Nat} (cF : CLFF P w K mg base) (cT : CLTF P w K mg base) (cI : CLIn P w K mg base) (cK : CLFa P w K mg base n) : FnOk P w K mg base CX0 (3 + n + 1) f fd ["_law_names_here", "_law_item", "_law_place"] (spT K [.S, .S, .S] false (cLFault (n + 1))) := by
  refine okv2 F scLFault rfl (by decide) fun cdv A outer s H E R ts Pt hr hc => ?_
  obtain ⟨zs, t, p, rfl, dt, dp, hp, hz, k⟩ := hc
  refine ⟨_, (cons_ (if_ (pnot_ (ptval_ (fun a => pt_val a) (callS_ (κ := .M) (κs := [.S]) (ms := [.S]) rfl (fun a => cF.pe hr (by omega) (by rfl) a) (pa1_ (pv_ (κ := .S) 1 (pv 1)) pa0_)))) (one_ (ret_ (ptup_ (κ := .S) (pa1_ (pv_ (κ := .S) 2 (pv 2)) (pa1_ (pstr_ (κ := .S)) pa0_)) rfl))) nil_)
      (cons_ (if_ (pnot_ (ptval_ (fun a => pt_val a) (callS_ (κ := .M) (κs := [.S, .S]) (ms := [.S, .S]) rfl (fun a => cT.pe hr (by omega) (by rfl) a) (pa1_ (pv_ (κ := .S) 0 (pv 0)) (pa1_ (pv_ (κ := .S) 1 (pv 1)) pa0_))))) (one_ (ret_ (ptup_ (κ := .S) (pa1_ (pv_ (κ := .S) 2 (pv 2)) (pa1_ (pstr_ (κ := .S)) pa0_)) rfl))) nil_)
      (cons_ (set_ (κ := .S) 3 (fun a => ps_set (i := 3) scLFault.nd rfl (Or.inl rfl) a) (PEn.up (κ := .S) (callN_ (κs := [.S]) (ms := [.S]) rfl (fun a => cI.pe hr (by omega) (by rfl) a) (pa1_ (pv_ (κ := .S) 1 (pv 1)) pa0_))))
      (cons_ (for_ (srcR1_ (κ := .S) (plen_ (μ := .M) (PEv.items (pv_ (κ := .S) 3 (pv 3))) (fun a => pe_callB call_len_seq (by rfl) B.len PySem.boot_len (pa_cons a pa_nil))) (fun a => pi_range1 (by rfl) B.range (pa_cons a pa_nil))) (gnm_ (κ := .S) 4 (by decide) (pg_name (i := 4) scLFault.nd rfl (Or.inl rfl)))
      (cons_ (set_ (κ := .S) 5 (fun a => ps_set (i := 5) scLFault.nd rfl (Or.inl rfl) a) (callS_ (κ := .S) (κs := [.S, .S, .S]) (ms := [.S, .S, .S]) rfl (fun a => cK.pe hr (by omega) (by rfl) a) (pa1_ (pv_ (κ := .S) 0 (pv 0)) (pa1_ (pix_ (pv_ (κ := .S) 3 (pv 3)) (pv_ (κ := .M) 4 (pv 4))) (pa1_ (pcatT_ (μ := .S) (pv_ (κ := .S) 2 (pv 2)) (ptup_ (κ := .S) (pa1_ (pv_ (κ := .S) 4 (pv 4)) pa0_) rfl)) pa0_)))))
      (one_ (if_ (ptcmp_ op_notN re_notN (nomark _) (pv_ (κ := .M) 5 (pv 5)) (pnon_ (κ := .M))) (one_ (ret_ (pv_ (κ := .S) 5 (pv 5)))) nil_))) (fun a b c => ps_for PassesOwn.never rfl a b c))
      (one_ (ret_ (pnon_ (κ := .S)))))))), ?_⟩
  simp only [Tv.wSeq, Tv.wNext, Tv.wIfS, Tv.wSet, Tv.wSetN, Tv.wRet, Tv.wRetO, Tv.wFrz, Tv.wApp, Tv.wOp, Tv.wTest, Tv.wAnd, Tv.wOr, Tv.wNot, Tv.wIf, Tv.wAndV, Tv.wOrV, Tv.wNotV, Tv.wCall, Tv.wCons, Tv.wNil, Tv.wV, Tv.wC, Tv.wTup, Tv.wLst, Tv.wSeqT, Tv.wO, Tv.wLen, Tv.wList, Tv.wTuple, Tv.wCat, Tv.wSl, Tv.wLst1, Tv.wTup1, Tv.wRng1, Tv.wRng2, Tv.wEnum, Tv.wLc, Tv.wYes, Tv.wCB, Tv.wipeE, Tv.gSet, Tv.gNilT, Tv.gConsT, Tv.gTupT, Tv.cellOf, Tv.env0, Tv.fEq, Tv.fIn, Tv.fI0, Tv.fI, Tv.fSc, Tv.fIsN, Tv.fIsB, Tv.fIx, Tv.fIxS, Tv.fCatT, Tv.fInt1, Tv.fMin2, List.zipWith_cons_cons, List.zipWith_nil_left, List.length_cons, List.length_nil, List.cons_append, List.nil_append, List.replicate, List.getElem?_cons_zero, List.getElem?_cons_succ, List.set_cons_zero, List.set_cons_succ, Tv.wRoom, Tv.wRoomSet, Tv.wIfDraw, Tv.wStar, Tv.wLen6, Tv.wFld, Tv.wExt, Tv.wTru, Tv.wChain, Tv.fIsi_e, Tv.fInF, Tv.seq_l, Tv.seq_t, Tv.lst_l, Tv.tup_t, Tv.scal_ii, Tv.scal_ss, Tv.scal_bb, Tv.same_ii, Tv.same_ss, Tv.same_bb, Tv.at_0, Tv.at_1, Tv.at_2, Tv.at_3, Tv.isN_non, Tv.isN_int, Tv.isN_str, Tv.isN_tup, Tv.isN_lst, Tv.isN_bl, Cell.val.injEq, T.op.injEq, forall_const, Tv.isi_non_tuple, Tv.isi_non_str, Tv.isi_non_int, Tv.isi_non_bool, Tv.isi_non_dict, Tv.isi_non_list, Tv.isi_bl_tuple, Tv.isi_bl_str, Tv.isi_bl_int, Tv.isi_bl_bool, Tv.isi_bl_dict, Tv.isi_bl_list, Tv.isi_int_tuple, Tv.isi_int_str, Tv.isi_int_int, Tv.isi_int_bool, Tv.isi_int_dict, Tv.isi_int_list, Tv.isi_str_tuple, Tv.isi_str_str, Tv.isi_str_int, Tv.isi_str_bool, Tv.isi_str_dict, Tv.isi_str_list, Tv.isi_tup_tuple, Tv.isi_tup_str, Tv.isi_tup_int, Tv.isi_tup_bool, Tv.isi_tup_dict, Tv.isi_tup_list, Tv.isi_lst_tuple, Tv.isi_lst_str, Tv.isi_lst_int, Tv.isi_lst_bool, Tv.isi_lst_dict, Tv.isi_lst_list, Tv.isi_dic_tuple, Tv.isi_dic_str, Tv.isi_dic_int, Tv.isi_dic_bool, Tv.isi_dic_dict, Tv.isi_dic_list, V.ty.injEq, Tv.wLc2, Tv.fAll, Tv.wDropX, Tv.wSetX, Tv.wRaise, Tv.wIsi2, Tv.wDead, Tv.wStr1, Tv.fInS, Tv.fAddS, Tv.fLenS, Tv.wDisp, Tv.fDIn, Tv.fDGet, Tv.wISet, ↓reduceIte, Bool.false_eq_true, decide_eq_true_eq, T.int.injEq, T.str.injEq, T.bl.injEq, T.lst.injEq, T.tup.injEq, exists_eq_left', exists_eq_left, exists_and_left, true_and, and_true, reduceCtorEq, ne_eq, not_false_eq_true, not_true_eq_false, forall_eq', forall_eq, Option.some.injEq, Option.isSome_some]
  have ec : chkT zs (n + 1) t p = if formB t = true then (if termsB zs t = true then firstT (fun i u => chkT zs n u (p ++ [T.int (i : Int)])) 0 (innerT t) else some (p, "name")) else some (p, "form") := rfl
  refine ⟨t, rfl, dt, _, rfl, ?_⟩
  cases e1 : formB t with
  | false =>
    rw [e1] at ec
    rw [ec] at k
    exact (if_pos rfl).mpr k
  | true =>
    refine (if_neg Bool.false_ne_true).mpr ⟨zs, t, rfl, dt, e1, hz, _, rfl, ?_⟩
    cases e2 : termsB zs t with
    | false =>
      rw [e1, e2] at ec
      rw [ec] at k
      exact (if_pos rfl).mpr k
    | true =>
      rw [e1, e2] at ec
      have ec : chkT zs (n + 1) t p = firstT (fun i u => chkT zs n u (p ++ [T.int (i : Int)])) 0 (innerT t) := ec
      have len := inner_len e1
      refine (if_neg Bool.false_ne_true).mpr ⟨t, rfl, e1, ?_⟩
      unfold Tv.wFor
      simp only [Tv.wRng1, Tv.wLen, Tv.wSeqT, Tv.wV, Tv.seq_l, List.getElem?_cons_zero, List.getElem?_cons_succ, ↓reduceIte, Bool.false_eq_true, decide_eq_true_eq, T.int.injEq, T.str.injEq, T.bl.injEq, T.lst.injEq, T.tup.injEq, exists_eq_left', exists_eq_left, exists_and_left, true_and, and_true, reduceCtorEq, ne_eq, not_false_eq_true, not_true_eq_false, forall_eq', forall_eq, Option.some.injEq, Option.isSome_some]
      refine ⟨by omega, by omega, fun i env => (∃ c4 c5, env = [.val (strsT zs), .val t, .val (.tup p), .val (.lst (innerT t)), c4, c5]) ∧ firstT (fun i u => chkT zs n u (p ++ [T.int (i : Int)])) i ((innerT t).drop i) = chkT zs (n + 1) t p, ⟨⟨_, _, rfl⟩, by rw [ec]; rfl⟩, ?_, ?_⟩
      · rintro i y env' hy ⟨⟨c4, c5, rfl⟩, hI⟩
        obtain ⟨hl, rfl⟩ := rng_lt hy
        simp only [Tv.wSeq, Tv.wNext, Tv.wIfS, Tv.wSet, Tv.wSetN, Tv.wRet, Tv.wRetO, Tv.wFrz, Tv.wApp, Tv.wOp, Tv.wTest, Tv.wAnd, Tv.wOr, Tv.wNot, Tv.wIf, Tv.wAndV, Tv.wOrV, Tv.wNotV, Tv.wCall, Tv.wCons, Tv.wNil, Tv.wV, Tv.wC, Tv.wTup, Tv.wLst, Tv.wSeqT, Tv.wO, Tv.wLen, Tv.wList, Tv.wTuple, Tv.wCat, Tv.wSl, Tv.wLst1, Tv.wTup1, Tv.wRng1, Tv.wRng2, Tv.wEnum, Tv.wFor, Tv.wLc, Tv.wYes, Tv.wCB, Tv.wipeE, Tv.gSet, Tv.gNilT, Tv.gConsT, Tv.gTupT, Tv.cellOf, Tv.env0, Tv.fEq, Tv.fIn, Tv.fI0, Tv.fI, Tv.fSc, Tv.fIsN, Tv.fIsB, Tv.fIx, Tv.fIxS, Tv.fCatT, Tv.fInt1, Tv.fMin2, List.zipWith_cons_cons, List.zipWith_nil_left, List.length_cons, List.length_nil, List.cons_append, List.nil_append, List.replicate, List.getElem?_cons_zero, List.getElem?_cons_succ, List.set_cons_zero, List.set_cons_succ, Tv.wRoom, Tv.wRoomSet, Tv.wIfDraw, Tv.wStar, Tv.wLen6, Tv.wFld, Tv.wExt, Tv.wTru, Tv.wChain, Tv.fIsi_e, Tv.fInF, Tv.seq_l, Tv.seq_t, Tv.lst_l, Tv.tup_t, Tv.scal_ii, Tv.scal_ss, Tv.scal_bb, Tv.same_ii, Tv.same_ss, Tv.same_bb, Tv.at_0, Tv.at_1, Tv.at_2, Tv.at_3, Tv.isN_non, Tv.isN_int, Tv.isN_str, Tv.isN_tup, Tv.isN_lst, Tv.isN_bl, Cell.val.injEq, T.op.injEq, forall_const, Tv.isi_non_tuple, Tv.isi_non_str, Tv.isi_non_int, Tv.isi_non_bool, Tv.isi_non_dict, Tv.isi_non_list, Tv.isi_bl_tuple, Tv.isi_bl_str, Tv.isi_bl_int, Tv.isi_bl_bool, Tv.isi_bl_dict, Tv.isi_bl_list, Tv.isi_int_tuple, Tv.isi_int_str, Tv.isi_int_int, Tv.isi_int_bool, Tv.isi_int_dict, Tv.isi_int_list, Tv.isi_str_tuple, Tv.isi_str_str, Tv.isi_str_int, Tv.isi_str_bool, Tv.isi_str_dict, Tv.isi_str_list, Tv.isi_tup_tuple, Tv.isi_tup_str, Tv.isi_tup_int, Tv.isi_tup_bool, Tv.isi_tup_dict, Tv.isi_tup_list, Tv.isi_lst_tuple, Tv.isi_lst_str, Tv.isi_lst_int, Tv.isi_lst_bool, Tv.isi_lst_dict, Tv.isi_lst_list, Tv.isi_dic_tuple, Tv.isi_dic_str, Tv.isi_dic_int, Tv.isi_dic_bool, Tv.isi_dic_dict, Tv.isi_dic_list, V.ty.injEq, Tv.wLc2, Tv.fAll, Tv.wDropX, Tv.wSetX, Tv.wRaise, Tv.wIsi2, Tv.wDead, Tv.wStr1, Tv.fInS, Tv.fAddS, Tv.fLenS, Tv.wDisp, Tv.fDIn, Tv.fDGet, Tv.wISet, ↓reduceIte, Bool.false_eq_true, decide_eq_true_eq, T.int.injEq, T.str.injEq, T.bl.injEq, T.lst.injEq, T.tup.injEq, exists_eq_left', exists_eq_left, exists_and_left, true_and, and_true, reduceCtorEq, ne_eq, not_false_eq_true, not_true_eq_false, forall_eq', forall_eq, Option.some.injEq, Option.isSome_some]
        obtain ⟨u, hu⟩ : ∃ u, (innerT t)[i]? = some u := ⟨_, List.getElem?_eq_getElem hl⟩
        have mu := List.mem_of_getElem? hu
        have step : (innerT t).drop i = u :: (innerT t).drop (i + 1) := by
          rw [List.drop_eq_getElem_cons hl]
          rw [List.getElem?_eq_getElem hl] at hu
          cases hu
          rfl
        rw [step] at hI
        rw [Int.zero_add]
        refine ⟨u, atI_nat hu, by omega, zs, u, p ++ [T.int (i : Int)], rfl, dat_inner e1 dt mu, dp e1 u mu, by rw [List.length_append]; simp only [List.length_cons, List.length_nil]; omega, hz, ?_⟩
        have hI : (match chkT zs n u (p ++ [T.int (i : Int)]) with
            | some y => some y
            | none => firstT (fun i u => chkT zs n u (p ++ [T.int (i : Int)])) (i + 1) ((innerT t).drop (i + 1))) = chkT zs (n + 1) t p := hI
        cases ech : chkT zs n u (p ++ [T.int (i : Int)]) with
        | none =>
          rw [ech] at hI
          exact (if_neg Bool.false_ne_true).mpr ⟨⟨_, _, rfl⟩, hI⟩
        | some y =>
          obtain ⟨q, why⟩ := y
          rw [ech] at hI
          rw [← hI] at k
          exact (if_pos rfl).mpr k
      · rintro env' ⟨⟨c4, c5, rfl⟩, hI⟩
        rw [rng_len, Int.toNat_natCast, List.drop_length] at hI
        rw [← hI] at k
        exact k
theorem scLPlaces : FnScope ["_law_part_here", "_law_place", "_law_found", "_law_inner_here", "_law_at"] ["_law_part_here", "_law_place"] (defScope sLPlaces) := ⟨rfl, rfl, rfl, by decide +kernel, rfl, by decide +kernel, by decide +kernel⟩
theorem okLPlaces {f : Addr} {fd : FuncData} (F : Fun K "_law_places" "_law_places" sLPlaces f fd) (B : Bt mg) {n : Nat} (cI : CLIn P w K mg base) (cK : CLPl P w K mg base n) : FnOk P w K mg base CX0 (2 + n + 1) f fd ["_law_part_here", "_law_place"] (spT K [.S, .S] false (cPlaces (n + 1))) := by
  refine okv2 F scLPlaces rfl (by decide) fun cdv A outer s H E R ts Pt hr hc => ?_
  obtain ⟨t, p, rfl, ht, hp, hn, k⟩ := hc
  refine ⟨_, (cons_ (set_ (κ := .S) 2 (fun a => ps_set (i := 2) scLPlaces.nd rfl (Or.inl rfl) a) (PEn.up (κ := .S) (plst_ (pa1_ (ptup_ (κ := .S) (pa1_ (pv_ (κ := .S) 1 (pv 1)) (pa1_ (pv_ (κ := .S) 0 (pv 0)) pa0_)) rfl) pa0_) rfl)))
      (cons_ (set_ (κ := .S) 3 (fun a => ps_set (i := 3) scLPlaces.nd rfl (Or.inl rfl) a) (PEn.up (κ := .S) (callN_ (κs := [.S]) (ms := [.S]) rfl (fun a => cI.pe hr (by omega) (by rfl) a) (pa1_ (pv_ (κ := .S) 0 (pv 0)) pa0_))))
      (cons_ (for_ (srcR1_ (κ := .S) (plen_ (μ := .M) (PEv.items (pv_ (κ := .S) 3 (pv 3))) (fun a => pe_callB call_len_seq (by rfl) B.len PySem.boot_len (pa_cons a pa_nil))) (fun a => pi_range1 (by rfl) B.range (pa_cons a pa_nil))) (gnm_ (κ := .S) 4 (by decide) (pg_name (i := 4) scLPlaces.nd rfl (Or.inl rfl)))
      (one_ (set_ (κ := .S) 2 (fun a => ps_set (i := 2) scLPlaces.nd rfl (Or.inl rfl) a) (PEn.up (κ := .S) (pcat_ (PEv.items (pv_ (κ := .S) 2 (pv 2))) (PEv.items (callS_ (κ := .S) (κs := [.S, .S]) (ms := [.S, .S]) rfl (fun a => cK.pe hr (by omega) (by rfl) a) (pa1_ (pix_ (pv_ (κ := .S) 3 (pv 3)) (pv_ (κ := .M) 4 (pv 4))) (pa1_ (pcatT_ (μ := .S) (pv_ (κ := .S) 1 (pv 1)) (ptup_ (κ := .S) (pa1_ (pv_ (κ := .S) 4 (pv 4)) pa0_) rfl)) pa0_)))))))) (fun a b c => ps_for PassesOwn.never rfl a b c))
      (one_ (ret_ (pv_ (κ := .S) 2 (pv 2))))))), ?_⟩
  simp only [Tv.wSeq, Tv.wNext, Tv.wIfS, Tv.wSet, Tv.wSetN, Tv.wRet, Tv.wRetO, Tv.wFrz, Tv.wApp, Tv.wOp, Tv.wTest, Tv.wAnd, Tv.wOr, Tv.wNot, Tv.wIf, Tv.wAndV, Tv.wOrV, Tv.wNotV, Tv.wCall, Tv.wCons, Tv.wNil, Tv.wV, Tv.wC, Tv.wTup, Tv.wLst, Tv.wSeqT, Tv.wO, Tv.wLen, Tv.wList, Tv.wTuple, Tv.wCat, Tv.wSl, Tv.wLst1, Tv.wTup1, Tv.wRng1, Tv.wRng2, Tv.wEnum, Tv.wLc, Tv.wYes, Tv.wCB, Tv.wipeE, Tv.gSet, Tv.gNilT, Tv.gConsT, Tv.gTupT, Tv.cellOf, Tv.env0, Tv.fEq, Tv.fIn, Tv.fI0, Tv.fI, Tv.fSc, Tv.fIsN, Tv.fIsB, Tv.fIx, Tv.fIxS, Tv.fCatT, Tv.fInt1, Tv.fMin2, List.zipWith_cons_cons, List.zipWith_nil_left, List.length_cons, List.length_nil, List.cons_append, List.nil_append, List.replicate, List.getElem?_cons_zero, List.getElem?_cons_succ, List.set_cons_zero, List.set_cons_succ, Tv.wRoom, Tv.wRoomSet, Tv.wIfDraw, Tv.wStar, Tv.wLen6, Tv.wFld, Tv.wExt, Tv.wTru, Tv.wChain, Tv.fIsi_e, Tv.fInF, Tv.seq_l, Tv.seq_t, Tv.lst_l, Tv.tup_t, Tv.scal_ii, Tv.scal_ss, Tv.scal_bb, Tv.same_ii, Tv.same_ss, Tv.same_bb, Tv.at_0, Tv.at_1, Tv.at_2, Tv.at_3, Tv.isN_non, Tv.isN_int, Tv.isN_str, Tv.isN_tup, Tv.isN_lst, Tv.isN_bl, Cell.val.injEq, T.op.injEq, forall_const, Tv.isi_non_tuple, Tv.isi_non_str, Tv.isi_non_int, Tv.isi_non_bool, Tv.isi_non_dict, Tv.isi_non_list, Tv.isi_bl_tuple, Tv.isi_bl_str, Tv.isi_bl_int, Tv.isi_bl_bool, Tv.isi_bl_dict, Tv.isi_bl_list, Tv.isi_int_tuple, Tv.isi_int_str, Tv.isi_int_int, Tv.isi_int_bool, Tv.isi_int_dict, Tv.isi_int_list, Tv.isi_str_tuple, Tv.isi_str_str, Tv.isi_str_int, Tv.isi_str_bool, Tv.isi_str_dict, Tv.isi_str_list, Tv.isi_tup_tuple, Tv.isi_tup_str, Tv.isi_tup_int, Tv.isi_tup_bool, Tv.isi_tup_dict, Tv.isi_tup_list, Tv.isi_lst_tuple, Tv.isi_lst_str, Tv.isi_lst_int, Tv.isi_lst_bool, Tv.isi_lst_dict, Tv.isi_lst_list, Tv.isi_dic_tuple, Tv.isi_dic_str, Tv.isi_dic_int, Tv.isi_dic_bool, Tv.isi_dic_dict, Tv.isi_dic_list, V.ty.injEq, Tv.wLc2, Tv.fAll, Tv.wDropX, Tv.wSetX, Tv.wRaise, Tv.wIsi2, Tv.wDead, Tv.wStr1, Tv.fInS, Tv.fAddS, Tv.fLenS, Tv.wDisp, Tv.fDIn, Tv.fDGet, Tv.wISet, ↓reduceIte, Bool.false_eq_true, decide_eq_true_eq, T.int.injEq, T.str.injEq, T.bl.injEq, T.lst.injEq, T.tup.injEq, exists_eq_left', exists_eq_left, exists_and_left, true_and, and_true, reduceCtorEq, ne_eq, not_false_eq_true, not_true_eq_false, forall_eq', forall_eq, Option.some.injEq, Option.isSome_some]
  obtain ⟨e1, hw⟩ := ht
  have len := inner_len e1
  refine ⟨t, rfl, e1, ?_⟩
  unfold Tv.wFor
  simp only [Tv.wRng1, Tv.wLen, Tv.wSeqT, Tv.wV, Tv.seq_l, List.getElem?_cons_zero, List.getElem?_cons_succ, ↓reduceIte, Bool.false_eq_true, decide_eq_true_eq, T.int.injEq, T.str.injEq, T.bl.injEq, T.lst.injEq, T.tup.injEq, exists_eq_left', exists_eq_left, exists_and_left, true_and, and_true, reduceCtorEq, ne_eq, not_false_eq_true, not_true_eq_false, forall_eq', forall_eq, Option.some.injEq, Option.isSome_some]
  refine ⟨by omega, by omega, fun i env => ∃ ls c4, env = [.val t, .val (.tup p), .val (.lst ls), .val (.lst (innerT t)), c4] ∧ ls ≠ [] ∧ ls.length ≤ 1 + i * 8 ^ n ∧ ∀ x ∈ ls, PlOk (n + 1) t p x, ⟨_, _, rfl, by simp, by simp, fun x hx => ?_⟩, ?_, ?_⟩
  · rw [List.mem_singleton.mp hx]
    exact ⟨[], t, by rw [show natsT [] = [] from rfl, List.append_nil], trivial, Nat.succ_pos _⟩
  · rintro i y env' hy ⟨ls, c4, rfl, h1, h2, h3⟩
    obtain ⟨hl, rfl⟩ := rng_lt hy
    simp only [Tv.wSeq, Tv.wNext, Tv.wIfS, Tv.wSet, Tv.wSetN, Tv.wRet, Tv.wRetO, Tv.wFrz, Tv.wApp, Tv.wOp, Tv.wTest, Tv.wAnd, Tv.wOr, Tv.wNot, Tv.wIf, Tv.wAndV, Tv.wOrV, Tv.wNotV, Tv.wCall, Tv.wCons, Tv.wNil, Tv.wV, Tv.wC, Tv.wTup, Tv.wLst, Tv.wSeqT, Tv.wO, Tv.wLen, Tv.wList, Tv.wTuple, Tv.wCat, Tv.wSl, Tv.wLst1, Tv.wTup1, Tv.wRng1, Tv.wRng2, Tv.wEnum, Tv.wFor, Tv.wLc, Tv.wYes, Tv.wCB, Tv.wipeE, Tv.gSet, Tv.gNilT, Tv.gConsT, Tv.gTupT, Tv.cellOf, Tv.env0, Tv.fEq, Tv.fIn, Tv.fI0, Tv.fI, Tv.fSc, Tv.fIsN, Tv.fIsB, Tv.fIx, Tv.fIxS, Tv.fCatT, Tv.fInt1, Tv.fMin2, List.zipWith_cons_cons, List.zipWith_nil_left, List.length_cons, List.length_nil, List.cons_append, List.nil_append, List.replicate, List.getElem?_cons_zero, List.getElem?_cons_succ, List.set_cons_zero, List.set_cons_succ, Tv.wRoom, Tv.wRoomSet, Tv.wIfDraw, Tv.wStar, Tv.wLen6, Tv.wFld, Tv.wExt, Tv.wTru, Tv.wChain, Tv.fIsi_e, Tv.fInF, Tv.seq_l, Tv.seq_t, Tv.lst_l, Tv.tup_t, Tv.scal_ii, Tv.scal_ss, Tv.scal_bb, Tv.same_ii, Tv.same_ss, Tv.same_bb, Tv.at_0, Tv.at_1, Tv.at_2, Tv.at_3, Tv.isN_non, Tv.isN_int, Tv.isN_str, Tv.isN_tup, Tv.isN_lst, Tv.isN_bl, Cell.val.injEq, T.op.injEq, forall_const, Tv.isi_non_tuple, Tv.isi_non_str, Tv.isi_non_int, Tv.isi_non_bool, Tv.isi_non_dict, Tv.isi_non_list, Tv.isi_bl_tuple, Tv.isi_bl_str, Tv.isi_bl_int, Tv.isi_bl_bool, Tv.isi_bl_dict, Tv.isi_bl_list, Tv.isi_int_tuple, Tv.isi_int_str, Tv.isi_int_int, Tv.isi_int_bool, Tv.isi_int_dict, Tv.isi_int_list, Tv.isi_str_tuple, Tv.isi_str_str, Tv.isi_str_int, Tv.isi_str_bool, Tv.isi_str_dict, Tv.isi_str_list, Tv.isi_tup_tuple, Tv.isi_tup_str, Tv.isi_tup_int, Tv.isi_tup_bool, Tv.isi_tup_dict, Tv.isi_tup_list, Tv.isi_lst_tuple, Tv.isi_lst_str, Tv.isi_lst_int, Tv.isi_lst_bool, Tv.isi_lst_dict, Tv.isi_lst_list, Tv.isi_dic_tuple, Tv.isi_dic_str, Tv.isi_dic_int, Tv.isi_dic_bool, Tv.isi_dic_dict, Tv.isi_dic_list, V.ty.injEq, Tv.wLc2, Tv.fAll, Tv.wDropX, Tv.wSetX, Tv.wRaise, Tv.wIsi2, Tv.wDead, Tv.wStr1, Tv.fInS, Tv.fAddS, Tv.fLenS, Tv.wDisp, Tv.fDIn, Tv.fDGet, Tv.wISet, ↓reduceIte, Bool.false_eq_true, decide_eq_true_eq, T.int.injEq, T.str.injEq, T.bl.injEq, T.lst.injEq, T.tup.injEq, exists_eq_left', exists_eq_left, exists_and_left, true_and, and_true, reduceCtorEq, ne_eq, not_false_eq_true, not_true_eq_false, forall_eq', forall_eq, Option.some.injEq, Option.isSome_some]
    obtain ⟨u, hu⟩ : ∃ u, (innerT t)[i]? = some u := ⟨_, List.getElem?_eq_getElem hl⟩
    have mu := List.mem_of_getElem? hu
    rw [Int.zero_add]
    have p5 : 8 ^ n ≤ 8 ^ 5 := Nat.pow_le_pow_right (by decide) (by omega)
    have pi : i * 8 ^ n ≤ 6 * 8 ^ n := Nat.mul_le_mul_right _ (by omega)
    refine ⟨u, atI_nat hu, by omega, u, p ++ [T.int (i : Int)], rfl, hw u mu, by rw [List.length_append]; simp only [List.length_cons, List.length_nil]; omega, by omega, fun us n1 n2 n3 => ⟨rfl, us, rfl, by omega, ls ++ us, _, rfl, fun z => h1 (List.append_eq_nil_iff.mp z).1, by rw [List.length_append, Nat.add_mul]; omega, fun x hx => ?_⟩⟩
    rcases List.mem_append.mp hx with m | m
    · exact h3 x m
    · obtain ⟨q, v, rfl, wk, hq⟩ := n3 x m
      exact ⟨i :: q, v, by rw [List.append_assoc]; rfl, ⟨e1, u, hu, wk⟩, Nat.succ_lt_succ hq⟩
  · rintro env' ⟨ls, c4, rfl, h1, h2, h3⟩
    rw [rng_len, Int.toNat_natCast] at h2
    simp only [Tv.wSeq, Tv.wNext, Tv.wIfS, Tv.wSet, Tv.wSetN, Tv.wRet, Tv.wRetO, Tv.wFrz, Tv.wApp, Tv.wOp, Tv.wTest, Tv.wAnd, Tv.wOr, Tv.wNot, Tv.wIf, Tv.wAndV, Tv.wOrV, Tv.wNotV, Tv.wCall, Tv.wCons, Tv.wNil, Tv.wV, Tv.wC, Tv.wTup, Tv.wLst, Tv.wSeqT, Tv.wO, Tv.wLen, Tv.wList, Tv.wTuple, Tv.wCat, Tv.wSl, Tv.wLst1, Tv.wTup1, Tv.wRng1, Tv.wRng2, Tv.wEnum, Tv.wFor, Tv.wLc, Tv.wYes, Tv.wCB, Tv.wipeE, Tv.gSet, Tv.gNilT, Tv.gConsT, Tv.gTupT, Tv.cellOf, Tv.env0, Tv.fEq, Tv.fIn, Tv.fI0, Tv.fI, Tv.fSc, Tv.fIsN, Tv.fIsB, Tv.fIx, Tv.fIxS, Tv.fCatT, Tv.fInt1, Tv.fMin2, List.zipWith_cons_cons, List.zipWith_nil_left, List.length_cons, List.length_nil, List.cons_append, List.nil_append, List.replicate, List.getElem?_cons_zero, List.getElem?_cons_succ, List.set_cons_zero, List.set_cons_succ, Tv.wRoom, Tv.wRoomSet, Tv.wIfDraw, Tv.wStar, Tv.wLen6, Tv.wFld, Tv.wExt, Tv.wTru, Tv.wChain, Tv.fIsi_e, Tv.fInF, Tv.seq_l, Tv.seq_t, Tv.lst_l, Tv.tup_t, Tv.scal_ii, Tv.scal_ss, Tv.scal_bb, Tv.same_ii, Tv.same_ss, Tv.same_bb, Tv.at_0, Tv.at_1, Tv.at_2, Tv.at_3, Tv.isN_non, Tv.isN_int, Tv.isN_str, Tv.isN_tup, Tv.isN_lst, Tv.isN_bl, Cell.val.injEq, T.op.injEq, forall_const, Tv.isi_non_tuple, Tv.isi_non_str, Tv.isi_non_int, Tv.isi_non_bool, Tv.isi_non_dict, Tv.isi_non_list, Tv.isi_bl_tuple, Tv.isi_bl_str, Tv.isi_bl_int, Tv.isi_bl_bool, Tv.isi_bl_dict, Tv.isi_bl_list, Tv.isi_int_tuple, Tv.isi_int_str, Tv.isi_int_int, Tv.isi_int_bool, Tv.isi_int_dict, Tv.isi_int_list, Tv.isi_str_tuple, Tv.isi_str_str, Tv.isi_str_int, Tv.isi_str_bool, Tv.isi_str_dict, Tv.isi_str_list, Tv.isi_tup_tuple, Tv.isi_tup_str, Tv.isi_tup_int, Tv.isi_tup_bool, Tv.isi_tup_dict, Tv.isi_tup_list, Tv.isi_lst_tuple, Tv.isi_lst_str, Tv.isi_lst_int, Tv.isi_lst_bool, Tv.isi_lst_dict, Tv.isi_lst_list, Tv.isi_dic_tuple, Tv.isi_dic_str, Tv.isi_dic_int, Tv.isi_dic_bool, Tv.isi_dic_dict, Tv.isi_dic_list, V.ty.injEq, Tv.wLc2, Tv.fAll, Tv.wDropX, Tv.wSetX, Tv.wRaise, Tv.wIsi2, Tv.wDead, Tv.wStr1, Tv.fInS, Tv.fAddS, Tv.fLenS, Tv.wDisp, Tv.fDIn, Tv.fDGet, Tv.wISet, ↓reduceIte, Bool.false_eq_true, decide_eq_true_eq, T.int.injEq, T.str.injEq, T.bl.injEq, T.lst.injEq, T.tup.injEq, exists_eq_left', exists_eq_left, exists_and_left, true_and, and_true, reduceCtorEq, ne_eq, not_false_eq_true, not_true_eq_false, forall_eq', forall_eq, Option.some.injEq, Option.isSome_some]
    have p1 : 0 < 8 ^ n := Nat.pow_pos (by decide)
    have pl : (innerT t).length * 8 ^ n ≤ 7 * 8 ^ n := Nat.mul_le_mul_right _ len
    exact k ls h1 (by rw [Nat.pow_succ]; omega) h3
theorem scLSame : FnScope ["_law_actual", "_law_expected", "_law_key", "_law_k"] ["_law_actual", "_law_expected"] (defScope sLSame) := ⟨rfl, rfl, rfl, by decide +kernel, rfl, by decide +kernel, by decide +kernel⟩
theorem okLSame {f : Addr} {fd : FuncData} (F : Fun K "_law_same" "_law_same" sLSame f fd) (B : Bt mg) {n : Nat} (cK : CLSm P w K mg base n) : FnOk P w K mg base CX0 (1 + n + 1) f fd ["_law_actual", "_law_expected"] (spT K [.S, .S] false (cSame (n + 1))) := by
  refine okv2 F scLSame rfl (by decide) fun cdv A outer s H E R ts Pt hr hc => ?_
  obtain ⟨t, rfl, dt, dp, k⟩ := hc
  refine ⟨_, (cons_ (if_ (ptcmp_ op_isN re_isN (nomark _) (pv_ (κ := .M) 1 (pv 1)) (pnon_ (κ := .M))) (one_ (ret_ (pcmp_ (μ := .S) op_isN re_isN (nomark _) (pv_ (κ := .M) 0 (pv 0)) (pnon_ (κ := .M))))) nil_)
      (cons_ (if_ (ptval_ (fun a => pt_val a) (pcb_ (μ := .M) rc_isi (fun a => pe_callB call_isi (by rfl) B.isi (by decide +kernel) a) (pa1_ (pv_ (κ := .M) 1 (pv 1)) (pa1_ (pty_ (κ := .M) (pe_bltn (v := .ty "bool") (by rfl) B.bool (by decide +kernel) rfl)) pa0_)))) (one_ (ret_ (pandV_ (pcb_ (μ := .M) rc_isi (fun a => pe_callB call_isi (by rfl) B.isi (by decide +kernel) a) (pa1_ (pv_ (κ := .M) 0 (pv 0)) (pa1_ (pty_ (κ := .M) (pe_bltn (v := .ty "bool") (by rfl) B.bool (by decide +kernel) rfl)) pa0_))) (pone_ (pcmp_ (μ := .S) op_eq re_sc (nomark _) (pv_ (κ := .M) 0 (pv 0)) (pv_ (κ := .M) 1 (pv 1))))))) nil_)
      (cons_ (if_ (ptval_ (fun a => pt_val a) (pcb_ (μ := .M) rc_isi (fun a => pe_callB call_isi (by rfl) B.isi (by decide +kernel) a) (pa1_ (pv_ (κ := .M) 1 (pv 1)) (pa1_ (pty_ (κ := .M) (pe_bltn (v := .ty "int") (by rfl) B.int (by decide +kernel) rfl)) pa0_)))) (one_ (ret_ (pandV_ (pcb_ (μ := .M) rc_isi (fun a => pe_callB call_isi (by rfl) B.isi (by decide +kernel) a) (pa1_ (pv_ (κ := .M) 0 (pv 0)) (pa1_ (pty_ (κ := .M) (pe_bltn (v := .ty "int") (by rfl) B.int (by decide +kernel) rfl)) pa0_))) (pandV_ (pnotV_ (μ := .M) (pcb_ (μ := .M) rc_isi (fun a => pe_callB call_isi (by rfl) B.isi (by decide +kernel) a) (pa1_ (pv_ (κ := .M) 0 (pv 0)) (pa1_ (pty_ (κ := .M) (pe_bltn (v := .ty "bool") (by rfl) B.bool (by decide +kernel) rfl)) pa0_)))) (pone_ (pcmp_ (μ := .S) op_eq re_sc (nomark _) (pv_ (κ := .M) 0 (pv 0)) (pv_ (κ := .M) 1 (pv 1)))))))) nil_)
      (cons_ (if_ (ptval_ (fun a => pt_val a) (pcb_ (μ := .M) rc_isi (fun a => pe_callB call_isi (by rfl) B.isi (by decide +kernel) a) (pa1_ (pv_ (κ := .M) 1 (pv 1)) (pa1_ (pty_ (κ := .M) (pe_bltn (v := .ty "str") (by rfl) B.str (by decide +kernel) rfl)) pa0_)))) (one_ (ret_ (pandV_ (pcb_ (μ := .M) rc_isi (fun a => pe_callB call_isi (by rfl) B.isi (by decide +kernel) a) (pa1_ (pv_ (κ := .M) 0 (pv 0)) (pa1_ (pty_ (κ := .M) (pe_bltn (v := .ty "str") (by rfl) B.str (by decide +kernel) rfl)) pa0_))) (pone_ (pcmp_ (μ := .S) op_eq re_sc (nomark _) (pv_ (κ := .M) 0 (pv 0)) (pv_ (κ := .M) 1 (pv 1))))))) nil_)
      (cons_ (if_ (ptval_ (fun a => pt_val a) (pcb_ (μ := .M) rc_isi (fun a => pe_callB call_isi (by rfl) B.isi (by decide +kernel) a) (pa1_ (pv_ (κ := .M) 1 (pv 1)) (pa1_ (pty_ (κ := .M) (pe_bltn (v := .ty "dict") (by rfl) B.dict (by decide +kernel) rfl)) pa0_)))) deads_ nil_)
      (cut_ (if_ (PWv.pt (por_ (ptcmp_ op_ne re_nsc (nomark _) (pcb_ (μ := .M) rc_isi (fun a => pe_callB call_isi (by rfl) B.isi (by decide +kernel) a) (pa1_ (pv_ (κ := .M) 1 (pv 1)) (pa1_ (pty_ (κ := .M) (pe_bltn (v := .ty "tuple") (by rfl) B.tuple (by decide +kernel) rfl)) pa0_))) (pcb_ (μ := .M) rc_isi (fun a => pe_callB call_isi (by rfl) B.isi (by decide +kernel) a) (pa1_ (pv_ (κ := .M) 0 (pv 0)) (pa1_ (pty_ (κ := .M) (pe_bltn (v := .ty "tuple") (by rfl) B.tuple (by decide +kernel) rfl)) pa0_)))) (por1_ (pnot_ (ptval_ (fun a => pt_val a) (pisi2_ (μ := .M) (pv_ (κ := .M) 0 (pv 0)) (fun a => pe_callB call_isiT (by rfl) B.isi (by decide +kernel) (pa_cons a (pa_cons (pe_tup (pa_cons (pe_bltn (v := .ty "tuple") (by rfl) B.tuple (by decide +kernel) rfl) (pa_cons (pe_bltn (v := .ty "list") (by rfl) B.list (by decide +kernel) rfl) pa_nil))) pa_nil))))))))) (one_ (ret_ (pbl_ (κ := .S)))) nil_)
      (cons_ (if_ (ptcmp_ op_ne re_nsc (nomark _) (plen_ (μ := .M) (PEv.items (pv_ (κ := .S) 0 (pv 0))) (fun a => pe_callB call_len_seq (by rfl) B.len PySem.boot_len (pa_cons a pa_nil))) (plen_ (μ := .M) (PEv.items (pv_ (κ := .S) 1 (pv 1))) (fun a => pe_callB call_len_seq (by rfl) B.len PySem.boot_len (pa_cons a pa_nil)))) (one_ (ret_ (pbl_ (κ := .S)))) nil_)
      (one_ (ret_ (pcmp_ (μ := .S) op_eq re_sc (nomark _) (plen_ (μ := .M) (PEn.items (plci_ (own := [("_law_k", 3)]) rfl scLSame.nd (srcR1_ (κ := .S) (plen_ (μ := .M) (PEv.items (pv_ (κ := .S) 1 (pv 1))) (fun a => pe_callB call_len_seq (by rfl) B.len PySem.boot_len (pa_cons a pa_nil))) (fun a => pi_range1 (by rfl) B.range (pa_cons a pa_nil))) (blkOk_by (N := ["_law_actual", "_law_expected", "_law_key", "_law_k"]) (sc := defScope sLSame) (by decide +kernel)) (fun _ _ _ _ _ => (gnm_ (κ := .S) 3 (by decide) (pg_name (i := 3) scLSame.nd rfl (Or.inl rfl)))) (fun _ _ _ _ _ => (pnot_ (ptval_ (fun a => pt_val a) (callS_ (κ := .M) (κs := [.S, .S]) (ms := [.S, .S]) rfl (fun a => cK.pe hr (by omega) (by rfl) a) (pa1_ (pix_ (pv_ (κ := .S) 0 (pv 0)) (pv_ (κ := .M) 3 (pv 3))) (pa1_ (pix_ (pv_ (κ := .S) 1 (pv 1)) (pv_ (κ := .M) 3 (pv 3))) pa0_)))))) (fun _ _ _ _ _ => (pv_ (κ := .S) 3 (pv 3))) rfl)) (fun a => pe_callB call_len_seq (by rfl) B.len PySem.boot_len (pa_cons a pa_nil))) (pint_ (κ := .M)))))))))))), ?_⟩
  simp only [Tv.wSeq, Tv.wNext, Tv.wIfS, Tv.wSet, Tv.wSetN, Tv.wRet, Tv.wRetO, Tv.wFrz, Tv.wApp, Tv.wOp, Tv.wTest, Tv.wAnd, Tv.wOr, Tv.wNot, Tv.wIf, Tv.wAndV, Tv.wOrV, Tv.wNotV, Tv.wCall, Tv.wCons, Tv.wNil, Tv.wV, Tv.wC, Tv.wTup, Tv.wLst, Tv.wSeqT, Tv.wO, Tv.wLen, Tv.wList, Tv.wTuple, Tv.wCat, Tv.wSl, Tv.wLst1, Tv.wTup1, Tv.wRng1, Tv.wRng2, Tv.wEnum, Tv.wLc, Tv.wYes, Tv.wCB, Tv.wipeE, Tv.gSet, Tv.gNilT, Tv.gConsT, Tv.gTupT, Tv.cellOf, Tv.env0, Tv.fEq, Tv.fIn, Tv.fI0, Tv.fI, Tv.fSc, Tv.fIsN, Tv.fIsB, Tv.fIx, Tv.fIxS, Tv.fCatT, Tv.fInt1, Tv.fMin2, List.zipWith_cons_cons, List.zipWith_nil_left, List.length_cons, List.length_nil, List.cons_append, List.nil_append, List.replicate, List.getElem?_cons_zero, List.getElem?_cons_succ, List.set_cons_zero, List.set_cons_succ, Tv.wRoom, Tv.wRoomSet, Tv.wIfDraw, Tv.wStar, Tv.wLen6, Tv.wFld, Tv.wExt, Tv.wTru, Tv.wChain, Tv.fIsi_e, Tv.fInF, Tv.seq_l, Tv.seq_t, Tv.lst_l, Tv.tup_t, Tv.scal_ii, Tv.scal_ss, Tv.scal_bb, Tv.same_ii, Tv.same_ss, Tv.same_bb, Tv.at_0, Tv.at_1, Tv.at_2, Tv.at_3, Tv.isN_non, Tv.isN_int, Tv.isN_str, Tv.isN_tup, Tv.isN_lst, Tv.isN_bl, Cell.val.injEq, T.op.injEq, forall_const, Tv.isi_non_tuple, Tv.isi_non_str, Tv.isi_non_int, Tv.isi_non_bool, Tv.isi_non_dict, Tv.isi_non_list, Tv.isi_bl_tuple, Tv.isi_bl_str, Tv.isi_bl_int, Tv.isi_bl_bool, Tv.isi_bl_dict, Tv.isi_bl_list, Tv.isi_int_tuple, Tv.isi_int_str, Tv.isi_int_int, Tv.isi_int_bool, Tv.isi_int_dict, Tv.isi_int_list, Tv.isi_str_tuple, Tv.isi_str_str, Tv.isi_str_int, Tv.isi_str_bool, Tv.isi_str_dict, Tv.isi_str_list, Tv.isi_tup_tuple, Tv.isi_tup_str, Tv.isi_tup_int, Tv.isi_tup_bool, Tv.isi_tup_dict, Tv.isi_tup_list, Tv.isi_lst_tuple, Tv.isi_lst_str, Tv.isi_lst_int, Tv.isi_lst_bool, Tv.isi_lst_dict, Tv.isi_lst_list, Tv.isi_dic_tuple, Tv.isi_dic_str, Tv.isi_dic_int, Tv.isi_dic_bool, Tv.isi_dic_dict, Tv.isi_dic_list, V.ty.injEq, Tv.wLc2, Tv.fAll, Tv.wDropX, Tv.wSetX, Tv.wRaise, Tv.wIsi2, Tv.wDead, Tv.wStr1, Tv.fInS, Tv.fAddS, Tv.fLenS, Tv.wDisp, Tv.fDIn, Tv.fDGet, Tv.wISet, ↓reduceIte, Bool.false_eq_true, decide_eq_true_eq, T.int.injEq, T.str.injEq, T.bl.injEq, T.lst.injEq, T.tup.injEq, exists_eq_left', exists_eq_left, exists_and_left, true_and, and_true, reduceCtorEq, ne_eq, not_false_eq_true, not_true_eq_false, forall_eq', forall_eq, Option.some.injEq, Option.isSome_some]
  cases t with
  | obj C fs => cases dt
  | op v => cases dt
  | exc C d us => cases dt
  | mk o C us => cases dt
  | dic v => cases dt
  | non => exact (if_pos rfl).mpr k
  | bl b =>
    simp only [Tv.wSeq, Tv.wNext, Tv.wIfS, Tv.wSet, Tv.wSetN, Tv.wRet, Tv.wRetO, Tv.wFrz, Tv.wApp, Tv.wOp, Tv.wTest, Tv.wAnd, Tv.wOr, Tv.wNot, Tv.wIf, Tv.wAndV, Tv.wOrV, Tv.wNotV, Tv.wCall, Tv.wCons, Tv.wNil, Tv.wV, Tv.wC, Tv.wTup, Tv.wLst, Tv.wSeqT, Tv.wO, Tv.wLen, Tv.wList, Tv.wTuple, Tv.wCat, Tv.wSl, Tv.wLst1, Tv.wTup1, Tv.wRng1, Tv.wRng2, Tv.wEnum, Tv.wLc, Tv.wYes, Tv.wCB, Tv.wipeE, Tv.gSet, Tv.gNilT, Tv.gConsT, Tv.gTupT, Tv.cellOf, Tv.env0, Tv.fEq, Tv.fIn, Tv.fI0, Tv.fI, Tv.fSc, Tv.fIsN, Tv.fIsB, Tv.fIx, Tv.fIxS, Tv.fCatT, Tv.fInt1, Tv.fMin2, List.zipWith_cons_cons, List.zipWith_nil_left, List.length_cons, List.length_nil, List.cons_append, List.nil_append, List.replicate, List.getElem?_cons_zero, List.getElem?_cons_succ, List.set_cons_zero, List.set_cons_succ, Tv.wRoom, Tv.wRoomSet, Tv.wIfDraw, Tv.wStar, Tv.wLen6, Tv.wFld, Tv.wExt, Tv.wTru, Tv.wChain, Tv.fIsi_e, Tv.fInF, Tv.seq_l, Tv.seq_t, Tv.lst_l, Tv.tup_t, Tv.scal_ii, Tv.scal_ss, Tv.scal_bb, Tv.same_ii, Tv.same_ss, Tv.same_bb, Tv.at_0, Tv.at_1, Tv.at_2, Tv.at_3, Tv.isN_non, Tv.isN_int, Tv.isN_str, Tv.isN_tup, Tv.isN_lst, Tv.isN_bl, Cell.val.injEq, T.op.injEq, forall_const, Tv.isi_non_tuple, Tv.isi_non_str, Tv.isi_non_int, Tv.isi_non_bool, Tv.isi_non_dict, Tv.isi_non_list, Tv.isi_bl_tuple, Tv.isi_bl_str, Tv.isi_bl_int, Tv.isi_bl_bool, Tv.isi_bl_dict, Tv.isi_bl_list, Tv.isi_int_tuple, Tv.isi_int_str, Tv.isi_int_int, Tv.isi_int_bool, Tv.isi_int_dict, Tv.isi_int_list, Tv.isi_str_tuple, Tv.isi_str_str, Tv.isi_str_int, Tv.isi_str_bool, Tv.isi_str_dict, Tv.isi_str_list, Tv.isi_tup_tuple, Tv.isi_tup_str, Tv.isi_tup_int, Tv.isi_tup_bool, Tv.isi_tup_dict, Tv.isi_tup_list, Tv.isi_lst_tuple, Tv.isi_lst_str, Tv.isi_lst_int, Tv.isi_lst_bool, Tv.isi_lst_dict, Tv.isi_lst_list, Tv.isi_dic_tuple, Tv.isi_dic_str, Tv.isi_dic_int, Tv.isi_dic_bool, Tv.isi_dic_dict, Tv.isi_dic_list, V.ty.injEq, Tv.wLc2, Tv.fAll, Tv.wDropX, Tv.wSetX, Tv.wRaise, Tv.wIsi2, Tv.wDead, Tv.wStr1, Tv.fInS, Tv.fAddS, Tv.fLenS, Tv.wDisp, Tv.fDIn, Tv.fDGet, Tv.wISet, ↓reduceIte, Bool.false_eq_true, decide_eq_true_eq, T.int.injEq, T.str.injEq, T.bl.injEq, T.lst.injEq, T.tup.injEq, exists_eq_left', exists_eq_left, exists_and_left, true_and, and_true, reduceCtorEq, ne_eq, not_false_eq_true, not_true_eq_false, forall_eq', forall_eq, Option.some.injEq, Option.isSome_some]
    exact k
  | int i =>
    simp only [Tv.wSeq, Tv.wNext, Tv.wIfS, Tv.wSet, Tv.wSetN, Tv.wRet, Tv.wRetO, Tv.wFrz, Tv.wApp, Tv.wOp, Tv.wTest, Tv.wAnd, Tv.wOr, Tv.wNot, Tv.wIf, Tv.wAndV, Tv.wOrV, Tv.wNotV, Tv.wCall, Tv.wCons, Tv.wNil, Tv.wV, Tv.wC, Tv.wTup, Tv.wLst, Tv.wSeqT, Tv.wO, Tv.wLen, Tv.wList, Tv.wTuple, Tv.wCat, Tv.wSl, Tv.wLst1, Tv.wTup1, Tv.wRng1, Tv.wRng2, Tv.wEnum, Tv.wLc, Tv.wYes, Tv.wCB, Tv.wipeE, Tv.gSet, Tv.gNilT, Tv.gConsT, Tv.gTupT, Tv.cellOf, Tv.env0, Tv.fEq, Tv.fIn, Tv.fI0, Tv.fI, Tv.fSc, Tv.fIsN, Tv.fIsB, Tv.fIx, Tv.fIxS, Tv.fCatT, Tv.fInt1, Tv.fMin2, List.zipWith_cons_cons, List.zipWith_nil_left, List.length_cons, List.length_nil, List.cons_append, List.nil_append, List.replicate, List.getElem?_cons_zero, List.getElem?_cons_succ, List.set_cons_zero, List.set_cons_succ, Tv.wRoom, Tv.wRoomSet, Tv.wIfDraw, Tv.wStar, Tv.wLen6, Tv.wFld, Tv.wExt, Tv.wTru, Tv.wChain, Tv.fIsi_e, Tv.fInF, Tv.seq_l, Tv.seq_t, Tv.lst_l, Tv.tup_t, Tv.scal_ii, Tv.scal_ss, Tv.scal_bb, Tv.same_ii, Tv.same_ss, Tv.same_bb, Tv.at_0, Tv.at_1, Tv.at_2, Tv.at_3, Tv.isN_non, Tv.isN_int, Tv.isN_str, Tv.isN_tup, Tv.isN_lst, Tv.isN_bl, Cell.val.injEq, T.op.injEq, forall_const, Tv.isi_non_tuple, Tv.isi_non_str, Tv.isi_non_int, Tv.isi_non_bool, Tv.isi_non_dict, Tv.isi_non_list, Tv.isi_bl_tuple, Tv.isi_bl_str, Tv.isi_bl_int, Tv.isi_bl_bool, Tv.isi_bl_dict, Tv.isi_bl_list, Tv.isi_int_tuple, Tv.isi_int_str, Tv.isi_int_int, Tv.isi_int_bool, Tv.isi_int_dict, Tv.isi_int_list, Tv.isi_str_tuple, Tv.isi_str_str, Tv.isi_str_int, Tv.isi_str_bool, Tv.isi_str_dict, Tv.isi_str_list, Tv.isi_tup_tuple, Tv.isi_tup_str, Tv.isi_tup_int, Tv.isi_tup_bool, Tv.isi_tup_dict, Tv.isi_tup_list, Tv.isi_lst_tuple, Tv.isi_lst_str, Tv.isi_lst_int, Tv.isi_lst_bool, Tv.isi_lst_dict, Tv.isi_lst_list, Tv.isi_dic_tuple, Tv.isi_dic_str, Tv.isi_dic_int, Tv.isi_dic_bool, Tv.isi_dic_dict, Tv.isi_dic_list, V.ty.injEq, Tv.wLc2, Tv.fAll, Tv.wDropX, Tv.wSetX, Tv.wRaise, Tv.wIsi2, Tv.wDead, Tv.wStr1, Tv.fInS, Tv.fAddS, Tv.fLenS, Tv.wDisp, Tv.fDIn, Tv.fDGet, Tv.wISet, ↓reduceIte, Bool.false_eq_true, decide_eq_true_eq, T.int.injEq, T.str.injEq, T.bl.injEq, T.lst.injEq, T.tup.injEq, exists_eq_left', exists_eq_left, exists_and_left, true_and, and_true, reduceCtorEq, ne_eq, not_false_eq_true, not_true_eq_false, forall_eq', forall_eq, Option.some.injEq, Option.isSome_some]
    exact (if_pos rfl).mpr k
  | str z =>
    simp only [Tv.wSeq, Tv.wNext, Tv.wIfS, Tv.wSet, Tv.wSetN, Tv.wRet, Tv.wRetO, Tv.wFrz, Tv.wApp, Tv.wOp, Tv.wTest, Tv.wAnd, Tv.wOr, Tv.wNot, Tv.wIf, Tv.wAndV, Tv.wOrV, Tv.wNotV, Tv.wCall, Tv.wCons, Tv.wNil, Tv.wV, Tv.wC, Tv.wTup, Tv.wLst, Tv.wSeqT, Tv.wO, Tv.wLen, Tv.wList, Tv.wTuple, Tv.wCat, Tv.wSl, Tv.wLst1, Tv.wTup1, Tv.wRng1, Tv.wRng2, Tv.wEnum, Tv.wLc, Tv.wYes, Tv.wCB, Tv.wipeE, Tv.gSet, Tv.gNilT, Tv.gConsT, Tv.gTupT, Tv.cellOf, Tv.env0, Tv.fEq, Tv.fIn, Tv.fI0, Tv.fI, Tv.fSc, Tv.fIsN, Tv.fIsB, Tv.fIx, Tv.fIxS, Tv.fCatT, Tv.fInt1, Tv.fMin2, List.zipWith_cons_cons, List.zipWith_nil_left, List.length_cons, List.length_nil, List.cons_append, List.nil_append, List.replicate, List.getElem?_cons_zero, List.getElem?_cons_succ, List.set_cons_zero, List.set_cons_succ, Tv.wRoom, Tv.wRoomSet, Tv.wIfDraw, Tv.wStar, Tv.wLen6, Tv.wFld, Tv.wExt, Tv.wTru, Tv.wChain, Tv.fIsi_e, Tv.fInF, Tv.seq_l, Tv.seq_t, Tv.lst_l, Tv.tup_t, Tv.scal_ii, Tv.scal_ss, Tv.scal_bb, Tv.same_ii, Tv.same_ss, Tv.same_bb, Tv.at_0, Tv.at_1, Tv.at_2, Tv.at_3, Tv.isN_non, Tv.isN_int, Tv.isN_str, Tv.isN_tup, Tv.isN_lst, Tv.isN_bl, Cell.val.injEq, T.op.injEq, forall_const, Tv.isi_non_tuple, Tv.isi_non_str, Tv.isi_non_int, Tv.isi_non_bool, Tv.isi_non_dict, Tv.isi_non_list, Tv.isi_bl_tuple, Tv.isi_bl_str, Tv.isi_bl_int, Tv.isi_bl_bool, Tv.isi_bl_dict, Tv.isi_bl_list, Tv.isi_int_tuple, Tv.isi_int_str, Tv.isi_int_int, Tv.isi_int_bool, Tv.isi_int_dict, Tv.isi_int_list, Tv.isi_str_tuple, Tv.isi_str_str, Tv.isi_str_int, Tv.isi_str_bool, Tv.isi_str_dict, Tv.isi_str_list, Tv.isi_tup_tuple, Tv.isi_tup_str, Tv.isi_tup_int, Tv.isi_tup_bool, Tv.isi_tup_dict, Tv.isi_tup_list, Tv.isi_lst_tuple, Tv.isi_lst_str, Tv.isi_lst_int, Tv.isi_lst_bool, Tv.isi_lst_dict, Tv.isi_lst_list, Tv.isi_dic_tuple, Tv.isi_dic_str, Tv.isi_dic_int, Tv.isi_dic_bool, Tv.isi_dic_dict, Tv.isi_dic_list, V.ty.injEq, Tv.wLc2, Tv.fAll, Tv.wDropX, Tv.wSetX, Tv.wRaise, Tv.wIsi2, Tv.wDead, Tv.wStr1, Tv.fInS, Tv.fAddS, Tv.fLenS, Tv.wDisp, Tv.fDIn, Tv.fDGet, Tv.wISet, ↓reduceIte, Bool.false_eq_true, decide_eq_true_eq, T.int.injEq, T.str.injEq, T.bl.injEq, T.lst.injEq, T.tup.injEq, exists_eq_left', exists_eq_left, exists_and_left, true_and, and_true, reduceCtorEq, ne_eq, not_false_eq_true, not_true_eq_false, forall_eq', forall_eq, Option.some.injEq, Option.isSome_some]
    exact k
  | tup us =>
    simp only [Tv.wSeq, Tv.wNext, Tv.wIfS, Tv.wSet, Tv.wSetN, Tv.wRet, Tv.wRetO, Tv.wFrz, Tv.wApp, Tv.wOp, Tv.wTest, Tv.wAnd, Tv.wOr, Tv.wNot, Tv.wIf, Tv.wAndV, Tv.wOrV, Tv.wNotV, Tv.wCall, Tv.wCons, Tv.wNil, Tv.wV, Tv.wC, Tv.wTup, Tv.wLst, Tv.wSeqT, Tv.wO, Tv.wLen, Tv.wList, Tv.wTuple, Tv.wCat, Tv.wSl, Tv.wLst1, Tv.wTup1, Tv.wRng1, Tv.wRng2, Tv.wEnum, Tv.wLc, Tv.wYes, Tv.wCB, Tv.wipeE, Tv.gSet, Tv.gNilT, Tv.gConsT, Tv.gTupT, Tv.cellOf, Tv.env0, Tv.fEq, Tv.fIn, Tv.fI0, Tv.fI, Tv.fSc, Tv.fIsN, Tv.fIsB, Tv.fIx, Tv.fIxS, Tv.fCatT, Tv.fInt1, Tv.fMin2, List.zipWith_cons_cons, List.zipWith_nil_left, List.length_cons, List.length_nil, List.cons_append, List.nil_append, List.replicate, List.getElem?_cons_zero, List.getElem?_cons_succ, List.set_cons_zero, List.set_cons_succ, Tv.wRoom, Tv.wRoomSet, Tv.wIfDraw, Tv.wStar, Tv.wLen6, Tv.wFld, Tv.wExt, Tv.wTru, Tv.wChain, Tv.fIsi_e, Tv.fInF, Tv.seq_l, Tv.seq_t, Tv.lst_l, Tv.tup_t, Tv.scal_ii, Tv.scal_ss, Tv.scal_bb, Tv.same_ii, Tv.same_ss, Tv.same_bb, Tv.at_0, Tv.at_1, Tv.at_2, Tv.at_3, Tv.isN_non, Tv.isN_int, Tv.isN_str, Tv.isN_tup, Tv.isN_lst, Tv.isN_bl, Cell.val.injEq, T.op.injEq, forall_const, Tv.isi_non_tuple, Tv.isi_non_str, Tv.isi_non_int, Tv.isi_non_bool, Tv.isi_non_dict, Tv.isi_non_list, Tv.isi_bl_tuple, Tv.isi_bl_str, Tv.isi_bl_int, Tv.isi_bl_bool, Tv.isi_bl_dict, Tv.isi_bl_list, Tv.isi_int_tuple, Tv.isi_int_str, Tv.isi_int_int, Tv.isi_int_bool, Tv.isi_int_dict, Tv.isi_int_list, Tv.isi_str_tuple, Tv.isi_str_str, Tv.isi_str_int, Tv.isi_str_bool, Tv.isi_str_dict, Tv.isi_str_list, Tv.isi_tup_tuple, Tv.isi_tup_str, Tv.isi_tup_int, Tv.isi_tup_bool, Tv.isi_tup_dict, Tv.isi_tup_list, Tv.isi_lst_tuple, Tv.isi_lst_str, Tv.isi_lst_int, Tv.isi_lst_bool, Tv.isi_lst_dict, Tv.isi_lst_list, Tv.isi_dic_tuple, Tv.isi_dic_str, Tv.isi_dic_int, Tv.isi_dic_bool, Tv.isi_dic_dict, Tv.isi_dic_list, V.ty.injEq, Tv.wLc2, Tv.fAll, Tv.wDropX, Tv.wSetX, Tv.wRaise, Tv.wIsi2, Tv.wDead, Tv.wStr1, Tv.fInS, Tv.fAddS, Tv.fLenS, Tv.wDisp, Tv.fDIn, Tv.fDGet, Tv.wISet, ↓reduceIte, Bool.false_eq_true, decide_eq_true_eq, T.int.injEq, T.str.injEq, T.bl.injEq, T.lst.injEq, T.tup.injEq, exists_eq_left', exists_eq_left, exists_and_left, true_and, and_true, reduceCtorEq, ne_eq, not_false_eq_true, not_true_eq_false, forall_eq', forall_eq, Option.some.injEq, Option.isSome_some]
    refine ⟨fun e => e = [.val (.tup us), .val (.tup us), .un, .un], ?_, ?_⟩
    · simp only [Tv.wSeq, Tv.wNext, Tv.wIfS, Tv.wSet, Tv.wSetN, Tv.wRet, Tv.wRetO, Tv.wFrz, Tv.wApp, Tv.wOp, Tv.wTest, Tv.wAnd, Tv.wOr, Tv.wNot, Tv.wIf, Tv.wAndV, Tv.wOrV, Tv.wNotV, Tv.wCall, Tv.wCons, Tv.wNil, Tv.wV, Tv.wC, Tv.wTup, Tv.wLst, Tv.wSeqT, Tv.wO, Tv.wLen, Tv.wList, Tv.wTuple, Tv.wCat, Tv.wSl, Tv.wLst1, Tv.wTup1, Tv.wRng1, Tv.wRng2, Tv.wEnum, Tv.wFor, Tv.wLc, Tv.wYes, Tv.wCB, Tv.wipeE, Tv.gSet, Tv.gNilT, Tv.gConsT, Tv.gTupT, Tv.cellOf, Tv.env0, Tv.fEq, Tv.fIn, Tv.fI0, Tv.fI, Tv.fSc, Tv.fIsN, Tv.fIsB, Tv.fIx, Tv.fIxS, Tv.fCatT, Tv.fInt1, Tv.fMin2, List.zipWith_cons_cons, List.zipWith_nil_left, List.length_cons, List.length_nil, List.cons_append, List.nil_append, List.replicate, List.getElem?_cons_zero, List.getElem?_cons_succ, List.set_cons_zero, List.set_cons_succ, Tv.wRoom, Tv.wRoomSet, Tv.wIfDraw, Tv.wStar, Tv.wLen6, Tv.wFld, Tv.wExt, Tv.wTru, Tv.wChain, Tv.fIsi_e, Tv.fInF, Tv.seq_l, Tv.seq_t, Tv.lst_l, Tv.tup_t, Tv.scal_ii, Tv.scal_ss, Tv.scal_bb, Tv.same_ii, Tv.same_ss, Tv.same_bb, Tv.at_0, Tv.at_1, Tv.at_2, Tv.at_3, Tv.isN_non, Tv.isN_int, Tv.isN_str, Tv.isN_tup, Tv.isN_lst, Tv.isN_bl, Cell.val.injEq, T.op.injEq, forall_const, Tv.isi_non_tuple, Tv.isi_non_str, Tv.isi_non_int, Tv.isi_non_bool, Tv.isi_non_dict, Tv.isi_non_list, Tv.isi_bl_tuple, Tv.isi_bl_str, Tv.isi_bl_int, Tv.isi_bl_bool, Tv.isi_bl_dict, Tv.isi_bl_list, Tv.isi_int_tuple, Tv.isi_int_str, Tv.isi_int_int, Tv.isi_int_bool, Tv.isi_int_dict, Tv.isi_int_list, Tv.isi_str_tuple, Tv.isi_str_str, Tv.isi_str_int, Tv.isi_str_bool, Tv.isi_str_dict, Tv.isi_str_list, Tv.isi_tup_tuple, Tv.isi_tup_str, Tv.isi_tup_int, Tv.isi_tup_bool, Tv.isi_tup_dict, Tv.isi_tup_list, Tv.isi_lst_tuple, Tv.isi_lst_str, Tv.isi_lst_int, Tv.isi_lst_bool, Tv.isi_lst_dict, Tv.isi_lst_list, Tv.isi_dic_tuple, Tv.isi_dic_str, Tv.isi_dic_int, Tv.isi_dic_bool, Tv.isi_dic_dict, Tv.isi_dic_list, V.ty.injEq, Tv.wLc2, Tv.fAll, Tv.wDropX, Tv.wSetX, Tv.wRaise, Tv.wIsi2, Tv.wDead, Tv.wStr1, Tv.fInS, Tv.fAddS, Tv.fLenS, Tv.wDisp, Tv.fDIn, Tv.fDGet, Tv.wISet, ↓reduceIte, Bool.false_eq_true, decide_eq_true_eq, T.int.injEq, T.str.injEq, T.bl.injEq, T.lst.injEq, T.tup.injEq, exists_eq_left', exists_eq_left, exists_and_left, true_and, and_true, reduceCtorEq, ne_eq, not_false_eq_true, not_true_eq_false, forall_eq', forall_eq, Option.some.injEq, Option.isSome_some]
      exact (if_neg (by decide +kernel)).mpr <| (if_neg (by decide +kernel)).mpr <| trivial
    · rintro _ rfl
      simp only [List.map, Tv.wSeq, Tv.wNext, Tv.wIfS, Tv.wSet, Tv.wSetN, Tv.wRet, Tv.wRetO, Tv.wFrz, Tv.wApp, Tv.wOp, Tv.wTest, Tv.wAnd, Tv.wOr, Tv.wNot, Tv.wIf, Tv.wAndV, Tv.wOrV, Tv.wNotV, Tv.wCall, Tv.wCons, Tv.wNil, Tv.wV, Tv.wC, Tv.wTup, Tv.wLst, Tv.wSeqT, Tv.wO, Tv.wLen, Tv.wList, Tv.wTuple, Tv.wCat, Tv.wSl, Tv.wLst1, Tv.wTup1, Tv.wRng1, Tv.wRng2, Tv.wEnum, Tv.wFor, Tv.wLc, Tv.wYes, Tv.wCB, Tv.wipeE, Tv.gSet, Tv.gNilT, Tv.gConsT, Tv.gTupT, Tv.cellOf, Tv.env0, Tv.fEq, Tv.fIn, Tv.fI0, Tv.fI, Tv.fSc, Tv.fIsN, Tv.fIsB, Tv.fIx, Tv.fIxS, Tv.fCatT, Tv.fInt1, Tv.fMin2, List.zipWith_cons_cons, List.zipWith_nil_left, List.length_cons, List.length_nil, List.cons_append, List.nil_append, List.replicate, List.getElem?_cons_zero, List.getElem?_cons_succ, List.set_cons_zero, List.set_cons_succ, Tv.wRoom, Tv.wRoomSet, Tv.wIfDraw, Tv.wStar, Tv.wLen6, Tv.wFld, Tv.wExt, Tv.wTru, Tv.wChain, Tv.fIsi_e, Tv.fInF, Tv.seq_l, Tv.seq_t, Tv.lst_l, Tv.tup_t, Tv.scal_ii, Tv.scal_ss, Tv.scal_bb, Tv.same_ii, Tv.same_ss, Tv.same_bb, Tv.at_0, Tv.at_1, Tv.at_2, Tv.at_3, Tv.isN_non, Tv.isN_int, Tv.isN_str, Tv.isN_tup, Tv.isN_lst, Tv.isN_bl, Cell.val.injEq, T.op.injEq, forall_const, Tv.isi_non_tuple, Tv.isi_non_str, Tv.isi_non_int, Tv.isi_non_bool, Tv.isi_non_dict, Tv.isi_non_list, Tv.isi_bl_tuple, Tv.isi_bl_str, Tv.isi_bl_int, Tv.isi_bl_bool, Tv.isi_bl_dict, Tv.isi_bl_list, Tv.isi_int_tuple, Tv.isi_int_str, Tv.isi_int_int, Tv.isi_int_bool, Tv.isi_int_dict, Tv.isi_int_list, Tv.isi_str_tuple, Tv.isi_str_str, Tv.isi_str_int, Tv.isi_str_bool, Tv.isi_str_dict, Tv.isi_str_list, Tv.isi_tup_tuple, Tv.isi_tup_str, Tv.isi_tup_int, Tv.isi_tup_bool, Tv.isi_tup_dict, Tv.isi_tup_list, Tv.isi_lst_tuple, Tv.isi_lst_str, Tv.isi_lst_int, Tv.isi_lst_bool, Tv.isi_lst_dict, Tv.isi_lst_list, Tv.isi_dic_tuple, Tv.isi_dic_str, Tv.isi_dic_int, Tv.isi_dic_bool, Tv.isi_dic_dict, Tv.isi_dic_list, V.ty.injEq, Tv.wLc2, Tv.fAll, Tv.wDropX, Tv.wSetX, Tv.wRaise, Tv.wIsi2, Tv.wDead, Tv.wStr1, Tv.fInS, Tv.fAddS, Tv.fLenS, Tv.wDisp, Tv.fDIn, Tv.fDGet, Tv.wISet, ↓reduceIte, Bool.false_eq_true, decide_eq_true_eq, T.int.injEq, T.str.injEq, T.bl.injEq, T.lst.injEq, T.tup.injEq, exists_eq_left', exists_eq_left, exists_and_left, true_and, and_true, reduceCtorEq, ne_eq, not_false_eq_true, not_true_eq_false, forall_eq', forall_eq, Option.some.injEq, Option.isSome_some]
      have hn := dat_n dt
      refine (if_neg (by decide +kernel)).mpr ⟨by omega, by omega, by rw [rng_len]; omega, fun _ acc => acc = [], rfl, ?_, ?_⟩
      · rintro i y acc hy rfl
        obtain ⟨hl, rfl⟩ := rng_lt hy
        have hl : i < us.length := by omega
        have hu := List.getElem?_eq_getElem hl
        have mu := List.mem_of_getElem? hu
        have ha : atI us (0 + (i : Int)) = some us[i] := by
          rw [Int.zero_add]
          exact atI_nat hu
        exact ⟨_, rfl, us[i], ha, _, rfl, us[i], ha, us[i], rfl, dat_i dt mu, dep_lt mu dp, _, rfl, (if_neg (by decide +kernel)).mpr <| rfl⟩
      · rintro acc rfl
        exact k
  | lst us =>
    simp only [Tv.wSeq, Tv.wNext, Tv.wIfS, Tv.wSet, Tv.wSetN, Tv.wRet, Tv.wRetO, Tv.wFrz, Tv.wApp, Tv.wOp, Tv.wTest, Tv.wAnd, Tv.wOr, Tv.wNot, Tv.wIf, Tv.wAndV, Tv.wOrV, Tv.wNotV, Tv.wCall, Tv.wCons, Tv.wNil, Tv.wV, Tv.wC, Tv.wTup, Tv.wLst, Tv.wSeqT, Tv.wO, Tv.wLen, Tv.wList, Tv.wTuple, Tv.wCat, Tv.wSl, Tv.wLst1, Tv.wTup1, Tv.wRng1, Tv.wRng2, Tv.wEnum, Tv.wLc, Tv.wYes, Tv.wCB, Tv.wipeE, Tv.gSet, Tv.gNilT, Tv.gConsT, Tv.gTupT, Tv.cellOf, Tv.env0, Tv.fEq, Tv.fIn, Tv.fI0, Tv.fI, Tv.fSc, Tv.fIsN, Tv.fIsB, Tv.fIx, Tv.fIxS, Tv.fCatT, Tv.fInt1, Tv.fMin2, List.zipWith_cons_cons, List.zipWith_nil_left, List.length_cons, List.length_nil, List.cons_append, List.nil_append, List.replicate, List.getElem?_cons_zero, List.getElem?_cons_succ, List.set_cons_zero, List.set_cons_succ, Tv.wRoom, Tv.wRoomSet, Tv.wIfDraw, Tv.wStar, Tv.wLen6, Tv.wFld, Tv.wExt, Tv.wTru, Tv.wChain, Tv.fIsi_e, Tv.fInF, Tv.seq_l, Tv.seq_t, Tv.lst_l, Tv.tup_t, Tv.scal_ii, Tv.scal_ss, Tv.scal_bb, Tv.same_ii, Tv.same_ss, Tv.same_bb, Tv.at_0, Tv.at_1, Tv.at_2, Tv.at_3, Tv.isN_non, Tv.isN_int, Tv.isN_str, Tv.isN_tup, Tv.isN_lst, Tv.isN_bl, Cell.val.injEq, T.op.injEq, forall_const, Tv.isi_non_tuple, Tv.isi_non_str, Tv.isi_non_int, Tv.isi_non_bool, Tv.isi_non_dict, Tv.isi_non_list, Tv.isi_bl_tuple, Tv.isi_bl_str, Tv.isi_bl_int, Tv.isi_bl_bool, Tv.isi_bl_dict, Tv.isi_bl_list, Tv.isi_int_tuple, Tv.isi_int_str, Tv.isi_int_int, Tv.isi_int_bool, Tv.isi_int_dict, Tv.isi_int_list, Tv.isi_str_tuple, Tv.isi_str_str, Tv.isi_str_int, Tv.isi_str_bool, Tv.isi_str_dict, Tv.isi_str_list, Tv.isi_tup_tuple, Tv.isi_tup_str, Tv.isi_tup_int, Tv.isi_tup_bool, Tv.isi_tup_dict, Tv.isi_tup_list, Tv.isi_lst_tuple, Tv.isi_lst_str, Tv.isi_lst_int, Tv.isi_lst_bool, Tv.isi_lst_dict, Tv.isi_lst_list, Tv.isi_dic_tuple, Tv.isi_dic_str, Tv.isi_dic_int, Tv.isi_dic_bool, Tv.isi_dic_dict, Tv.isi_dic_list, V.ty.injEq, Tv.wLc2, Tv.fAll, Tv.wDropX, Tv.wSetX, Tv.wRaise, Tv.wIsi2, Tv.wDead, Tv.wStr1, Tv.fInS, Tv.fAddS, Tv.fLenS, Tv.wDisp, Tv.fDIn, Tv.fDGet, Tv.wISet, ↓reduceIte, Bool.false_eq_true, decide_eq_true_eq, T.int.injEq, T.str.injEq, T.bl.injEq, T.lst.injEq, T.tup.injEq, exists_eq_left', exists_eq_left, exists_and_left, true_and, and_true, reduceCtorEq, ne_eq, not_false_eq_true, not_true_eq_false, forall_eq', forall_eq, Option.some.injEq, Option.isSome_some]
    refine ⟨fun e => e = [.val (.lst us), .val (.lst us), .un, .un], ?_, ?_⟩
    · simp only [Tv.wSeq, Tv.wNext, Tv.wIfS, Tv.wSet, Tv.wSetN, Tv.wRet, Tv.wRetO, Tv.wFrz, Tv.wApp, Tv.wOp, Tv.wTest, Tv.wAnd, Tv.wOr, Tv.wNot, Tv.wIf, Tv.wAndV, Tv.wOrV, Tv.wNotV, Tv.wCall, Tv.wCons, Tv.wNil, Tv.wV, Tv.wC, Tv.wTup, Tv.wLst, Tv.wSeqT, Tv.wO, Tv.wLen, Tv.wList, Tv.wTuple, Tv.wCat, Tv.wSl, Tv.wLst1, Tv.wTup1, Tv.wRng1, Tv.wRng2, Tv.wEnum, Tv.wFor, Tv.wLc, Tv.wYes, Tv.wCB, Tv.wipeE, Tv.gSet, Tv.gNilT, Tv.gConsT, Tv.gTupT, Tv.cellOf, Tv.env0, Tv.fEq, Tv.fIn, Tv.fI0, Tv.fI, Tv.fSc, Tv.fIsN, Tv.fIsB, Tv.fIx, Tv.fIxS, Tv.fCatT, Tv.fInt1, Tv.fMin2, List.zipWith_cons_cons, List.zipWith_nil_left, List.length_cons, List.length_nil, List.cons_append, List.nil_append, List.replicate, List.getElem?_cons_zero, List.getElem?_cons_succ, List.set_cons_zero, List.set_cons_succ, Tv.wRoom, Tv.wRoomSet, Tv.wIfDraw, Tv.wStar, Tv.wLen6, Tv.wFld, Tv.wExt, Tv.wTru, Tv.wChain, Tv.fIsi_e, Tv.fInF, Tv.seq_l, Tv.seq_t, Tv.lst_l, Tv.tup_t, Tv.scal_ii, Tv.scal_ss, Tv.scal_bb, Tv.same_ii, Tv.same_ss, Tv.same_bb, Tv.at_0, Tv.at_1, Tv.at_2, Tv.at_3, Tv.isN_non, Tv.isN_int, Tv.isN_str, Tv.isN_tup, Tv.isN_lst, Tv.isN_bl, Cell.val.injEq, T.op.injEq, forall_const, Tv.isi_non_tuple, Tv.isi_non_str, Tv.isi_non_int, Tv.isi_non_bool, Tv.isi_non_dict, Tv.isi_non_list, Tv.isi_bl_tuple, Tv.isi_bl_str, Tv.isi_bl_int, Tv.isi_bl_bool, Tv.isi_bl_dict, Tv.isi_bl_list, Tv.isi_int_tuple, Tv.isi_int_str, Tv.isi_int_int, Tv.isi_int_bool, Tv.isi_int_dict, Tv.isi_int_list, Tv.isi_str_tuple, Tv.isi_str_str, Tv.isi_str_int, Tv.isi_str_bool, Tv.isi_str_dict, Tv.isi_str_list, Tv.isi_tup_tuple, Tv.isi_tup_str, Tv.isi_tup_int, Tv.isi_tup_bool, Tv.isi_tup_dict, Tv.isi_tup_list, Tv.isi_lst_tuple, Tv.isi_lst_str, Tv.isi_lst_int, Tv.isi_lst_bool, Tv.isi_lst_dict, Tv.isi_lst_list, Tv.isi_dic_tuple, Tv.isi_dic_str, Tv.isi_dic_int, Tv.isi_dic_bool, Tv.isi_dic_dict, Tv.isi_dic_list, V.ty.injEq, Tv.wLc2, Tv.fAll, Tv.wDropX, Tv.wSetX, Tv.wRaise, Tv.wIsi2, Tv.wDead, Tv.wStr1, Tv.fInS, Tv.fAddS, Tv.fLenS, Tv.wDisp, Tv.fDIn, Tv.fDGet, Tv.wISet, ↓reduceIte, Bool.false_eq_true, decide_eq_true_eq, T.int.injEq, T.str.injEq, T.bl.injEq, T.lst.injEq, T.tup.injEq, exists_eq_left', exists_eq_left, exists_and_left, true_and, and_true, reduceCtorEq, ne_eq, not_false_eq_true, not_true_eq_false, forall_eq', forall_eq, Option.some.injEq, Option.isSome_some]
      exact (if_neg (by decide +kernel)).mpr <| (if_neg (by decide +kernel)).mpr <| trivial
    · rintro _ rfl
      simp only [List.map, Tv.wSeq, Tv.wNext, Tv.wIfS, Tv.wSet, Tv.wSetN, Tv.wRet, Tv.wRetO, Tv.wFrz, Tv.wApp, Tv.wOp, Tv.wTest, Tv.wAnd, Tv.wOr, Tv.wNot, Tv.wIf, Tv.wAndV, Tv.wOrV, Tv.wNotV, Tv.wCall, Tv.wCons, Tv.wNil, Tv.wV, Tv.wC, Tv.wTup, Tv.wLst, Tv.wSeqT, Tv.wO, Tv.wLen, Tv.wList, Tv.wTuple, Tv.wCat, Tv.wSl, Tv.wLst1, Tv.wTup1, Tv.wRng1, Tv.wRng2, Tv.wEnum, Tv.wFor, Tv.wLc, Tv.wYes, Tv.wCB, Tv.wipeE, Tv.gSet, Tv.gNilT, Tv.gConsT, Tv.gTupT, Tv.cellOf, Tv.env0, Tv.fEq, Tv.fIn, Tv.fI0, Tv.fI, Tv.fSc, Tv.fIsN, Tv.fIsB, Tv.fIx, Tv.fIxS, Tv.fCatT, Tv.fInt1, Tv.fMin2, List.zipWith_cons_cons, List.zipWith_nil_left, List.length_cons, List.length_nil, List.cons_append, List.nil_append, List.replicate, List.getElem?_cons_zero, List.getElem?_cons_succ, List.set_cons_zero, List.set_cons_succ, Tv.wRoom, Tv.wRoomSet, Tv.wIfDraw, Tv.wStar, Tv.wLen6, Tv.wFld, Tv.wExt, Tv.wTru, Tv.wChain, Tv.fIsi_e, Tv.fInF, Tv.seq_l, Tv.seq_t, Tv.lst_l, Tv.tup_t, Tv.scal_ii, Tv.scal_ss, Tv.scal_bb, Tv.same_ii, Tv.same_ss, Tv.same_bb, Tv.at_0, Tv.at_1, Tv.at_2, Tv.at_3, Tv.isN_non, Tv.isN_int, Tv.isN_str, Tv.isN_tup, Tv.isN_lst, Tv.isN_bl, Cell.val.injEq, T.op.injEq, forall_const, Tv.isi_non_tuple, Tv.isi_non_str, Tv.isi_non_int, Tv.isi_non_bool, Tv.isi_non_dict, Tv.isi_non_list, Tv.isi_bl_tuple, Tv.isi_bl_str, Tv.isi_bl_int, Tv.isi_bl_bool, Tv.isi_bl_dict, Tv.isi_bl_list, Tv.isi_int_tuple, Tv.isi_int_str, Tv.isi_int_int, Tv.isi_int_bool, Tv.isi_int_dict, Tv.isi_int_list, Tv.isi_str_tuple, Tv.isi_str_str, Tv.isi_str_int, Tv.isi_str_bool, Tv.isi_str_dict, Tv.isi_str_list, Tv.isi_tup_tuple, Tv.isi_tup_str, Tv.isi_tup_int, Tv.isi_tup_bool, Tv.isi_tup_dict, Tv.isi_tup_list, Tv.isi_lst_tuple, Tv.isi_lst_str, Tv.isi_lst_int, Tv.isi_lst_bool, Tv.isi_lst_dict, Tv.isi_lst_list, Tv.isi_dic_tuple, Tv.isi_dic_str, Tv.isi_dic_int, Tv.isi_dic_bool, Tv.isi_dic_dict, Tv.isi_dic_list, V.ty.injEq, Tv.wLc2, Tv.fAll, Tv.wDropX, Tv.wSetX, Tv.wRaise, Tv.wIsi2, Tv.wDead, Tv.wStr1, Tv.fInS, Tv.fAddS, Tv.fLenS, Tv.wDisp, Tv.fDIn, Tv.fDGet, Tv.wISet, ↓reduceIte, Bool.false_eq_true, decide_eq_true_eq, T.int.injEq, T.str.injEq, T.bl.injEq, T.lst.injEq, T.tup.injEq, exists_eq_left', exists_eq_left, exists_and_left, true_and, and_true, reduceCtorEq, ne_eq, not_false_eq_true, not_true_eq_false, forall_eq', forall_eq, Option.some.injEq, Option.isSome_some]
      have hn := dat_m dt
      refine (if_neg (by decide +kernel)).mpr ⟨by omega, by omega, by rw [rng_len]; omega, fun _ acc => acc = [], rfl, ?_, ?_⟩
      · rintro i y acc hy rfl
        obtain ⟨hl, rfl⟩ := rng_lt hy
        have hl : i < us.length := by omega
        have hu := List.getElem?_eq_getElem hl
        have mu := List.mem_of_getElem? hu
        have ha : atI us (0 + (i : Int)) = some us[i] := by
          rw [Int.zero_add]
          exact atI_nat hu
        exact ⟨_, rfl, us[i], ha, _, rfl, us[i], ha, us[i], rfl, dat_l dt mu, dep_lt mu dp, _, rfl, (if_neg (by decide +kernel)).mpr <| rfl⟩
      · rintro acc rfl
        exact k
end
end Tl
/-! parts of any depth; the world -/
namespace Tl
open PySem PySem.Spec PyProof.Rows L2 Lw Tv Nm
abbrev sWorld : Stmt := Lw.top 46
def cWorld (R : Rs) (ts : List T) (Pt : T → Prop) : Prop := ∃ (p q : Addr) (cm lm : Nat) (u x y z : Int), R = handR p q none ∧ ts = [.op (.ref p), .int (cm : Int), .int (lm : Int), .int u, .lst [.int x, .int y, .int z]] ∧ 1 ≤ cm ∧ cm ≤ 5 ∧ 1 ≤ lm ∧ lm ≤ 10 ∧
  ∀ zs pool cs, WorldOk zs pool cs → zs.length ≤ cm → Pt (.lst [strsT zs, .lst pool, strsT cs, .lst [.int x, .int y, .int z]])
section
variable {P : Program} {w : World} {K : PySem.W.Frag} {mg : Str → Option Value} {base : Heap}
abbrev CNs (P : Program) (w : World) (K : PySem.W.Frag) (mg : Str → Option Value) (base : Heap) (j : Nat) : Prop := Cl P w K mg base j "_law_names" (spT K [.S, .S] true cNames)
abbrev CPo (P : Program) (w : World) (K : PySem.W.Frag) (mg : Str → Option Value) (base : Heap) : Prop := Cl P w K mg base 5 "_law_pool" (spT K [.S, .S, .S, .S] true cPool)
theorem okParts {fP fW : Addr} {fdP fdW : FuncData} (FP : Fun K "_law_part" "_law_part" sPart fP fdP) (mP : mg "_law_part" = some (.ref fP)) (kP : PySem.W.keepIn K (.ref fP) = true) (bP : Binds K fdP ["_law_hand_here", "_law_world_here", "_law_depth", "_law_kind"] [])
    (FW : Fun K "_law_wrap" "_law_wrap" sWrap fW fdW) (mW : mg "_law_wrap" = some (.ref fW)) (kW : PySem.W.keepIn K (.ref fW) = true) (bW : Binds K fdW ["_law_hand_here", "_law_world_here", "_law_depth", "_law_kind"] []) (B : Bt mg) (hmin : mg "min" = none) (cD : CD P w K mg base) : ∀ n, CPa P w K mg base (4 + 2 * n) n
  | 0 => ⟨fP, fdP, _, fn_no fun vs H Q E h => by
      obtain ⟨R, F, ts, Pt, _, _, ⟨_, _, _, _, _, _, d, _, _, _, _, h, _⟩, _⟩ := h
      exact absurd h (Nat.not_lt_zero _), mP, kP, bP⟩
  | n + 1 => ⟨fP, fdP, _, okPart1 FP B hmin cD (by omega) (j0 := 4 + 2 * n) (j := 4 + 2 * n + 1) (by omega) (okParts FP mP kP bP FW mW kW bW B hmin cD n)
      ⟨fW, fdW, _, okWrap (j := 4 + 2 * n) FW B cD (by omega) (okParts FP mP kP bP FW mW kW bW B hmin cD n), mW, kW, bW⟩, mP, kP, bP⟩

theorem scWorld : FnScope ["_law_hand_here", "_law_columns_most", "_law_literals_most", "_law_unit_here", "_law_room", "_law_names_here", "_law_pool_here", "_law_codes"] ["_law_hand_here", "_law_columns_most", "_law_literals_most", "_law_unit_here", "_law_room"] (defScope sWorld) := ⟨rfl, rfl, rfl, by decide +kernel, rfl, by decide +kernel, by decide +kernel⟩
theorem okWorld {f : Addr} {fd : FuncData} (F : Fun K "_law_world" "_law_world" sWorld f fd) (B : Bt mg) (cD : CD P w K mg base) {j : Nat} (hj : j ≤ 5) (cN : CNs P w K mg base j) (cP : CPo P w K mg base) : FnOk P w K mg base CX0 6 f fd ["_law_hand_here", "_law_columns_most", "_law_literals_most", "_law_unit_here", "_law_room"] (spT K [.S, .S, .S, .S, .S] true cWorld) := by
  refine okv2 F scWorld rfl (by decide) fun cdv A outer s H E R ts Pt hr hc => ?_
  obtain ⟨p, q, cm, lm, u, x, y, z, rfl, rfl, c1, c4, l1, l9, k⟩ := hc
  refine ⟨_, (cons_ (set_ (κ := .S) 5 (fun a => ps_set (i := 5) scWorld.nd rfl (Or.inl rfl) a) (PEn.up (κ := .S) (callN_ (κs := [.S, .S]) (ms := [.S, .S]) rfl (fun a => cN.pe hr hj (by rfl) a) (pa1_ (pv_ (κ := .S) 0 (pv 0)) (pa1_ (padd_ (μ := .S) (pint_ (κ := .M)) (callS_ (κ := .M) (κs := [.S, .S]) (ms := [.S, .S]) rfl (fun a => cD.pe hr (by decide) (by rfl) a) (pa1_ (pv_ (κ := .S) 0 (pv 0)) (pa1_ (pv_ (κ := .S) 1 (pv 1)) pa0_)))) pa0_)))))
      (cons_ (set_ (κ := .S) 6 (fun a => ps_set (i := 6) scWorld.nd rfl (Or.inl rfl) a) (PEn.up (κ := .S) (callN_ (κs := [.S, .S, .S, .S]) (ms := [.S, .S, .S, .S]) rfl (fun a => cP.pe hr (by decide) (by rfl) a) (pa1_ (pv_ (κ := .S) 0 (pv 0)) (pa1_ (pv_ (κ := .S) 5 (pv 5)) (pa1_ (padd_ (μ := .S) (pint_ (κ := .M)) (callS_ (κ := .M) (κs := [.S, .S]) (ms := [.S, .S]) rfl (fun a => cD.pe hr (by decide) (by rfl) a) (pa1_ (pv_ (κ := .S) 0 (pv 0)) (pa1_ (pv_ (κ := .S) 2 (pv 2)) pa0_)))) (pa1_ (pv_ (κ := .S) 3 (pv 3)) pa0_)))))))
      (cons_ (set_ (κ := .S) 7 (fun a => ps_set (i := 7) scWorld.nd rfl (Or.inl rfl) a) (PEn.up (κ := .S) (callN_ (κs := [.S, .S]) (ms := [.S, .S]) rfl (fun a => cN.pe hr hj (by rfl) a) (pa1_ (pv_ (κ := .S) 0 (pv 0)) (pa1_ (padd_ (μ := .S) (pint_ (κ := .M)) (callS_ (κ := .M) (κs := [.S, .S]) (ms := [.S, .S]) rfl (fun a => cD.pe hr (by decide) (by rfl) a) (pa1_ (pv_ (κ := .S) 0 (pv 0)) (pa1_ (pint_ (κ := .S)) pa0_)))) pa0_)))))
      (one_ (retN_ (plst_ (pa1_ (pv_ (κ := .S) 5 (pv 5)) (pa1_ (pv_ (κ := .S) 6 (pv 6)) (pa1_ (pv_ (κ := .S) 7 (pv 7)) (pa1_ (PEn.up (κ := .S) (plist_ (PEv.items (pv_ (κ := .S) 4 (pv 4))) (fun a => pe_callTy call_list_of (by rfl) B.list (by decide +kernel) (pa_cons a pa_nil)))) pa0_)))) rfl)))))), ?_⟩
  simp only [Tv.wSeq, Tv.wNext, Tv.wIfS, Tv.wSet, Tv.wSetN, Tv.wRet, Tv.wRetO, Tv.wFrz, Tv.wApp, Tv.wOp, Tv.wTest, Tv.wAnd, Tv.wOr, Tv.wNot, Tv.wIf, Tv.wAndV, Tv.wOrV, Tv.wNotV, Tv.wCall, Tv.wCons, Tv.wNil, Tv.wV, Tv.wC, Tv.wTup, Tv.wLst, Tv.wSeqT, Tv.wO, Tv.wLen, Tv.wList, Tv.wTuple, Tv.wCat, Tv.wSl, Tv.wLst1, Tv.wTup1, Tv.wRng1, Tv.wRng2, Tv.wEnum, Tv.wLc, Tv.wYes, Tv.wCB, Tv.wipeE, Tv.gSet, Tv.gNilT, Tv.gConsT, Tv.gTupT, Tv.cellOf, Tv.env0, Tv.fEq, Tv.fIn, Tv.fI0, Tv.fI, Tv.fSc, Tv.fIsN, Tv.fIsB, Tv.fIx, Tv.fIxS, Tv.fCatT, Tv.fInt1, Tv.fMin2, List.zipWith_cons_cons, List.zipWith_nil_left, List.length_cons, List.length_nil, List.cons_append, List.nil_append, List.replicate, List.getElem?_cons_zero, List.getElem?_cons_succ, List.set_cons_zero, List.set_cons_succ, Tv.wRoom, Tv.wRoomSet, Tv.wIfDraw, Tv.wStar, Tv.wLen6, Tv.wFld, Tv.wExt, Tv.wTru, Tv.wChain, Tv.fIsi_e, Tv.fInF, Tv.seq_l, Tv.seq_t, Tv.lst_l, Tv.tup_t, Tv.scal_ii, Tv.scal_ss, Tv.scal_bb, Tv.same_ii, Tv.same_ss, Tv.same_bb, Tv.at_0, Tv.at_1, Tv.at_2, Tv.at_3, Tv.isN_non, Tv.isN_int, Tv.isN_str, Tv.isN_tup, Tv.isN_lst, Tv.isN_bl, Cell.val.injEq, T.op.injEq, forall_const, Tv.isi_non_tuple, Tv.isi_non_str, Tv.isi_non_int, Tv.isi_non_bool, Tv.isi_non_dict, Tv.isi_non_list, Tv.isi_bl_tuple, Tv.isi_bl_str, Tv.isi_bl_int, Tv.isi_bl_bool, Tv.isi_bl_dict, Tv.isi_bl_list, Tv.isi_int_tuple, Tv.isi_int_str, Tv.isi_int_int, Tv.isi_int_bool, Tv.isi_int_dict, Tv.isi_int_list, Tv.isi_str_tuple, Tv.isi_str_str, Tv.isi_str_int, Tv.isi_str_bool, Tv.isi_str_dict, Tv.isi_str_list, Tv.isi_tup_tuple, Tv.isi_tup_str, Tv.isi_tup_int, Tv.isi_tup_bool, Tv.isi_tup_dict, Tv.isi_tup_list, Tv.isi_lst_tuple, Tv.isi_lst_str, Tv.isi_lst_int, Tv.isi_lst_bool, Tv.isi_lst_dict, Tv.isi_lst_list, Tv.isi_dic_tuple, Tv.isi_dic_str, Tv.isi_dic_int, Tv.isi_dic_bool, Tv.isi_dic_dict, Tv.isi_dic_list, V.ty.injEq, Tv.wLc2, Tv.fAll, Tv.wDropX, Tv.wSetX, Tv.wRaise, Tv.wIsi2, Tv.wDead, Tv.wStr1, Tv.fInS, Tv.fAddS, Tv.fLenS, Tv.wDisp, Tv.fDIn, Tv.fDGet, Tv.wISet, ↓reduceIte, Bool.false_eq_true, decide_eq_true_eq, T.int.injEq, T.str.injEq, T.bl.injEq, T.lst.injEq, T.tup.injEq, exists_eq_left', exists_eq_left, exists_and_left, true_and, and_true, reduceCtorEq, ne_eq, not_false_eq_true, not_true_eq_false, forall_eq', forall_eq, Option.some.injEq, Option.isSome_some]
  refine ⟨p, q, none, (cm : Int), rfl, rfl, by omega, by omega, fun a a0 a1 => ⟨a, rfl, ?_⟩⟩
  obtain ⟨a, rfl⟩ := Int.eq_ofNat_of_zero_le a0
  refine ⟨p, q, none, 1 + a, rfl, rfl, by omega, fun zs z1 z2 z3 => ?_⟩
  have nz : NamesOk zs := ⟨z2, z3, by omega, by omega⟩
  refine ⟨p, q, none, (lm : Int), rfl, rfl, by omega, by omega, fun b b0 b1 => ⟨b, rfl, ?_⟩⟩
  obtain ⟨b, rfl⟩ := Int.eq_ofNat_of_zero_le b0
  refine ⟨p, q, none, zs, 1 + b, u, rfl, rfl, nz, by omega, by omega, fun ls l0 l1' l2 => ?_⟩
  refine ⟨p, q, none, 3, rfl, rfl, by decide, by decide, fun c c0 c1' => ⟨c, rfl, ?_⟩⟩
  obtain ⟨c, rfl⟩ := Int.eq_ofNat_of_zero_le c0
  refine ⟨p, q, none, 1 + c, rfl, rfl, by omega, fun cs s1 s2 s3 => ?_⟩
  exact k zs ls cs ⟨nz, l2, List.length_pos_iff.mpr l0, l1', ⟨s2, s3, by omega, by omega⟩⟩ (by omega)
end
end Tl
/-! the law's codes and objects that are no parts -/
namespace Tl
open PySem PySem.Spec PyProof.Rows L2 Lw Tv Nm
abbrev sLCode : Stmt := Lw.top 53
def cRes (R : Rs) (ts : List T) (Pt : T → Prop) : Prop := ∃ (p q : Addr) (r : Option Addr), R = handR p q r ∧ ts = [.op (.ref p)] ∧ ∀ z : Str, z.length ≤ 9 → Pt (.str z)
def cStrange (R : Rs) (ts : List T) (Pt : T → Prop) : Prop := ∃ (p q : Addr) (r : Option Addr) (zs : List Str) (t : T) (y : Str), R = handR p q r ∧ ts = [.op (.ref p), strsT zs, t, .str y] ∧ NamesOk zs ∧ (∀ z ∈ zs, z.length ≤ 8) ∧ y.length ≤ 9 ∧ datR t = true ∧ depT t ≤ 1 ∧ ∀ u, datR u = true → depT u ≤ 4 → Pt u
section
variable {P : Program} {w : World} {K : PySem.W.Frag} {mg : Str → Option Value} {base : Heap}

theorem scLCode : FnScope ["_law_item", "_law_letter"] ["_law_item"] (defScope sLCode) := ⟨rfl, rfl, rfl, by decide +kernel, rfl, by decide +kernel, by decide +kernel⟩
theorem okLCode {f : Addr} {fd : FuncData} (F : Fun K "_law_is_code" "_law_is_code" sLCode f fd) (B : Bt mg)  : FnOk P w K mg base CX0 1 f fd ["_law_item"] (spT K [.B] false cIsName) := by
  refine okv2 F scLCode rfl (by decide) fun cdv A outer s H E R ts Pt hr hc => ?_
  obtain ⟨t, rfl, dt, k⟩ := hc
  refine ⟨_, (cut_ (if_ (PWv.pt (por_ (pnot_ (ptval_ (fun a => pt_val a) (pcb_ (μ := .M) rc_isi (fun a => pe_callB call_isi (by rfl) B.isi (by decide +kernel) a) (pa1_ (pv_ (κ := .M) 0 (pv 0)) (pa1_ (pty_ (κ := .M) (pe_bltn (v := .ty "str") (by rfl) B.str (by decide +kernel) rfl)) pa0_))))) (por_ (ptcmp_ op_lt (re_I0 fun _ _ _ => .bl _) (nomark _) (pcb_ (μ := .M) rc_lenS (fun a => pe_callB call_len_str (by rfl) B.len PySem.boot_len a) (pa1_ (pv_ (κ := .M) 0 (pv 0)) pa0_)) (pint_ (κ := .M))) (por1_ (ptcmp_ op_gt (re_I0 fun _ _ _ => .bl _) (nomark _) (pcb_ (μ := .M) rc_lenS (fun a => pe_callB call_len_str (by rfl) B.len PySem.boot_len a) (pa1_ (pv_ (κ := .M) 0 (pv 0)) pa0_)) (pint_ (κ := .M))))))) (one_ (ret_ (pbl_ (κ := .S)))) nil_)
      (cons_ (for_ (srcS_ (κ := .S) (pv_ (κ := .M) 0 (pv 0))) (gnm_ (κ := .S) 1 (by decide) (pg_name (i := 1) scLCode.nd rfl (Or.inl rfl)))
      (one_ (if_ (ptcmp_ op_notIn_sign re_ninS (by rfl) (pv_ (κ := .M) 1 (pv 1)) (pstr_ (κ := .M))) (one_ (ret_ (pbl_ (κ := .S)))) nil_)) (fun a b c => ps_for PassesOwn.never rfl a b c))
      (one_ (ret_ (pcmp_ (μ := .S) op_notIn_seq (re_inF true) (by rfl) (pv_ (κ := .M) 0 (pv 0)) (PEn.up (κ := .M) (plst_ (pa1_ (pstr_ (κ := .S)) (pa1_ (pstr_ (κ := .S)) (pa1_ (pstr_ (κ := .S)) (pa1_ (pstr_ (κ := .S)) (pa1_ (pstr_ (κ := .S)) (pa1_ (pstr_ (κ := .S)) (pa1_ (pstr_ (κ := .S)) (pa1_ (pstr_ (κ := .S)) pa0_)))))))) rfl))))))), ?_⟩
  simp only [Tv.wSeq, Tv.wNext, Tv.wIfS, Tv.wSet, Tv.wSetN, Tv.wRet, Tv.wRetO, Tv.wFrz, Tv.wApp, Tv.wOp, Tv.wTest, Tv.wAnd, Tv.wOr, Tv.wNot, Tv.wIf, Tv.wAndV, Tv.wOrV, Tv.wNotV, Tv.wCall, Tv.wCons, Tv.wNil, Tv.wV, Tv.wC, Tv.wTup, Tv.wLst, Tv.wSeqT, Tv.wO, Tv.wLen, Tv.wList, Tv.wTuple, Tv.wCat, Tv.wSl, Tv.wLst1, Tv.wTup1, Tv.wRng1, Tv.wRng2, Tv.wEnum, Tv.wLc, Tv.wYes, Tv.wCB, Tv.wipeE, Tv.gSet, Tv.gNilT, Tv.gConsT, Tv.gTupT, Tv.cellOf, Tv.env0, Tv.fEq, Tv.fIn, Tv.fI0, Tv.fI, Tv.fSc, Tv.fIsN, Tv.fIsB, Tv.fIx, Tv.fIxS, Tv.fCatT, Tv.fInt1, Tv.fMin2, List.zipWith_cons_cons, List.zipWith_nil_left, List.length_cons, List.length_nil, List.cons_append, List.nil_append, List.replicate, List.getElem?_cons_zero, List.getElem?_cons_succ, List.set_cons_zero, List.set_cons_succ, Tv.wRoom, Tv.wRoomSet, Tv.wIfDraw, Tv.wStar, Tv.wLen6, Tv.wFld, Tv.wExt, Tv.wTru, Tv.wChain, Tv.fIsi_e, Tv.fInF, Tv.seq_l, Tv.seq_t, Tv.lst_l, Tv.tup_t, Tv.scal_ii, Tv.scal_ss, Tv.scal_bb, Tv.same_ii, Tv.same_ss, Tv.same_bb, Tv.at_0, Tv.at_1, Tv.at_2, Tv.at_3, Tv.isN_non, Tv.isN_int, Tv.isN_str, Tv.isN_tup, Tv.isN_lst, Tv.isN_bl, Cell.val.injEq, T.op.injEq, forall_const, Tv.isi_non_tuple, Tv.isi_non_str, Tv.isi_non_int, Tv.isi_non_bool, Tv.isi_non_dict, Tv.isi_non_list, Tv.isi_bl_tuple, Tv.isi_bl_str, Tv.isi_bl_int, Tv.isi_bl_bool, Tv.isi_bl_dict, Tv.isi_bl_list, Tv.isi_int_tuple, Tv.isi_int_str, Tv.isi_int_int, Tv.isi_int_bool, Tv.isi_int_dict, Tv.isi_int_list, Tv.isi_str_tuple, Tv.isi_str_str, Tv.isi_str_int, Tv.isi_str_bool, Tv.isi_str_dict, Tv.isi_str_list, Tv.isi_tup_tuple, Tv.isi_tup_str, Tv.isi_tup_int, Tv.isi_tup_bool, Tv.isi_tup_dict, Tv.isi_tup_list, Tv.isi_lst_tuple, Tv.isi_lst_str, Tv.isi_lst_int, Tv.isi_lst_bool, Tv.isi_lst_dict, Tv.isi_lst_list, Tv.isi_dic_tuple, Tv.isi_dic_str, Tv.isi_dic_int, Tv.isi_dic_bool, Tv.isi_dic_dict, Tv.isi_dic_list, V.ty.injEq, Tv.wLc2, Tv.fAll, Tv.wDropX, Tv.wSetX, Tv.wRaise, Tv.wIsi2, Tv.wDead, Tv.wStr1, Tv.fInS, Tv.fAddS, Tv.fLenS, Tv.wDisp, Tv.fDIn, Tv.fDGet, Tv.wISet, ↓reduceIte, Bool.false_eq_true, decide_eq_true_eq, T.int.injEq, T.str.injEq, T.bl.injEq, T.lst.injEq, T.tup.injEq, exists_eq_left', exists_eq_left, exists_and_left, true_and, and_true, reduceCtorEq, ne_eq, not_false_eq_true, not_true_eq_false, forall_eq', forall_eq, Option.some.injEq, Option.isSome_some]
  cases t with
  | str z =>
    have z9 : z.length ≤ 9 := of_decide_eq_true dt
    have ek : nameB (.str z) = (!inV (.str z) wordL && (decide (1 ≤ z.length) && decide (z.length ≤ 8) && lets z)) := rfl
    rw [ek] at k
    refine ⟨fun e => e = [.rd (.str z), .un] ∧ 1 ≤ z.length ∧ z.length ≤ 8, ?_, ?_⟩
    · simp only [Tv.wSeq, Tv.wNext, Tv.wIfS, Tv.wSet, Tv.wSetN, Tv.wRet, Tv.wRetO, Tv.wFrz, Tv.wApp, Tv.wOp, Tv.wTest, Tv.wAnd, Tv.wOr, Tv.wNot, Tv.wIf, Tv.wAndV, Tv.wOrV, Tv.wNotV, Tv.wCall, Tv.wCons, Tv.wNil, Tv.wV, Tv.wC, Tv.wTup, Tv.wLst, Tv.wSeqT, Tv.wO, Tv.wLen, Tv.wList, Tv.wTuple, Tv.wCat, Tv.wSl, Tv.wLst1, Tv.wTup1, Tv.wRng1, Tv.wRng2, Tv.wEnum, Tv.wFor, Tv.wLc, Tv.wYes, Tv.wCB, Tv.wipeE, Tv.gSet, Tv.gNilT, Tv.gConsT, Tv.gTupT, Tv.cellOf, Tv.env0, Tv.fEq, Tv.fIn, Tv.fI0, Tv.fI, Tv.fSc, Tv.fIsN, Tv.fIsB, Tv.fIx, Tv.fIxS, Tv.fCatT, Tv.fInt1, Tv.fMin2, List.zipWith_cons_cons, List.zipWith_nil_left, List.length_cons, List.length_nil, List.cons_append, List.nil_append, List.replicate, List.getElem?_cons_zero, List.getElem?_cons_succ, List.set_cons_zero, List.set_cons_succ, Tv.wRoom, Tv.wRoomSet, Tv.wIfDraw, Tv.wStar, Tv.wLen6, Tv.wFld, Tv.wExt, Tv.wTru, Tv.wChain, Tv.fIsi_e, Tv.fInF, Tv.seq_l, Tv.seq_t, Tv.lst_l, Tv.tup_t, Tv.scal_ii, Tv.scal_ss, Tv.scal_bb, Tv.same_ii, Tv.same_ss, Tv.same_bb, Tv.at_0, Tv.at_1, Tv.at_2, Tv.at_3, Tv.isN_non, Tv.isN_int, Tv.isN_str, Tv.isN_tup, Tv.isN_lst, Tv.isN_bl, Cell.val.injEq, T.op.injEq, forall_const, Tv.isi_non_tuple, Tv.isi_non_str, Tv.isi_non_int, Tv.isi_non_bool, Tv.isi_non_dict, Tv.isi_non_list, Tv.isi_bl_tuple, Tv.isi_bl_str, Tv.isi_bl_int, Tv.isi_bl_bool, Tv.isi_bl_dict, Tv.isi_bl_list, Tv.isi_int_tuple, Tv.isi_int_str, Tv.isi_int_int, Tv.isi_int_bool, Tv.isi_int_dict, Tv.isi_int_list, Tv.isi_str_tuple, Tv.isi_str_str, Tv.isi_str_int, Tv.isi_str_bool, Tv.isi_str_dict, Tv.isi_str_list, Tv.isi_tup_tuple, Tv.isi_tup_str, Tv.isi_tup_int, Tv.isi_tup_bool, Tv.isi_tup_dict, Tv.isi_tup_list, Tv.isi_lst_tuple, Tv.isi_lst_str, Tv.isi_lst_int, Tv.isi_lst_bool, Tv.isi_lst_dict, Tv.isi_lst_list, Tv.isi_dic_tuple, Tv.isi_dic_str, Tv.isi_dic_int, Tv.isi_dic_bool, Tv.isi_dic_dict, Tv.isi_dic_list, V.ty.injEq, Tv.wLc2, Tv.fAll, Tv.wDropX, Tv.wSetX, Tv.wRaise, Tv.wIsi2, Tv.wDead, Tv.wStr1, Tv.fInS, Tv.fAddS, Tv.fLenS, Tv.wDisp, Tv.fDIn, Tv.fDGet, Tv.wISet, ↓reduceIte, Bool.false_eq_true, decide_eq_true_eq, T.int.injEq, T.str.injEq, T.bl.injEq, T.lst.injEq, T.tup.injEq, exists_eq_left', exists_eq_left, exists_and_left, true_and, and_true, reduceCtorEq, ne_eq, not_false_eq_true, not_true_eq_false, forall_eq', forall_eq, Option.some.injEq, Option.isSome_some]
      refine (if_neg (by decide +kernel)).mpr ⟨z, rfl, by omega, ?_⟩
      split
      · rename_i h
        rw [decide_eq_false (show ¬ 1 ≤ z.length by omega), Bool.false_and, Bool.false_and, Bool.and_false] at k
        exact k
      · refine ⟨z, rfl, by omega, ?_⟩
        split
        · rw [decide_eq_false (show ¬ z.length ≤ 8 by omega), Bool.and_false, Bool.false_and, Bool.and_false] at k
          exact k
        · exact ⟨by omega, by omega⟩
    · rintro _ ⟨rfl, l1, l8⟩
      rw [decide_eq_true l1, decide_eq_true l8] at k
      simp only [Tv.wSeq, Tv.wNext, Tv.wIfS, Tv.wSet, Tv.wSetN, Tv.wRet, Tv.wRetO, Tv.wFrz, Tv.wApp, Tv.wOp, Tv.wTest, Tv.wAnd, Tv.wOr, Tv.wNot, Tv.wIf, Tv.wAndV, Tv.wOrV, Tv.wNotV, Tv.wCall, Tv.wCons, Tv.wNil, Tv.wV, Tv.wC, Tv.wTup, Tv.wLst, Tv.wSeqT, Tv.wO, Tv.wLen, Tv.wList, Tv.wTuple, Tv.wCat, Tv.wSl, Tv.wLst1, Tv.wTup1, Tv.wRng1, Tv.wRng2, Tv.wEnum, Tv.wLc, Tv.wYes, Tv.wCB, Tv.wipeE, Tv.gSet, Tv.gNilT, Tv.gConsT, Tv.gTupT, Tv.cellOf, Tv.env0, Tv.fEq, Tv.fIn, Tv.fI0, Tv.fI, Tv.fSc, Tv.fIsN, Tv.fIsB, Tv.fIx, Tv.fIxS, Tv.fCatT, Tv.fInt1, Tv.fMin2, List.zipWith_cons_cons, List.zipWith_nil_left, List.length_cons, List.length_nil, List.cons_append, List.nil_append, List.replicate, List.getElem?_cons_zero, List.getElem?_cons_succ, List.set_cons_zero, List.set_cons_succ, Tv.wRoom, Tv.wRoomSet, Tv.wIfDraw, Tv.wStar, Tv.wLen6, Tv.wFld, Tv.wExt, Tv.wTru, Tv.wChain, Tv.fIsi_e, Tv.fInF, Tv.seq_l, Tv.seq_t, Tv.lst_l, Tv.tup_t, Tv.scal_ii, Tv.scal_ss, Tv.scal_bb, Tv.same_ii, Tv.same_ss, Tv.same_bb, Tv.at_0, Tv.at_1, Tv.at_2, Tv.at_3, Tv.isN_non, Tv.isN_int, Tv.isN_str, Tv.isN_tup, Tv.isN_lst, Tv.isN_bl, Cell.val.injEq, T.op.injEq, forall_const, Tv.isi_non_tuple, Tv.isi_non_str, Tv.isi_non_int, Tv.isi_non_bool, Tv.isi_non_dict, Tv.isi_non_list, Tv.isi_bl_tuple, Tv.isi_bl_str, Tv.isi_bl_int, Tv.isi_bl_bool, Tv.isi_bl_dict, Tv.isi_bl_list, Tv.isi_int_tuple, Tv.isi_int_str, Tv.isi_int_int, Tv.isi_int_bool, Tv.isi_int_dict, Tv.isi_int_list, Tv.isi_str_tuple, Tv.isi_str_str, Tv.isi_str_int, Tv.isi_str_bool, Tv.isi_str_dict, Tv.isi_str_list, Tv.isi_tup_tuple, Tv.isi_tup_str, Tv.isi_tup_int, Tv.isi_tup_bool, Tv.isi_tup_dict, Tv.isi_tup_list, Tv.isi_lst_tuple, Tv.isi_lst_str, Tv.isi_lst_int, Tv.isi_lst_bool, Tv.isi_lst_dict, Tv.isi_lst_list, Tv.isi_dic_tuple, Tv.isi_dic_str, Tv.isi_dic_int, Tv.isi_dic_bool, Tv.isi_dic_dict, Tv.isi_dic_list, V.ty.injEq, Tv.wLc2, Tv.fAll, Tv.wDropX, Tv.wSetX, Tv.wRaise, Tv.wIsi2, Tv.wDead, Tv.wStr1, Tv.fInS, Tv.fAddS, Tv.fLenS, Tv.wDisp, Tv.fDIn, Tv.fDGet, Tv.wISet, ↓reduceIte, Bool.false_eq_true, decide_eq_true_eq, T.int.injEq, T.str.injEq, T.bl.injEq, T.lst.injEq, T.tup.injEq, exists_eq_left', exists_eq_left, exists_and_left, true_and, and_true, reduceCtorEq, ne_eq, not_false_eq_true, not_true_eq_false, forall_eq', forall_eq, Option.some.injEq, Option.isSome_some]
      unfold Tv.wFor
      simp only [Tv.wStr1, Tv.wTup1, Tv.wLst1, Tv.wOp, Tv.wV, Tv.wC, Tv.fIx, List.getElem?_cons_zero, List.getElem?_cons_succ, ↓reduceIte, Bool.false_eq_true, decide_eq_true_eq, T.int.injEq, T.str.injEq, T.bl.injEq, T.lst.injEq, T.tup.injEq, exists_eq_left', exists_eq_left, exists_and_left, true_and, and_true, reduceCtorEq, ne_eq, not_false_eq_true, not_true_eq_false, forall_eq', forall_eq, Option.some.injEq, Option.isSome_some]
      refine ⟨fun i e => (∃ c, e = [.rd (.str z), c]) ∧ (z.cps.toList.take i).all (fun c => decide (c ∈ abc.cps.toList)) = true, ⟨⟨_, rfl⟩, rfl⟩, ?_, ?_⟩
      · rintro i t env' hi ⟨⟨c0, rfl⟩, hI⟩
        unfold signsT at hi
        rw [List.getElem?_map] at hi
        obtain ⟨c, hc, rfl⟩ := Option.map_eq_some_iff.mp hi
        simp only [Tv.wSeq, Tv.wNext, Tv.wIfS, Tv.wSet, Tv.wSetN, Tv.wRet, Tv.wRetO, Tv.wFrz, Tv.wApp, Tv.wOp, Tv.wTest, Tv.wAnd, Tv.wOr, Tv.wNot, Tv.wIf, Tv.wAndV, Tv.wOrV, Tv.wNotV, Tv.wCall, Tv.wCons, Tv.wNil, Tv.wV, Tv.wC, Tv.wTup, Tv.wLst, Tv.wSeqT, Tv.wO, Tv.wLen, Tv.wList, Tv.wTuple, Tv.wCat, Tv.wSl, Tv.wLst1, Tv.wTup1, Tv.wRng1, Tv.wRng2, Tv.wEnum, Tv.wFor, Tv.wLc, Tv.wYes, Tv.wCB, Tv.wipeE, Tv.gSet, Tv.gNilT, Tv.gConsT, Tv.gTupT, Tv.cellOf, Tv.env0, Tv.fEq, Tv.fIn, Tv.fI0, Tv.fI, Tv.fSc, Tv.fIsN, Tv.fIsB, Tv.fIx, Tv.fIxS, Tv.fCatT, Tv.fInt1, Tv.fMin2, List.zipWith_cons_cons, List.zipWith_nil_left, List.length_cons, List.length_nil, List.cons_append, List.nil_append, List.replicate, List.getElem?_cons_zero, List.getElem?_cons_succ, List.set_cons_zero, List.set_cons_succ, Tv.wRoom, Tv.wRoomSet, Tv.wIfDraw, Tv.wStar, Tv.wLen6, Tv.wFld, Tv.wExt, Tv.wTru, Tv.wChain, Tv.fIsi_e, Tv.fInF, Tv.seq_l, Tv.seq_t, Tv.lst_l, Tv.tup_t, Tv.scal_ii, Tv.scal_ss, Tv.scal_bb, Tv.same_ii, Tv.same_ss, Tv.same_bb, Tv.at_0, Tv.at_1, Tv.at_2, Tv.at_3, Tv.isN_non, Tv.isN_int, Tv.isN_str, Tv.isN_tup, Tv.isN_lst, Tv.isN_bl, Cell.val.injEq, T.op.injEq, forall_const, Tv.isi_non_tuple, Tv.isi_non_str, Tv.isi_non_int, Tv.isi_non_bool, Tv.isi_non_dict, Tv.isi_non_list, Tv.isi_bl_tuple, Tv.isi_bl_str, Tv.isi_bl_int, Tv.isi_bl_bool, Tv.isi_bl_dict, Tv.isi_bl_list, Tv.isi_int_tuple, Tv.isi_int_str, Tv.isi_int_int, Tv.isi_int_bool, Tv.isi_int_dict, Tv.isi_int_list, Tv.isi_str_tuple, Tv.isi_str_str, Tv.isi_str_int, Tv.isi_str_bool, Tv.isi_str_dict, Tv.isi_str_list, Tv.isi_tup_tuple, Tv.isi_tup_str, Tv.isi_tup_int, Tv.isi_tup_bool, Tv.isi_tup_dict, Tv.isi_tup_list, Tv.isi_lst_tuple, Tv.isi_lst_str, Tv.isi_lst_int, Tv.isi_lst_bool, Tv.isi_lst_dict, Tv.isi_lst_list, Tv.isi_dic_tuple, Tv.isi_dic_str, Tv.isi_dic_int, Tv.isi_dic_bool, Tv.isi_dic_dict, Tv.isi_dic_list, V.ty.injEq, Tv.wLc2, Tv.fAll, Tv.wDropX, Tv.wSetX, Tv.wRaise, Tv.wIsi2, Tv.wDead, Tv.wStr1, Tv.fInS, Tv.fAddS, Tv.fLenS, Tv.wDisp, Tv.fDIn, Tv.fDGet, Tv.wISet, ↓reduceIte, Bool.false_eq_true, decide_eq_true_eq, T.int.injEq, T.str.injEq, T.bl.injEq, T.lst.injEq, T.tup.injEq, exists_eq_left', exists_eq_left, exists_and_left, true_and, and_true, reduceCtorEq, ne_eq, not_false_eq_true, not_true_eq_false, forall_eq', forall_eq, Option.some.injEq, Option.isSome_some]
        refine ⟨c, rfl, ?_⟩
        cases ec : decide (c ∈ abc.cps.toList) with
        | true =>
          refine (if_neg ?_).mpr ⟨⟨_, rfl⟩, ?_⟩
          · rw [show decide (c ∈ (("abcdefghijklmnopqrstuvwxyz" : Str)).cps.toList) = true from ec]
            exact Bool.false_ne_true
          · rw [List.take_add_one, hc, List.all_append, hI]
            show (true && (decide (c ∈ abc.cps.toList) && true)) = true
            rw [ec]
            rfl
        | false =>
          refine (if_pos ?_).mpr ?_
          · rw [show decide (c ∈ (("abcdefghijklmnopqrstuvwxyz" : Str)).cps.toList) = false from ec]
            rfl
          · have : lets z = false := by
              unfold lets
              rw [List.all_eq_false]
              exact ⟨c, List.mem_of_getElem? hc, by rw [ec]; exact Bool.false_ne_true⟩
            rw [this, Bool.and_false, Bool.and_false] at k
            exact k
      · rintro env' ⟨⟨c0, rfl⟩, hI⟩
        simp only [Tv.wSeq, Tv.wNext, Tv.wIfS, Tv.wSet, Tv.wSetN, Tv.wRet, Tv.wRetO, Tv.wFrz, Tv.wApp, Tv.wOp, Tv.wTest, Tv.wAnd, Tv.wOr, Tv.wNot, Tv.wIf, Tv.wAndV, Tv.wOrV, Tv.wNotV, Tv.wCall, Tv.wCons, Tv.wNil, Tv.wV, Tv.wC, Tv.wTup, Tv.wLst, Tv.wSeqT, Tv.wO, Tv.wLen, Tv.wList, Tv.wTuple, Tv.wCat, Tv.wSl, Tv.wLst1, Tv.wTup1, Tv.wRng1, Tv.wRng2, Tv.wEnum, Tv.wFor, Tv.wLc, Tv.wYes, Tv.wCB, Tv.wipeE, Tv.gSet, Tv.gNilT, Tv.gConsT, Tv.gTupT, Tv.cellOf, Tv.env0, Tv.fEq, Tv.fIn, Tv.fI0, Tv.fI, Tv.fSc, Tv.fIsN, Tv.fIsB, Tv.fIx, Tv.fIxS, Tv.fCatT, Tv.fInt1, Tv.fMin2, List.zipWith_cons_cons, List.zipWith_nil_left, List.length_cons, List.length_nil, List.cons_append, List.nil_append, List.replicate, List.getElem?_cons_zero, List.getElem?_cons_succ, List.set_cons_zero, List.set_cons_succ, Tv.wRoom, Tv.wRoomSet, Tv.wIfDraw, Tv.wStar, Tv.wLen6, Tv.wFld, Tv.wExt, Tv.wTru, Tv.wChain, Tv.fIsi_e, Tv.fInF, Tv.seq_l, Tv.seq_t, Tv.lst_l, Tv.tup_t, Tv.scal_ii, Tv.scal_ss, Tv.scal_bb, Tv.same_ii, Tv.same_ss, Tv.same_bb, Tv.at_0, Tv.at_1, Tv.at_2, Tv.at_3, Tv.isN_non, Tv.isN_int, Tv.isN_str, Tv.isN_tup, Tv.isN_lst, Tv.isN_bl, Cell.val.injEq, T.op.injEq, forall_const, Tv.isi_non_tuple, Tv.isi_non_str, Tv.isi_non_int, Tv.isi_non_bool, Tv.isi_non_dict, Tv.isi_non_list, Tv.isi_bl_tuple, Tv.isi_bl_str, Tv.isi_bl_int, Tv.isi_bl_bool, Tv.isi_bl_dict, Tv.isi_bl_list, Tv.isi_int_tuple, Tv.isi_int_str, Tv.isi_int_int, Tv.isi_int_bool, Tv.isi_int_dict, Tv.isi_int_list, Tv.isi_str_tuple, Tv.isi_str_str, Tv.isi_str_int, Tv.isi_str_bool, Tv.isi_str_dict, Tv.isi_str_list, Tv.isi_tup_tuple, Tv.isi_tup_str, Tv.isi_tup_int, Tv.isi_tup_bool, Tv.isi_tup_dict, Tv.isi_tup_list, Tv.isi_lst_tuple, Tv.isi_lst_str, Tv.isi_lst_int, Tv.isi_lst_bool, Tv.isi_lst_dict, Tv.isi_lst_list, Tv.isi_dic_tuple, Tv.isi_dic_str, Tv.isi_dic_int, Tv.isi_dic_bool, Tv.isi_dic_dict, Tv.isi_dic_list, V.ty.injEq, Tv.wLc2, Tv.fAll, Tv.wDropX, Tv.wSetX, Tv.wRaise, Tv.wIsi2, Tv.wDead, Tv.wStr1, Tv.fInS, Tv.fAddS, Tv.fLenS, Tv.wDisp, Tv.fDIn, Tv.fDGet, Tv.wISet, ↓reduceIte, Bool.false_eq_true, decide_eq_true_eq, T.int.injEq, T.str.injEq, T.bl.injEq, T.lst.injEq, T.tup.injEq, exists_eq_left', exists_eq_left, exists_and_left, true_and, and_true, reduceCtorEq, ne_eq, not_false_eq_true, not_true_eq_false, forall_eq', forall_eq, Option.some.injEq, Option.isSome_some]
        have hl : lets z = true := by
          rw [signs_len, List.take_of_length_le (Nat.le_of_eq Array.length_toList)] at hI
          exact hI
        rw [hl] at k
        refine ⟨rfl, by decide +kernel, ?_⟩
        rw [Bool.true_and, Bool.and_true, Bool.and_true] at k
        exact k
  | obj C fs => cases dt
  | op v => cases dt
  | exc C d us => cases dt
  | mk o C us => cases dt
  | _ =>
    refine ⟨fun _ => False, ?_, fun _ h => h.elim⟩
    simp only [Tv.wSeq, Tv.wNext, Tv.wIfS, Tv.wSet, Tv.wSetN, Tv.wRet, Tv.wRetO, Tv.wFrz, Tv.wApp, Tv.wOp, Tv.wTest, Tv.wAnd, Tv.wOr, Tv.wNot, Tv.wIf, Tv.wAndV, Tv.wOrV, Tv.wNotV, Tv.wCall, Tv.wCons, Tv.wNil, Tv.wV, Tv.wC, Tv.wTup, Tv.wLst, Tv.wSeqT, Tv.wO, Tv.wLen, Tv.wList, Tv.wTuple, Tv.wCat, Tv.wSl, Tv.wLst1, Tv.wTup1, Tv.wRng1, Tv.wRng2, Tv.wEnum, Tv.wFor, Tv.wLc, Tv.wYes, Tv.wCB, Tv.wipeE, Tv.gSet, Tv.gNilT, Tv.gConsT, Tv.gTupT, Tv.cellOf, Tv.env0, Tv.fEq, Tv.fIn, Tv.fI0, Tv.fI, Tv.fSc, Tv.fIsN, Tv.fIsB, Tv.fIx, Tv.fIxS, Tv.fCatT, Tv.fInt1, Tv.fMin2, List.zipWith_cons_cons, List.zipWith_nil_left, List.length_cons, List.length_nil, List.cons_append, List.nil_append, List.replicate, List.getElem?_cons_zero, List.getElem?_cons_succ, List.set_cons_zero, List.set_cons_succ, Tv.wRoom, Tv.wRoomSet, Tv.wIfDraw, Tv.wStar, Tv.wLen6, Tv.wFld, Tv.wExt, Tv.wTru, Tv.wChain, Tv.fIsi_e, Tv.fInF, Tv.seq_l, Tv.seq_t, Tv.lst_l, Tv.tup_t, Tv.scal_ii, Tv.scal_ss, Tv.scal_bb, Tv.same_ii, Tv.same_ss, Tv.same_bb, Tv.at_0, Tv.at_1, Tv.at_2, Tv.at_3, Tv.isN_non, Tv.isN_int, Tv.isN_str, Tv.isN_tup, Tv.isN_lst, Tv.isN_bl, Cell.val.injEq, T.op.injEq, forall_const, Tv.isi_non_tuple, Tv.isi_non_str, Tv.isi_non_int, Tv.isi_non_bool, Tv.isi_non_dict, Tv.isi_non_list, Tv.isi_bl_tuple, Tv.isi_bl_str, Tv.isi_bl_int, Tv.isi_bl_bool, Tv.isi_bl_dict, Tv.isi_bl_list, Tv.isi_int_tuple, Tv.isi_int_str, Tv.isi_int_int, Tv.isi_int_bool, Tv.isi_int_dict, Tv.isi_int_list, Tv.isi_str_tuple, Tv.isi_str_str, Tv.isi_str_int, Tv.isi_str_bool, Tv.isi_str_dict, Tv.isi_str_list, Tv.isi_tup_tuple, Tv.isi_tup_str, Tv.isi_tup_int, Tv.isi_tup_bool, Tv.isi_tup_dict, Tv.isi_tup_list, Tv.isi_lst_tuple, Tv.isi_lst_str, Tv.isi_lst_int, Tv.isi_lst_bool, Tv.isi_lst_dict, Tv.isi_lst_list, Tv.isi_dic_tuple, Tv.isi_dic_str, Tv.isi_dic_int, Tv.isi_dic_bool, Tv.isi_dic_dict, Tv.isi_dic_list, V.ty.injEq, Tv.wLc2, Tv.fAll, Tv.wDropX, Tv.wSetX, Tv.wRaise, Tv.wIsi2, Tv.wDead, Tv.wStr1, Tv.fInS, Tv.fAddS, Tv.fLenS, Tv.wDisp, Tv.fDIn, Tv.fDGet, Tv.wISet, ↓reduceIte, Bool.false_eq_true, decide_eq_true_eq, T.int.injEq, T.str.injEq, T.bl.injEq, T.lst.injEq, T.tup.injEq, exists_eq_left', exists_eq_left, exists_and_left, true_and, and_true, reduceCtorEq, ne_eq, not_false_eq_true, not_true_eq_false, forall_eq', forall_eq, Option.some.injEq, Option.isSome_some]
    exact k
theorem scLRes : FnScope ["_law_hand_here"] ["_law_hand_here"] (defScope sLRes) := ⟨rfl, rfl, rfl, by decide +kernel, rfl, by decide +kernel, by decide +kernel⟩
theorem okLRes {f : Addr} {fd : FuncData} (F : Fun K "_law_reserved" "_law_reserved" sLRes f fd) (B : Bt mg) (cD : CD P w K mg base) : FnOk P w K mg base CX0 3 f fd ["_law_hand_here"] (spT K [.S] false cRes) := by
  refine okv2 F scLRes rfl (by decide) fun cdv A outer s H E R ts Pt hr hc => ?_
  obtain ⟨p, q, r, rfl, rfl, k⟩ := hc
  refine ⟨_, (one_ (ret_ (pix_ (PEn.up (κ := .S) (plst_ (pa1_ (pstr_ (κ := .S)) (pa1_ (pstr_ (κ := .S)) (pa1_ (pstr_ (κ := .S)) (pa1_ (pstr_ (κ := .S)) (pa1_ (pstr_ (κ := .S)) (pa1_ (pstr_ (κ := .S)) (pa1_ (pstr_ (κ := .S)) (pa1_ (pstr_ (κ := .S)) pa0_)))))))) rfl)) (callS_ (κ := .M) (κs := [.S, .S]) (ms := [.S, .S]) rfl (fun a => cD.pe hr (by decide) (by rfl) a) (pa1_ (pv_ (κ := .S) 0 (pv 0)) (pa1_ (pint_ (κ := .S)) pa0_)))))), ?_⟩
  simp only [Tv.wSeq, Tv.wNext, Tv.wIfS, Tv.wSet, Tv.wSetN, Tv.wRet, Tv.wRetO, Tv.wFrz, Tv.wApp, Tv.wOp, Tv.wTest, Tv.wAnd, Tv.wOr, Tv.wNot, Tv.wIf, Tv.wAndV, Tv.wOrV, Tv.wNotV, Tv.wCall, Tv.wCons, Tv.wNil, Tv.wV, Tv.wC, Tv.wTup, Tv.wLst, Tv.wSeqT, Tv.wO, Tv.wLen, Tv.wList, Tv.wTuple, Tv.wCat, Tv.wSl, Tv.wLst1, Tv.wTup1, Tv.wRng1, Tv.wRng2, Tv.wEnum, Tv.wFor, Tv.wLc, Tv.wYes, Tv.wCB, Tv.wipeE, Tv.gSet, Tv.gNilT, Tv.gConsT, Tv.gTupT, Tv.cellOf, Tv.env0, Tv.fEq, Tv.fIn, Tv.fI0, Tv.fI, Tv.fSc, Tv.fIsN, Tv.fIsB, Tv.fIx, Tv.fIxS, Tv.fCatT, Tv.fInt1, Tv.fMin2, List.zipWith_cons_cons, List.zipWith_nil_left, List.length_cons, List.length_nil, List.cons_append, List.nil_append, List.replicate, List.getElem?_cons_zero, List.getElem?_cons_succ, List.set_cons_zero, List.set_cons_succ, Tv.wRoom, Tv.wRoomSet, Tv.wIfDraw, Tv.wStar, Tv.wLen6, Tv.wFld, Tv.wExt, Tv.wTru, Tv.wChain, Tv.fIsi_e, Tv.fInF, Tv.seq_l, Tv.seq_t, Tv.lst_l, Tv.tup_t, Tv.scal_ii, Tv.scal_ss, Tv.scal_bb, Tv.same_ii, Tv.same_ss, Tv.same_bb, Tv.at_0, Tv.at_1, Tv.at_2, Tv.at_3, Tv.isN_non, Tv.isN_int, Tv.isN_str, Tv.isN_tup, Tv.isN_lst, Tv.isN_bl, Cell.val.injEq, T.op.injEq, forall_const, Tv.isi_non_tuple, Tv.isi_non_str, Tv.isi_non_int, Tv.isi_non_bool, Tv.isi_non_dict, Tv.isi_non_list, Tv.isi_bl_tuple, Tv.isi_bl_str, Tv.isi_bl_int, Tv.isi_bl_bool, Tv.isi_bl_dict, Tv.isi_bl_list, Tv.isi_int_tuple, Tv.isi_int_str, Tv.isi_int_int, Tv.isi_int_bool, Tv.isi_int_dict, Tv.isi_int_list, Tv.isi_str_tuple, Tv.isi_str_str, Tv.isi_str_int, Tv.isi_str_bool, Tv.isi_str_dict, Tv.isi_str_list, Tv.isi_tup_tuple, Tv.isi_tup_str, Tv.isi_tup_int, Tv.isi_tup_bool, Tv.isi_tup_dict, Tv.isi_tup_list, Tv.isi_lst_tuple, Tv.isi_lst_str, Tv.isi_lst_int, Tv.isi_lst_bool, Tv.isi_lst_dict, Tv.isi_lst_list, Tv.isi_dic_tuple, Tv.isi_dic_str, Tv.isi_dic_int, Tv.isi_dic_bool, Tv.isi_dic_dict, Tv.isi_dic_list, V.ty.injEq, Tv.wLc2, Tv.fAll, Tv.wDropX, Tv.wSetX, Tv.wRaise, Tv.wIsi2, Tv.wDead, Tv.wStr1, Tv.fInS, Tv.fAddS, Tv.fLenS, Tv.wDisp, Tv.fDIn, Tv.fDGet, Tv.wISet, ↓reduceIte, Bool.false_eq_true, decide_eq_true_eq, T.int.injEq, T.str.injEq, T.bl.injEq, T.lst.injEq, T.tup.injEq, exists_eq_left', exists_eq_left, exists_and_left, true_and, and_true, reduceCtorEq, ne_eq, not_false_eq_true, not_true_eq_false, forall_eq', forall_eq, Option.some.injEq, Option.isSome_some]
  refine ⟨p, q, r, 8, rfl, rfl, by decide, by decide, fun i i0 i1 => ⟨i, rfl, ?_⟩⟩
  have key : ∀ xs : List Str, (8 : Int) ≤ (xs.length : Int) → (∀ z ∈ xs, z.length ≤ 9) → ∃ x, atI (xs.map T.str) i = some x ∧ Pt x := fun xs h1 h2 => by
    obtain ⟨z, hz, mz⟩ := at_strs (zs := xs) i0 (by omega)
    exact ⟨_, hz, k z (h2 z mz)⟩
  exact key ["and", "case", "else", "is", "missing", "must", "not", "or"] (by decide) (by decide +kernel)
theorem scLStr : FnScope ["_law_hand_here", "_law_names_here", "_law_part_here", "_law_stranger", "_law_name_here", "_law_good", "_law_menu"] ["_law_hand_here", "_law_names_here", "_law_part_here", "_law_stranger"] (defScope sLStr) := ⟨rfl, rfl, rfl, by decide +kernel, rfl, by decide +kernel, by decide +kernel⟩
theorem okLStr {f : Addr} {fd : FuncData} (F : Fun K "_law_strange" "_law_strange" sLStr f fd) (B : Bt mg) (cD : CD P w K mg base) (cR : Cl P w K mg base 3 "_law_reserved" (spT K [.S] false cRes)) : FnOk P w K mg base CX0 4 f fd ["_law_hand_here", "_law_names_here", "_law_part_here", "_law_stranger"] (spT K [.S, .S, .S, .S] false cStrange) := by
  refine okv2 F scLStr rfl (by decide) fun cdv A outer s H E R ts Pt hr hc => ?_
  obtain ⟨p, q, r, zs, t, y, rfl, rfl, nz, z8, y9, dt, dp, k⟩ := hc
  refine ⟨_, (cons_ (set_ (κ := .S) 4 (fun a => ps_set (i := 4) scLStr.nd rfl (Or.inl rfl) a) (pix_ (pv_ (κ := .S) 1 (pv 1)) (callS_ (κ := .M) (κs := [.S, .S]) (ms := [.S, .S]) rfl (fun a => cD.pe hr (by decide) (by rfl) a) (pa1_ (pv_ (κ := .S) 0 (pv 0)) (pa1_ (plen_ (μ := .S) (PEv.items (pv_ (κ := .S) 1 (pv 1))) (fun a => pe_callB call_len_seq (by rfl) B.len PySem.boot_len (pa_cons a pa_nil))) pa0_)))))
      (cons_ (set_ (κ := .S) 5 (fun a => ps_set (i := 5) scLStr.nd rfl (Or.inl rfl) a) (ptup_ (κ := .S) (pa1_ (pstr_ (κ := .S)) (pa1_ (pv_ (κ := .S) 4 (pv 4)) pa0_)) rfl))
      (cons_ (set_ (κ := .S) 6 (fun a => ps_set (i := 6) scLStr.nd rfl (Or.inl rfl) a) (PEn.up (κ := .S) (plst_ (pa1_ (pint_ (κ := .S)) (pa1_ (ptup_ (κ := .S) pa0_ rfl) (pa1_ (pstr_ (κ := .S)) (pa1_ (PEn.up (κ := .S) (plst_ (pa1_ (pstr_ (κ := .S)) (pa1_ (pv_ (κ := .S) 4 (pv 4)) pa0_)) rfl)) (pa1_ (ptup_ (κ := .S) (pa1_ (pstr_ (κ := .S)) (pa1_ (pv_ (κ := .S) 4 (pv 4)) (pa1_ (pstr_ (κ := .S)) pa0_))) rfl) (pa1_ (ptup_ (κ := .S) (pa1_ (pstr_ (κ := .S)) (pa1_ (pv_ (κ := .S) 4 (pv 4)) (pa1_ (pstr_ (κ := .S)) (pa1_ (pbl_ (κ := .S)) pa0_)))) rfl) (pa1_ (ptup_ (κ := .S) (pa1_ (pstr_ (κ := .S)) (pa1_ (pv_ (κ := .S) 4 (pv 4)) (pa1_ (pv_ (κ := .S) 4 (pv 4)) (pa1_ (pint_ (κ := .S)) pa0_)))) rfl) pa0_))))))) rfl)))
      (cons_ (set_ (κ := .S) 6 (fun a => ps_set (i := 6) scLStr.nd rfl (Or.inl rfl) a) (PEn.up (κ := .S) (pcat_ (PEv.items (pv_ (κ := .S) 6 (pv 6))) (PEn.items (plst_ (pa1_ (ptup_ (κ := .S) (pa1_ (pstr_ (κ := .S)) (pa1_ (pint_ (κ := .S)) (pa1_ (pv_ (κ := .S) 4 (pv 4)) (pa1_ (pint_ (κ := .S)) pa0_)))) rfl) (pa1_ (ptup_ (κ := .S) (pa1_ (pstr_ (κ := .S)) (pa1_ (pv_ (κ := .S) 4 (pv 4)) (pa1_ (pv_ (κ := .S) 3 (pv 3)) (pa1_ (pstr_ (κ := .S)) pa0_)))) rfl) (pa1_ (ptup_ (κ := .S) (pa1_ (pstr_ (κ := .S)) (pa1_ (pstr_ (κ := .S)) pa0_)) rfl) (pa1_ (ptup_ (κ := .S) (pa1_ (pstr_ (κ := .S)) (pa1_ (padds_ (μ := .S) (pv_ (κ := .M) 4 (pv 4)) (pstr_ (κ := .M))) pa0_)) rfl) (pa1_ (ptup_ (κ := .S) (pa1_ (pstr_ (κ := .S)) pa0_) rfl) pa0_))))) rfl)))))
      (cons_ (set_ (κ := .S) 6 (fun a => ps_set (i := 6) scLStr.nd rfl (Or.inl rfl) a) (PEn.up (κ := .S) (pcat_ (PEv.items (pv_ (κ := .S) 6 (pv 6))) (PEn.items (plst_ (pa1_ (ptup_ (κ := .S) (pa1_ (pstr_ (κ := .S)) pa0_) rfl) (pa1_ (ptup_ (κ := .S) (pa1_ (pstr_ (κ := .S)) (pa1_ (pint_ (κ := .S)) pa0_)) rfl) (pa1_ (ptup_ (κ := .S) (pa1_ (pstr_ (κ := .S)) (pa1_ (ptup_ (κ := .S) pa0_ rfl) pa0_)) rfl) (pa1_ (ptup_ (κ := .S) (pa1_ (pstr_ (κ := .S)) (pa1_ (PEn.up (κ := .S) (plst_ (pa1_ (pv_ (κ := .S) 5 (pv 5)) pa0_) rfl)) pa0_)) rfl) (pa1_ (ptup_ (κ := .S) (pa1_ (pstr_ (κ := .S)) (pa1_ (ptup_ (κ := .S) (pa1_ (pv_ (κ := .S) 5 (pv 5)) (pa1_ (pv_ (κ := .S) 5 (pv 5)) (pa1_ (pv_ (κ := .S) 5 (pv 5)) (pa1_ (pv_ (κ := .S) 5 (pv 5)) (pa1_ (pv_ (κ := .S) 5 (pv 5)) pa0_))))) rfl) pa0_)) rfl) (pa1_ (ptup_ (κ := .S) (pa1_ (pstr_ (κ := .S)) (pa1_ (ptup_ (κ := .S) (pa1_ (pv_ (κ := .S) 5 (pv 5)) pa0_) rfl) pa0_)) rfl) pa0_)))))) rfl)))))
      (cons_ (set_ (κ := .S) 6 (fun a => ps_set (i := 6) scLStr.nd rfl (Or.inl rfl) a) (PEn.up (κ := .S) (pcat_ (PEv.items (pv_ (κ := .S) 6 (pv 6))) (PEn.items (plst_ (pa1_ (ptup_ (κ := .S) (pa1_ (pstr_ (κ := .S)) (pa1_ (callS_ (κ := .S) (κs := [.S]) (ms := [.S]) rfl (fun a => cR.pe hr (by decide) (by rfl) a) (pa1_ (pv_ (κ := .S) 0 (pv 0)) pa0_)) (pa1_ (ptup_ (κ := .S) (pa1_ (pv_ (κ := .S) 4 (pv 4)) (pa1_ (pstr_ (κ := .S)) (pa1_ (pint_ (κ := .S)) pa0_))) rfl) (pa1_ (pv_ (κ := .S) 5 (pv 5)) pa0_)))) rfl) (pa1_ (ptup_ (κ := .S) (pa1_ (pstr_ (κ := .S)) (pa1_ (padds_ (μ := .S) (pv_ (κ := .M) 4 (pv 4)) (pstr_ (κ := .M))) (pa1_ (ptup_ (κ := .S) (pa1_ (pstr_ (κ := .S)) (pa1_ (pstr_ (κ := .S)) (pa1_ (pint_ (κ := .S)) pa0_))) rfl) (pa1_ (pv_ (κ := .S) 5 (pv 5)) pa0_)))) rfl) (pa1_ (ptup_ (κ := .S) (pa1_ (pstr_ (κ := .S)) (pa1_ (pv_ (κ := .S) 4 (pv 4)) (pa1_ (ptup_ (κ := .S) (pa1_ (pstr_ (κ := .S)) (pa1_ (pstr_ (κ := .S)) (pa1_ (pint_ (κ := .S)) pa0_))) rfl) (pa1_ (pint_ (κ := .S)) pa0_)))) rfl) pa0_))) rfl)))))
      (cons_ (set_ (κ := .S) 6 (fun a => ps_set (i := 6) scLStr.nd rfl (Or.inl rfl) a) (PEn.up (κ := .S) (pcat_ (PEv.items (pv_ (κ := .S) 6 (pv 6))) (PEn.items (plst_ (pa1_ (ptup_ (κ := .S) (pa1_ (pstr_ (κ := .S)) (pa1_ (pv_ (κ := .S) 4 (pv 4)) (pa1_ (ptup_ (κ := .S) (pa1_ (pv_ (κ := .S) 4 (pv 4)) (pa1_ (pstr_ (κ := .S)) (pa1_ (pint_ (κ := .S)) pa0_))) rfl) (pa1_ (ptup_ (κ := .S) (pa1_ (pstr_ (κ := .S)) (pa1_ (pv_ (κ := .S) 3 (pv 3)) pa0_)) rfl) pa0_)))) rfl) (pa1_ (ptup_ (κ := .S) (pa1_ (pstr_ (κ := .S)) (pa1_ (ptup_ (κ := .S) pa0_ rfl) (pa1_ (pv_ (κ := .S) 5 (pv 5)) pa0_))) rfl) (pa1_ (ptup_ (κ := .S) (pa1_ (pstr_ (κ := .S)) (pa1_ (ptup_ (κ := .S) (pa1_ (ptup_ (κ := .S) (pa1_ (pv_ (κ := .S) 5 (pv 5)) pa0_) rfl) pa0_) rfl) (pa1_ (pv_ (κ := .S) 5 (pv 5)) pa0_))) rfl) pa0_))) rfl)))))
      (cons_ (set_ (κ := .S) 6 (fun a => ps_set (i := 6) scLStr.nd rfl (Or.inl rfl) a) (PEn.up (κ := .S) (pcat_ (PEv.items (pv_ (κ := .S) 6 (pv 6))) (PEn.items (plst_ (pa1_ (ptup_ (κ := .S) (pa1_ (pstr_ (κ := .S)) (pa1_ (ptup_ (κ := .S) (pa1_ (ptup_ (κ := .S) (pa1_ (pv_ (κ := .S) 5 (pv 5)) (pa1_ (pint_ (κ := .S)) pa0_)) rfl) (pa1_ (ptup_ (κ := .S) (pa1_ (pint_ (κ := .S)) (pa1_ (pv_ (κ := .S) 5 (pv 5)) pa0_)) rfl) pa0_)) rfl) (pa1_ (pv_ (κ := .S) 5 (pv 5)) pa0_))) rfl) (pa1_ (ptup_ (κ := .S) (pa1_ (pstr_ (κ := .S)) (pa1_ (pv_ (κ := .S) 2 (pv 2)) pa0_)) rfl) pa0_)) rfl)))))
      (one_ (ret_ (pix_ (pv_ (κ := .S) 6 (pv 6)) (callS_ (κ := .M) (κs := [.S, .S]) (ms := [.S, .S]) rfl (fun a => cD.pe hr (by decide) (by rfl) a) (pa1_ (pv_ (κ := .S) 0 (pv 0)) (pa1_ (pint_ (κ := .S)) pa0_)))))))))))))), ?_⟩
  simp only [Tv.wSeq, Tv.wNext, Tv.wIfS, Tv.wSet, Tv.wSetN, Tv.wRet, Tv.wRetO, Tv.wFrz, Tv.wApp, Tv.wOp, Tv.wTest, Tv.wAnd, Tv.wOr, Tv.wNot, Tv.wIf, Tv.wAndV, Tv.wOrV, Tv.wNotV, Tv.wCall, Tv.wCons, Tv.wNil, Tv.wV, Tv.wC, Tv.wTup, Tv.wLst, Tv.wSeqT, Tv.wO, Tv.wLen, Tv.wList, Tv.wTuple, Tv.wCat, Tv.wSl, Tv.wLst1, Tv.wTup1, Tv.wRng1, Tv.wRng2, Tv.wEnum, Tv.wFor, Tv.wLc, Tv.wYes, Tv.wCB, Tv.wipeE, Tv.gSet, Tv.gNilT, Tv.gConsT, Tv.gTupT, Tv.cellOf, Tv.env0, Tv.fEq, Tv.fIn, Tv.fI0, Tv.fI, Tv.fSc, Tv.fIsN, Tv.fIsB, Tv.fIx, Tv.fIxS, Tv.fCatT, Tv.fInt1, Tv.fMin2, List.zipWith_cons_cons, List.zipWith_nil_left, List.length_cons, List.length_nil, List.cons_append, List.nil_append, List.replicate, List.getElem?_cons_zero, List.getElem?_cons_succ, List.set_cons_zero, List.set_cons_succ, Tv.wRoom, Tv.wRoomSet, Tv.wIfDraw, Tv.wStar, Tv.wLen6, Tv.wFld, Tv.wExt, Tv.wTru, Tv.wChain, Tv.fIsi_e, Tv.fInF, Tv.seq_l, Tv.seq_t, Tv.lst_l, Tv.tup_t, Tv.scal_ii, Tv.scal_ss, Tv.scal_bb, Tv.same_ii, Tv.same_ss, Tv.same_bb, Tv.at_0, Tv.at_1, Tv.at_2, Tv.at_3, Tv.isN_non, Tv.isN_int, Tv.isN_str, Tv.isN_tup, Tv.isN_lst, Tv.isN_bl, Cell.val.injEq, T.op.injEq, forall_const, Tv.isi_non_tuple, Tv.isi_non_str, Tv.isi_non_int, Tv.isi_non_bool, Tv.isi_non_dict, Tv.isi_non_list, Tv.isi_bl_tuple, Tv.isi_bl_str, Tv.isi_bl_int, Tv.isi_bl_bool, Tv.isi_bl_dict, Tv.isi_bl_list, Tv.isi_int_tuple, Tv.isi_int_str, Tv.isi_int_int, Tv.isi_int_bool, Tv.isi_int_dict, Tv.isi_int_list, Tv.isi_str_tuple, Tv.isi_str_str, Tv.isi_str_int, Tv.isi_str_bool, Tv.isi_str_dict, Tv.isi_str_list, Tv.isi_tup_tuple, Tv.isi_tup_str, Tv.isi_tup_int, Tv.isi_tup_bool, Tv.isi_tup_dict, Tv.isi_tup_list, Tv.isi_lst_tuple, Tv.isi_lst_str, Tv.isi_lst_int, Tv.isi_lst_bool, Tv.isi_lst_dict, Tv.isi_lst_list, Tv.isi_dic_tuple, Tv.isi_dic_str, Tv.isi_dic_int, Tv.isi_dic_bool, Tv.isi_dic_dict, Tv.isi_dic_list, V.ty.injEq, Tv.wLc2, Tv.fAll, Tv.wDropX, Tv.wSetX, Tv.wRaise, Tv.wIsi2, Tv.wDead, Tv.wStr1, Tv.fInS, Tv.fAddS, Tv.fLenS, Tv.wDisp, Tv.fDIn, Tv.fDGet, Tv.wISet, ↓reduceIte, Bool.false_eq_true, decide_eq_true_eq, T.int.injEq, T.str.injEq, T.bl.injEq, T.lst.injEq, T.tup.injEq, exists_eq_left', exists_eq_left, exists_and_left, true_and, and_true, reduceCtorEq, ne_eq, not_false_eq_true, not_true_eq_false, forall_eq', forall_eq, Option.some.injEq, Option.isSome_some]
  refine ⟨rfl, fun ts e => ?_⟩
  cases e
  have z0 := nz.l0
  have z5 := nz.l5
  rw [List.length_map]
  refine ⟨p, q, r, _, rfl, rfl, by omega, by omega, fun i i0 i1 => ?_⟩
  obtain ⟨nm, hn, mn⟩ := at_strs i0 i1
  have n8 := z8 nm mn
  have nl : (("\n" : Str)).length = 1 := by decide +kernel
  refine ⟨_, rfl, i, rfl, _, hn, nm, rfl, by rw [nl]; omega, by decide, by decide, ⟨p, q, r, rfl, rfl, fun res hr9 => ⟨nm, rfl, by rw [nl]; omega, by decide, by decide, by decide, ⟨p, q, r, 26, rfl, rfl, by decide, by decide, fun j j0 j1 => ⟨j, rfl, ?_⟩⟩⟩⟩⟩
  have key : ∀ xs : List T, (26 : Int) ≤ (xs.length : Int) → (∀ u ∈ xs, datR u = true ∧ depT u ≤ 4) → ∃ x, atI xs j = some x ∧ Pt x := fun xs h1 h2 => by
    obtain ⟨u, hu, mu⟩ := at_pos (xs := xs) j0 (by omega)
    exact ⟨u, hu, k u (h2 u mu).1 (h2 u mu).2⟩
  refine key _ (by simp only [List.length_cons, List.length_nil]; omega) ?_
  have dn : nm.length ≤ 9 := by omega
  have dl : (nm ++ ("\n" : Str)).length ≤ 9 := by rw [Str.length_append, nl]; omega
  have c1 : ("missing" : Str).length ≤ 9 := by decide +kernel
  have c2 : ("" : Str).length ≤ 9 := by decide +kernel
  have c3 : ("atmost" : Str).length ≤ 9 := by decide +kernel
  have c4 : ("1" : Str).length ≤ 9 := by decide +kernel
  have c5 : ("not" : Str).length ≤ 9 := by decide +kernel
  have c6 : ("and" : Str).length ≤ 9 := by decide +kernel
  have c7 : ("or" : Str).length ≤ 9 := by decide +kernel
  have c8 : ("xor" : Str).length ≤ 9 := by decide +kernel
  have c9 : ("must" : Str).length ≤ 9 := by decide +kernel
  have c10 : ("case" : Str).length ≤ 9 := by decide +kernel
  simp only [List.forall_mem_cons, List.not_mem_nil, datR, datRs, depT, depTs, decide_eq_true dn, decide_eq_true dl, decide_eq_true y9, decide_eq_true hr9, decide_eq_true c1, decide_eq_true c2, decide_eq_true c3, decide_eq_true c4, decide_eq_true c5, decide_eq_true c6, decide_eq_true c7, decide_eq_true c8, decide_eq_true c9, decide_eq_true c10, dt, Bool.true_and, Bool.and_true]
  simp
  omega
end
end Tl
/-! the law's forms -/
namespace Tl
open PySem PySem.Spec PyProof.Rows L2 Lw Tv Nm
abbrev sLForm : Stmt := Lw.top 56
theorem sz_lookup {z : Str} : ([("atmost", 4), ("missing", 2), ("must", 4), ("not", 2), ("and", 2), ("or", 2), ("case", 3)] : List (Str × Int)).lookup z = (szOf z).map fun m : Nat => (m : Int) := by
  unfold szOf
  simp only [List.lookup_cons, List.lookup_nil]
  cases z == ("atmost" : Str) with
  | true => rfl
  | false =>
    cases z == ("missing" : Str) with
    | true => rfl
    | false =>
      cases z == ("must" : Str) with
      | true => rfl
      | false =>
        cases z == ("not" : Str) with
        | true => rfl
        | false =>
          cases z == ("and" : Str) with
          | true => rfl
          | false =>
            cases z == ("or" : Str) with
            | true => rfl
            | false => cases z == ("case" : Str) <;> rfl
theorem one {us : List T} (h : us.length = 1) : ∃ a, us = [a] := by
  match us, h with
  | [a], _ => exact ⟨a, rfl⟩
theorem two {us : List T} (h : us.length = 2) : ∃ a b, us = [a, b] := by
  match us, h with
  | [a, b], _ => exact ⟨a, b, rfl⟩
theorem three {us : List T} (h : us.length = 3) : ∃ a b c, us = [a, b, c] := by
  match us, h with
  | [a, b, c], _ => exact ⟨a, b, c, rfl⟩
section
variable {P : Program} {w : World} {K : PySem.W.Frag} {mg : Str → Option Value} {base : Heap}

theorem scLForm : FnScope ["_law_item", "_law_sizes"] ["_law_item"] (defScope sLForm) := ⟨rfl, rfl, rfl, by decide +kernel, rfl, by decide +kernel, by decide +kernel⟩
theorem okLForm {f : Addr} {fd : FuncData} (F : Fun K "_law_form_fits" "_law_form_fits" sLForm f fd) (B : Bt mg) (cC : Cl P w K mg base 1 "_law_is_code" (spT K [.B] false cIsName)) (cN : Cl P w K mg base 1 "_law_number_fits" (spT K [.B] false cIsInt)) (cB : Cl P w K mg base 1 "_law_branches_fit" (spT K [.S] false cBr)) : FnOk P w K mg base CX0 2 f fd ["_law_item"] (spT K [.S] false cHasForm) := by
  refine okv2 F scLForm rfl (by decide) fun cdv A outer s H E R ts Pt hr hc => ?_
  obtain ⟨t, rfl, dt, k⟩ := hc
  have hu2 : (A.deeper (envOfC "_law_form_fits" (defScope sLForm) s.heap.objs.size f cdv)).units + 1 < cLine := by have := hr.un; omega
  refine ⟨_, (cons_ (set_ (κ := .S) 1 (fun a => ps_set (i := 1) scLForm.nd rfl (Or.inl rfl) a) (PEn.up (κ := .S) (pdisp_ (es := [("atmost", 4), ("missing", 2), ("must", 4), ("not", 2), ("and", 2), ("or", 2), ("case", 3)]) (pe_disp (pps_cons pe_str pe_int (pps_cons pe_str pe_int (pps_cons pe_str pe_int (pps_cons pe_str pe_int (pps_cons pe_str pe_int (pps_cons pe_str pe_int (pps_cons pe_str pe_int pps_nil))))))) (by rfl) (by rfl) (by intro h; cases h) (by decide)) (by rfl))))
      (cut_ (if_ (PWv.pt (por_ (pnot_ (ptval_ (fun a => pt_val a) (pcb_ (μ := .M) rc_isi (fun a => pe_callB call_isi (by rfl) B.isi (by decide +kernel) a) (pa1_ (pv_ (κ := .M) 0 (pv 0)) (pa1_ (pty_ (κ := .M) (pe_bltn (v := .ty "tuple") (by rfl) B.tuple (by decide +kernel) rfl)) pa0_))))) (por_ (ptcmp_ op_eq re_sc (nomark _) (plen_ (μ := .M) (PEv.items (pv_ (κ := .S) 0 (pv 0))) (fun a => pe_callB call_len_seq (by rfl) B.len PySem.boot_len (pa_cons a pa_nil))) (pint_ (κ := .M))) (por_ (pnot_ (ptval_ (fun a => pt_val a) (pcb_ (μ := .M) rc_isi (fun a => pe_callB call_isi (by rfl) B.isi (by decide +kernel) a) (pa1_ (pix_ (pv_ (κ := .M) 0 (pv 0)) (pint_ (κ := .M))) (pa1_ (pty_ (κ := .M) (pe_bltn (v := .ty "str") (by rfl) B.str (by decide +kernel) rfl)) pa0_))))) (por1_ (ptdnin_ hu2 (by rfl) (pix_ (pv_ (κ := .M) 0 (pv 0)) (pint_ (κ := .M))) (pv_ (κ := .M) 1 (pv 1)))))))) (one_ (ret_ (pbl_ (κ := .S)))) nil_)
      (cons_ (if_ (ptcmp_ op_ne re_nsc (nomark _) (plen_ (μ := .M) (PEv.items (pv_ (κ := .S) 0 (pv 0))) (fun a => pe_callB call_len_seq (by rfl) B.len PySem.boot_len (pa_cons a pa_nil))) (pdget_ (μ := .M) hu2 (pv_ (κ := .M) 1 (pv 1)) (pix_ (pv_ (κ := .M) 0 (pv 0)) (pint_ (κ := .M))))) (one_ (ret_ (pbl_ (κ := .S)))) nil_)
      (cons_ (if_ (ptcmp_ op_eq re_sc (nomark _) (pix_ (pv_ (κ := .M) 0 (pv 0)) (pint_ (κ := .M))) (pstr_ (κ := .M))) (one_ (ret_ (callS_ (κ := .S) (κs := [.B]) (ms := [.M]) rfl (fun a => cN.pe hr (by decide) (by rfl) a) (pa1_ (pix_ (pv_ (κ := .M) 0 (pv 0)) (pint_ (κ := .M))) pa0_)))) nil_)
      (cons_ (if_ (ptcmp_ op_eq re_sc (nomark _) (pix_ (pv_ (κ := .M) 0 (pv 0)) (pint_ (κ := .M))) (pstr_ (κ := .M))) (cut_ (if_ (PWv.pt (por_ (pnot_ (ptval_ (fun a => pt_val a) (callS_ (κ := .M) (κs := [.B]) (ms := [.M]) rfl (fun a => cC.pe hr (by decide) (by rfl) a) (pa1_ (pix_ (pv_ (κ := .M) 0 (pv 0)) (pint_ (κ := .M))) pa0_)))) (por_ (pnot_ (ptval_ (fun a => pt_val a) (pcb_ (μ := .M) rc_isi (fun a => pe_callB call_isi (by rfl) B.isi (by decide +kernel) a) (pa1_ (pix_ (pv_ (κ := .M) 0 (pv 0)) (pint_ (κ := .M))) (pa1_ (pty_ (κ := .M) (pe_bltn (v := .ty "tuple") (by rfl) B.tuple (by decide +kernel) rfl)) pa0_))))) (por1_ (ptcmp_ op_ne re_nsc (nomark _) (plen_ (μ := .M) (PEv.items (pix_ (pv_ (κ := .S) 0 (pv 0)) (pint_ (κ := .M)))) (fun a => pe_callB call_len_seq (by rfl) B.len PySem.boot_len (pa_cons a pa_nil))) (pint_ (κ := .M))))))) (one_ (ret_ (pbl_ (κ := .S)))) nil_)
      (one_ (ret_ (callS_ (κ := .S) (κs := [.B]) (ms := [.M]) rfl (fun a => cN.pe hr (by decide) (by rfl) a) (pa1_ (pix_ (pix_ (pv_ (κ := .M) 0 (pv 0)) (pint_ (κ := .M))) (pint_ (κ := .M))) pa0_))))) nil_)
      (cut_ (if_ (PWv.pt (por_ (ptcmp_ op_eq re_sc (nomark _) (pix_ (pv_ (κ := .M) 0 (pv 0)) (pint_ (κ := .M))) (pstr_ (κ := .M))) (por1_ (ptcmp_ op_eq re_sc (nomark _) (pix_ (pv_ (κ := .M) 0 (pv 0)) (pint_ (κ := .M))) (pstr_ (κ := .M)))))) (one_ (ret_ (pandV_ (pcb_ (μ := .M) rc_isi (fun a => pe_callB call_isi (by rfl) B.isi (by decide +kernel) a) (pa1_ (pix_ (pv_ (κ := .M) 0 (pv 0)) (pint_ (κ := .M))) (pa1_ (pty_ (κ := .M) (pe_bltn (v := .ty "tuple") (by rfl) B.tuple (by decide +kernel) rfl)) pa0_))) (pandV_ (pcmp_ (μ := .M) op_ge (re_I0 fun _ _ _ => .bl _) (nomark _) (plen_ (μ := .M) (PEv.items (pix_ (pv_ (κ := .S) 0 (pv 0)) (pint_ (κ := .M)))) (fun a => pe_callB call_len_seq (by rfl) B.len PySem.boot_len (pa_cons a pa_nil))) (pint_ (κ := .M))) (pone_ (pcmp_ (μ := .S) op_le (re_I0 fun _ _ _ => .bl _) (nomark _) (plen_ (μ := .M) (PEv.items (pix_ (pv_ (κ := .S) 0 (pv 0)) (pint_ (κ := .M)))) (fun a => pe_callB call_len_seq (by rfl) B.len PySem.boot_len (pa_cons a pa_nil))) (pint_ (κ := .M)))))))) nil_)
      (cons_ (if_ (ptcmp_ op_eq re_sc (nomark _) (pix_ (pv_ (κ := .M) 0 (pv 0)) (pint_ (κ := .M))) (pstr_ (κ := .M))) (one_ (ret_ (callS_ (κ := .S) (κs := [.S]) (ms := [.S]) rfl (fun a => cB.pe hr (by decide) (by rfl) a) (pa1_ (pix_ (pv_ (κ := .S) 0 (pv 0)) (pint_ (κ := .M))) pa0_)))) nil_)
      (one_ (ret_ (pbl_ (κ := .S))))))))))), ?_⟩
  simp only [Tv.wSeq, Tv.wNext, Tv.wIfS, Tv.wSet, Tv.wSetN, Tv.wRet, Tv.wRetO, Tv.wFrz, Tv.wApp, Tv.wOp, Tv.wTest, Tv.wAnd, Tv.wOr, Tv.wNot, Tv.wIf, Tv.wAndV, Tv.wOrV, Tv.wNotV, Tv.wCall, Tv.wCons, Tv.wNil, Tv.wV, Tv.wC, Tv.wTup, Tv.wLst, Tv.wSeqT, Tv.wO, Tv.wLen, Tv.wList, Tv.wTuple, Tv.wCat, Tv.wSl, Tv.wLst1, Tv.wTup1, Tv.wRng1, Tv.wRng2, Tv.wEnum, Tv.wLc, Tv.wYes, Tv.wCB, Tv.wipeE, Tv.gSet, Tv.gNilT, Tv.gConsT, Tv.gTupT, Tv.cellOf, Tv.env0, Tv.fEq, Tv.fIn, Tv.fI0, Tv.fI, Tv.fSc, Tv.fIsN, Tv.fIsB, Tv.fIx, Tv.fIxS, Tv.fCatT, Tv.fInt1, Tv.fMin2, List.zipWith_cons_cons, List.zipWith_nil_left, List.length_cons, List.length_nil, List.cons_append, List.nil_append, List.replicate, List.getElem?_cons_zero, List.getElem?_cons_succ, List.set_cons_zero, List.set_cons_succ, Tv.wRoom, Tv.wRoomSet, Tv.wIfDraw, Tv.wStar, Tv.wLen6, Tv.wFld, Tv.wExt, Tv.wTru, Tv.wChain, Tv.fIsi_e, Tv.fInF, Tv.seq_l, Tv.seq_t, Tv.lst_l, Tv.tup_t, Tv.scal_ii, Tv.scal_ss, Tv.scal_bb, Tv.same_ii, Tv.same_ss, Tv.same_bb, Tv.at_0, Tv.at_1, Tv.at_2, Tv.at_3, Tv.isN_non, Tv.isN_int, Tv.isN_str, Tv.isN_tup, Tv.isN_lst, Tv.isN_bl, Cell.val.injEq, T.op.injEq, forall_const, Tv.isi_non_tuple, Tv.isi_non_str, Tv.isi_non_int, Tv.isi_non_bool, Tv.isi_non_dict, Tv.isi_non_list, Tv.isi_bl_tuple, Tv.isi_bl_str, Tv.isi_bl_int, Tv.isi_bl_bool, Tv.isi_bl_dict, Tv.isi_bl_list, Tv.isi_int_tuple, Tv.isi_int_str, Tv.isi_int_int, Tv.isi_int_bool, Tv.isi_int_dict, Tv.isi_int_list, Tv.isi_str_tuple, Tv.isi_str_str, Tv.isi_str_int, Tv.isi_str_bool, Tv.isi_str_dict, Tv.isi_str_list, Tv.isi_tup_tuple, Tv.isi_tup_str, Tv.isi_tup_int, Tv.isi_tup_bool, Tv.isi_tup_dict, Tv.isi_tup_list, Tv.isi_lst_tuple, Tv.isi_lst_str, Tv.isi_lst_int, Tv.isi_lst_bool, Tv.isi_lst_dict, Tv.isi_lst_list, Tv.isi_dic_tuple, Tv.isi_dic_str, Tv.isi_dic_int, Tv.isi_dic_bool, Tv.isi_dic_dict, Tv.isi_dic_list, V.ty.injEq, Tv.wLc2, Tv.fAll, Tv.wDropX, Tv.wSetX, Tv.wRaise, Tv.wIsi2, Tv.wDead, Tv.wStr1, Tv.fInS, Tv.fAddS, Tv.fLenS, Tv.wDisp, Tv.fDIn, Tv.fDGet, Tv.wISet, ↓reduceIte, Bool.false_eq_true, decide_eq_true_eq, T.int.injEq, T.str.injEq, T.bl.injEq, T.lst.injEq, T.tup.injEq, exists_eq_left', exists_eq_left, exists_and_left, true_and, and_true, reduceCtorEq, ne_eq, not_false_eq_true, not_true_eq_false, forall_eq', forall_eq, Option.some.injEq, Option.isSome_some]
  refine ⟨fun e => e = [.val t, .val (dicS [("atmost", 4), ("missing", 2), ("must", 4), ("not", 2), ("and", 2), ("or", 2), ("case", 3)])] ∧ ∃ z us, t = .tup (.str z :: us) ∧ (szOf z).isSome = true, ?_, ?_⟩
  · simp only [Tv.wSeq, Tv.wNext, Tv.wIfS, Tv.wSet, Tv.wSetN, Tv.wRet, Tv.wRetO, Tv.wFrz, Tv.wApp, Tv.wOp, Tv.wTest, Tv.wAnd, Tv.wOr, Tv.wNot, Tv.wIf, Tv.wAndV, Tv.wOrV, Tv.wNotV, Tv.wCall, Tv.wCons, Tv.wNil, Tv.wV, Tv.wC, Tv.wTup, Tv.wLst, Tv.wSeqT, Tv.wO, Tv.wLen, Tv.wList, Tv.wTuple, Tv.wCat, Tv.wSl, Tv.wLst1, Tv.wTup1, Tv.wRng1, Tv.wRng2, Tv.wEnum, Tv.wFor, Tv.wLc, Tv.wYes, Tv.wCB, Tv.wipeE, Tv.gSet, Tv.gNilT, Tv.gConsT, Tv.gTupT, Tv.cellOf, Tv.env0, Tv.fEq, Tv.fIn, Tv.fI0, Tv.fI, Tv.fSc, Tv.fIsN, Tv.fIsB, Tv.fIx, Tv.fIxS, Tv.fCatT, Tv.fInt1, Tv.fMin2, List.zipWith_cons_cons, List.zipWith_nil_left, List.length_cons, List.length_nil, List.cons_append, List.nil_append, List.replicate, List.getElem?_cons_zero, List.getElem?_cons_succ, List.set_cons_zero, List.set_cons_succ, Tv.wRoom, Tv.wRoomSet, Tv.wIfDraw, Tv.wStar, Tv.wLen6, Tv.wFld, Tv.wExt, Tv.wTru, Tv.wChain, Tv.fIsi_e, Tv.fInF, Tv.seq_l, Tv.seq_t, Tv.lst_l, Tv.tup_t, Tv.scal_ii, Tv.scal_ss, Tv.scal_bb, Tv.same_ii, Tv.same_ss, Tv.same_bb, Tv.at_0, Tv.at_1, Tv.at_2, Tv.at_3, Tv.isN_non, Tv.isN_int, Tv.isN_str, Tv.isN_tup, Tv.isN_lst, Tv.isN_bl, Cell.val.injEq, T.op.injEq, forall_const, Tv.isi_non_tuple, Tv.isi_non_str, Tv.isi_non_int, Tv.isi_non_bool, Tv.isi_non_dict, Tv.isi_non_list, Tv.isi_bl_tuple, Tv.isi_bl_str, Tv.isi_bl_int, Tv.isi_bl_bool, Tv.isi_bl_dict, Tv.isi_bl_list, Tv.isi_int_tuple, Tv.isi_int_str, Tv.isi_int_int, Tv.isi_int_bool, Tv.isi_int_dict, Tv.isi_int_list, Tv.isi_str_tuple, Tv.isi_str_str, Tv.isi_str_int, Tv.isi_str_bool, Tv.isi_str_dict, Tv.isi_str_list, Tv.isi_tup_tuple, Tv.isi_tup_str, Tv.isi_tup_int, Tv.isi_tup_bool, Tv.isi_tup_dict, Tv.isi_tup_list, Tv.isi_lst_tuple, Tv.isi_lst_str, Tv.isi_lst_int, Tv.isi_lst_bool, Tv.isi_lst_dict, Tv.isi_lst_list, Tv.isi_dic_tuple, Tv.isi_dic_str, Tv.isi_dic_int, Tv.isi_dic_bool, Tv.isi_dic_dict, Tv.isi_dic_list, V.ty.injEq, Tv.wLc2, Tv.fAll, Tv.wDropX, Tv.wSetX, Tv.wRaise, Tv.wIsi2, Tv.wDead, Tv.wStr1, Tv.fInS, Tv.fAddS, Tv.fLenS, Tv.wDisp, Tv.fDIn, Tv.fDGet, Tv.wISet, ↓reduceIte, Bool.false_eq_true, decide_eq_true_eq, T.int.injEq, T.str.injEq, T.bl.injEq, T.lst.injEq, T.tup.injEq, exists_eq_left', exists_eq_left, exists_and_left, true_and, and_true, reduceCtorEq, ne_eq, not_false_eq_true, not_true_eq_false, forall_eq', forall_eq, Option.some.injEq, Option.isSome_some]
    have fb : (∀ z us, t = .tup (.str z :: us) → szOf z = none) → Pt (.bl false) := fun h => by
      rw [form_no fun z us e q => by rw [h z us e] at q; cases q] at k
      exact k
    refine ⟨_, isiU (dat_d dt), ?_⟩
    cases t with
    | tup us =>
      refine (if_neg Bool.false_ne_true).mpr ⟨rfl, fun ts e => ?_⟩
      cases e
      cases us with
      | nil => exact (if_pos rfl).mpr (fb fun z us e => by cases e)
      | cons u us =>
        have du := dat_i dt (t := u) (by simp)
        refine (if_neg (by simp only [List.length_cons]; omega)).mpr ⟨_, rfl, _, Tv.at_0, _, isiS (dat_d du), ?_⟩
        cases u with
        | str z =>
          refine (if_neg Bool.false_ne_true).mpr ⟨_, rfl, _, Tv.at_0, z, rfl, _, _, rfl, ?_⟩
          have hl := sz_lookup (z := z)
          cases hz : szOf z with
          | none =>
            refine (if_pos ?_).mpr (fb fun z' us' e => by cases e; exact hz)
            rw [hl, hz]
            rfl
          | some m =>
            refine (if_neg ?_).mpr ⟨z, us, rfl, by rw [hz]; rfl⟩
            rw [hl, hz]
            exact Bool.false_ne_true
        | obj C fs => cases du
        | op v => cases du
        | exc C d us => cases du
        | mk o C us => cases du
        | dic v => cases du
        | _ => exact (if_pos rfl).mpr (fb fun z us e => by cases e)
    | obj C fs => cases dt
    | op v => cases dt
    | exc C d us => cases dt
    | mk o C us => cases dt
    | dic v => cases dt
    | _ => exact (if_pos rfl).mpr (fb fun z us e => by cases e)
  · rintro _ ⟨rfl, z, us, rfl, hz⟩
    simp only [Tv.wSeq, Tv.wNext, Tv.wIfS, Tv.wSet, Tv.wSetN, Tv.wRet, Tv.wRetO, Tv.wFrz, Tv.wApp, Tv.wOp, Tv.wTest, Tv.wAnd, Tv.wOr, Tv.wNot, Tv.wIf, Tv.wAndV, Tv.wOrV, Tv.wNotV, Tv.wCall, Tv.wCons, Tv.wNil, Tv.wV, Tv.wC, Tv.wTup, Tv.wLst, Tv.wSeqT, Tv.wO, Tv.wLen, Tv.wList, Tv.wTuple, Tv.wCat, Tv.wSl, Tv.wLst1, Tv.wTup1, Tv.wRng1, Tv.wRng2, Tv.wEnum, Tv.wLc, Tv.wYes, Tv.wCB, Tv.wipeE, Tv.gSet, Tv.gNilT, Tv.gConsT, Tv.gTupT, Tv.cellOf, Tv.env0, Tv.fEq, Tv.fIn, Tv.fI0, Tv.fI, Tv.fSc, Tv.fIsN, Tv.fIsB, Tv.fIx, Tv.fIxS, Tv.fCatT, Tv.fInt1, Tv.fMin2, List.zipWith_cons_cons, List.zipWith_nil_left, List.length_cons, List.length_nil, List.cons_append, List.nil_append, List.replicate, List.getElem?_cons_zero, List.getElem?_cons_succ, List.set_cons_zero, List.set_cons_succ, Tv.wRoom, Tv.wRoomSet, Tv.wIfDraw, Tv.wStar, Tv.wLen6, Tv.wFld, Tv.wExt, Tv.wTru, Tv.wChain, Tv.fIsi_e, Tv.fInF, Tv.seq_l, Tv.seq_t, Tv.lst_l, Tv.tup_t, Tv.scal_ii, Tv.scal_ss, Tv.scal_bb, Tv.same_ii, Tv.same_ss, Tv.same_bb, Tv.at_0, Tv.at_1, Tv.at_2, Tv.at_3, Tv.isN_non, Tv.isN_int, Tv.isN_str, Tv.isN_tup, Tv.isN_lst, Tv.isN_bl, Cell.val.injEq, T.op.injEq, forall_const, Tv.isi_non_tuple, Tv.isi_non_str, Tv.isi_non_int, Tv.isi_non_bool, Tv.isi_non_dict, Tv.isi_non_list, Tv.isi_bl_tuple, Tv.isi_bl_str, Tv.isi_bl_int, Tv.isi_bl_bool, Tv.isi_bl_dict, Tv.isi_bl_list, Tv.isi_int_tuple, Tv.isi_int_str, Tv.isi_int_int, Tv.isi_int_bool, Tv.isi_int_dict, Tv.isi_int_list, Tv.isi_str_tuple, Tv.isi_str_str, Tv.isi_str_int, Tv.isi_str_bool, Tv.isi_str_dict, Tv.isi_str_list, Tv.isi_tup_tuple, Tv.isi_tup_str, Tv.isi_tup_int, Tv.isi_tup_bool, Tv.isi_tup_dict, Tv.isi_tup_list, Tv.isi_lst_tuple, Tv.isi_lst_str, Tv.isi_lst_int, Tv.isi_lst_bool, Tv.isi_lst_dict, Tv.isi_lst_list, Tv.isi_dic_tuple, Tv.isi_dic_str, Tv.isi_dic_int, Tv.isi_dic_bool, Tv.isi_dic_dict, Tv.isi_dic_list, V.ty.injEq, Tv.wLc2, Tv.fAll, Tv.wDropX, Tv.wSetX, Tv.wRaise, Tv.wIsi2, Tv.wDead, Tv.wStr1, Tv.fInS, Tv.fAddS, Tv.fLenS, Tv.wDisp, Tv.fDIn, Tv.fDGet, Tv.wISet, ↓reduceIte, Bool.false_eq_true, decide_eq_true_eq, T.int.injEq, T.str.injEq, T.bl.injEq, T.lst.injEq, T.tup.injEq, exists_eq_left', exists_eq_left, exists_and_left, true_and, and_true, reduceCtorEq, ne_eq, not_false_eq_true, not_true_eq_false, forall_eq', forall_eq, Option.some.injEq, Option.isSome_some]
    have hl := sz_lookup (z := z)
    obtain ⟨m, em⟩ := Option.isSome_iff_exists.mp hz
    rw [em] at hl
    have hl : ([("atmost", 4), ("missing", 2), ("must", 4), ("not", 2), ("and", 2), ("or", 2), ("case", 3)] : List (Str × Int)).lookup z = some (m : Int) := hl
    refine ⟨_, _, rfl, _, hl, ?_⟩
    have dd : ∀ x, x ∈ us → datR x = true := fun x h => dat_i dt (List.mem_cons_of_mem _ h)
    by_cases e : us.length + 1 = m
    · refine (if_neg ?_).mpr ?_
      · rw [decide_eq_true (by show ((us.length + 1 : Nat) : Int) = (m : Int); omega)]
        exact Bool.false_ne_true
      clear hl hz
      rcases sz_cases em with ⟨rfl, e2⟩ | ⟨rfl, e2⟩ | ⟨rfl, e2⟩ | ⟨rfl, e2⟩ | ⟨rfl, e2⟩ | ⟨rfl, e2⟩ | ⟨rfl, e2⟩
      · obtain ⟨a, b, c, rfl⟩ := three (by omega : us.length = 3)
        rw [formB_atmost] at k
        exact (if_pos (by decide +kernel)).mpr ⟨_, Tv.at_3, c, rfl, dat_d (dd _ (by simp)), k⟩
      · obtain ⟨a, rfl⟩ := one (by omega : us.length = 1)
        rw [formB_missing] at k
        refine (if_neg (by decide +kernel)).mpr <| (if_neg (by decide +kernel)).mpr ⟨fun e => e = [.val (.tup [.str "missing", a]), .val (dicS [("atmost", 4), ("missing", 2), ("must", 4), ("not", 2), ("and", 2), ("or", 2), ("case", 3)])], ?_, ?_⟩
        · simp only [Tv.wSeq, Tv.wNext, Tv.wIfS, Tv.wSet, Tv.wSetN, Tv.wRet, Tv.wRetO, Tv.wFrz, Tv.wApp, Tv.wOp, Tv.wTest, Tv.wAnd, Tv.wOr, Tv.wNot, Tv.wIf, Tv.wAndV, Tv.wOrV, Tv.wNotV, Tv.wCall, Tv.wCons, Tv.wNil, Tv.wV, Tv.wC, Tv.wTup, Tv.wLst, Tv.wSeqT, Tv.wO, Tv.wLen, Tv.wList, Tv.wTuple, Tv.wCat, Tv.wSl, Tv.wLst1, Tv.wTup1, Tv.wRng1, Tv.wRng2, Tv.wEnum, Tv.wFor, Tv.wLc, Tv.wYes, Tv.wCB, Tv.wipeE, Tv.gSet, Tv.gNilT, Tv.gConsT, Tv.gTupT, Tv.cellOf, Tv.env0, Tv.fEq, Tv.fIn, Tv.fI0, Tv.fI, Tv.fSc, Tv.fIsN, Tv.fIsB, Tv.fIx, Tv.fIxS, Tv.fCatT, Tv.fInt1, Tv.fMin2, List.zipWith_cons_cons, List.zipWith_nil_left, List.length_cons, List.length_nil, List.cons_append, List.nil_append, List.replicate, List.getElem?_cons_zero, List.getElem?_cons_succ, List.set_cons_zero, List.set_cons_succ, Tv.wRoom, Tv.wRoomSet, Tv.wIfDraw, Tv.wStar, Tv.wLen6, Tv.wFld, Tv.wExt, Tv.wTru, Tv.wChain, Tv.fIsi_e, Tv.fInF, Tv.seq_l, Tv.seq_t, Tv.lst_l, Tv.tup_t, Tv.scal_ii, Tv.scal_ss, Tv.scal_bb, Tv.same_ii, Tv.same_ss, Tv.same_bb, Tv.at_0, Tv.at_1, Tv.at_2, Tv.at_3, Tv.isN_non, Tv.isN_int, Tv.isN_str, Tv.isN_tup, Tv.isN_lst, Tv.isN_bl, Cell.val.injEq, T.op.injEq, forall_const, Tv.isi_non_tuple, Tv.isi_non_str, Tv.isi_non_int, Tv.isi_non_bool, Tv.isi_non_dict, Tv.isi_non_list, Tv.isi_bl_tuple, Tv.isi_bl_str, Tv.isi_bl_int, Tv.isi_bl_bool, Tv.isi_bl_dict, Tv.isi_bl_list, Tv.isi_int_tuple, Tv.isi_int_str, Tv.isi_int_int, Tv.isi_int_bool, Tv.isi_int_dict, Tv.isi_int_list, Tv.isi_str_tuple, Tv.isi_str_str, Tv.isi_str_int, Tv.isi_str_bool, Tv.isi_str_dict, Tv.isi_str_list, Tv.isi_tup_tuple, Tv.isi_tup_str, Tv.isi_tup_int, Tv.isi_tup_bool, Tv.isi_tup_dict, Tv.isi_tup_list, Tv.isi_lst_tuple, Tv.isi_lst_str, Tv.isi_lst_int, Tv.isi_lst_bool, Tv.isi_lst_dict, Tv.isi_lst_list, Tv.isi_dic_tuple, Tv.isi_dic_str, Tv.isi_dic_int, Tv.isi_dic_bool, Tv.isi_dic_dict, Tv.isi_dic_list, V.ty.injEq, Tv.wLc2, Tv.fAll, Tv.wDropX, Tv.wSetX, Tv.wRaise, Tv.wIsi2, Tv.wDead, Tv.wStr1, Tv.fInS, Tv.fAddS, Tv.fLenS, Tv.wDisp, Tv.fDIn, Tv.fDGet, Tv.wISet, ↓reduceIte, Bool.false_eq_true, decide_eq_true_eq, T.int.injEq, T.str.injEq, T.bl.injEq, T.lst.injEq, T.tup.injEq, exists_eq_left', exists_eq_left, exists_and_left, true_and, and_true, reduceCtorEq, ne_eq, not_false_eq_true, not_true_eq_false, forall_eq', forall_eq, Option.some.injEq, Option.isSome_some]
          exact (if_neg (by decide +kernel)).mpr <| (if_neg (by decide +kernel)).mpr <| trivial
        · rintro _ rfl
          simp only [Tv.wSeq, Tv.wNext, Tv.wIfS, Tv.wSet, Tv.wSetN, Tv.wRet, Tv.wRetO, Tv.wFrz, Tv.wApp, Tv.wOp, Tv.wTest, Tv.wAnd, Tv.wOr, Tv.wNot, Tv.wIf, Tv.wAndV, Tv.wOrV, Tv.wNotV, Tv.wCall, Tv.wCons, Tv.wNil, Tv.wV, Tv.wC, Tv.wTup, Tv.wLst, Tv.wSeqT, Tv.wO, Tv.wLen, Tv.wList, Tv.wTuple, Tv.wCat, Tv.wSl, Tv.wLst1, Tv.wTup1, Tv.wRng1, Tv.wRng2, Tv.wEnum, Tv.wFor, Tv.wLc, Tv.wYes, Tv.wCB, Tv.wipeE, Tv.gSet, Tv.gNilT, Tv.gConsT, Tv.gTupT, Tv.cellOf, Tv.env0, Tv.fEq, Tv.fIn, Tv.fI0, Tv.fI, Tv.fSc, Tv.fIsN, Tv.fIsB, Tv.fIx, Tv.fIxS, Tv.fCatT, Tv.fInt1, Tv.fMin2, List.zipWith_cons_cons, List.zipWith_nil_left, List.length_cons, List.length_nil, List.cons_append, List.nil_append, List.replicate, List.getElem?_cons_zero, List.getElem?_cons_succ, List.set_cons_zero, List.set_cons_succ, Tv.wRoom, Tv.wRoomSet, Tv.wIfDraw, Tv.wStar, Tv.wLen6, Tv.wFld, Tv.wExt, Tv.wTru, Tv.wChain, Tv.fIsi_e, Tv.fInF, Tv.seq_l, Tv.seq_t, Tv.lst_l, Tv.tup_t, Tv.scal_ii, Tv.scal_ss, Tv.scal_bb, Tv.same_ii, Tv.same_ss, Tv.same_bb, Tv.at_0, Tv.at_1, Tv.at_2, Tv.at_3, Tv.isN_non, Tv.isN_int, Tv.isN_str, Tv.isN_tup, Tv.isN_lst, Tv.isN_bl, Cell.val.injEq, T.op.injEq, forall_const, Tv.isi_non_tuple, Tv.isi_non_str, Tv.isi_non_int, Tv.isi_non_bool, Tv.isi_non_dict, Tv.isi_non_list, Tv.isi_bl_tuple, Tv.isi_bl_str, Tv.isi_bl_int, Tv.isi_bl_bool, Tv.isi_bl_dict, Tv.isi_bl_list, Tv.isi_int_tuple, Tv.isi_int_str, Tv.isi_int_int, Tv.isi_int_bool, Tv.isi_int_dict, Tv.isi_int_list, Tv.isi_str_tuple, Tv.isi_str_str, Tv.isi_str_int, Tv.isi_str_bool, Tv.isi_str_dict, Tv.isi_str_list, Tv.isi_tup_tuple, Tv.isi_tup_str, Tv.isi_tup_int, Tv.isi_tup_bool, Tv.isi_tup_dict, Tv.isi_tup_list, Tv.isi_lst_tuple, Tv.isi_lst_str, Tv.isi_lst_int, Tv.isi_lst_bool, Tv.isi_lst_dict, Tv.isi_lst_list, Tv.isi_dic_tuple, Tv.isi_dic_str, Tv.isi_dic_int, Tv.isi_dic_bool, Tv.isi_dic_dict, Tv.isi_dic_list, V.ty.injEq, Tv.wLc2, Tv.fAll, Tv.wDropX, Tv.wSetX, Tv.wRaise, Tv.wIsi2, Tv.wDead, Tv.wStr1, Tv.fInS, Tv.fAddS, Tv.fLenS, Tv.wDisp, Tv.fDIn, Tv.fDGet, Tv.wISet, ↓reduceIte, Bool.false_eq_true, decide_eq_true_eq, T.int.injEq, T.str.injEq, T.bl.injEq, T.lst.injEq, T.tup.injEq, exists_eq_left', exists_eq_left, exists_and_left, true_and, and_true, reduceCtorEq, ne_eq, not_false_eq_true, not_true_eq_false, forall_eq', forall_eq, Option.some.injEq, Option.isSome_some]
          exact (if_neg (by decide +kernel)).mpr <| k
      · obtain ⟨a, b, c, rfl⟩ := three (by omega : us.length = 3)
        rw [formB_must] at k
        refine (if_neg (by decide +kernel)).mpr <| (if_pos (by decide +kernel)).mpr ⟨fun e => e = [.val (.tup [.str "must", a, b, c]), .val (dicS [("atmost", 4), ("missing", 2), ("must", 4), ("not", 2), ("and", 2), ("or", 2), ("case", 3)])] ∧ nameB a = true ∧ ∃ x y n, b = .tup [x, y, n], ?_, ?_⟩
        · simp only [Tv.wSeq, Tv.wNext, Tv.wIfS, Tv.wSet, Tv.wSetN, Tv.wRet, Tv.wRetO, Tv.wFrz, Tv.wApp, Tv.wOp, Tv.wTest, Tv.wAnd, Tv.wOr, Tv.wNot, Tv.wIf, Tv.wAndV, Tv.wOrV, Tv.wNotV, Tv.wCall, Tv.wCons, Tv.wNil, Tv.wV, Tv.wC, Tv.wTup, Tv.wLst, Tv.wSeqT, Tv.wO, Tv.wLen, Tv.wList, Tv.wTuple, Tv.wCat, Tv.wSl, Tv.wLst1, Tv.wTup1, Tv.wRng1, Tv.wRng2, Tv.wEnum, Tv.wFor, Tv.wLc, Tv.wYes, Tv.wCB, Tv.wipeE, Tv.gSet, Tv.gNilT, Tv.gConsT, Tv.gTupT, Tv.cellOf, Tv.env0, Tv.fEq, Tv.fIn, Tv.fI0, Tv.fI, Tv.fSc, Tv.fIsN, Tv.fIsB, Tv.fIx, Tv.fIxS, Tv.fCatT, Tv.fInt1, Tv.fMin2, List.zipWith_cons_cons, List.zipWith_nil_left, List.length_cons, List.length_nil, List.cons_append, List.nil_append, List.replicate, List.getElem?_cons_zero, List.getElem?_cons_succ, List.set_cons_zero, List.set_cons_succ, Tv.wRoom, Tv.wRoomSet, Tv.wIfDraw, Tv.wStar, Tv.wLen6, Tv.wFld, Tv.wExt, Tv.wTru, Tv.wChain, Tv.fIsi_e, Tv.fInF, Tv.seq_l, Tv.seq_t, Tv.lst_l, Tv.tup_t, Tv.scal_ii, Tv.scal_ss, Tv.scal_bb, Tv.same_ii, Tv.same_ss, Tv.same_bb, Tv.at_0, Tv.at_1, Tv.at_2, Tv.at_3, Tv.isN_non, Tv.isN_int, Tv.isN_str, Tv.isN_tup, Tv.isN_lst, Tv.isN_bl, Cell.val.injEq, T.op.injEq, forall_const, Tv.isi_non_tuple, Tv.isi_non_str, Tv.isi_non_int, Tv.isi_non_bool, Tv.isi_non_dict, Tv.isi_non_list, Tv.isi_bl_tuple, Tv.isi_bl_str, Tv.isi_bl_int, Tv.isi_bl_bool, Tv.isi_bl_dict, Tv.isi_bl_list, Tv.isi_int_tuple, Tv.isi_int_str, Tv.isi_int_int, Tv.isi_int_bool, Tv.isi_int_dict, Tv.isi_int_list, Tv.isi_str_tuple, Tv.isi_str_str, Tv.isi_str_int, Tv.isi_str_bool, Tv.isi_str_dict, Tv.isi_str_list, Tv.isi_tup_tuple, Tv.isi_tup_str, Tv.isi_tup_int, Tv.isi_tup_bool, Tv.isi_tup_dict, Tv.isi_tup_list, Tv.isi_lst_tuple, Tv.isi_lst_str, Tv.isi_lst_int, Tv.isi_lst_bool, Tv.isi_lst_dict, Tv.isi_lst_list, Tv.isi_dic_tuple, Tv.isi_dic_str, Tv.isi_dic_int, Tv.isi_dic_bool, Tv.isi_dic_dict, Tv.isi_dic_list, V.ty.injEq, Tv.wLc2, Tv.fAll, Tv.wDropX, Tv.wSetX, Tv.wRaise, Tv.wIsi2, Tv.wDead, Tv.wStr1, Tv.fInS, Tv.fAddS, Tv.fLenS, Tv.wDisp, Tv.fDIn, Tv.fDGet, Tv.wISet, ↓reduceIte, Bool.false_eq_true, decide_eq_true_eq, T.int.injEq, T.str.injEq, T.bl.injEq, T.lst.injEq, T.tup.injEq, exists_eq_left', exists_eq_left, exists_and_left, true_and, and_true, reduceCtorEq, ne_eq, not_false_eq_true, not_true_eq_false, forall_eq', forall_eq, Option.some.injEq, Option.isSome_some]
          refine ⟨a, rfl, dat_0 (dd _ (by simp)), _, rfl, ?_⟩
          cases en : nameB a with
          | false =>
            rw [en] at k
            exact (if_pos rfl).mpr k
          | true =>
            rw [en] at k
            refine (if_neg Bool.false_ne_true).mpr ⟨_, isiU (dat_d (dd b (by simp))), ?_⟩
            have db := dd b (by simp)
            cases b with
            | tup vs =>
              refine (if_neg Bool.false_ne_true).mpr ⟨rfl, fun ts e => ?_⟩
              cases e
              match vs, k with
              | [], k => exact (if_pos rfl).mpr k
              | [_], k => exact (if_pos rfl).mpr k
              | [_, _], k => exact (if_pos rfl).mpr k
              | [x, y, n], k => exact (if_neg Bool.false_ne_true).mpr ⟨rfl, x, y, n, rfl⟩
              | _ :: _ :: _ :: _ :: _, k =>
                refine (if_pos ?_).mpr k
                rw [decide_eq_false (by simp only [List.length_cons]; omega)]
                rfl
            | obj C fs => cases db
            | op v => cases db
            | exc C d us => cases db
            | mk o C us => cases db
            | dic v => cases db
            | _ => exact (if_pos rfl).mpr k
        · rintro _ ⟨rfl, en, x, y, n, rfl⟩
          simp only [Tv.wSeq, Tv.wNext, Tv.wIfS, Tv.wSet, Tv.wSetN, Tv.wRet, Tv.wRetO, Tv.wFrz, Tv.wApp, Tv.wOp, Tv.wTest, Tv.wAnd, Tv.wOr, Tv.wNot, Tv.wIf, Tv.wAndV, Tv.wOrV, Tv.wNotV, Tv.wCall, Tv.wCons, Tv.wNil, Tv.wV, Tv.wC, Tv.wTup, Tv.wLst, Tv.wSeqT, Tv.wO, Tv.wLen, Tv.wList, Tv.wTuple, Tv.wCat, Tv.wSl, Tv.wLst1, Tv.wTup1, Tv.wRng1, Tv.wRng2, Tv.wEnum, Tv.wFor, Tv.wLc, Tv.wYes, Tv.wCB, Tv.wipeE, Tv.gSet, Tv.gNilT, Tv.gConsT, Tv.gTupT, Tv.cellOf, Tv.env0, Tv.fEq, Tv.fIn, Tv.fI0, Tv.fI, Tv.fSc, Tv.fIsN, Tv.fIsB, Tv.fIx, Tv.fIxS, Tv.fCatT, Tv.fInt1, Tv.fMin2, List.zipWith_cons_cons, List.zipWith_nil_left, List.length_cons, List.length_nil, List.cons_append, List.nil_append, List.replicate, List.getElem?_cons_zero, List.getElem?_cons_succ, List.set_cons_zero, List.set_cons_succ, Tv.wRoom, Tv.wRoomSet, Tv.wIfDraw, Tv.wStar, Tv.wLen6, Tv.wFld, Tv.wExt, Tv.wTru, Tv.wChain, Tv.fIsi_e, Tv.fInF, Tv.seq_l, Tv.seq_t, Tv.lst_l, Tv.tup_t, Tv.scal_ii, Tv.scal_ss, Tv.scal_bb, Tv.same_ii, Tv.same_ss, Tv.same_bb, Tv.at_0, Tv.at_1, Tv.at_2, Tv.at_3, Tv.isN_non, Tv.isN_int, Tv.isN_str, Tv.isN_tup, Tv.isN_lst, Tv.isN_bl, Cell.val.injEq, T.op.injEq, forall_const, Tv.isi_non_tuple, Tv.isi_non_str, Tv.isi_non_int, Tv.isi_non_bool, Tv.isi_non_dict, Tv.isi_non_list, Tv.isi_bl_tuple, Tv.isi_bl_str, Tv.isi_bl_int, Tv.isi_bl_bool, Tv.isi_bl_dict, Tv.isi_bl_list, Tv.isi_int_tuple, Tv.isi_int_str, Tv.isi_int_int, Tv.isi_int_bool, Tv.isi_int_dict, Tv.isi_int_list, Tv.isi_str_tuple, Tv.isi_str_str, Tv.isi_str_int, Tv.isi_str_bool, Tv.isi_str_dict, Tv.isi_str_list, Tv.isi_tup_tuple, Tv.isi_tup_str, Tv.isi_tup_int, Tv.isi_tup_bool, Tv.isi_tup_dict, Tv.isi_tup_list, Tv.isi_lst_tuple, Tv.isi_lst_str, Tv.isi_lst_int, Tv.isi_lst_bool, Tv.isi_lst_dict, Tv.isi_lst_list, Tv.isi_dic_tuple, Tv.isi_dic_str, Tv.isi_dic_int, Tv.isi_dic_bool, Tv.isi_dic_dict, Tv.isi_dic_list, V.ty.injEq, Tv.wLc2, Tv.fAll, Tv.wDropX, Tv.wSetX, Tv.wRaise, Tv.wIsi2, Tv.wDead, Tv.wStr1, Tv.fInS, Tv.fAddS, Tv.fLenS, Tv.wDisp, Tv.fDIn, Tv.fDGet, Tv.wISet, ↓reduceIte, Bool.false_eq_true, decide_eq_true_eq, T.int.injEq, T.str.injEq, T.bl.injEq, T.lst.injEq, T.tup.injEq, exists_eq_left', exists_eq_left, exists_and_left, true_and, and_true, reduceCtorEq, ne_eq, not_false_eq_true, not_true_eq_false, forall_eq', forall_eq, Option.some.injEq, Option.isSome_some]
          rw [en] at k
          exact ⟨n, rfl, dat_d (dat_i (dd (.tup [x, y, n]) (by simp)) (by simp)), k⟩
      · obtain ⟨a, rfl⟩ := one (by omega : us.length = 1)
        rw [formB_not] at k
        refine (if_neg (by decide +kernel)).mpr <| (if_neg (by decide +kernel)).mpr ⟨fun e => e = [.val (.tup [.str "not", a]), .val (dicS [("atmost", 4), ("missing", 2), ("must", 4), ("not", 2), ("and", 2), ("or", 2), ("case", 3)])], ?_, ?_⟩
        · simp only [Tv.wSeq, Tv.wNext, Tv.wIfS, Tv.wSet, Tv.wSetN, Tv.wRet, Tv.wRetO, Tv.wFrz, Tv.wApp, Tv.wOp, Tv.wTest, Tv.wAnd, Tv.wOr, Tv.wNot, Tv.wIf, Tv.wAndV, Tv.wOrV, Tv.wNotV, Tv.wCall, Tv.wCons, Tv.wNil, Tv.wV, Tv.wC, Tv.wTup, Tv.wLst, Tv.wSeqT, Tv.wO, Tv.wLen, Tv.wList, Tv.wTuple, Tv.wCat, Tv.wSl, Tv.wLst1, Tv.wTup1, Tv.wRng1, Tv.wRng2, Tv.wEnum, Tv.wFor, Tv.wLc, Tv.wYes, Tv.wCB, Tv.wipeE, Tv.gSet, Tv.gNilT, Tv.gConsT, Tv.gTupT, Tv.cellOf, Tv.env0, Tv.fEq, Tv.fIn, Tv.fI0, Tv.fI, Tv.fSc, Tv.fIsN, Tv.fIsB, Tv.fIx, Tv.fIxS, Tv.fCatT, Tv.fInt1, Tv.fMin2, List.zipWith_cons_cons, List.zipWith_nil_left, List.length_cons, List.length_nil, List.cons_append, List.nil_append, List.replicate, List.getElem?_cons_zero, List.getElem?_cons_succ, List.set_cons_zero, List.set_cons_succ, Tv.wRoom, Tv.wRoomSet, Tv.wIfDraw, Tv.wStar, Tv.wLen6, Tv.wFld, Tv.wExt, Tv.wTru, Tv.wChain, Tv.fIsi_e, Tv.fInF, Tv.seq_l, Tv.seq_t, Tv.lst_l, Tv.tup_t, Tv.scal_ii, Tv.scal_ss, Tv.scal_bb, Tv.same_ii, Tv.same_ss, Tv.same_bb, Tv.at_0, Tv.at_1, Tv.at_2, Tv.at_3, Tv.isN_non, Tv.isN_int, Tv.isN_str, Tv.isN_tup, Tv.isN_lst, Tv.isN_bl, Cell.val.injEq, T.op.injEq, forall_const, Tv.isi_non_tuple, Tv.isi_non_str, Tv.isi_non_int, Tv.isi_non_bool, Tv.isi_non_dict, Tv.isi_non_list, Tv.isi_bl_tuple, Tv.isi_bl_str, Tv.isi_bl_int, Tv.isi_bl_bool, Tv.isi_bl_dict, Tv.isi_bl_list, Tv.isi_int_tuple, Tv.isi_int_str, Tv.isi_int_int, Tv.isi_int_bool, Tv.isi_int_dict, Tv.isi_int_list, Tv.isi_str_tuple, Tv.isi_str_str, Tv.isi_str_int, Tv.isi_str_bool, Tv.isi_str_dict, Tv.isi_str_list, Tv.isi_tup_tuple, Tv.isi_tup_str, Tv.isi_tup_int, Tv.isi_tup_bool, Tv.isi_tup_dict, Tv.isi_tup_list, Tv.isi_lst_tuple, Tv.isi_lst_str, Tv.isi_lst_int, Tv.isi_lst_bool, Tv.isi_lst_dict, Tv.isi_lst_list, Tv.isi_dic_tuple, Tv.isi_dic_str, Tv.isi_dic_int, Tv.isi_dic_bool, Tv.isi_dic_dict, Tv.isi_dic_list, V.ty.injEq, Tv.wLc2, Tv.fAll, Tv.wDropX, Tv.wSetX, Tv.wRaise, Tv.wIsi2, Tv.wDead, Tv.wStr1, Tv.fInS, Tv.fAddS, Tv.fLenS, Tv.wDisp, Tv.fDIn, Tv.fDGet, Tv.wISet, ↓reduceIte, Bool.false_eq_true, decide_eq_true_eq, T.int.injEq, T.str.injEq, T.bl.injEq, T.lst.injEq, T.tup.injEq, exists_eq_left', exists_eq_left, exists_and_left, true_and, and_true, reduceCtorEq, ne_eq, not_false_eq_true, not_true_eq_false, forall_eq', forall_eq, Option.some.injEq, Option.isSome_some]
          exact (if_neg (by decide +kernel)).mpr <| (if_neg (by decide +kernel)).mpr <| trivial
        · rintro _ rfl
          simp only [Tv.wSeq, Tv.wNext, Tv.wIfS, Tv.wSet, Tv.wSetN, Tv.wRet, Tv.wRetO, Tv.wFrz, Tv.wApp, Tv.wOp, Tv.wTest, Tv.wAnd, Tv.wOr, Tv.wNot, Tv.wIf, Tv.wAndV, Tv.wOrV, Tv.wNotV, Tv.wCall, Tv.wCons, Tv.wNil, Tv.wV, Tv.wC, Tv.wTup, Tv.wLst, Tv.wSeqT, Tv.wO, Tv.wLen, Tv.wList, Tv.wTuple, Tv.wCat, Tv.wSl, Tv.wLst1, Tv.wTup1, Tv.wRng1, Tv.wRng2, Tv.wEnum, Tv.wFor, Tv.wLc, Tv.wYes, Tv.wCB, Tv.wipeE, Tv.gSet, Tv.gNilT, Tv.gConsT, Tv.gTupT, Tv.cellOf, Tv.env0, Tv.fEq, Tv.fIn, Tv.fI0, Tv.fI, Tv.fSc, Tv.fIsN, Tv.fIsB, Tv.fIx, Tv.fIxS, Tv.fCatT, Tv.fInt1, Tv.fMin2, List.zipWith_cons_cons, List.zipWith_nil_left, List.length_cons, List.length_nil, List.cons_append, List.nil_append, List.replicate, List.getElem?_cons_zero, List.getElem?_cons_succ, List.set_cons_zero, List.set_cons_succ, Tv.wRoom, Tv.wRoomSet, Tv.wIfDraw, Tv.wStar, Tv.wLen6, Tv.wFld, Tv.wExt, Tv.wTru, Tv.wChain, Tv.fIsi_e, Tv.fInF, Tv.seq_l, Tv.seq_t, Tv.lst_l, Tv.tup_t, Tv.scal_ii, Tv.scal_ss, Tv.scal_bb, Tv.same_ii, Tv.same_ss, Tv.same_bb, Tv.at_0, Tv.at_1, Tv.at_2, Tv.at_3, Tv.isN_non, Tv.isN_int, Tv.isN_str, Tv.isN_tup, Tv.isN_lst, Tv.isN_bl, Cell.val.injEq, T.op.injEq, forall_const, Tv.isi_non_tuple, Tv.isi_non_str, Tv.isi_non_int, Tv.isi_non_bool, Tv.isi_non_dict, Tv.isi_non_list, Tv.isi_bl_tuple, Tv.isi_bl_str, Tv.isi_bl_int, Tv.isi_bl_bool, Tv.isi_bl_dict, Tv.isi_bl_list, Tv.isi_int_tuple, Tv.isi_int_str, Tv.isi_int_int, Tv.isi_int_bool, Tv.isi_int_dict, Tv.isi_int_list, Tv.isi_str_tuple, Tv.isi_str_str, Tv.isi_str_int, Tv.isi_str_bool, Tv.isi_str_dict, Tv.isi_str_list, Tv.isi_tup_tuple, Tv.isi_tup_str, Tv.isi_tup_int, Tv.isi_tup_bool, Tv.isi_tup_dict, Tv.isi_tup_list, Tv.isi_lst_tuple, Tv.isi_lst_str, Tv.isi_lst_int, Tv.isi_lst_bool, Tv.isi_lst_dict, Tv.isi_lst_list, Tv.isi_dic_tuple, Tv.isi_dic_str, Tv.isi_dic_int, Tv.isi_dic_bool, Tv.isi_dic_dict, Tv.isi_dic_list, V.ty.injEq, Tv.wLc2, Tv.fAll, Tv.wDropX, Tv.wSetX, Tv.wRaise, Tv.wIsi2, Tv.wDead, Tv.wStr1, Tv.fInS, Tv.fAddS, Tv.fLenS, Tv.wDisp, Tv.fDIn, Tv.fDGet, Tv.wISet, ↓reduceIte, Bool.false_eq_true, decide_eq_true_eq, T.int.injEq, T.str.injEq, T.bl.injEq, T.lst.injEq, T.tup.injEq, exists_eq_left', exists_eq_left, exists_and_left, true_and, and_true, reduceCtorEq, ne_eq, not_false_eq_true, not_true_eq_false, forall_eq', forall_eq, Option.some.injEq, Option.isSome_some]
          exact (if_neg (by decide +kernel)).mpr <| k
      · obtain ⟨a, rfl⟩ := one (by omega : us.length = 1)
        rw [formB_join (.inl rfl)] at k
        refine (if_neg (by decide +kernel)).mpr <| (if_neg (by decide +kernel)).mpr ⟨fun e => False, ?_, fun _ h => h.elim⟩
        simp only [Tv.wSeq, Tv.wNext, Tv.wIfS, Tv.wSet, Tv.wSetN, Tv.wRet, Tv.wRetO, Tv.wFrz, Tv.wApp, Tv.wOp, Tv.wTest, Tv.wAnd, Tv.wOr, Tv.wNot, Tv.wIf, Tv.wAndV, Tv.wOrV, Tv.wNotV, Tv.wCall, Tv.wCons, Tv.wNil, Tv.wV, Tv.wC, Tv.wTup, Tv.wLst, Tv.wSeqT, Tv.wO, Tv.wLen, Tv.wList, Tv.wTuple, Tv.wCat, Tv.wSl, Tv.wLst1, Tv.wTup1, Tv.wRng1, Tv.wRng2, Tv.wEnum, Tv.wFor, Tv.wLc, Tv.wYes, Tv.wCB, Tv.wipeE, Tv.gSet, Tv.gNilT, Tv.gConsT, Tv.gTupT, Tv.cellOf, Tv.env0, Tv.fEq, Tv.fIn, Tv.fI0, Tv.fI, Tv.fSc, Tv.fIsN, Tv.fIsB, Tv.fIx, Tv.fIxS, Tv.fCatT, Tv.fInt1, Tv.fMin2, List.zipWith_cons_cons, List.zipWith_nil_left, List.length_cons, List.length_nil, List.cons_append, List.nil_append, List.replicate, List.getElem?_cons_zero, List.getElem?_cons_succ, List.set_cons_zero, List.set_cons_succ, Tv.wRoom, Tv.wRoomSet, Tv.wIfDraw, Tv.wStar, Tv.wLen6, Tv.wFld, Tv.wExt, Tv.wTru, Tv.wChain, Tv.fIsi_e, Tv.fInF, Tv.seq_l, Tv.seq_t, Tv.lst_l, Tv.tup_t, Tv.scal_ii, Tv.scal_ss, Tv.scal_bb, Tv.same_ii, Tv.same_ss, Tv.same_bb, Tv.at_0, Tv.at_1, Tv.at_2, Tv.at_3, Tv.isN_non, Tv.isN_int, Tv.isN_str, Tv.isN_tup, Tv.isN_lst, Tv.isN_bl, Cell.val.injEq, T.op.injEq, forall_const, Tv.isi_non_tuple, Tv.isi_non_str, Tv.isi_non_int, Tv.isi_non_bool, Tv.isi_non_dict, Tv.isi_non_list, Tv.isi_bl_tuple, Tv.isi_bl_str, Tv.isi_bl_int, Tv.isi_bl_bool, Tv.isi_bl_dict, Tv.isi_bl_list, Tv.isi_int_tuple, Tv.isi_int_str, Tv.isi_int_int, Tv.isi_int_bool, Tv.isi_int_dict, Tv.isi_int_list, Tv.isi_str_tuple, Tv.isi_str_str, Tv.isi_str_int, Tv.isi_str_bool, Tv.isi_str_dict, Tv.isi_str_list, Tv.isi_tup_tuple, Tv.isi_tup_str, Tv.isi_tup_int, Tv.isi_tup_bool, Tv.isi_tup_dict, Tv.isi_tup_list, Tv.isi_lst_tuple, Tv.isi_lst_str, Tv.isi_lst_int, Tv.isi_lst_bool, Tv.isi_lst_dict, Tv.isi_lst_list, Tv.isi_dic_tuple, Tv.isi_dic_str, Tv.isi_dic_int, Tv.isi_dic_bool, Tv.isi_dic_dict, Tv.isi_dic_list, V.ty.injEq, Tv.wLc2, Tv.fAll, Tv.wDropX, Tv.wSetX, Tv.wRaise, Tv.wIsi2, Tv.wDead, Tv.wStr1, Tv.fInS, Tv.fAddS, Tv.fLenS, Tv.wDisp, Tv.fDIn, Tv.fDGet, Tv.wISet, ↓reduceIte, Bool.false_eq_true, decide_eq_true_eq, T.int.injEq, T.str.injEq, T.bl.injEq, T.lst.injEq, T.tup.injEq, exists_eq_left', exists_eq_left, exists_and_left, true_and, and_true, reduceCtorEq, ne_eq, not_false_eq_true, not_true_eq_false, forall_eq', forall_eq, Option.some.injEq, Option.isSome_some]
        have da := dd a (by simp)
        refine ⟨_, isiU (dat_d da), ?_⟩
        cases a with
        | tup vs =>
          refine (if_pos rfl).mpr ⟨rfl, fun ts e => ?_⟩
          cases e
          have e : upToB 4 (.tup vs) = (decide (1 ≤ vs.length) && decide (vs.length ≤ 4)) := rfl
          rw [e] at k
          split
          · refine ⟨rfl, fun ts e => ?_⟩
            cases e
            rw [decide_eq_true (show 1 ≤ vs.length by omega), Bool.true_and] at k
            rw [show decide ((vs.length : Int) ≤ 4) = decide (vs.length ≤ 4) from decide_eq_decide.mpr (by omega)]
            exact k
          · rw [decide_eq_false (show ¬ 1 ≤ vs.length by omega), Bool.false_and] at k
            exact k
        | obj C fs => cases da
        | op v => cases da
        | exc C d us => cases da
        | mk o C us => cases da
        | dic v => cases da
        | _ => exact k
      · obtain ⟨a, rfl⟩ := one (by omega : us.length = 1)
        rw [formB_join (.inr rfl)] at k
        refine (if_neg (by decide +kernel)).mpr <| (if_neg (by decide +kernel)).mpr ⟨fun e => False, ?_, fun _ h => h.elim⟩
        simp only [Tv.wSeq, Tv.wNext, Tv.wIfS, Tv.wSet, Tv.wSetN, Tv.wRet, Tv.wRetO, Tv.wFrz, Tv.wApp, Tv.wOp, Tv.wTest, Tv.wAnd, Tv.wOr, Tv.wNot, Tv.wIf, Tv.wAndV, Tv.wOrV, Tv.wNotV, Tv.wCall, Tv.wCons, Tv.wNil, Tv.wV, Tv.wC, Tv.wTup, Tv.wLst, Tv.wSeqT, Tv.wO, Tv.wLen, Tv.wList, Tv.wTuple, Tv.wCat, Tv.wSl, Tv.wLst1, Tv.wTup1, Tv.wRng1, Tv.wRng2, Tv.wEnum, Tv.wFor, Tv.wLc, Tv.wYes, Tv.wCB, Tv.wipeE, Tv.gSet, Tv.gNilT, Tv.gConsT, Tv.gTupT, Tv.cellOf, Tv.env0, Tv.fEq, Tv.fIn, Tv.fI0, Tv.fI, Tv.fSc, Tv.fIsN, Tv.fIsB, Tv.fIx, Tv.fIxS, Tv.fCatT, Tv.fInt1, Tv.fMin2, List.zipWith_cons_cons, List.zipWith_nil_left, List.length_cons, List.length_nil, List.cons_append, List.nil_append, List.replicate, List.getElem?_cons_zero, List.getElem?_cons_succ, List.set_cons_zero, List.set_cons_succ, Tv.wRoom, Tv.wRoomSet, Tv.wIfDraw, Tv.wStar, Tv.wLen6, Tv.wFld, Tv.wExt, Tv.wTru, Tv.wChain, Tv.fIsi_e, Tv.fInF, Tv.seq_l, Tv.seq_t, Tv.lst_l, Tv.tup_t, Tv.scal_ii, Tv.scal_ss, Tv.scal_bb, Tv.same_ii, Tv.same_ss, Tv.same_bb, Tv.at_0, Tv.at_1, Tv.at_2, Tv.at_3, Tv.isN_non, Tv.isN_int, Tv.isN_str, Tv.isN_tup, Tv.isN_lst, Tv.isN_bl, Cell.val.injEq, T.op.injEq, forall_const, Tv.isi_non_tuple, Tv.isi_non_str, Tv.isi_non_int, Tv.isi_non_bool, Tv.isi_non_dict, Tv.isi_non_list, Tv.isi_bl_tuple, Tv.isi_bl_str, Tv.isi_bl_int, Tv.isi_bl_bool, Tv.isi_bl_dict, Tv.isi_bl_list, Tv.isi_int_tuple, Tv.isi_int_str, Tv.isi_int_int, Tv.isi_int_bool, Tv.isi_int_dict, Tv.isi_int_list, Tv.isi_str_tuple, Tv.isi_str_str, Tv.isi_str_int, Tv.isi_str_bool, Tv.isi_str_dict, Tv.isi_str_list, Tv.isi_tup_tuple, Tv.isi_tup_str, Tv.isi_tup_int, Tv.isi_tup_bool, Tv.isi_tup_dict, Tv.isi_tup_list, Tv.isi_lst_tuple, Tv.isi_lst_str, Tv.isi_lst_int, Tv.isi_lst_bool, Tv.isi_lst_dict, Tv.isi_lst_list, Tv.isi_dic_tuple, Tv.isi_dic_str, Tv.isi_dic_int, Tv.isi_dic_bool, Tv.isi_dic_dict, Tv.isi_dic_list, V.ty.injEq, Tv.wLc2, Tv.fAll, Tv.wDropX, Tv.wSetX, Tv.wRaise, Tv.wIsi2, Tv.wDead, Tv.wStr1, Tv.fInS, Tv.fAddS, Tv.fLenS, Tv.wDisp, Tv.fDIn, Tv.fDGet, Tv.wISet, ↓reduceIte, Bool.false_eq_true, decide_eq_true_eq, T.int.injEq, T.str.injEq, T.bl.injEq, T.lst.injEq, T.tup.injEq, exists_eq_left', exists_eq_left, exists_and_left, true_and, and_true, reduceCtorEq, ne_eq, not_false_eq_true, not_true_eq_false, forall_eq', forall_eq, Option.some.injEq, Option.isSome_some]
        have da := dd a (by simp)
        refine ⟨_, isiU (dat_d da), ?_⟩
        cases a with
        | tup vs =>
          refine (if_pos rfl).mpr ⟨rfl, fun ts e => ?_⟩
          cases e
          have e : upToB 4 (.tup vs) = (decide (1 ≤ vs.length) && decide (vs.length ≤ 4)) := rfl
          rw [e] at k
          split
          · refine ⟨rfl, fun ts e => ?_⟩
            cases e
            rw [decide_eq_true (show 1 ≤ vs.length by omega), Bool.true_and] at k
            rw [show decide ((vs.length : Int) ≤ 4) = decide (vs.length ≤ 4) from decide_eq_decide.mpr (by omega)]
            exact k
          · rw [decide_eq_false (show ¬ 1 ≤ vs.length by omega), Bool.false_and] at k
            exact k
        | obj C fs => cases da
        | op v => cases da
        | exc C d us => cases da
        | mk o C us => cases da
        | dic v => cases da
        | _ => exact k
      · obtain ⟨a, b, rfl⟩ := two (by omega : us.length = 2)
        rw [formB_case] at k
        refine (if_neg (by decide +kernel)).mpr <| (if_neg (by decide +kernel)).mpr ⟨fun e => e = [.val (.tup [.str "case", a, b]), .val (dicS [("atmost", 4), ("missing", 2), ("must", 4), ("not", 2), ("and", 2), ("or", 2), ("case", 3)])], ?_, ?_⟩
        · simp only [Tv.wSeq, Tv.wNext, Tv.wIfS, Tv.wSet, Tv.wSetN, Tv.wRet, Tv.wRetO, Tv.wFrz, Tv.wApp, Tv.wOp, Tv.wTest, Tv.wAnd, Tv.wOr, Tv.wNot, Tv.wIf, Tv.wAndV, Tv.wOrV, Tv.wNotV, Tv.wCall, Tv.wCons, Tv.wNil, Tv.wV, Tv.wC, Tv.wTup, Tv.wLst, Tv.wSeqT, Tv.wO, Tv.wLen, Tv.wList, Tv.wTuple, Tv.wCat, Tv.wSl, Tv.wLst1, Tv.wTup1, Tv.wRng1, Tv.wRng2, Tv.wEnum, Tv.wFor, Tv.wLc, Tv.wYes, Tv.wCB, Tv.wipeE, Tv.gSet, Tv.gNilT, Tv.gConsT, Tv.gTupT, Tv.cellOf, Tv.env0, Tv.fEq, Tv.fIn, Tv.fI0, Tv.fI, Tv.fSc, Tv.fIsN, Tv.fIsB, Tv.fIx, Tv.fIxS, Tv.fCatT, Tv.fInt1, Tv.fMin2, List.zipWith_cons_cons, List.zipWith_nil_left, List.length_cons, List.length_nil, List.cons_append, List.nil_append, List.replicate, List.getElem?_cons_zero, List.getElem?_cons_succ, List.set_cons_zero, List.set_cons_succ, Tv.wRoom, Tv.wRoomSet, Tv.wIfDraw, Tv.wStar, Tv.wLen6, Tv.wFld, Tv.wExt, Tv.wTru, Tv.wChain, Tv.fIsi_e, Tv.fInF, Tv.seq_l, Tv.seq_t, Tv.lst_l, Tv.tup_t, Tv.scal_ii, Tv.scal_ss, Tv.scal_bb, Tv.same_ii, Tv.same_ss, Tv.same_bb, Tv.at_0, Tv.at_1, Tv.at_2, Tv.at_3, Tv.isN_non, Tv.isN_int, Tv.isN_str, Tv.isN_tup, Tv.isN_lst, Tv.isN_bl, Cell.val.injEq, T.op.injEq, forall_const, Tv.isi_non_tuple, Tv.isi_non_str, Tv.isi_non_int, Tv.isi_non_bool, Tv.isi_non_dict, Tv.isi_non_list, Tv.isi_bl_tuple, Tv.isi_bl_str, Tv.isi_bl_int, Tv.isi_bl_bool, Tv.isi_bl_dict, Tv.isi_bl_list, Tv.isi_int_tuple, Tv.isi_int_str, Tv.isi_int_int, Tv.isi_int_bool, Tv.isi_int_dict, Tv.isi_int_list, Tv.isi_str_tuple, Tv.isi_str_str, Tv.isi_str_int, Tv.isi_str_bool, Tv.isi_str_dict, Tv.isi_str_list, Tv.isi_tup_tuple, Tv.isi_tup_str, Tv.isi_tup_int, Tv.isi_tup_bool, Tv.isi_tup_dict, Tv.isi_tup_list, Tv.isi_lst_tuple, Tv.isi_lst_str, Tv.isi_lst_int, Tv.isi_lst_bool, Tv.isi_lst_dict, Tv.isi_lst_list, Tv.isi_dic_tuple, Tv.isi_dic_str, Tv.isi_dic_int, Tv.isi_dic_bool, Tv.isi_dic_dict, Tv.isi_dic_list, V.ty.injEq, Tv.wLc2, Tv.fAll, Tv.wDropX, Tv.wSetX, Tv.wRaise, Tv.wIsi2, Tv.wDead, Tv.wStr1, Tv.fInS, Tv.fAddS, Tv.fLenS, Tv.wDisp, Tv.fDIn, Tv.fDGet, Tv.wISet, ↓reduceIte, Bool.false_eq_true, decide_eq_true_eq, T.int.injEq, T.str.injEq, T.bl.injEq, T.lst.injEq, T.tup.injEq, exists_eq_left', exists_eq_left, exists_and_left, true_and, and_true, reduceCtorEq, ne_eq, not_false_eq_true, not_true_eq_false, forall_eq', forall_eq, Option.some.injEq, Option.isSome_some]
          exact (if_neg (by decide +kernel)).mpr <| (if_neg (by decide +kernel)).mpr <| trivial
        · rintro _ rfl
          simp only [Tv.wSeq, Tv.wNext, Tv.wIfS, Tv.wSet, Tv.wSetN, Tv.wRet, Tv.wRetO, Tv.wFrz, Tv.wApp, Tv.wOp, Tv.wTest, Tv.wAnd, Tv.wOr, Tv.wNot, Tv.wIf, Tv.wAndV, Tv.wOrV, Tv.wNotV, Tv.wCall, Tv.wCons, Tv.wNil, Tv.wV, Tv.wC, Tv.wTup, Tv.wLst, Tv.wSeqT, Tv.wO, Tv.wLen, Tv.wList, Tv.wTuple, Tv.wCat, Tv.wSl, Tv.wLst1, Tv.wTup1, Tv.wRng1, Tv.wRng2, Tv.wEnum, Tv.wFor, Tv.wLc, Tv.wYes, Tv.wCB, Tv.wipeE, Tv.gSet, Tv.gNilT, Tv.gConsT, Tv.gTupT, Tv.cellOf, Tv.env0, Tv.fEq, Tv.fIn, Tv.fI0, Tv.fI, Tv.fSc, Tv.fIsN, Tv.fIsB, Tv.fIx, Tv.fIxS, Tv.fCatT, Tv.fInt1, Tv.fMin2, List.zipWith_cons_cons, List.zipWith_nil_left, List.length_cons, List.length_nil, List.cons_append, List.nil_append, List.replicate, List.getElem?_cons_zero, List.getElem?_cons_succ, List.set_cons_zero, List.set_cons_succ, Tv.wRoom, Tv.wRoomSet, Tv.wIfDraw, Tv.wStar, Tv.wLen6, Tv.wFld, Tv.wExt, Tv.wTru, Tv.wChain, Tv.fIsi_e, Tv.fInF, Tv.seq_l, Tv.seq_t, Tv.lst_l, Tv.tup_t, Tv.scal_ii, Tv.scal_ss, Tv.scal_bb, Tv.same_ii, Tv.same_ss, Tv.same_bb, Tv.at_0, Tv.at_1, Tv.at_2, Tv.at_3, Tv.isN_non, Tv.isN_int, Tv.isN_str, Tv.isN_tup, Tv.isN_lst, Tv.isN_bl, Cell.val.injEq, T.op.injEq, forall_const, Tv.isi_non_tuple, Tv.isi_non_str, Tv.isi_non_int, Tv.isi_non_bool, Tv.isi_non_dict, Tv.isi_non_list, Tv.isi_bl_tuple, Tv.isi_bl_str, Tv.isi_bl_int, Tv.isi_bl_bool, Tv.isi_bl_dict, Tv.isi_bl_list, Tv.isi_int_tuple, Tv.isi_int_str, Tv.isi_int_int, Tv.isi_int_bool, Tv.isi_int_dict, Tv.isi_int_list, Tv.isi_str_tuple, Tv.isi_str_str, Tv.isi_str_int, Tv.isi_str_bool, Tv.isi_str_dict, Tv.isi_str_list, Tv.isi_tup_tuple, Tv.isi_tup_str, Tv.isi_tup_int, Tv.isi_tup_bool, Tv.isi_tup_dict, Tv.isi_tup_list, Tv.isi_lst_tuple, Tv.isi_lst_str, Tv.isi_lst_int, Tv.isi_lst_bool, Tv.isi_lst_dict, Tv.isi_lst_list, Tv.isi_dic_tuple, Tv.isi_dic_str, Tv.isi_dic_int, Tv.isi_dic_bool, Tv.isi_dic_dict, Tv.isi_dic_list, V.ty.injEq, Tv.wLc2, Tv.fAll, Tv.wDropX, Tv.wSetX, Tv.wRaise, Tv.wIsi2, Tv.wDead, Tv.wStr1, Tv.fInS, Tv.fAddS, Tv.fLenS, Tv.wDisp, Tv.fDIn, Tv.fDGet, Tv.wISet, ↓reduceIte, Bool.false_eq_true, decide_eq_true_eq, T.int.injEq, T.str.injEq, T.bl.injEq, T.lst.injEq, T.tup.injEq, exists_eq_left', exists_eq_left, exists_and_left, true_and, and_true, reduceCtorEq, ne_eq, not_false_eq_true, not_true_eq_false, forall_eq', forall_eq, Option.some.injEq, Option.isSome_some]
          exact ⟨a, rfl, dd a (by simp), k⟩
    · refine (if_pos ?_).mpr ?_
      · rw [decide_eq_false (by show ¬ ((us.length + 1 : Nat) : Int) = (m : Int); omega)]
        rfl
      · rw [form_no fun z' us' q => by cases q; rw [em]; exact fun q => e (Option.some.inj q).symm] at k
        exact k
end
end Tl
/-! a part with another one put in at a place -/
namespace Tl
open PySem PySem.Spec PyProof.Rows L2 Lw Tv Nm
def mkB (b : T × T) : T := T.tup [b.1, b.2]
def setBs : List (T × T) → Nat → T → List (T × T)
  | [], _, _ => []
  | b :: bs, 0, u => (u, b.2) :: bs
  | b :: bs, 1, u => (b.1, u) :: bs
  | b :: bs, i + 2, u => b :: setBs bs i u
def pairT : T → T × T
  | .tup [a, b] => (a, b)
  | t => (t, t)
def setT : T → Nat → T → T
  | .tup [.str w, a, b, _], _, u => .tup [.str w, a, b, u]
  | .tup [.str w, a], i, u => if w == "not" then .tup [.str w, u] else .tup [.str w, .tup ((itemsT a).set i u)]
  | .tup [.str w, a, l], i, u => if i = 2 * (itemsT a).length then .tup [.str w, a, u] else .tup [.str w, .tup ((setBs ((itemsT a).map pairT) i u).map mkB), l]
  | t, _, _ => t
def repT : T → List Nat → T → T
  | _, [], u => u
  | t, i :: q, u => setT t i (repT ((innerT t)[i]?.getD .non) q u)
theorem setBs_len : ∀ {bs : List (T × T)} {i : Nat} {u : T}, (setBs bs i u).length = bs.length
  | [], _, _ => rfl
  | _ :: _, 0, _ => rfl
  | _ :: _, 1, _ => rfl
  | b :: bs, i + 2, u => congrArg Nat.succ (setBs_len (bs := bs) (i := i))
theorem setBs_flat : ∀ {bs : List (T × T)} {i : Nat} {u l : T}, i < 2 * bs.length → (setBs bs i u).flatMap (fun b => [b.1, b.2]) ++ [l] = ((bs.flatMap fun b => [b.1, b.2]) ++ [l]).set i u
  | [], _, _, _, h => absurd h (Nat.not_lt_zero _)
  | _ :: _, 0, _, _, _ => rfl
  | _ :: _, 1, _, _, _ => rfl
  | b :: bs, i + 2, u, l, h => by
    have h' : i < 2 * bs.length := by rw [List.length_cons] at h; omega
    show b.1 :: b.2 :: ((setBs bs i u).flatMap (fun b => [b.1, b.2]) ++ [l]) = b.1 :: b.2 :: (((bs.flatMap fun b => [b.1, b.2]) ++ [l]).set i u)
    rw [setBs_flat h']
theorem pair_map {bs : List (T × T)} : (bs.map mkB).map pairT = bs := by
  induction bs with
  | nil => rfl
  | cons b bs ih => rw [List.map_cons, List.map_cons, ih]; rfl
theorem set_last {xs : List T} {l u : T} : (xs ++ [l]).set xs.length u = xs ++ [u] := by
  induction xs with
  | nil => rfl
  | cons x xs ih => exact congrArg (List.cons x) ih
/-- what setT does, by the form -/
inductive SetF (i : Nat) (u : T) : T → T → Prop
  | must (c l p : T) : nameB c = true → tripleB l = true → i = 0 → SetF i u (.tup [.str "must", c, l, p]) (.tup [.str "must", c, l, u])
  | not (a : T) : i = 0 → SetF i u (.tup [.str "not", a]) (.tup [.str "not", u])
  | join (w : Str) (ps : List T) : (w = "and" ∨ w = "or") → 1 ≤ ps.length → ps.length ≤ 4 → i < ps.length → SetF i u (.tup [.str w, .tup ps]) (.tup [.str w, .tup (ps.set i u)])
  | last (bs : List (T × T)) (l : T) : 1 ≤ bs.length → bs.length ≤ 3 → i = 2 * bs.length → SetF i u (.tup [.str "case", .tup (bs.map mkB), l]) (.tup [.str "case", .tup (bs.map mkB), u])
  | case (bs : List (T × T)) (l : T) : 1 ≤ bs.length → bs.length ≤ 3 → i < 2 * bs.length → SetF i u (.tup [.str "case", .tup (bs.map mkB), l]) (.tup [.str "case", .tup ((setBs bs i u).map mkB), l])
theorem setF {t u : T} {i : Nat} (hf : formB t = true) (hi : i < (innerT t).length) : SetF i u t (setT t i u) := by
  have ff := form_of hf
  clear hf
  cases ff with
  | atmost a b n h => rw [inner_atmost] at hi; cases hi
  | missing a => rw [inner_missing] at hi; cases hi
  | must c l p h1 h2 =>
    rw [inner_must] at hi
    exact .must c l p h1 h2 (Nat.lt_one_iff.mp hi)
  | not a =>
    rw [inner_not] at hi
    have e : setT (.tup [.str "not", a]) i u = .tup [.str "not", u] := by
      show (if (("not" : Str) == "not") = true then T.tup [.str "not", u] else T.tup [.str "not", .tup ((itemsT a).set i u)]) = _
      rw [if_pos (by decide +kernel)]
    rw [e]
    exact .not a (Nat.lt_one_iff.mp hi)
  | join w ps hw h1 h2 =>
    rw [inner_join hw] at hi
    have e : setT (.tup [.str w, .tup ps]) i u = .tup [.str w, .tup (ps.set i u)] := by
      show (if (w == ("not" : Str)) = true then T.tup [.str w, u] else T.tup [.str w, .tup (ps.set i u)]) = _
      rw [if_neg (by rcases hw with rfl | rfl <;> decide +kernel)]
    rw [e]
    exact .join w ps hw h1 h2 hi
  | case bs l h1 h2 =>
    rw [inner_case, List.length_append, len_flat] at hi
    have hi : i < 2 * bs.length + 1 := hi
    show SetF i u (.tup [.str "case", .tup (bs.map mkB), l]) (if i = 2 * (bs.map mkB).length then T.tup [.str "case", .tup (bs.map mkB), u] else T.tup [.str "case", .tup ((setBs ((bs.map mkB).map pairT) i u).map mkB), l])
    rw [List.length_map]
    by_cases e : i = 2 * bs.length
    · rw [if_pos e]
      exact .last bs l h1 h2 e
    · rw [if_neg e]
      show SetF i u (.tup [.str "case", .tup (bs.map mkB), l]) (.tup [.str "case", .tup ((setBs ((bs.map mkB).map pairT) i u).map mkB), l])
      rw [pair_map]
      exact .case bs l h1 h2 (by omega)
theorem SetF.form {t t' u : T} {i : Nat} (h : SetF i u t t') : formB t' = true := by
  cases h with
  | must c l p h1 h2 => exact (Form.must c l u h1 h2).b
  | not a => exact (Form.not u).b
  | join w ps hw h1 h2 h3 => exact (Form.join w (ps.set i u) hw (by rw [List.length_set]; exact h1) (by rw [List.length_set]; exact h2)).b
  | last bs l h1 h2 => exact (Form.case bs u h1 h2).b
  | case bs l h1 h2 => exact (Form.case (setBs bs i u) l (by rw [setBs_len]; exact h1) (by rw [setBs_len]; exact h2)).b
theorem inner_case' {bs : List (T × T)} {l : T} : innerT (.tup [.str "case", .tup (bs.map mkB), l]) = (bs.flatMap fun b => [b.1, b.2]) ++ [l] := inner_case
theorem SetF.inner {t t' u : T} {i : Nat} (h : SetF i u t t') : innerT t' = (innerT t).set i u := by
  cases h with
  | must c l p h1 h2 e => rw [inner_must, inner_must, e]; rfl
  | not a e => rw [inner_not, inner_not, e]; rfl
  | join w ps hw h1 h2 h3 => rw [inner_join hw, inner_join hw]
  | last bs l h1 h2 e => rw [inner_case', inner_case', e, ← len_flat, set_last]
  | case bs l h1 h2 e => rw [inner_case', inner_case', setBs_flat e]
theorem Walk.rep : ∀ {q : List Nat} {t u : T} {q2 : List Nat}, Walk t q → Walk t q2 → ¬ q <+: q2 → Walk (repT t q u) q2
  | [], _, _, _, _, _, h => (h List.nil_prefix).elim
  | _ :: _, _, _, [], _, _, _ => trivial
  | i :: q, t, u, j :: q2, w1, w2, h => by
    obtain ⟨f1, v, hv, wv⟩ := w1
    obtain ⟨_, x, hx, wx⟩ := w2
    have hl := (List.getElem?_eq_some_iff.mp hv).1
    have sf := setF (u := repT v q u) f1 hl
    have e : repT t (i :: q) u = setT t i (repT v q u) := by
      show setT t i (repT ((innerT t)[i]?.getD .non) q u) = _
      rw [hv]
      rfl
    rw [e]
    refine ⟨sf.form, ?_⟩
    rw [sf.inner]
    by_cases ij : i = j
    · subst ij
      rw [hv] at hx
      cases hx
      exact ⟨_, List.getElem?_set_self hl, Walk.rep wv wx fun z => h (List.cons_prefix_cons.mpr ⟨rfl, z⟩)⟩
    · exact ⟨x, by rw [List.getElem?_set_ne ij]; exact hx, wx⟩
theorem dat_mk {ts : List T} (h : ∀ t ∈ ts, datR t = true) (l : ts.length ≤ 1000) : datR (.tup ts) = true := Bool.and_eq_true_iff.mpr ⟨datRs_all.mpr h, decide_eq_true l⟩
theorem setBs_all {p : T → Prop} {u : T} (hu : p u) : ∀ {bs : List (T × T)} {i : Nat}, (∀ b ∈ bs, p b.1 ∧ p b.2) → ∀ b ∈ setBs bs i u, p b.1 ∧ p b.2
  | [], _, _, b, m => by cases m
  | c :: bs, 0, h, b, m => by
    rcases List.mem_cons.mp (show b ∈ (u, c.2) :: bs from m) with rfl | m
    · exact ⟨hu, (h c List.mem_cons_self).2⟩
    · exact h b (List.mem_cons_of_mem _ m)
  | c :: bs, 1, h, b, m => by
    rcases List.mem_cons.mp (show b ∈ (c.1, u) :: bs from m) with rfl | m
    · exact ⟨(h c List.mem_cons_self).1, hu⟩
    · exact h b (List.mem_cons_of_mem _ m)
  | c :: bs, i + 2, h, b, m => by
    rcases List.mem_cons.mp (show b ∈ c :: setBs bs i u from m) with rfl | m
    · exact h b List.mem_cons_self
    · exact setBs_all hu (fun b m => h b (List.mem_cons_of_mem _ m)) b m
theorem SetF.dat {t t' u : T} {i : Nat} (h : SetF i u t t') (hd : datR t = true) (hu : datR u = true) : datR t' = true := by
  cases h with
  | must c l p h1 h2 =>
    refine dat_mk (fun x m => ?_) (by simp)
    simp only [List.mem_cons, List.not_mem_nil, or_false] at m
    rcases m with rfl | rfl | rfl | rfl
    · exact dat_i hd (by simp)
    · exact dat_i hd (by simp)
    · exact dat_i hd (by simp)
    · exact hu
  | not a =>
    refine dat_mk (fun x m => ?_) (by simp)
    simp only [List.mem_cons, List.not_mem_nil, or_false] at m
    rcases m with rfl | rfl
    · exact dat_i hd (by simp)
    · exact hu
  | join w ps hw h1 h2 h3 =>
    have dp := dat_i hd (t := .tup ps) (by simp)
    refine dat_mk (fun x m => ?_) (by simp)
    simp only [List.mem_cons, List.not_mem_nil, or_false] at m
    rcases m with rfl | rfl
    · exact dat_i hd (by simp)
    · refine dat_mk (fun x m => ?_) (by rw [List.length_set]; exact dat_n dp)
      rcases List.mem_or_eq_of_mem_set m with m | rfl
      · exact dat_i dp m
      · exact hu
  | last bs l h1 h2 =>
    refine dat_mk (fun x m => ?_) (by simp)
    simp only [List.mem_cons, List.not_mem_nil, or_false] at m
    rcases m with rfl | rfl | rfl
    · exact dat_i hd (by simp)
    · exact dat_i hd (by simp)
    · exact hu
  | case bs l h1 h2 =>
    have db := dat_i hd (t := .tup (bs.map mkB)) (by simp)
    refine dat_mk (fun x m => ?_) (by simp)
    simp only [List.mem_cons, List.not_mem_nil, or_false] at m
    rcases m with rfl | rfl | rfl
    · exact dat_i hd (by simp)
    · refine dat_mk (fun x m => ?_) (by rw [List.length_map, setBs_len]; omega)
      obtain ⟨b, mb, rfl⟩ := List.mem_map.mp m
      have hb := setBs_all (p := fun t => datR t = true) hu (bs := bs) (i := i) (fun b m => by
        have := dat_i db (List.mem_map.mpr ⟨b, m, rfl⟩)
        exact ⟨dat_i this (by simp), dat_i this (by simp)⟩) b mb
      refine dat_mk (fun x m => ?_) (by simp)
      simp only [List.mem_cons, List.not_mem_nil, or_false] at m
      rcases m with rfl | rfl
      · exact hb.1
      · exact hb.2
    · exact dat_i hd (by simp)
theorem dep_set {u : T} : ∀ {ps : List T} {i : Nat}, depTs (ps.set i u) ≤ max (depTs ps) (depT u)
  | [], _ => Nat.zero_le _
  | p :: ps, 0 => by
    show max (depT u) (depTs ps) ≤ max (max (depT p) (depTs ps)) (depT u)
    omega
  | p :: ps, i + 1 => by
    have := dep_set (ps := ps) (i := i) (u := u)
    show max (depT p) (depTs (ps.set i u)) ≤ max (max (depT p) (depTs ps)) (depT u)
    omega
theorem dep_setB {u : T} : ∀ {bs : List (T × T)} {i : Nat}, depTs ((setBs bs i u).map mkB) ≤ max (depTs (bs.map mkB)) (depT u + 1)
  | [], _ => Nat.zero_le _
  | b :: bs, 0 => by
    show max (max (depT u) (max (depT b.2) 0) + 1) (depTs (bs.map mkB)) ≤ max (max (max (depT b.1) (max (depT b.2) 0) + 1) (depTs (bs.map mkB))) (depT u + 1)
    omega
  | b :: bs, 1 => by
    show max (max (depT b.1) (max (depT u) 0) + 1) (depTs (bs.map mkB)) ≤ max (max (max (depT b.1) (max (depT b.2) 0) + 1) (depTs (bs.map mkB))) (depT u + 1)
    omega
  | b :: bs, i + 2 => by
    have := dep_setB (bs := bs) (i := i) (u := u)
    show max (depT (mkB b)) (depTs ((setBs bs i u).map mkB)) ≤ max (max (depT (mkB b)) (depTs (bs.map mkB))) (depT u + 1)
    omega
theorem dep_bs {bs : List (T × T)} {v : T} (m : v ∈ bs.flatMap fun b => [b.1, b.2]) : depT v + 1 ≤ depTs (bs.map mkB) := by
  obtain ⟨b, hb, m⟩ := List.mem_flatMap.mp m
  have h1 := dep_le (List.mem_map.mpr ⟨b, hb, rfl⟩ : mkB b ∈ bs.map mkB)
  have h2 : depT (mkB b) = max (depT b.1) (max (depT b.2) 0) + 1 := rfl
  simp only [List.mem_cons, List.not_mem_nil, or_false] at m
  rcases m with rfl | rfl <;> omega
theorem SetF.dep {t t' u v : T} {i : Nat} (h : SetF i u t t') (hv : (innerT t)[i]? = some v) : ∃ k, k ≤ 3 ∧ k + depT v ≤ depT t ∧ depT t' ≤ max (depT t) (k + depT u) := by
  have mv := List.mem_of_getElem? hv
  cases h with
  | must c l p h1 h2 e =>
    rw [inner_must] at mv
    rw [List.mem_singleton.mp mv]
    refine ⟨1, by decide, ?_, ?_⟩ <;> simp only [depT, depTs] <;> omega
  | not a e =>
    rw [inner_not] at mv
    rw [List.mem_singleton.mp mv]
    refine ⟨1, by decide, ?_, ?_⟩ <;> simp only [depT, depTs] <;> omega
  | join w ps hw h1 h2 h3 =>
    rw [inner_join hw] at mv
    have h4 := dep_le mv
    have := dep_set (ps := ps) (i := i) (u := u)
    refine ⟨2, by decide, ?_, ?_⟩ <;> simp only [depT, depTs] <;> omega
  | last bs l h1 h2 e =>
    rw [inner_case', e, ← len_flat] at hv
    have ev : v = l := by
      rw [List.getElem?_append_right (Nat.le_refl _), Nat.sub_self] at hv
      exact (Option.some.inj hv).symm
    subst ev
    refine ⟨1, by decide, ?_, ?_⟩ <;> simp only [depT, depTs] <;> omega
  | case bs l h1 h2 e =>
    rw [inner_case', List.getElem?_append_left (by rw [len_flat]; exact e)] at hv
    have h4 := dep_bs (List.mem_of_getElem? hv)
    have := dep_setB (bs := bs) (i := i) (u := u)
    refine ⟨3, by decide, ?_, ?_⟩ <;> simp only [depT, depTs] <;> omega
theorem dep_inner {t v : T} (hf : formB t = true) (m : v ∈ innerT t) : depT v < depT t := by
  have ff := form_of hf
  clear hf
  cases ff with
  | atmost a b n h => rw [inner_atmost] at m; cases m
  | missing a => rw [inner_missing] at m; cases m
  | must c l p h1 h2 =>
    rw [inner_must] at m
    rw [List.mem_singleton.mp m]
    simp only [depT, depTs]
    omega
  | not a =>
    rw [inner_not] at m
    rw [List.mem_singleton.mp m]
    simp only [depT, depTs]
    omega
  | join w ps hw h1 h2 =>
    rw [inner_join hw] at m
    have := dep_le m
    simp only [depT, depTs]
    omega
  | case bs l h1 h2 =>
    rw [inner_case] at m
    show depT v < depT (.tup [.str "case", .tup (bs.map mkB), l])
    rcases List.mem_append.mp m with m | m
    · have := dep_bs m
      simp only [depT, depTs]
      omega
    · rw [List.mem_singleton.mp m]
      simp only [depT, depTs]
      omega
theorem deep_of : ∀ {n : Nat} {t : T}, depT t < n → deepT n t
  | 0, _, h => absurd h (Nat.not_lt_zero _)
  | n + 1, t, h => fun hf u hu => deep_of (Nat.lt_of_lt_of_le (dep_inner hf hu) (Nat.le_of_lt_succ h))
theorem rep_ok : ∀ {q : List Nat} {t u : T}, Walk t q → datR t = true → datR u = true → datR (repT t q u) = true ∧ depT (repT t q u) ≤ max (depT t) (depT u + 3 * q.length)
  | [], _, u, _, _, hu => ⟨hu, by show depT u ≤ _; omega⟩
  | i :: q, t, u, ⟨f1, v, hv, wv⟩, hd, hu => by
    have hl := (List.getElem?_eq_some_iff.mp hv).1
    have mv := List.mem_of_getElem? hv
    have e : repT t (i :: q) u = setT t i (repT v q u) := by
      show setT t i (repT ((innerT t)[i]?.getD .non) q u) = _
      rw [hv]
      rfl
    have sf := setF (u := repT v q u) f1 hl
    obtain ⟨h1, h2⟩ := rep_ok wv (dat_inner f1 hd mv) hu
    obtain ⟨k, k3, h4, h3⟩ := sf.dep hv
    rw [e]
    refine ⟨sf.dat hd h1, ?_⟩
    rw [List.length_cons]
    omega
end Tl
/-! a part put in, by the law -/
namespace Tl
open PySem PySem.Spec PyProof.Rows L2 Lw Tv Nm
def cRepl (n : Nat) (_ : Rs) (ts : List T) (Pt : T → Prop) : Prop := ∃ (t : T) (q : List Nat) (u : T), ts = [t, .tup (natsT q), u] ∧ q.length < n ∧ q.length ≤ 1000 ∧ Walk t q ∧ Pt (repT t q u)
/-- what the case branch must do: put what the inner call hands back into one of the branches -/
def wRTail (n : Nat) (R : Rs) : WS := fun W env => ∃ (bs : List (T × T)) (l u v : T) (i : Nat) (q : List Nat), env = [.val (.tup [.str "case", .tup (bs.map mkB), l]), .val (.tup (natsT (i :: q))), .val u, .val (.int (i : Int)), .un, .un, .un, .un, .un] ∧ 1 ≤ bs.length ∧ bs.length ≤ 3 ∧ i < 2 * bs.length ∧ q.length ≤ 1000 ∧
  ((bs.flatMap fun b => [b.1, b.2]) ++ [l])[i]? = some v ∧ cRepl n R [v, .tup (natsT q), u] fun x => W.rt (.tup [.str "case", .tup ((setBs bs i x).map mkB), l])
section
variable {P : Program} {w : World} {K : PySem.W.Frag} {mg : Str → Option Value} {base : Heap}
abbrev CRpl (P : Program) (w : World) (K : PySem.W.Frag) (mg : Str → Option Value) (base : Heap) (n : Nat) : Prop := Cl P w K mg base (1 + n) "_law_replaced" (spT K [.S, .S, .S] false (cRepl n))

theorem scLRepl : FnScope ["_law_part_here", "_law_place", "_law_new", "_law_at", "_law_inner_here", "_law_branch", "_law_branches", "_law_pair", "_law_side"] ["_law_part_here", "_law_place", "_law_new"] (defScope sLRepl) := ⟨rfl, rfl, rfl, by decide +kernel, rfl, by decide +kernel, by decide +kernel⟩
theorem okLRepl {f : Addr} {fd : FuncData} (F : Fun K "_law_replaced" "_law_replaced" sLRepl f fd) (B : Bt mg) {n : Nat} (cK : CRpl P w K mg base n)
    (hT : ∀ (cdv : Value) (A : Around) (outer : List Env) (s : Shared) (H : Hp) (E : XK) (R : Rs), Room (1 + n) (A.deeper (envOfC "_law_replaced" (defScope sLRepl) s.heap.objs.size f cdv)) → PSsv false R noW (cxOf CX0 P w K mg base ["_law_part_here", "_law_place", "_law_new", "_law_at", "_law_inner_here", "_law_branch", "_law_branches", "_law_pair", "_law_side"] "_law_replaced" (defScope sLRepl) f cdv A outer s H E).nox ((defBody sLRepl).drop 6) (wRTail n R)) : FnOk P w K mg base CX0 (1 + n + 1) f fd ["_law_part_here", "_law_place", "_law_new"] (spT K [.S, .S, .S] false (cRepl (n + 1))) := by
  refine okv2 F scLRepl rfl (by decide) fun cdv A outer s H E R ts Pt hr hc => ?_
  obtain ⟨t, q, u, rfl, hq, hz, wk, k⟩ := hc
  have hT := hT cdv A outer s H E R hr
  refine ⟨_, (cons_ (if_ (ptcmp_ op_eq re_sc (nomark _) (plen_ (μ := .M) (PEv.items (pv_ (κ := .S) 1 (pv 1))) (fun a => pe_callB call_len_seq (by rfl) B.len PySem.boot_len (pa_cons a pa_nil))) (pint_ (κ := .M))) (one_ (ret_ (pv_ (κ := .S) 2 (pv 2)))) nil_)
      (cons_ (set_ (κ := .S) 3 (fun a => ps_set (i := 3) scLRepl.nd rfl (Or.inl rfl) a) (pix_ (pv_ (κ := .S) 1 (pv 1)) (pint_ (κ := .M))))
      (cons_ (if_ (ptcmp_ op_eq re_sc (nomark _) (pix_ (pv_ (κ := .M) 0 (pv 0)) (pint_ (κ := .M))) (pstr_ (κ := .M))) (one_ (ret_ (ptup_ (κ := .S) (pa1_ (pstr_ (κ := .S)) (pa1_ (callS_ (κ := .S) (κs := [.S, .S, .S]) (ms := [.S, .S, .S]) rfl (fun a => cK.pe hr (by omega) (by rfl) a) (pa1_ (pix_ (pv_ (κ := .S) 0 (pv 0)) (pint_ (κ := .M))) (pa1_ (pslT_ (μ := .S) (pv_ (κ := .S) 1 (pv 1)) (po1_ (pint_ (κ := .M))) po0_ (fun a b c => pe_slice sl_tupA a b c)) (pa1_ (pv_ (κ := .S) 2 (pv 2)) pa0_)))) pa0_)) rfl))) nil_)
      (cons_ (if_ (ptcmp_ op_eq re_sc (nomark _) (pix_ (pv_ (κ := .M) 0 (pv 0)) (pint_ (κ := .M))) (pstr_ (κ := .M))) (one_ (ret_ (ptup_ (κ := .S) (pa1_ (pstr_ (κ := .S)) (pa1_ (pix_ (pv_ (κ := .S) 0 (pv 0)) (pint_ (κ := .M))) (pa1_ (pix_ (pv_ (κ := .S) 0 (pv 0)) (pint_ (κ := .M))) (pa1_ (callS_ (κ := .S) (κs := [.S, .S, .S]) (ms := [.S, .S, .S]) rfl (fun a => cK.pe hr (by omega) (by rfl) a) (pa1_ (pix_ (pv_ (κ := .S) 0 (pv 0)) (pint_ (κ := .M))) (pa1_ (pslT_ (μ := .S) (pv_ (κ := .S) 1 (pv 1)) (po1_ (pint_ (κ := .M))) po0_ (fun a b c => pe_slice sl_tupA a b c)) (pa1_ (pv_ (κ := .S) 2 (pv 2)) pa0_)))) pa0_)))) rfl))) nil_)
      (cut_ (if_ (PWv.pt (por_ (ptcmp_ op_eq re_sc (nomark _) (pix_ (pv_ (κ := .M) 0 (pv 0)) (pint_ (κ := .M))) (pstr_ (κ := .M))) (por1_ (ptcmp_ op_eq re_sc (nomark _) (pix_ (pv_ (κ := .M) 0 (pv 0)) (pint_ (κ := .M))) (pstr_ (κ := .M)))))) (cons_ (setN_ 4 (fun a => ps_set (i := 4) scLRepl.nd rfl (Or.inl rfl) a) (plist_ (PEv.items (pix_ (pv_ (κ := .S) 0 (pv 0)) (pint_ (κ := .M)))) (fun a => pe_callTy call_list_of (by rfl) B.list (by decide +kernel) (pa_cons a pa_nil))))
      (cons_ (iset_ 4 (pv 4) (callS_ (κ := .S) (κs := [.S, .S, .S]) (ms := [.S, .S, .S]) rfl (fun a => cK.pe hr (by omega) (by rfl) a) (pa1_ (PEv.up (μ := .S) (pixi_ (pio_ 4 (pv 4)) (pv_ (κ := .M) 3 (pv 3))) (by decide)) (pa1_ (pslT_ (μ := .S) (pv_ (κ := .S) 1 (pv 1)) (po1_ (pint_ (κ := .M))) po0_ (fun a b c => pe_slice sl_tupA a b c)) (pa1_ (pv_ (κ := .S) 2 (pv 2)) pa0_)))) (pv_ (κ := .M) 3 (pv 3)) (fun a b c => ps_asg b (pg_sub a c set_list)))
      (one_ (ret_ (ptup_ (κ := .S) (pa1_ (pix_ (pv_ (κ := .S) 0 (pv 0)) (pint_ (κ := .M))) (pa1_ (ptuple_ (μ := .S) (pio_ 4 (pv 4)) (fun a => pe_callTy call_tuple_of (by rfl) B.tuple (by decide +kernel) (pa_cons a pa_nil))) pa0_)) rfl))))) nil_)
      (cons_ (if_ (ptcmp_ op_eq re_sc (nomark _) (pv_ (κ := .M) 3 (pv 3)) (pmul_ (μ := .M) (pint_ (κ := .M)) (plen_ (μ := .M) (PEv.items (pix_ (pv_ (κ := .S) 0 (pv 0)) (pint_ (κ := .M)))) (fun a => pe_callB call_len_seq (by rfl) B.len PySem.boot_len (pa_cons a pa_nil))))) (one_ (ret_ (ptup_ (κ := .S) (pa1_ (pstr_ (κ := .S)) (pa1_ (pix_ (pv_ (κ := .S) 0 (pv 0)) (pint_ (κ := .M))) (pa1_ (callS_ (κ := .S) (κs := [.S, .S, .S]) (ms := [.S, .S, .S]) rfl (fun a => cK.pe hr (by omega) (by rfl) a) (pa1_ (pix_ (pv_ (κ := .S) 0 (pv 0)) (pint_ (κ := .M))) (pa1_ (pslT_ (μ := .S) (pv_ (κ := .S) 1 (pv 1)) (po1_ (pint_ (κ := .M))) po0_ (fun a b c => pe_slice sl_tupA a b c)) (pa1_ (pv_ (κ := .S) 2 (pv 2)) pa0_)))) pa0_))) rfl))) nil_)
      hT)))))), ?_⟩
  simp only [Tv.wSeq, Tv.wNext, Tv.wIfS, Tv.wSet, Tv.wSetN, Tv.wRet, Tv.wRetO, Tv.wFrz, Tv.wApp, Tv.wOp, Tv.wTest, Tv.wAnd, Tv.wOr, Tv.wNot, Tv.wIf, Tv.wAndV, Tv.wOrV, Tv.wNotV, Tv.wCall, Tv.wCons, Tv.wNil, Tv.wV, Tv.wC, Tv.wTup, Tv.wLst, Tv.wSeqT, Tv.wO, Tv.wLen, Tv.wList, Tv.wTuple, Tv.wCat, Tv.wSl, Tv.wLst1, Tv.wTup1, Tv.wRng1, Tv.wRng2, Tv.wEnum, Tv.wLc, Tv.wYes, Tv.wCB, Tv.wipeE, Tv.gSet, Tv.gNilT, Tv.gConsT, Tv.gTupT, Tv.cellOf, Tv.env0, Tv.fEq, Tv.fIn, Tv.fI0, Tv.fI, Tv.fSc, Tv.fIsN, Tv.fIsB, Tv.fIx, Tv.fIxS, Tv.fCatT, Tv.fInt1, Tv.fMin2, List.zipWith_cons_cons, List.zipWith_nil_left, List.length_cons, List.length_nil, List.cons_append, List.nil_append, List.replicate, List.getElem?_cons_zero, List.getElem?_cons_succ, List.set_cons_zero, List.set_cons_succ, Tv.wRoom, Tv.wRoomSet, Tv.wIfDraw, Tv.wStar, Tv.wLen6, Tv.wFld, Tv.wExt, Tv.wTru, Tv.wChain, Tv.fIsi_e, Tv.fInF, Tv.seq_l, Tv.seq_t, Tv.lst_l, Tv.tup_t, Tv.scal_ii, Tv.scal_ss, Tv.scal_bb, Tv.same_ii, Tv.same_ss, Tv.same_bb, Tv.at_0, Tv.at_1, Tv.at_2, Tv.at_3, Tv.isN_non, Tv.isN_int, Tv.isN_str, Tv.isN_tup, Tv.isN_lst, Tv.isN_bl, Cell.val.injEq, T.op.injEq, forall_const, Tv.isi_non_tuple, Tv.isi_non_str, Tv.isi_non_int, Tv.isi_non_bool, Tv.isi_non_dict, Tv.isi_non_list, Tv.isi_bl_tuple, Tv.isi_bl_str, Tv.isi_bl_int, Tv.isi_bl_bool, Tv.isi_bl_dict, Tv.isi_bl_list, Tv.isi_int_tuple, Tv.isi_int_str, Tv.isi_int_int, Tv.isi_int_bool, Tv.isi_int_dict, Tv.isi_int_list, Tv.isi_str_tuple, Tv.isi_str_str, Tv.isi_str_int, Tv.isi_str_bool, Tv.isi_str_dict, Tv.isi_str_list, Tv.isi_tup_tuple, Tv.isi_tup_str, Tv.isi_tup_int, Tv.isi_tup_bool, Tv.isi_tup_dict, Tv.isi_tup_list, Tv.isi_lst_tuple, Tv.isi_lst_str, Tv.isi_lst_int, Tv.isi_lst_bool, Tv.isi_lst_dict, Tv.isi_lst_list, Tv.isi_dic_tuple, Tv.isi_dic_str, Tv.isi_dic_int, Tv.isi_dic_bool, Tv.isi_dic_dict, Tv.isi_dic_list, V.ty.injEq, Tv.wLc2, Tv.fAll, Tv.wDropX, Tv.wSetX, Tv.wRaise, Tv.wIsi2, Tv.wDead, Tv.wStr1, Tv.fInS, Tv.fAddS, Tv.fLenS, Tv.wDisp, Tv.fDIn, Tv.fDGet, Tv.wISet, ↓reduceIte, Bool.false_eq_true, decide_eq_true_eq, T.int.injEq, T.str.injEq, T.bl.injEq, T.lst.injEq, T.tup.injEq, exists_eq_left', exists_eq_left, exists_and_left, true_and, and_true, reduceCtorEq, ne_eq, not_false_eq_true, not_true_eq_false, forall_eq', forall_eq, Option.some.injEq, Option.isSome_some]
  cases q with
  | nil => exact (if_pos rfl).mpr k
  | cons i q =>
    obtain ⟨hf, v, hv, wv⟩ := wk
    have hl := (List.getElem?_eq_some_iff.mp hv).1
    have sf := setF (u := repT v q u) hf hl
    have e : repT t (i :: q) u = setT t i (repT v q u) := by
      show setT t i (repT ((innerT t)[i]?.getD .non) q u) = _
      rw [hv]
      rfl
    rw [e] at k
    have ec : cutT (natsT (i :: q)) (some 1) none = natsT q := by
      unfold cutT
      have e1 : HT.sIx (natsT (i :: q)).length 0 (some 1) = 1 := by
        unfold natsT HT.sIx
        simp only [List.map_cons, List.length_cons]
        first | omega | (simp; omega) | simp
      have e2 : HT.sIx (natsT (i :: q)).length (natsT (i :: q)).length none = (natsT (i :: q)).length := rfl
      rw [e1, e2]
      show (natsT q).take ((natsT (i :: q)).length - 1) = natsT q
      exact List.take_of_length_le (by unfold natsT; simp)
    have call : ∀ {Q : T → Prop}, Q (repT v q u) → cRepl n R [v, .tup (natsT q), u] Q := fun {Q} h => ⟨v, q, u, rfl, Nat.lt_of_succ_lt_succ hq, by simp only [List.length_cons] at hz; omega, wv, h⟩
    refine (if_neg ?_).mpr ⟨_, Tv.at_0, ?_⟩
    · show ¬ ((natsT (i :: q)).length : Int) = 0
      unfold natsT
      simp only [List.map_cons, List.length_cons]
      omega
    rw [ec]
    generalize setT t i (repT v q u) = t' at sf k
    clear e hf hl
    cases sf with
    | not a e =>
      rw [inner_not, e] at hv
      cases hv
      exact ⟨_, rfl, _, Tv.at_0, rfl, (if_pos (by decide +kernel)).mpr ⟨_, rfl, _, Tv.at_1, call k⟩⟩
    | must c l p h1 h2 e =>
      rw [inner_must, e] at hv
      cases hv
      exact ⟨_, rfl, _, Tv.at_0, rfl, (if_neg (by decide +kernel)).mpr ⟨_, rfl, _, Tv.at_0, rfl, (if_pos (by decide +kernel)).mpr ⟨_, rfl, _, Tv.at_1, _, rfl, _, Tv.at_2, _, rfl, _, Tv.at_3, call k⟩⟩⟩
    | join w ps hw h1 h2 h3 =>
      rw [inner_join hw] at hv
      have hp : ps[i]? = some v := hv
      rcases hw with rfl | rfl
      · refine ⟨_, rfl, _, Tv.at_0, rfl, (if_neg (by decide +kernel)).mpr ⟨_, rfl, _, Tv.at_0, rfl, (if_neg (by decide +kernel)).mpr ⟨fun _ => False, ?_, fun _ h => h.elim⟩⟩⟩
        simp only [Tv.wSeq, Tv.wNext, Tv.wIfS, Tv.wSet, Tv.wSetN, Tv.wRet, Tv.wRetO, Tv.wFrz, Tv.wApp, Tv.wOp, Tv.wTest, Tv.wAnd, Tv.wOr, Tv.wNot, Tv.wIf, Tv.wAndV, Tv.wOrV, Tv.wNotV, Tv.wCall, Tv.wCons, Tv.wNil, Tv.wV, Tv.wC, Tv.wTup, Tv.wLst, Tv.wSeqT, Tv.wO, Tv.wLen, Tv.wList, Tv.wTuple, Tv.wCat, Tv.wSl, Tv.wLst1, Tv.wTup1, Tv.wRng1, Tv.wRng2, Tv.wEnum, Tv.wFor, Tv.wLc, Tv.wYes, Tv.wCB, Tv.wipeE, Tv.gSet, Tv.gNilT, Tv.gConsT, Tv.gTupT, Tv.cellOf, Tv.env0, Tv.fEq, Tv.fIn, Tv.fI0, Tv.fI, Tv.fSc, Tv.fIsN, Tv.fIsB, Tv.fIx, Tv.fIxS, Tv.fCatT, Tv.fInt1, Tv.fMin2, List.zipWith_cons_cons, List.zipWith_nil_left, List.length_cons, List.length_nil, List.cons_append, List.nil_append, List.replicate, List.getElem?_cons_zero, List.getElem?_cons_succ, List.set_cons_zero, List.set_cons_succ, Tv.wRoom, Tv.wRoomSet, Tv.wIfDraw, Tv.wStar, Tv.wLen6, Tv.wFld, Tv.wExt, Tv.wTru, Tv.wChain, Tv.fIsi_e, Tv.fInF, Tv.seq_l, Tv.seq_t, Tv.lst_l, Tv.tup_t, Tv.scal_ii, Tv.scal_ss, Tv.scal_bb, Tv.same_ii, Tv.same_ss, Tv.same_bb, Tv.at_0, Tv.at_1, Tv.at_2, Tv.at_3, Tv.isN_non, Tv.isN_int, Tv.isN_str, Tv.isN_tup, Tv.isN_lst, Tv.isN_bl, Cell.val.injEq, T.op.injEq, forall_const, Tv.isi_non_tuple, Tv.isi_non_str, Tv.isi_non_int, Tv.isi_non_bool, Tv.isi_non_dict, Tv.isi_non_list, Tv.isi_bl_tuple, Tv.isi_bl_str, Tv.isi_bl_int, Tv.isi_bl_bool, Tv.isi_bl_dict, Tv.isi_bl_list, Tv.isi_int_tuple, Tv.isi_int_str, Tv.isi_int_int, Tv.isi_int_bool, Tv.isi_int_dict, Tv.isi_int_list, Tv.isi_str_tuple, Tv.isi_str_str, Tv.isi_str_int, Tv.isi_str_bool, Tv.isi_str_dict, Tv.isi_str_list, Tv.isi_tup_tuple, Tv.isi_tup_str, Tv.isi_tup_int, Tv.isi_tup_bool, Tv.isi_tup_dict, Tv.isi_tup_list, Tv.isi_lst_tuple, Tv.isi_lst_str, Tv.isi_lst_int, Tv.isi_lst_bool, Tv.isi_lst_dict, Tv.isi_lst_list, Tv.isi_dic_tuple, Tv.isi_dic_str, Tv.isi_dic_int, Tv.isi_dic_bool, Tv.isi_dic_dict, Tv.isi_dic_list, V.ty.injEq, Tv.wLc2, Tv.fAll, Tv.wDropX, Tv.wSetX, Tv.wRaise, Tv.wIsi2, Tv.wDead, Tv.wStr1, Tv.fInS, Tv.fAddS, Tv.fLenS, Tv.wDisp, Tv.fDIn, Tv.fDGet, Tv.wISet, ↓reduceIte, Bool.false_eq_true, decide_eq_true_eq, T.int.injEq, T.str.injEq, T.bl.injEq, T.lst.injEq, T.tup.injEq, exists_eq_left', exists_eq_left, exists_and_left, true_and, and_true, reduceCtorEq, ne_eq, not_false_eq_true, not_true_eq_false, forall_eq', forall_eq, Option.some.injEq, Option.isSome_some]
        rw [ec]
        exact ⟨v, atI_nat hp, call ⟨i, rfl, h3, k⟩⟩
      · refine ⟨_, rfl, _, Tv.at_0, rfl, (if_neg (by decide +kernel)).mpr ⟨_, rfl, _, Tv.at_0, rfl, (if_neg (by decide +kernel)).mpr ⟨fun _ => False, ?_, fun _ h => h.elim⟩⟩⟩
        simp only [Tv.wSeq, Tv.wNext, Tv.wIfS, Tv.wSet, Tv.wSetN, Tv.wRet, Tv.wRetO, Tv.wFrz, Tv.wApp, Tv.wOp, Tv.wTest, Tv.wAnd, Tv.wOr, Tv.wNot, Tv.wIf, Tv.wAndV, Tv.wOrV, Tv.wNotV, Tv.wCall, Tv.wCons, Tv.wNil, Tv.wV, Tv.wC, Tv.wTup, Tv.wLst, Tv.wSeqT, Tv.wO, Tv.wLen, Tv.wList, Tv.wTuple, Tv.wCat, Tv.wSl, Tv.wLst1, Tv.wTup1, Tv.wRng1, Tv.wRng2, Tv.wEnum, Tv.wFor, Tv.wLc, Tv.wYes, Tv.wCB, Tv.wipeE, Tv.gSet, Tv.gNilT, Tv.gConsT, Tv.gTupT, Tv.cellOf, Tv.env0, Tv.fEq, Tv.fIn, Tv.fI0, Tv.fI, Tv.fSc, Tv.fIsN, Tv.fIsB, Tv.fIx, Tv.fIxS, Tv.fCatT, Tv.fInt1, Tv.fMin2, List.zipWith_cons_cons, List.zipWith_nil_left, List.length_cons, List.length_nil, List.cons_append, List.nil_append, List.replicate, List.getElem?_cons_zero, List.getElem?_cons_succ, List.set_cons_zero, List.set_cons_succ, Tv.wRoom, Tv.wRoomSet, Tv.wIfDraw, Tv.wStar, Tv.wLen6, Tv.wFld, Tv.wExt, Tv.wTru, Tv.wChain, Tv.fIsi_e, Tv.fInF, Tv.seq_l, Tv.seq_t, Tv.lst_l, Tv.tup_t, Tv.scal_ii, Tv.scal_ss, Tv.scal_bb, Tv.same_ii, Tv.same_ss, Tv.same_bb, Tv.at_0, Tv.at_1, Tv.at_2, Tv.at_3, Tv.isN_non, Tv.isN_int, Tv.isN_str, Tv.isN_tup, Tv.isN_lst, Tv.isN_bl, Cell.val.injEq, T.op.injEq, forall_const, Tv.isi_non_tuple, Tv.isi_non_str, Tv.isi_non_int, Tv.isi_non_bool, Tv.isi_non_dict, Tv.isi_non_list, Tv.isi_bl_tuple, Tv.isi_bl_str, Tv.isi_bl_int, Tv.isi_bl_bool, Tv.isi_bl_dict, Tv.isi_bl_list, Tv.isi_int_tuple, Tv.isi_int_str, Tv.isi_int_int, Tv.isi_int_bool, Tv.isi_int_dict, Tv.isi_int_list, Tv.isi_str_tuple, Tv.isi_str_str, Tv.isi_str_int, Tv.isi_str_bool, Tv.isi_str_dict, Tv.isi_str_list, Tv.isi_tup_tuple, Tv.isi_tup_str, Tv.isi_tup_int, Tv.isi_tup_bool, Tv.isi_tup_dict, Tv.isi_tup_list, Tv.isi_lst_tuple, Tv.isi_lst_str, Tv.isi_lst_int, Tv.isi_lst_bool, Tv.isi_lst_dict, Tv.isi_lst_list, Tv.isi_dic_tuple, Tv.isi_dic_str, Tv.isi_dic_int, Tv.isi_dic_bool, Tv.isi_dic_dict, Tv.isi_dic_list, V.ty.injEq, Tv.wLc2, Tv.fAll, Tv.wDropX, Tv.wSetX, Tv.wRaise, Tv.wIsi2, Tv.wDead, Tv.wStr1, Tv.fInS, Tv.fAddS, Tv.fLenS, Tv.wDisp, Tv.fDIn, Tv.fDGet, Tv.wISet, ↓reduceIte, Bool.false_eq_true, decide_eq_true_eq, T.int.injEq, T.str.injEq, T.bl.injEq, T.lst.injEq, T.tup.injEq, exists_eq_left', exists_eq_left, exists_and_left, true_and, and_true, reduceCtorEq, ne_eq, not_false_eq_true, not_true_eq_false, forall_eq', forall_eq, Option.some.injEq, Option.isSome_some]
        rw [ec]
        exact (if_neg (by decide +kernel)).mpr ⟨v, atI_nat hp, call ⟨i, rfl, h3, k⟩⟩
    | last bs l h1 h2 e =>
      refine ⟨_, rfl, _, Tv.at_0, rfl, (if_neg (by decide +kernel)).mpr ⟨_, rfl, _, Tv.at_0, rfl, (if_neg (by decide +kernel)).mpr ⟨fun e => e = [.val (.tup [.str "case", .tup (bs.map mkB), l]), .val (.tup (natsT (i :: q))), .val u, .val (.int (i : Int)), .un, .un, .un, .un, .un], ?_, ?_⟩⟩⟩
      · simp only [Tv.wSeq, Tv.wNext, Tv.wIfS, Tv.wSet, Tv.wSetN, Tv.wRet, Tv.wRetO, Tv.wFrz, Tv.wApp, Tv.wOp, Tv.wTest, Tv.wAnd, Tv.wOr, Tv.wNot, Tv.wIf, Tv.wAndV, Tv.wOrV, Tv.wNotV, Tv.wCall, Tv.wCons, Tv.wNil, Tv.wV, Tv.wC, Tv.wTup, Tv.wLst, Tv.wSeqT, Tv.wO, Tv.wLen, Tv.wList, Tv.wTuple, Tv.wCat, Tv.wSl, Tv.wLst1, Tv.wTup1, Tv.wRng1, Tv.wRng2, Tv.wEnum, Tv.wFor, Tv.wLc, Tv.wYes, Tv.wCB, Tv.wipeE, Tv.gSet, Tv.gNilT, Tv.gConsT, Tv.gTupT, Tv.cellOf, Tv.env0, Tv.fEq, Tv.fIn, Tv.fI0, Tv.fI, Tv.fSc, Tv.fIsN, Tv.fIsB, Tv.fIx, Tv.fIxS, Tv.fCatT, Tv.fInt1, Tv.fMin2, List.zipWith_cons_cons, List.zipWith_nil_left, List.length_cons, List.length_nil, List.cons_append, List.nil_append, List.replicate, List.getElem?_cons_zero, List.getElem?_cons_succ, List.set_cons_zero, List.set_cons_succ, Tv.wRoom, Tv.wRoomSet, Tv.wIfDraw, Tv.wStar, Tv.wLen6, Tv.wFld, Tv.wExt, Tv.wTru, Tv.wChain, Tv.fIsi_e, Tv.fInF, Tv.seq_l, Tv.seq_t, Tv.lst_l, Tv.tup_t, Tv.scal_ii, Tv.scal_ss, Tv.scal_bb, Tv.same_ii, Tv.same_ss, Tv.same_bb, Tv.at_0, Tv.at_1, Tv.at_2, Tv.at_3, Tv.isN_non, Tv.isN_int, Tv.isN_str, Tv.isN_tup, Tv.isN_lst, Tv.isN_bl, Cell.val.injEq, T.op.injEq, forall_const, Tv.isi_non_tuple, Tv.isi_non_str, Tv.isi_non_int, Tv.isi_non_bool, Tv.isi_non_dict, Tv.isi_non_list, Tv.isi_bl_tuple, Tv.isi_bl_str, Tv.isi_bl_int, Tv.isi_bl_bool, Tv.isi_bl_dict, Tv.isi_bl_list, Tv.isi_int_tuple, Tv.isi_int_str, Tv.isi_int_int, Tv.isi_int_bool, Tv.isi_int_dict, Tv.isi_int_list, Tv.isi_str_tuple, Tv.isi_str_str, Tv.isi_str_int, Tv.isi_str_bool, Tv.isi_str_dict, Tv.isi_str_list, Tv.isi_tup_tuple, Tv.isi_tup_str, Tv.isi_tup_int, Tv.isi_tup_bool, Tv.isi_tup_dict, Tv.isi_tup_list, Tv.isi_lst_tuple, Tv.isi_lst_str, Tv.isi_lst_int, Tv.isi_lst_bool, Tv.isi_lst_dict, Tv.isi_lst_list, Tv.isi_dic_tuple, Tv.isi_dic_str, Tv.isi_dic_int, Tv.isi_dic_bool, Tv.isi_dic_dict, Tv.isi_dic_list, V.ty.injEq, Tv.wLc2, Tv.fAll, Tv.wDropX, Tv.wSetX, Tv.wRaise, Tv.wIsi2, Tv.wDead, Tv.wStr1, Tv.fInS, Tv.fAddS, Tv.fLenS, Tv.wDisp, Tv.fDIn, Tv.fDGet, Tv.wISet, ↓reduceIte, Bool.false_eq_true, decide_eq_true_eq, T.int.injEq, T.str.injEq, T.bl.injEq, T.lst.injEq, T.tup.injEq, exists_eq_left', exists_eq_left, exists_and_left, true_and, and_true, reduceCtorEq, ne_eq, not_false_eq_true, not_true_eq_false, forall_eq', forall_eq, Option.some.injEq, Option.isSome_some]
        exact (if_neg (by decide +kernel)).mpr <| (if_neg (by decide +kernel)).mpr <| trivial
      · rintro _ rfl
        simp only [Tv.wSeq, Tv.wNext, Tv.wIfS, Tv.wSet, Tv.wSetN, Tv.wRet, Tv.wRetO, Tv.wFrz, Tv.wApp, Tv.wOp, Tv.wTest, Tv.wAnd, Tv.wOr, Tv.wNot, Tv.wIf, Tv.wAndV, Tv.wOrV, Tv.wNotV, Tv.wCall, Tv.wCons, Tv.wNil, Tv.wV, Tv.wC, Tv.wTup, Tv.wLst, Tv.wSeqT, Tv.wO, Tv.wLen, Tv.wList, Tv.wTuple, Tv.wCat, Tv.wSl, Tv.wLst1, Tv.wTup1, Tv.wRng1, Tv.wRng2, Tv.wEnum, Tv.wLc, Tv.wYes, Tv.wCB, Tv.wipeE, Tv.gSet, Tv.gNilT, Tv.gConsT, Tv.gTupT, Tv.cellOf, Tv.env0, Tv.fEq, Tv.fIn, Tv.fI0, Tv.fI, Tv.fSc, Tv.fIsN, Tv.fIsB, Tv.fIx, Tv.fIxS, Tv.fCatT, Tv.fInt1, Tv.fMin2, List.zipWith_cons_cons, List.zipWith_nil_left, List.length_cons, List.length_nil, List.cons_append, List.nil_append, List.replicate, List.getElem?_cons_zero, List.getElem?_cons_succ, List.set_cons_zero, List.set_cons_succ, Tv.wRoom, Tv.wRoomSet, Tv.wIfDraw, Tv.wStar, Tv.wLen6, Tv.wFld, Tv.wExt, Tv.wTru, Tv.wChain, Tv.fIsi_e, Tv.fInF, Tv.seq_l, Tv.seq_t, Tv.lst_l, Tv.tup_t, Tv.scal_ii, Tv.scal_ss, Tv.scal_bb, Tv.same_ii, Tv.same_ss, Tv.same_bb, Tv.at_0, Tv.at_1, Tv.at_2, Tv.at_3, Tv.isN_non, Tv.isN_int, Tv.isN_str, Tv.isN_tup, Tv.isN_lst, Tv.isN_bl, Cell.val.injEq, T.op.injEq, forall_const, Tv.isi_non_tuple, Tv.isi_non_str, Tv.isi_non_int, Tv.isi_non_bool, Tv.isi_non_dict, Tv.isi_non_list, Tv.isi_bl_tuple, Tv.isi_bl_str, Tv.isi_bl_int, Tv.isi_bl_bool, Tv.isi_bl_dict, Tv.isi_bl_list, Tv.isi_int_tuple, Tv.isi_int_str, Tv.isi_int_int, Tv.isi_int_bool, Tv.isi_int_dict, Tv.isi_int_list, Tv.isi_str_tuple, Tv.isi_str_str, Tv.isi_str_int, Tv.isi_str_bool, Tv.isi_str_dict, Tv.isi_str_list, Tv.isi_tup_tuple, Tv.isi_tup_str, Tv.isi_tup_int, Tv.isi_tup_bool, Tv.isi_tup_dict, Tv.isi_tup_list, Tv.isi_lst_tuple, Tv.isi_lst_str, Tv.isi_lst_int, Tv.isi_lst_bool, Tv.isi_lst_dict, Tv.isi_lst_list, Tv.isi_dic_tuple, Tv.isi_dic_str, Tv.isi_dic_int, Tv.isi_dic_bool, Tv.isi_dic_dict, Tv.isi_dic_list, V.ty.injEq, Tv.wLc2, Tv.fAll, Tv.wDropX, Tv.wSetX, Tv.wRaise, Tv.wIsi2, Tv.wDead, Tv.wStr1, Tv.fInS, Tv.fAddS, Tv.fLenS, Tv.wDisp, Tv.fDIn, Tv.fDGet, Tv.wISet, ↓reduceIte, Bool.false_eq_true, decide_eq_true_eq, T.int.injEq, T.str.injEq, T.bl.injEq, T.lst.injEq, T.tup.injEq, exists_eq_left', exists_eq_left, exists_and_left, true_and, and_true, reduceCtorEq, ne_eq, not_false_eq_true, not_true_eq_false, forall_eq', forall_eq, Option.some.injEq, Option.isSome_some]
        rw [ec, List.length_map]
        rw [inner_case', e, ← len_flat] at hv
        have ev : v = l := by
          rw [List.getElem?_append_right (Nat.le_refl _), Nat.sub_self] at hv
          exact (Option.some.inj hv).symm
        subst ev
        exact ⟨.inl ⟨by decide, by decide⟩, (if_pos (by omega)).mpr (call k)⟩
    | case bs l h1 h2 e =>
      refine ⟨_, rfl, _, Tv.at_0, rfl, (if_neg (by decide +kernel)).mpr ⟨_, rfl, _, Tv.at_0, rfl, (if_neg (by decide +kernel)).mpr ⟨fun e => e = [.val (.tup [.str "case", .tup (bs.map mkB), l]), .val (.tup (natsT (i :: q))), .val u, .val (.int (i : Int)), .un, .un, .un, .un, .un], ?_, ?_⟩⟩⟩
      · simp only [Tv.wSeq, Tv.wNext, Tv.wIfS, Tv.wSet, Tv.wSetN, Tv.wRet, Tv.wRetO, Tv.wFrz, Tv.wApp, Tv.wOp, Tv.wTest, Tv.wAnd, Tv.wOr, Tv.wNot, Tv.wIf, Tv.wAndV, Tv.wOrV, Tv.wNotV, Tv.wCall, Tv.wCons, Tv.wNil, Tv.wV, Tv.wC, Tv.wTup, Tv.wLst, Tv.wSeqT, Tv.wO, Tv.wLen, Tv.wList, Tv.wTuple, Tv.wCat, Tv.wSl, Tv.wLst1, Tv.wTup1, Tv.wRng1, Tv.wRng2, Tv.wEnum, Tv.wFor, Tv.wLc, Tv.wYes, Tv.wCB, Tv.wipeE, Tv.gSet, Tv.gNilT, Tv.gConsT, Tv.gTupT, Tv.cellOf, Tv.env0, Tv.fEq, Tv.fIn, Tv.fI0, Tv.fI, Tv.fSc, Tv.fIsN, Tv.fIsB, Tv.fIx, Tv.fIxS, Tv.fCatT, Tv.fInt1, Tv.fMin2, List.zipWith_cons_cons, List.zipWith_nil_left, List.length_cons, List.length_nil, List.cons_append, List.nil_append, List.replicate, List.getElem?_cons_zero, List.getElem?_cons_succ, List.set_cons_zero, List.set_cons_succ, Tv.wRoom, Tv.wRoomSet, Tv.wIfDraw, Tv.wStar, Tv.wLen6, Tv.wFld, Tv.wExt, Tv.wTru, Tv.wChain, Tv.fIsi_e, Tv.fInF, Tv.seq_l, Tv.seq_t, Tv.lst_l, Tv.tup_t, Tv.scal_ii, Tv.scal_ss, Tv.scal_bb, Tv.same_ii, Tv.same_ss, Tv.same_bb, Tv.at_0, Tv.at_1, Tv.at_2, Tv.at_3, Tv.isN_non, Tv.isN_int, Tv.isN_str, Tv.isN_tup, Tv.isN_lst, Tv.isN_bl, Cell.val.injEq, T.op.injEq, forall_const, Tv.isi_non_tuple, Tv.isi_non_str, Tv.isi_non_int, Tv.isi_non_bool, Tv.isi_non_dict, Tv.isi_non_list, Tv.isi_bl_tuple, Tv.isi_bl_str, Tv.isi_bl_int, Tv.isi_bl_bool, Tv.isi_bl_dict, Tv.isi_bl_list, Tv.isi_int_tuple, Tv.isi_int_str, Tv.isi_int_int, Tv.isi_int_bool, Tv.isi_int_dict, Tv.isi_int_list, Tv.isi_str_tuple, Tv.isi_str_str, Tv.isi_str_int, Tv.isi_str_bool, Tv.isi_str_dict, Tv.isi_str_list, Tv.isi_tup_tuple, Tv.isi_tup_str, Tv.isi_tup_int, Tv.isi_tup_bool, Tv.isi_tup_dict, Tv.isi_tup_list, Tv.isi_lst_tuple, Tv.isi_lst_str, Tv.isi_lst_int, Tv.isi_lst_bool, Tv.isi_lst_dict, Tv.isi_lst_list, Tv.isi_dic_tuple, Tv.isi_dic_str, Tv.isi_dic_int, Tv.isi_dic_bool, Tv.isi_dic_dict, Tv.isi_dic_list, V.ty.injEq, Tv.wLc2, Tv.fAll, Tv.wDropX, Tv.wSetX, Tv.wRaise, Tv.wIsi2, Tv.wDead, Tv.wStr1, Tv.fInS, Tv.fAddS, Tv.fLenS, Tv.wDisp, Tv.fDIn, Tv.fDGet, Tv.wISet, ↓reduceIte, Bool.false_eq_true, decide_eq_true_eq, T.int.injEq, T.str.injEq, T.bl.injEq, T.lst.injEq, T.tup.injEq, exists_eq_left', exists_eq_left, exists_and_left, true_and, and_true, reduceCtorEq, ne_eq, not_false_eq_true, not_true_eq_false, forall_eq', forall_eq, Option.some.injEq, Option.isSome_some]
        exact (if_neg (by decide +kernel)).mpr <| (if_neg (by decide +kernel)).mpr <| trivial
      · rintro _ rfl
        simp only [Tv.wSeq, Tv.wNext, Tv.wIfS, Tv.wSet, Tv.wSetN, Tv.wRet, Tv.wRetO, Tv.wFrz, Tv.wApp, Tv.wOp, Tv.wTest, Tv.wAnd, Tv.wOr, Tv.wNot, Tv.wIf, Tv.wAndV, Tv.wOrV, Tv.wNotV, Tv.wCall, Tv.wCons, Tv.wNil, Tv.wV, Tv.wC, Tv.wTup, Tv.wLst, Tv.wSeqT, Tv.wO, Tv.wLen, Tv.wList, Tv.wTuple, Tv.wCat, Tv.wSl, Tv.wLst1, Tv.wTup1, Tv.wRng1, Tv.wRng2, Tv.wEnum, Tv.wLc, Tv.wYes, Tv.wCB, Tv.wipeE, Tv.gSet, Tv.gNilT, Tv.gConsT, Tv.gTupT, Tv.cellOf, Tv.env0, Tv.fEq, Tv.fIn, Tv.fI0, Tv.fI, Tv.fSc, Tv.fIsN, Tv.fIsB, Tv.fIx, Tv.fIxS, Tv.fCatT, Tv.fInt1, Tv.fMin2, List.zipWith_cons_cons, List.zipWith_nil_left, List.length_cons, List.length_nil, List.cons_append, List.nil_append, List.replicate, List.getElem?_cons_zero, List.getElem?_cons_succ, List.set_cons_zero, List.set_cons_succ, Tv.wRoom, Tv.wRoomSet, Tv.wIfDraw, Tv.wStar, Tv.wLen6, Tv.wFld, Tv.wExt, Tv.wTru, Tv.wChain, Tv.fIsi_e, Tv.fInF, Tv.seq_l, Tv.seq_t, Tv.lst_l, Tv.tup_t, Tv.scal_ii, Tv.scal_ss, Tv.scal_bb, Tv.same_ii, Tv.same_ss, Tv.same_bb, Tv.at_0, Tv.at_1, Tv.at_2, Tv.at_3, Tv.isN_non, Tv.isN_int, Tv.isN_str, Tv.isN_tup, Tv.isN_lst, Tv.isN_bl, Cell.val.injEq, T.op.injEq, forall_const, Tv.isi_non_tuple, Tv.isi_non_str, Tv.isi_non_int, Tv.isi_non_bool, Tv.isi_non_dict, Tv.isi_non_list, Tv.isi_bl_tuple, Tv.isi_bl_str, Tv.isi_bl_int, Tv.isi_bl_bool, Tv.isi_bl_dict, Tv.isi_bl_list, Tv.isi_int_tuple, Tv.isi_int_str, Tv.isi_int_int, Tv.isi_int_bool, Tv.isi_int_dict, Tv.isi_int_list, Tv.isi_str_tuple, Tv.isi_str_str, Tv.isi_str_int, Tv.isi_str_bool, Tv.isi_str_dict, Tv.isi_str_list, Tv.isi_tup_tuple, Tv.isi_tup_str, Tv.isi_tup_int, Tv.isi_tup_bool, Tv.isi_tup_dict, Tv.isi_tup_list, Tv.isi_lst_tuple, Tv.isi_lst_str, Tv.isi_lst_int, Tv.isi_lst_bool, Tv.isi_lst_dict, Tv.isi_lst_list, Tv.isi_dic_tuple, Tv.isi_dic_str, Tv.isi_dic_int, Tv.isi_dic_bool, Tv.isi_dic_dict, Tv.isi_dic_list, V.ty.injEq, Tv.wLc2, Tv.fAll, Tv.wDropX, Tv.wSetX, Tv.wRaise, Tv.wIsi2, Tv.wDead, Tv.wStr1, Tv.fInS, Tv.fAddS, Tv.fLenS, Tv.wDisp, Tv.fDIn, Tv.fDGet, Tv.wISet, ↓reduceIte, Bool.false_eq_true, decide_eq_true_eq, T.int.injEq, T.str.injEq, T.bl.injEq, T.lst.injEq, T.tup.injEq, exists_eq_left', exists_eq_left, exists_and_left, true_and, and_true, reduceCtorEq, ne_eq, not_false_eq_true, not_true_eq_false, forall_eq', forall_eq, Option.some.injEq, Option.isSome_some]
        rw [List.length_map]
        rw [inner_case'] at hv
        exact ⟨.inl ⟨by decide, by decide⟩, (if_neg (by omega)).mpr ⟨bs, l, u, v, i, q, rfl, h1, h2, e, by simp only [List.length_cons] at hz; omega, hv, call k⟩⟩
end
end Tl
/-! a thing that does not hang on a list of three ints -/
namespace Tl
open PySem PySem.Spec PyProof.Rows L2 Lw Tv Nm
def bigT : T → Bool
  | .str _ => true
  | .tup _ => true
  | .lst _ => true
  | _ => false
mutual
def noRoom : T → Bool
  | .lst ts => (ts.any bigT || ts.length != 3) && noRooms ts
  | .tup ts => noRooms ts
  | .dic _ => false
  | .obj _ _ => false
  | .exc _ _ _ => false
  | .mk _ _ _ => false
  | _ => true
def noRooms : List T → Bool
  | [] => true
  | t :: ts => noRoom t && noRooms ts
end
def row3 (o : HO) : Prop := ∃ x y z : Int, o = .lst [.int x, .int y, .int z]
theorem big_no {K : PySem.W.Frag} {G : Hp} {x y z : Int} {ts : List T} (l : RepL K G [.int x, .int y, .int z] ts) : (ts.any bigT || ts.length != 3) = false := by
  cases l with
  | cons h1 l =>
    cases l with
    | cons h2 l =>
      cases l with
      | cons h3 l =>
        cases l
        cases h1 <;> cases h2 <;> cases h3 <;> rfl
mutual
theorem rep_off {K : PySem.W.Frag} {G G' : Hp} (hG : ∀ a o, G a = some o → ¬ row3 o → G' a = some o) : ∀ {v : V} {t : T}, Rep K G v t → noRoom t = true → Rep K G' v t
  | _, _, .non, _ => .non
  | _, _, .bl b, _ => .bl b
  | _, _, .int i, _ => .int i
  | _, _, .str x, _ => .str x
  | _, _, .op v, _ => .op v
  | _, _, .exc _ _, h => by cases h
  | _, _, .mk _ _, h => by cases h
  | _, .tup ts, .tup g l, h => by
    refine .tup ?_ (repL_off hG l h)
    rcases g with (g | ⟨o, g⟩) | g
    · exact .inl (.inl (hG _ _ g (by rintro ⟨x, y, z, e⟩; cases e)))
    · exact .inl (.inr ⟨o, hG _ _ g (by rintro ⟨x, y, z, e⟩; cases e)⟩)
    · exact .inr g
  | _, .lst ts, .lst g l, h => by
    obtain ⟨h1, h2⟩ := Bool.and_eq_true_iff.mp h
    refine .lst (hG _ _ g ?_) (repL_off hG l h2)
    rintro ⟨x, y, z, e⟩
    cases e
    rw [big_no l] at h1
    cases h1
  | _, _, .dicK g l, h => by cases h
  | _, _, .dicT g l, h => by cases h
  | _, _, .obj g l, h => by cases h
theorem repL_off {K : PySem.W.Frag} {G G' : Hp} (hG : ∀ a o, G a = some o → ¬ row3 o → G' a = some o) : ∀ {vs : List V} {ts : List T}, RepL K G vs ts → noRooms ts = true → RepL K G' vs ts
  | _, _, .nil, _ => .nil
  | _, _ :: _, .cons h l, e => .cons (rep_off hG h (Bool.and_eq_true_iff.mp e).1) (repL_off hG l (Bool.and_eq_true_iff.mp e).2)
end
def offR (F : Hp) : Hp := fun b => match F b with
  | some (.lst [.int _, .int _, .int _]) => none
  | o => o
theorem off_of {F : Hp} {b : Addr} {o : HO} (h : F b = some o) (n : ¬ row3 o) : offR F b = some o := by
  unfold offR
  split
  · rename_i x y z e
    rw [h] at e
    exact (n ⟨x, y, z, Option.some.inj e⟩).elim
  · exact h
theorem off_some {F : Hp} {b : Addr} {o : HO} (h : offR F b = some o) : F b = some o ∧ ¬ row3 o := by
  unfold offR at h
  split at h
  · cases h
  · rename_i n
    refine ⟨h, ?_⟩
    rintro ⟨x, y, z, rfl⟩
    exact n x y z h
theorem world_room {K : PySem.W.Frag} {p q : Addr} {H F H' : Hp} {v : V} {t0 t1 t2 : T} {x y z : Int} (ok : Ok (handR p q none) F H') (n : New K (handR p q none) H F H' v (.lst [t0, t1, t2, .lst [.int x, .int y, .int z]])) (h0 : noRoom t0 = true) (h1 : noRoom t1 = true) (h2 : noRoom t2 = true) :
    ∃ r F1, Ok (handR p q (some r)) F1 H' ∧ Rep K F1 v (.lst [t0, t1, t2, .op (.ref r)]) := by
  obtain ⟨a, rfl, _, ha, hf, vs, hv, l⟩ := n.ex
  cases l with
  | @cons v0 _ _ _ r0 l =>
    cases l with
    | @cons v1 _ _ _ r1 l =>
      cases l with
      | @cons v2 _ _ _ r2 l =>
        cases l with
        | @cons v3 _ _ _ r3 l =>
          cases l
          generalize e : T.lst [.int x, .int y, .int z] = t3 at r3
          cases r3 with
          | @lst r us ts g l =>
            cases e
            have eu : us = [.int x, .int y, .int z] := by
              cases l with
              | cons a1 l =>
                cases l with
                | cons a2 l =>
                  cases l with
                  | cons a3 l =>
                    cases l
                    cases a1
                    cases a2
                    cases a3
                    rfl
            subst eu
            obtain ⟨nr, hr⟩ := sans_some (ok.sub _ _ g)
            have pr : some p ≠ some r := fun e => by
              cases e
              simp [handR] at nr
            have qr : some q ≠ some r := fun e => by
              cases e
              simp [handR] at nr
            have ar : a ≠ r := fun e => by
              subst e
              rw [hv] at hr
              cases hr
            have ad1 : ∀ {b : Addr}, (handR p q none).ad b = false → b ≠ r → (handR p q (some r)).ad b = false := fun {b} h n => by
              simp [handR] at h ⊢
              exact ⟨h.1, h.2, n⟩
            refine ⟨r, upd (offR F) a (.lst [v0, v1, v2, .ref r]), ⟨fun b o hb => ?_, ok.inv.1, ⟨pr, qr⟩, fun b e => ?_⟩, ?_⟩
            · by_cases ba : b = a
              · subst ba
                rw [upd_same] at hb
                rw [sans_of (ad1 ha ar), hv]
                exact hb
              · rw [upd_ne ba] at hb
                obtain ⟨hb, nb⟩ := off_some hb
                obtain ⟨n1, n2⟩ := sans_some (ok.sub _ _ hb)
                have br : b ≠ r := fun e => by
                  subst e
                  rw [hr] at n2
                  cases n2
                  exact nb ⟨x, y, z, rfl⟩
                rw [sans_of (ad1 n1 br)]
                exact n2
            · cases e
              exact ⟨x, y, z, hr⟩
            · have up : ∀ b o, F b = some o → ¬ row3 o → upd (offR F) a (.lst [v0, v1, v2, .ref r]) b = some o := fun b o h nb => by
                rw [upd_ne fun e => by rw [e, hf] at h; cases h]
                exact off_of h nb
              exact .lst upd_same (.cons (rep_off up r0 h0) (.cons (rep_off up r1 h1) (.cons (rep_off up r2 h2) (.cons (.op _) .nil))))
          | _ => cases e
end Tl
/-! a part put in into a branch of a case, by the law -/
namespace Tl
open PySem PySem.Spec PyProof.Rows L2 Lw Tv Nm
def rLO (K : PySem.W.Frag) : List V → Hp → VK → Prop := fun xs H Q => ∃ p ys, xs = [.ref p] ∧ (SqL K H p ys ∨ SqT K H p ys) ∧ ∀ l, H l = none → Q (.ref l) (upd H l (.lst ys))
inductive Rows (K : PySem.W.Frag) (F : Hp) : List V → List (V × V) → List (T × T) → Prop
  | nil : Rows K F [] [] []
  | cons {a : Addr} {r : V × V} {b : T × T} {cs : List V} {rows : List (V × V)} {bs : List (T × T)} : SqT K F a [r.1, r.2] → Rep K F r.1 b.1 → Rep K F r.2 b.2 → Rows K F cs rows bs → Rows K F (.ref a :: cs) (r :: rows) (b :: bs)
theorem rows_of {K : PySem.W.Frag} {F : Hp} : ∀ {bs : List (T × T)} {cs : List V}, RepL K F cs (bs.map mkB) → ∃ rows, Rows K F cs rows bs
  | [], _, .nil => ⟨[], .nil⟩
  | b :: bs, _, .cons h l => by
    obtain ⟨rows, k⟩ := rows_of (bs := bs) l
    generalize e : mkB b = t at h
    cases h with
    | @tup a vs ts g m =>
      cases e
      cases m with
      | cons h1 m =>
        cases m with
        | cons h2 m =>
          cases m
          exact ⟨(_, _) :: rows, .cons g h1 h2 k⟩
    | _ => cases e
theorem Rows.len {K : PySem.W.Frag} {F : Hp} {bs : List (T × T)} {cs : List V} {rows : List (V × V)} (h : Rows K F cs rows bs) : cs.length = bs.length ∧ rows.length = bs.length := by
  induction h with
  | nil => exact ⟨rfl, rfl⟩
  | cons _ _ _ _ ih => exact ⟨congrArg Nat.succ ih.1, congrArg Nat.succ ih.2⟩
theorem Rows.at {K : PySem.W.Frag} {F : Hp} {bs : List (T × T)} {cs : List V} {rows : List (V × V)} (h : Rows K F cs rows bs) : ∀ {k : Nat}, k < bs.length → ∃ a r b, cs[k]? = some (.ref a) ∧ rows[k]? = some r ∧ bs[k]? = some b ∧ SqT K F a [r.1, r.2] ∧ Rep K F r.1 b.1 ∧ Rep K F r.2 b.2 := by
  induction h with
  | nil => intro k hk; cases hk
  | cons h1 h2 h3 _ ih =>
    intro k hk
    cases k with
    | zero => exact ⟨_, _, _, rfl, rfl, rfl, h1, h2, h3⟩
    | succ k => exact ih (Nat.lt_of_succ_lt_succ hk)
theorem cut_tail {i : Nat} {q : List Nat} : cutT (natsT (i :: q)) (some 1) none = natsT q := by
  unfold cutT
  have e1 : HT.sIx (natsT (i :: q)).length 0 (some 1) = 1 := by
    unfold natsT HT.sIx
    simp only [List.map_cons, List.length_cons]
    first | omega | (simp; omega) | simp
  have e2 : HT.sIx (natsT (i :: q)).length (natsT (i :: q)).length none = (natsT (i :: q)).length := rfl
  rw [e1, e2]
  show (natsT q).take ((natsT (i :: q)).length - 1) = natsT q
  exact List.take_of_length_le (by unfold natsT; simp)
theorem repL_ix {K : PySem.W.Frag} {G : Hp} : ∀ {vs : List V} {ts : List T}, vs.length = ts.length → (∀ (k : Nat) (v : V) (t : T), vs[k]? = some v → ts[k]? = some t → Rep K G v t) → RepL K G vs ts
  | [], [], _, _ => .nil
  | v :: vs, t :: ts, hl, h => .cons (h 0 v t rfl rfl) (repL_ix (Nat.succ.inj hl) fun k w u a b => h (k + 1) w u a b)
theorem setBs_at : ∀ {bs : List (T × T)} {i : Nat} {u : T} {b : T × T}, bs[i / 2]? = some b → (setBs bs i u)[i / 2]? = some (if i % 2 = 0 then (u, b.2) else (b.1, u))
  | [], _, _, _, h => by simp at h
  | c :: bs, 0, u, b, h => by cases h; rfl
  | c :: bs, 1, u, b, h => by cases h; rfl
  | c :: bs, i + 2, u, b, h => by
    have e1 : (i + 2) / 2 = i / 2 + 1 := by omega
    have e2 : (i + 2) % 2 = i % 2 := by omega
    rw [e1] at h ⊢
    rw [e2]
    exact setBs_at (bs := bs) h
theorem setBs_ne : ∀ {bs : List (T × T)} {i k : Nat} {u : T}, k ≠ i / 2 → (setBs bs i u)[k]? = bs[k]?
  | [], _, _, _, _ => rfl
  | c :: bs, 0, 0, u, h => (h rfl).elim
  | c :: bs, 1, 0, u, h => (h rfl).elim
  | c :: bs, 0, k + 1, u, h => rfl
  | c :: bs, 1, k + 1, u, h => rfl
  | c :: bs, i + 2, 0, u, h => rfl
  | c :: bs, i + 2, k + 1, u, h => setBs_ne (bs := bs) (i := i) (k := k) (by omega)
theorem nodup_at {as : List Addr} (n : as.Nodup) {j k : Nat} {a : Addr} (h1 : as[j]? = some a) (h2 : as[k]? = some a) : j = k := by
  have a1 := List.getElem?_eq_some_iff.mp h1
  have a2 := List.getElem?_eq_some_iff.mp h2
  obtain ⟨l1, e1⟩ := a1
  obtain ⟨l2, e2⟩ := a2
  exact (List.getElem_inj n).mp (e1.trans e2.symm)
theorem flat_at : ∀ {bs : List (T × T)} {i : Nat} {b : T × T}, bs[i / 2]? = some b → (bs.flatMap fun b => [b.1, b.2])[i]? = [b.1, b.2][i % 2]?
  | [], _, _, h => by simp at h
  | c :: bs, 0, b, h => by cases h; rfl
  | c :: bs, 1, b, h => by cases h; rfl
  | c :: bs, i + 2, b, h => by
    have e1 : (i + 2) / 2 = i / 2 + 1 := by omega
    have e2 : (i + 2) % 2 = i % 2 := by omega
    rw [e1] at h
    rw [e2]
    exact flat_at (bs := bs) h
/-- the fresh lists so far -/
def Made (H : Hp) (D : Addr) (rows : List (V × V)) (i : Nat) (H' : Hp) : Prop := ∃ as : List Addr, as.length = i ∧ H' D = some (.lst (as.map V.ref)) ∧ Same H H' ∧ (∀ (k : Nat) (a : Addr), as[k]? = some a → H a = none ∧ a ≠ D ∧ ∃ r : V × V, rows[k]? = some r ∧ H' a = some (.lst [r.1, r.2])) ∧ as.Nodup
section
variable {P : Program} {w : World} {K : PySem.W.Frag} {mg : Str → Option Value} {base : Heap}

theorem brTail (B : Bt mg) {n : Nat} (cK : CRpl P w K mg base n) {f : Addr} (cdv : Value) (A : Around) (outer : List Env) (s : Shared) (H : Hp) (E : XK) (R : Rs) (hr : Room (1 + n) (A.deeper (envOfC "_law_replaced" (defScope sLRepl) s.heap.objs.size f cdv))) : PSsv false R noW (cxOf CX0 P w K mg base ["_law_part_here", "_law_place", "_law_new", "_law_at", "_law_inner_here", "_law_branch", "_law_branches", "_law_pair", "_law_side"] "_law_replaced" (defScope sLRepl) f cdv A outer s H E).nox ((defBody sLRepl).drop 6) (wRTail n R) := by
  have h5 : PSsv false R noW (cxOf CX0 P w K mg base ["_law_part_here", "_law_place", "_law_new", "_law_at", "_law_inner_here", "_law_branch", "_law_branches", "_law_pair", "_law_side"] "_law_replaced" (defScope sLRepl) f cdv A outer s H E).nox ((defBody sLRepl).drop 10) _ := (one_ (ret_ (ptup_ (κ := .S) (pa1_ (pstr_ (κ := .S)) (pa1_ (ptuple_ (μ := .S) (PEn.items (plc_ (own := [("_law_branch", 5)]) rfl scLRepl.nd (srcL_ (pv_ (κ := .S) 6 (pv 6))) (blkOk_by (N := ["_law_part_here", "_law_place", "_law_new", "_law_at", "_law_inner_here", "_law_branch", "_law_branches", "_law_pair", "_law_side"]) (sc := defScope sLRepl) (by decide +kernel)) (fun _ _ _ _ _ => (gnm_ (κ := .S) 5 (by decide) (pg_name (i := 5) scLRepl.nd rfl (Or.inl rfl)))) (fun _ _ _ _ _ => (ptup_ (κ := .S) (pa1_ (pix_ (pv_ (κ := .S) 5 (pv 5)) (pint_ (κ := .M))) (pa1_ (pix_ (pv_ (κ := .S) 5 (pv 5)) (pint_ (κ := .M))) pa0_)) rfl)) rfl)) (fun a => pe_callTy call_tuple_of (by rfl) B.tuple (by decide +kernel) (pa_cons a pa_nil))) (pa1_ (pix_ (pv_ (κ := .S) 0 (pv 0)) (pint_ (κ := .M))) pa0_))) rfl)))
  obtain ⟨t5, a5, v5⟩ := h5.ex
  refine ⟨_, pss_cons (ps_setLc (i := 6) (own := [("_law_branch", 5)]) (te := tCB (rLO K) (tCons (tVar 5) tNil)) rfl scLRepl.nd rfl rfl (sw_true rfl rfl rfl (by decide +kernel)) (pi_tup (pe_ix ix_tup (pv 0) pe_int (fun _ _ => rfl))) (blkOk_by (N := ["_law_part_here", "_law_place", "_law_new", "_law_at", "_law_inner_here", "_law_branch", "_law_branches", "_law_pair", "_law_side"]) (sc := defScope sLRepl) (by decide +kernel)) (fun _ _ _ _ _ => pg_name (i := 5) scLRepl.nd rfl (Or.inl rfl)) (fun _ _ _ _ _ => pts_nil) (fun _ _ _ _ _ => pe_callTy (r := rLO K) call_list_of (by rfl) B.list (by decide +kernel) (pa_cons (pv 5) pa_nil))) (pss_cons (ps_set (i := 7) scLRepl.nd rfl (Or.inl rfl) (pe_ix ix_list (pv 6) (pe_op op_fdiv (pv 3) pe_int) (fun _ _ => rfl))) (pss_cons (ps_set (i := 8) scLRepl.nd rfl (Or.inl rfl) (pe_op op_sub (pv 3) (pe_op op_mul (pe_op op_fdiv (pv 3) pe_int) pe_int))) (pss_cons (ps_asg (cK.pe hr (Nat.le_refl _) (by rfl) (pa_cons (pe_ix ix_list (pv 7) (pv 8) (fun _ _ => rfl)) (pa_cons (pe_slice sl_tupA (pv 1) (po_some pe_int) po_none) (pa_cons (pv 2) pa_nil)))) (pg_sub (pv 7) (pv 8) set_list)) a5))), fun {F0 H0 F H σ env D W} it s sl hw => ?_⟩
  obtain ⟨bs, l, u, v, i, q, rfl, b1, b3, hi, hq, hv, call⟩ := hw
  obtain ⟨s0, s1, s2, s3, s4, s5, s6, s7, s8, rfl⟩ : ∃ s0 s1 s2 s3 s4 s5 s6 s7 s8, σ = [s0, s1, s2, s3, s4, s5, s6, s7, s8] := by
    have hl := sl.len
    match σ, hl with
    | [_, _, _, _, _, _, _, _, _], _ => exact ⟨_, _, _, _, _, _, _, _, _, rfl⟩
  obtain ⟨_, x0, w0, rfl, r0⟩ := sl.ok 0 _ rfl
  obtain ⟨_, x1, w1, rfl, r1⟩ := sl.ok 1 _ rfl
  obtain ⟨_, x2, w2, rfl, r2⟩ := sl.ok 2 _ rfl
  obtain ⟨_, x3, w3, rfl, r3⟩ := sl.ok 3 _ rfl
  cases x0
  cases x1
  cases x2
  cases x3
  cases r3
  have mF : Same F H := fun a o h => (sans_some (s.ok.sub _ _ h)).2
  have r0' := r0
  generalize et : T.tup [.str "case", .tup (bs.map mkB), l] = tt at r0'
  cases r0' with
  | @tup p0 vs0 ts0 g0 l0 =>
    cases et
    cases l0 with
    | cons hc l0 =>
      cases l0 with
      | @cons vb _ _ _ rb l0 =>
        cases l0 with
        | @cons vl _ _ _ rl l0 =>
          cases l0
          cases hc
          generalize eb : T.tup (bs.map mkB) = tb at rb
          cases rb with
          | @tup pb cs tsb gb lb =>
            cases eb
            obtain ⟨rows, RW⟩ := rows_of lb
            obtain ⟨len1, len2⟩ := RW.len
            refine ⟨_, rfl, p0, _, 1, _, rfl, rfl, sqT_same mF g0, rfl, pb, rfl, ⟨_, sqT_same mF gb⟩, fun D1 hD1 => lc_it (walk_tup (xs := cs)) (fun i H' => Made H D1 rows i H') ⟨[], rfl, upd_same, ?a, fun k a e => by simp at e, List.nodup_nil⟩ ?b ?c ?d⟩
            case a =>
              intro b o e
              rw [upd_ne fun q2 => by rw [q2, hD1] at e; cases e]
              exact e
            case b =>
              intro _ _ _ h
              obtain ⟨_, _, _, sm, _⟩ := h
              exact sqT_same sm (sqT_same mF gb)
            case c =>
              rintro k x H1 H2 hk ⟨as, n1, n2, n3, n4, n5⟩ ⟨rfl, hx⟩
              obtain ⟨ca, r, b, q1, q2, q3, q4, _, _⟩ := RW.at (k := k) (by omega)
              rw [hx] at q1
              cases q1
              refine ⟨rfl, _, rfl, ca, [r.1, r.2], rfl, .inr (sqT_same n3 (sqT_same mF q4)), fun l hl => ?_⟩
              have lD : l ≠ D1 := fun e => by
                rw [e, n2] at hl
                cases hl
              have hH : H l = none := by
                cases q : H l with
                | none => rfl
                | some o =>
                  rw [n3 _ _ q] at hl
                  cases hl
              refine ⟨_, by rw [upd_ne lD.symm]; exact n2, ?_, as ++ [l], ?_, ?_, ?_, ?_, ?_⟩
              · rw [List.length_map, n1]
                have := sizeLine_eq
                omega
              · rw [List.length_append, n1]
                rfl
              · rw [upd_same, List.map_append]
                rfl
              · intro b o e
                have e2 := n3 b o e
                have nb1 : b ≠ D1 := fun q => by
                  rw [q, hD1] at e
                  cases e
                have nb2 : b ≠ l := fun q => by
                  rw [q, hl] at e2
                  cases e2
                rw [upd_ne nb1, upd_ne nb2]
                exact e2
              · intro j a e
                by_cases jk : j < k
                · rw [List.getElem?_append_left (by omega)] at e
                  obtain ⟨m1, m2, r', m3, m4⟩ := n4 j a e
                  have nb2 : a ≠ l := fun q => by
                    rw [q, hl] at m4
                    cases m4
                  exact ⟨m1, m2, r', m3, by rw [upd_ne m2, upd_ne nb2]; exact m4⟩
                · rw [List.getElem?_append_right (by omega), n1] at e
                  have jj : j = k := by
                    by_cases z : j - k = 0
                    · omega
                    · rw [List.getElem?_eq_none (by simp only [List.length_cons, List.length_nil]; omega)] at e
                      cases e
                  subst jj
                  rw [Nat.sub_self] at e
                  cases e
                  exact ⟨hH, lD, r, q2, by rw [upd_ne lD, upd_same]⟩
              · rw [List.nodup_append]
                refine ⟨n5, by simp, fun a ha b hb e => ?_⟩
                rw [List.mem_singleton.mp hb] at e
                obtain ⟨j, hj, e2⟩ := List.getElem_of_mem ha
                obtain ⟨_, _, r', _, m4⟩ := n4 j a (by rw [List.getElem?_eq_getElem hj, e2])
                rw [e, hl] at m4
                cases m4
            case d =>
              rintro H1 ⟨as, n1, n2, n3, n4, n5⟩
              have hj : i / 2 < bs.length := by omega
              obtain ⟨ca, r, b, q1, q2, q3, q4, q5, q6⟩ := RW.at hj
              obtain ⟨a, ha⟩ : ∃ a, as[i / 2]? = some a := ⟨_, List.getElem?_eq_getElem (by omega)⟩
              obtain ⟨m1, m2, r', m3, m4⟩ := n4 _ _ ha
              rw [q2] at m3
              cases m3
              have at7 : atI (as.map V.ref) ((i : Int) / 2) = some (V.ref a) := by
                rw [show (i : Int) / 2 = ((i / 2 : Nat) : Int) by omega]
                exact atI_nat (by rw [List.getElem?_map, ha]; rfl)
              refine ⟨_, rfl, _, rfl, _, _, rfl, rfl, ⟨by decide, by decide⟩, D1, _, _, _, rfl, rfl, SqL.of n2, at7, ?_⟩
              refine ⟨_, rfl, _, rfl, _, _, rfl, rfl, ⟨by decide, by decide⟩, _, _, rfl, rfl, .inr ⟨by decide, by decide⟩, _, _, rfl, rfl, ?_⟩
              have st1 : Tv.Step R F H F H1 := step_same s.ok n3
              have si : (i : Int) - (i : Int) / 2 * 2 = ((i % 2 : Nat) : Int) := by omega
              have ada : R.ad a = false := s.ok.adNew m1
              have hFa : F a = none := s.ok.free m1
              obtain ⟨z, hz, rz⟩ : ∃ z, atI [r.1, r.2] ((i : Int) - (i : Int) / 2 * 2) = some z ∧ Rep K F z v := by
                rw [si]
                have hv' : [b.1, b.2][i % 2]? = some v := by
                  rw [List.getElem?_append_left (by rw [len_flat]; exact hi), flat_at q3] at hv
                  exact hv
                have h2 : i % 2 < 2 := Nat.mod_lt _ (by decide)
                generalize i % 2 = e at h2 hv' ⊢
                match e, h2 with
                | 0, _ =>
                  cases hv'
                  exact ⟨_, rfl, q5⟩
                | 1, _ =>
                  cases hv'
                  exact ⟨_, rfl, q6⟩
              have r1' := r1
              generalize eq1 : T.tup (natsT (i :: q)) = t1 at r1'
              cases r1' with
              | @tup pq vq tq gq lq =>
                cases eq1
                have cont : ∀ (w3 : V) (F2 H2 : Hp), Tv.Step R F H1 F2 H2 → Rep K F2 w3 (.tup (natsT q)) → spT K [.S, .S, .S] false (cRepl n) [z, w3, w2] H2 (fun y H3 => ∃ F3, Tv.Step R F2 H2 F3 H3 ∧ ∃ x, Rep K F3 y x ∧ W.rt (.tup [.str "case", .tup ((setBs bs i x).map mkB), l])) (fun _ _ _ => False) := fun w3 F2 H2 st2 r3 =>
                  ⟨R, F2, _, _, st2.ok, .cons (rz.mono st2.f) (.cons r3 (.cons (r2.mono st2.f) .nil)), call, fun t y F3 H3 p3 st3 rr => ⟨F3, st3, t, rr, p3⟩⟩
                refine ⟨_, rfl, _, rfl, a, _, _, z, rfl, rfl, SqL.of m4, hz, _, rfl, 1, rfl, pq, vq, rfl, sqT_same n3 (sqT_same mF gq), ?_, ?_⟩
                · intro e
                  exfalso
                  have e1 := e.1
                  rw [show (1 : Int) = ((1 : Nat) : Int) from rfl, HT.sIx_nat, lq.length] at e1
                  unfold natsT at e1
                  rw [List.length_map, List.length_cons] at e1
                  omega
                · intro _ pn hpn
                  have nw := Step.newKeep st1.ok hpn (.tup (cutV vq (some 1) none))
                  have rep3 : Rep K (upd F pn (.tup (cutV vq (some 1) none))) (.ref pn) (.tup (natsT q)) := by
                    have c := (cut_rep lq (lo := some 1) (hi := none)).mono nw.f
                    rw [cut_tail] at c
                    exact .tup (.inl (.inl upd_same)) c
                  refine ⟨_, rfl, R, _, _, _, nw.ok, .cons (rz.mono nw.f) (.cons rep3 (.cons (r2.mono nw.f) .nil)), call, fun x y F3 H3 px st3 ry => ?_⟩
                  have ry : Rep K F3 y x := ry
                  have st13 := nw.trans st3
                  have put : ∀ {c : Addr} {o : HO}, H c = none → H1 c = some o → H3 c = some o ∧ F3 c = none := fun {c o} hc h1 => by
                    have ad := s.ok.adNew hc
                    refine ⟨(sans_some (st13.g c o (by rw [sans_of ad]; exact h1))).2, ?_⟩
                    cases q9 : F3 c with
                    | none => rfl
                    | some o9 =>
                      have := st13.n c o9 q9 (s.ok.free hc)
                      rw [sans_of ad, h1] at this
                      cases this
                  obtain ⟨a3, fa3⟩ := put m1 m4
                  have ixe : ixN [r.1, r.2].length ((i : Int) - (i : Int) / 2 * 2) = some (i % 2) := by
                    rw [si]
                    exact ixN_nat (Nat.mod_lt _ (by decide))
                  refine ⟨_, rfl, _, rfl, a, [r.1, r.2], _, i % 2, rfl, rfl, a3, ixe, ?_⟩
                  have S4 := ((st1.trans nw).trans st3).mut (o := .lst ([r.1, r.2].set (i % 2) y)) fa3 ada m1
                  have hD : H3 D1 = some (.lst (as.map V.ref)) ∧ F3 D1 = none := put hD1 n2
                  have mem : ∀ c, c ∈ as → H c = none ∧ R.ad c = false ∧ F3 c = none := fun c hc => by
                    obtain ⟨k9, hk9, e9⟩ := List.getElem_of_mem hc
                    obtain ⟨u1, _, r9, _, u4⟩ := n4 k9 c (by rw [List.getElem?_eq_getElem hk9, e9])
                    exact ⟨u1, s.ok.adNew u1, (put u1 u4).2⟩
                  have KA := keep_all S4 (fun c => c = D1 ∨ c ∈ as) fun c hc => by
                    rcases hc with rfl | hc
                    · exact ⟨hD1, s.ok.adNew hD1, hD.2⟩
                    · exact mem c hc
                  generalize eF : (fun c => if c = D1 ∨ c ∈ as then (upd H3 a (.lst ([r.1, r.2].set (i % 2) y))) c else F3 c) = F5 at KA
                  have f5 : ∀ c, (c = D1 ∨ c ∈ as) → F5 c = (upd H3 a (.lst ([r.1, r.2].set (i % 2) y))) c := fun c hc => by
                    rw [← eF]
                    exact if_pos hc
                  have f35 : Same F3 F5 := fun c o e => by
                    rw [← eF]
                    show (if c = D1 ∨ c ∈ as then _ else F3 c) = some o
                    rw [if_neg]
                    · exact e
                    · rintro (rfl | hc)
                      · rw [hD.2] at e
                        cases e
                      · rw [(mem c hc).2.2] at e
                        cases e
                  have fF5 : Same F F5 := (nw.f.trans st3.f).trans f35
                  have repD : Rep K F5 (.ref D1) (.lst ((setBs bs i x).map fun b : T × T => T.lst [b.1, b.2])) := by
                    refine .lst (by rw [f5 D1 (.inl rfl), upd_ne m2.symm]; exact hD.1) (repL_ix (by rw [List.length_map, List.length_map, setBs_len, n1, len1]) fun k9 w9 t9 e1 e2 => ?_)
                    rw [List.getElem?_map] at e1 e2
                    obtain ⟨c9, g1, rfl⟩ := Option.map_eq_some_iff.mp e1
                    obtain ⟨b9, g2, rfl⟩ := Option.map_eq_some_iff.mp e2
                    clear e1 e2
                    have k9l : k9 < bs.length := by
                      have := (List.getElem?_eq_some_iff.mp g1).1
                      omega
                    obtain ⟨_, ra, bb, y1, y2, y3, _, y5, y6⟩ := RW.at k9l
                    obtain ⟨u1, u2, r9, u3, u4⟩ := n4 k9 c9 g1
                    rw [y2] at u3
                    cases u3
                    by_cases kk : k9 = i / 2
                    · subst kk
                      rw [ha] at g1
                      cases g1
                      rw [q2] at y2
                      cases y2
                      rw [q3] at y3
                      cases y3
                      refine .lst (by rw [f5 a (.inr (List.mem_of_getElem? ha)), upd_same]) ?_
                      rw [setBs_at q3] at g2
                      have eb := Option.some.inj g2
                      subst eb
                      have h2 : i % 2 < 2 := Nat.mod_lt _ (by decide)
                      generalize i % 2 = e at h2 ⊢
                      match e, h2 with
                      | 0, _ => exact .cons (ry.mono f35) (.cons (y6.mono fF5) .nil)
                      | 1, _ => exact .cons (y5.mono fF5) (.cons (ry.mono f35) .nil)
                    · have ca : c9 ≠ a := fun e => by
                        subst e
                        exact kk (nodup_at n5 g1 ha)
                      rw [setBs_ne kk, y3] at g2
                      have eb := Option.some.inj g2
                      subst eb
                      refine .lst (by rw [f5 c9 (.inr (List.mem_of_getElem? g1)), upd_ne ca]; exact (put u1 u4).1) ?_
                      exact .cons (y5.mono fF5) (.cons (y6.mono fF5) .nil)
                  have slF := (((sl.step s KA).set (i := 6) (c := .val (.lst ((setBs bs i x).map fun b : T × T => T.lst [b.1, b.2]))) ⟨V.ref D1, rfl, repD⟩ fun t a e => by cases e).anew (σ' := [some (V.ref p0), some (V.ref pq), some w2, some (V.int i), s4, s5, some (V.ref D1), some (V.ref a), some (V.int ((i : Int) - (i : Int) / 2 * 2))]) rfl fun j => match j with
                    | 0 => .inr rfl
                    | 1 => .inr rfl
                    | 2 => .inr rfl
                    | 3 => .inr rfl
                    | 4 => .inr rfl
                    | 5 => .inr rfl
                    | 6 => .inr rfl
                    | 7 => .inl rfl
                    | 8 => .inl rfl
                    | j + 9 => .inr rfl)
                  refine v5 (it.up KA.f) (s.trans KA) slF ?_
                  simp only [List.map, Tv.wSeq, Tv.wNext, Tv.wIfS, Tv.wSet, Tv.wSetN, Tv.wRet, Tv.wRetO, Tv.wFrz, Tv.wApp, Tv.wOp, Tv.wTest, Tv.wAnd, Tv.wOr, Tv.wNot, Tv.wIf, Tv.wAndV, Tv.wOrV, Tv.wNotV, Tv.wCall, Tv.wCons, Tv.wNil, Tv.wV, Tv.wC, Tv.wTup, Tv.wLst, Tv.wSeqT, Tv.wO, Tv.wLen, Tv.wList, Tv.wTuple, Tv.wCat, Tv.wSl, Tv.wLst1, Tv.wTup1, Tv.wRng1, Tv.wRng2, Tv.wEnum, Tv.wFor, Tv.wLc, Tv.wYes, Tv.wCB, Tv.wipeE, Tv.gSet, Tv.gNilT, Tv.gConsT, Tv.gTupT, Tv.cellOf, Tv.env0, Tv.fEq, Tv.fIn, Tv.fI0, Tv.fI, Tv.fSc, Tv.fIsN, Tv.fIsB, Tv.fIx, Tv.fIxS, Tv.fCatT, Tv.fInt1, Tv.fMin2, List.zipWith_cons_cons, List.zipWith_nil_left, List.length_cons, List.length_nil, List.cons_append, List.nil_append, List.replicate, List.getElem?_cons_zero, List.getElem?_cons_succ, List.set_cons_zero, List.set_cons_succ, Tv.wRoom, Tv.wRoomSet, Tv.wIfDraw, Tv.wStar, Tv.wLen6, Tv.wFld, Tv.wExt, Tv.wTru, Tv.wChain, Tv.fIsi_e, Tv.fInF, Tv.seq_l, Tv.seq_t, Tv.lst_l, Tv.tup_t, Tv.scal_ii, Tv.scal_ss, Tv.scal_bb, Tv.same_ii, Tv.same_ss, Tv.same_bb, Tv.at_0, Tv.at_1, Tv.at_2, Tv.at_3, Tv.isN_non, Tv.isN_int, Tv.isN_str, Tv.isN_tup, Tv.isN_lst, Tv.isN_bl, Cell.val.injEq, T.op.injEq, forall_const, Tv.isi_non_tuple, Tv.isi_non_str, Tv.isi_non_int, Tv.isi_non_bool, Tv.isi_non_dict, Tv.isi_non_list, Tv.isi_bl_tuple, Tv.isi_bl_str, Tv.isi_bl_int, Tv.isi_bl_bool, Tv.isi_bl_dict, Tv.isi_bl_list, Tv.isi_int_tuple, Tv.isi_int_str, Tv.isi_int_int, Tv.isi_int_bool, Tv.isi_int_dict, Tv.isi_int_list, Tv.isi_str_tuple, Tv.isi_str_str, Tv.isi_str_int, Tv.isi_str_bool, Tv.isi_str_dict, Tv.isi_str_list, Tv.isi_tup_tuple, Tv.isi_tup_str, Tv.isi_tup_int, Tv.isi_tup_bool, Tv.isi_tup_dict, Tv.isi_tup_list, Tv.isi_lst_tuple, Tv.isi_lst_str, Tv.isi_lst_int, Tv.isi_lst_bool, Tv.isi_lst_dict, Tv.isi_lst_list, Tv.isi_dic_tuple, Tv.isi_dic_str, Tv.isi_dic_int, Tv.isi_dic_bool, Tv.isi_dic_dict, Tv.isi_dic_list, V.ty.injEq, Tv.wLc2, Tv.fAll, Tv.wDropX, Tv.wSetX, Tv.wRaise, Tv.wIsi2, Tv.wDead, Tv.wStr1, Tv.fInS, Tv.fAddS, Tv.fLenS, Tv.wDisp, Tv.fDIn, Tv.fDGet, Tv.wISet, ↓reduceIte, Bool.false_eq_true, decide_eq_true_eq, T.int.injEq, T.str.injEq, T.bl.injEq, T.lst.injEq, T.tup.injEq, exists_eq_left', exists_eq_left, exists_and_left, true_and, and_true, reduceCtorEq, ne_eq, not_false_eq_true, not_true_eq_false, forall_eq', forall_eq, Option.some.injEq, Option.isSome_some]
                  refine ⟨by rw [List.length_map, setBs_len]; omega, fun j acc => acc = ((setBs bs i x).take j).map mkB, rfl, fun j t9 acc hj hacc => ?_, fun acc hacc => ?_⟩
                  · rw [List.getElem?_map] at hj
                    obtain ⟨b9, hb9, rfl⟩ := Option.map_eq_some_iff.mp hj
                    refine ⟨_, rfl, _, Tv.at_0, _, rfl, _, Tv.at_1, ?_⟩
                    show acc ++ [mkB b9] = ((setBs bs i x).take (j + 1)).map mkB
                    rw [hacc, List.take_add_one, hb9, List.map_append]
                    rfl
                  · have hacc : acc = ((setBs bs i x).take ((setBs bs i x).map fun b : T × T => T.lst [b.1, b.2]).length).map mkB := hacc
                    rw [List.length_map, List.take_length] at hacc
                    rw [hacc]
                    exact px
              | _ => cases eq1
          | _ => cases eb
  | _ => cases et
theorem okRepls {f : Addr} {fd : FuncData} (F : Fun K "_law_replaced" "_law_replaced" sLRepl f fd) (m : mg "_law_replaced" = some (.ref f)) (kp : PySem.W.keepIn K (.ref f) = true) (bd : Binds K fd ["_law_part_here", "_law_place", "_law_new"] []) (B : Bt mg) : ∀ n, CRpl P w K mg base n
  | 0 => ⟨f, fd, _, fn_no fun vs H Q E h => by
      obtain ⟨R, F, ts, Pt, _, _, ⟨_, _, _, _, h, _⟩, _⟩ := h
      exact absurd h (Nat.not_lt_zero _), m, kp, bd⟩
  | n + 1 => ⟨f, fd, _, okLRepl F B (okRepls F m kp bd B n) fun cdv A outer s H E R hr => brTail B (okRepls F m kp bd B n) cdv A outer s H E R hr, m, kp, bd⟩
end
end Tl
/-! drawn parts are right parts; a law's begin -/
namespace Tl
open PySem PySem.Spec PyProof.Rows L2 Lw Tv Nm
theorem name_len {z : Str} (h : okS z = true) : z.length ≤ 8 ∧ 1 ≤ z.length := by
  unfold okS at h
  obtain ⟨_, h⟩ := Bool.and_eq_true_iff.mp h
  obtain ⟨h, _⟩ := Bool.and_eq_true_iff.mp h
  obtain ⟨h1, h2⟩ := Bool.and_eq_true_iff.mp h
  exact ⟨of_decide_eq_true h2, of_decide_eq_true h1⟩
theorem term_ok {zs : List Str} {a : Str} (h : a = "" ∨ a ∈ zs) : termB zs (.str a) = true := by
  unfold termB
  rcases h with rfl | h
  · simp [inB]
  · simp [inB, h]
theorem lit_ok {zs : List Str} {a b : Str} {n : Int} (h : LitT zs (.tup [.str a, .str b, .int n])) : litB zs (.str a) (.str b) = true := by
  obtain ⟨a', b', n', e, ha, hb, ne⟩ := h
  simp only [T.tup.injEq, List.cons.injEq, T.str.injEq, T.int.injEq, and_true] at e
  obtain ⟨rfl, rfl, rfl⟩ := e
  unfold litB
  rw [term_ok ha, term_ok hb]
  simp [eqF, ne]
theorem lit_dat {zs : List Str} {t : T} (nz : NamesOk zs) (h : LitT zs t) : datR t = true := by
  obtain ⟨a, b, n, rfl, ha, hb, _⟩ := h
  have l : ∀ {x : Str}, x = "" ∨ x ∈ zs → x.length ≤ 9 := fun {x} h => by
    rcases h with rfl | h
    · decide +kernel
    · have := (name_len (nz.ok x h)).1
      omega
  exact dat_mk (fun t m => by
    simp only [List.mem_cons, List.not_mem_nil, or_false] at m
    rcases m with rfl | rfl | rfl
    · exact decide_eq_true (l ha)
    · exact decide_eq_true (l hb)
    · rfl) (by simp)
/-- a part's own row is right, its inner parts are drawn ones of less depth -/
theorem part_node {zs cs : List Str} (nz : NamesOk zs) (nc : NamesOk cs) : ∀ {d : Nat} {t : T}, PartOk zs cs d t → formB t = true ∧ termsB zs t = true ∧ ∀ u ∈ innerT t, ∃ e, e < d ∧ PartOk zs cs e u
  | 0, t, h => by
    rcases h with ⟨a, b, n, rfl, h⟩ | ⟨a, rfl, h⟩
    · refine ⟨by rw [formB_atmost]; rfl, by rw [terms_atmost]; exact lit_ok h, fun u m => ?_⟩
      rw [inner_atmost] at m
      cases m
    · refine ⟨formB_missing, by rw [terms_missing]; simp [inB, h], fun u m => ?_⟩
      rw [inner_missing] at m
      cases m
  | d + 1, t, h => by
    rcases h with h | ⟨c, l, p, rfl, hc, hl, hp⟩ | ⟨p, rfl, hp⟩ | ⟨w, ps, rfl, hw, l1, l4, hp⟩ | ⟨bs, l, rfl, l1, l3, hb, hl⟩
    · obtain ⟨h1, h2, h3⟩ := part_node nz nc h
      exact ⟨h1, h2, fun u m => (h3 u m).imp fun e he => ⟨Nat.lt_succ_of_lt he.1, he.2⟩⟩
    · obtain ⟨a, b, n, rfl, hl2⟩ := id hl
      refine ⟨?_, by rw [terms_must]; exact lit_ok hl, fun u m => ?_⟩
      · rw [formB_must]
        have e : nameB (.str c) = true := nc.ok c hc
        rw [e]
        rfl
      · rw [inner_must] at m
        rw [List.mem_singleton.mp m]
        exact ⟨d, Nat.lt_succ_self d, hp⟩
    · refine ⟨formB_not, terms_not, fun u m => ?_⟩
      rw [inner_not] at m
      rw [List.mem_singleton.mp m]
      exact ⟨d, Nat.lt_succ_self d, hp⟩
    · refine ⟨?_, terms_join hw, fun u m => ?_⟩
      · rw [formB_join hw]
        show (decide (1 ≤ ps.length) && decide (ps.length ≤ 4)) = true
        rw [decide_eq_true l1, decide_eq_true l4]
        rfl
      · rw [inner_join hw] at m
        exact ⟨d, Nat.lt_succ_self d, hp u m⟩
    · refine ⟨(Form.case bs l l1 l3).b, rfl, fun u m => ?_⟩
      rw [inner_case] at m
      refine ⟨d, Nat.lt_succ_self d, ?_⟩
      rcases List.mem_append.mp m with m | m
      · obtain ⟨b, hb1, hb2⟩ := List.mem_flatMap.mp m
        simp only [List.mem_cons, List.not_mem_nil, or_false] at hb2
        rcases hb2 with rfl | rfl
        · exact (hb b hb1).1
        · exact (hb b hb1).2
      · rw [List.mem_singleton.mp m]
        exact hl
theorem part_well {zs cs : List Str} (nz : NamesOk zs) (nc : NamesOk cs) : ∀ {n d : Nat} {t : T}, d < n → PartOk zs cs d t → wellT n t
  | 0, _, _, h, _ => absurd h (Nat.not_lt_zero _)
  | n + 1, d, t, h, hp => by
    obtain ⟨h1, _, h3⟩ := part_node nz nc hp
    refine ⟨h1, fun u m => ?_⟩
    obtain ⟨e, he, hu⟩ := h3 u m
    exact part_well nz nc (by omega) hu
theorem first_none {f : Nat → T → Option (List T × Str)} : ∀ {us : List T} {k : Nat}, (∀ i u, u ∈ us → f i u = none) → firstT f k us = none
  | [], _, _ => rfl
  | u :: us, k, h => by
    show (match f k u with
      | some y => some y
      | none => firstT f (k + 1) us) = none
    rw [h k u List.mem_cons_self]
    exact first_none fun i v m => h i v (List.mem_cons_of_mem _ m)
theorem part_chk {zs cs : List Str} (nz : NamesOk zs) (nc : NamesOk cs) : ∀ {n d : Nat} {t : T} {p : List T}, PartOk zs cs d t → chkT zs n t p = none
  | 0, _, _, _, _ => rfl
  | n + 1, d, t, p, hp => by
    obtain ⟨h1, h2, h3⟩ := part_node nz nc hp
    show (if formB t = true then (if termsB zs t = true then _ else _) else _) = none
    rw [if_pos h1, if_pos h2]
    refine first_none fun i u m => ?_
    obtain ⟨e, _, hu⟩ := h3 u m
    exact part_chk nz nc hu
theorem part_dat {zs cs : List Str} (nz : NamesOk zs) (nc : NamesOk cs) : ∀ {d : Nat} {t : T}, PartOk zs cs d t → datR t = true ∧ depT t ≤ 3 * d + 1
  | 0, t, h => by
    rcases h with ⟨a, b, n, rfl, h⟩ | ⟨a, rfl, h⟩
    · have e := lit_dat nz h
      refine ⟨dat_mk (fun t m => ?_) (by simp), by simp [depT, depTs]⟩
      rcases List.mem_cons.mp m with rfl | m
      · exact (by decide +kernel : datR (.str "atmost") = true)
      · exact dat_i e m
    · refine ⟨dat_mk (fun t m => ?_) (by simp), by simp [depT, depTs]⟩
      simp only [List.mem_cons, List.not_mem_nil, or_false] at m
      rcases m with rfl | rfl
      · exact (by decide +kernel : datR (.str "missing") = true)
      · have := (name_len (nz.ok a h)).1
        exact decide_eq_true (by omega)
  | d + 1, t, h => by
    have w9 : ∀ {x : Str}, x ∈ (["must", "not", "and", "or", "case"] : List Str) → datR (.str x) = true := fun {x} m => by
      simp only [List.mem_cons, List.not_mem_nil, or_false] at m
      rcases m with rfl | rfl | rfl | rfl | rfl <;> decide +kernel
    rcases h with h | ⟨c, l, p, rfl, hc, hl, hp⟩ | ⟨p, rfl, hp⟩ | ⟨w, ps, rfl, hw, l1, l4, hp⟩ | ⟨bs, l, rfl, l1, l3, hb, hl⟩
    · have := part_dat nz nc h
      exact ⟨this.1, by omega⟩
    · have ih := part_dat nz nc hp
      obtain ⟨a, b, n, rfl, _⟩ := id hl
      refine ⟨dat_mk (fun t m => ?_) (by simp), by simp only [depT, depTs]; omega⟩
      simp only [List.mem_cons, List.not_mem_nil, or_false] at m
      rcases m with rfl | rfl | rfl | rfl
      · exact w9 (by simp)
      · have := (name_len (nc.ok c hc)).1
        exact decide_eq_true (by omega)
      · exact lit_dat nz hl
      · exact ih.1
    · have ih := part_dat nz nc hp
      refine ⟨dat_mk (fun t m => ?_) (by simp), by simp only [depT, depTs]; omega⟩
      simp only [List.mem_cons, List.not_mem_nil, or_false] at m
      rcases m with rfl | rfl
      · exact w9 (by simp)
      · exact ih.1
    · have le : depTs ps ≤ 3 * d + 1 := dep_all fun u m => (part_dat nz nc (hp u m)).2
      refine ⟨dat_mk (fun t m => ?_) (by simp), by simp only [depT, depTs]; omega⟩
      simp only [List.mem_cons, List.not_mem_nil, or_false] at m
      rcases m with rfl | rfl
      · rcases hw with rfl | rfl <;> exact w9 (by simp)
      · exact dat_mk (fun u m => (part_dat nz nc (hp u m)).1) (by omega)
    · have le : depTs (bs.map fun b : T × T => T.tup [b.1, b.2]) ≤ 3 * d + 2 := dep_all fun u m => by
        obtain ⟨b, hb1, rfl⟩ := List.mem_map.mp m
        have h1 := (part_dat nz nc (hb b hb1).1).2
        have h2 := (part_dat nz nc (hb b hb1).2).2
        simp only [depT, depTs]
        omega
      have ll := part_dat nz nc hl
      refine ⟨dat_mk (fun t m => ?_) (by simp), by simp only [depT, depTs]; omega⟩
      simp only [List.mem_cons, List.not_mem_nil, or_false] at m
      rcases m with rfl | rfl | rfl
      · exact w9 (by simp)
      · refine dat_mk (fun u m => ?_) (by rw [List.length_map]; omega)
        obtain ⟨b, hb1, rfl⟩ := List.mem_map.mp m
        refine dat_mk (fun v m => ?_) (by simp)
        simp only [List.mem_cons, List.not_mem_nil, or_false] at m
        rcases m with rfl | rfl
        · exact (part_dat nz nc (hb b hb1).1).1
        · exact (part_dat nz nc (hb b hb1).2).1
      · exact ll.1
where
  dep_all {us : List T} {k : Nat} (h : ∀ u ∈ us, depT u ≤ k) : depTs us ≤ k := by
    induction us with
    | nil => exact Nat.zero_le _
    | cons u us ih => exact Nat.max_le.mpr ⟨h u List.mem_cons_self, ih fun v m => h v (List.mem_cons_of_mem _ m)⟩
/-! the begin of a law: the hand, the world -/
theorem noRooms_all {ts : List T} (h : ∀ t ∈ ts, noRoom t = true) : noRooms ts = true := by
  induction ts with
  | nil => rfl
  | cons t ts ih =>
    show (noRoom t && noRooms ts) = true
    rw [h t List.mem_cons_self, ih fun u m => h u (List.mem_cons_of_mem _ m)]
    rfl
theorem noRoom_strs {zs : List Str} (h : 0 < zs.length) : noRoom (strsT zs) = true := by
  cases zs with
  | nil => cases h
  | cons z zs =>
    have e : noRooms ((z :: zs).map T.str) = true := noRooms_all fun t m => by
      obtain ⟨y, _, rfl⟩ := List.mem_map.mp m
      rfl
    simp only [strsT, noRoom, Bool.and_eq_true, Bool.or_eq_true]
    exact ⟨.inl rfl, e⟩
theorem noRoom_pool {zs : List Str} {pool : List T} (h : 0 < pool.length) (hp : ∀ t ∈ pool, LitT zs t) : noRoom (.lst pool) = true := by
  cases pool with
  | nil => cases h
  | cons z ps =>
    have e : noRooms (z :: ps) = true := noRooms_all fun t m => by
      obtain ⟨a, b, n, rfl, _⟩ := hp t m
      rfl
    have e2 : bigT z = true := by
      obtain ⟨a, b, n, rfl, _⟩ := hp z List.mem_cons_self
      rfl
    simp only [noRoom, Bool.and_eq_true, Bool.or_eq_true, List.any_cons]
    exact ⟨.inl (.inl e2), e⟩
theorem world_start {K : PySem.W.Frag} {D : Ends} {σ : List (Option V)} {H1 : Hp} {p q : Addr} {m cm : Nat} {x y z : Int} {wW wR : Rs → WS} {v0 : V} (hA : HandAt H1 p q) (hσ : σ = some v0 :: some (.ref p) :: none :: List.replicate m none)
    (hW : ∀ W : WEnds, (∀ zs pool cs, WorldOk zs pool cs → zs.length ≤ cm → W.nx (.un :: .val (.op (.ref p)) :: .own (.lst [strsT zs, .lst pool, strsT cs, .lst [.int x, .int y, .int z]]) :: List.replicate m .un)) → wW (handR p q none) W (.un :: .val (.op (.ref p)) :: .un :: List.replicate m .un))
    (hR : ∀ (r : Addr) (zs : List Str) (pool : List T) (cs : List Str) (W : WEnds), WorldOk zs pool cs → zs.length ≤ cm → W.rt (.bl true) → wR (handR p q (some r)) W (.un :: .val (.op (.ref p)) :: .val (worldT zs pool cs r) :: List.replicate m .un))
    (hq : ∀ H', D.rt (.bl true) H') : tsAll false K noW wW { D with nx := fun σ H => tsAll false K noW wR D σ H } σ H1 := by
  subst hσ
  have ok : Ok (handR p q none) (fun _ => none) H1 := ⟨fun a o e => (by cases e), hA, ⟨fun e => (by cases e), fun e => by cases e⟩, fun b e => by cases e⟩
  refine ⟨handR p q none, fun _ => none, H1, fun _ => none, .un :: .val (.op (.ref p)) :: .un :: List.replicate m .un, { nx := fun e => ∃ zs pool cs, WorldOk zs pool cs ∧ zs.length ≤ cm ∧ e = .un :: .val (.op (.ref p)) :: .own (.lst [strsT zs, .lst pool, strsT cs, .lst [.int x, .int y, .int z]]) :: List.replicate m .un, rt := fun _ => False }, ⟨fun {σ' env F' H'} h s' _ sl' => ?_, fun h => h.elim, fun h => h.elim, fun h => h.elim, fun h => h.elim⟩, Step.refl ok, ⟨by simp, fun i c e => ?_, fun i j ti tj a e => ?_⟩, hW _ fun zs pool cs h1 h2 => ⟨zs, pool, cs, h1, h2, rfl⟩⟩
  · obtain ⟨zs, pool, cs, wo, cl, rfl⟩ := h
    obtain ⟨_, e1, v1, rfl, r1⟩ := sl'.ok 1 _ rfl
    obtain ⟨_, e2, a, rfl, f1, f2, f3, f4⟩ := sl'.ok 2 _ rfl
    cases op_rep r1
    obtain ⟨r, F1, ok1, rep⟩ := world_room s'.ok ⟨a, rfl, f3, f2, f1, f4⟩ (noRoom_strs wo.nz.l0) (noRoom_pool wo.p0 wo.po) (noRoom_strs wo.nc.l0)
    refine ⟨handR p q (some r), F1, H', F1, .un :: .val (.op (.ref p)) :: .val (worldT zs pool cs r) :: List.replicate m .un, { nx := fun _ => False, rt := fun t => t = .bl true }, ⟨fun h => h.elim, fun {t v F2 H2} h _ _ r => ?_, fun h => h.elim, fun h => h.elim, fun h => h.elim⟩, Step.refl ok1, ⟨?_, fun i c e => ?_, fun i j ti tj a e => ?_⟩, hR r zs pool cs _ wo cl rfl⟩
    · subst h
      have r : Rep K F2 v (.bl true) := r
      cases r
      exact hq H2
    · have := sl'.len
      simpa using this
    · match i, e with
      | 0, e =>
        cases e
        have hl := sl'.len
        exact ⟨σ'[0]'(by rw [hl]; simp), List.getElem?_eq_getElem _, trivial⟩
      | 1, e =>
        cases e
        exact ⟨_, e1, _, rfl, .op _⟩
      | 2, e =>
        cases e
        exact ⟨_, e2, _, rfl, rep⟩
      | i + 3, e =>
        have e : (List.replicate m Cell.un)[i]? = some c := e
        have hi := (List.getElem?_eq_some_iff.mp e).1
        obtain rfl := (List.mem_replicate.mp (List.mem_of_getElem? e)).2
        have hl := sl'.len
        refine ⟨σ'[i + 3]'(by rw [hl]; simp at hi ⊢; omega), List.getElem?_eq_getElem _, trivial⟩
    · exfalso
      match i, e with
      | 0, e => cases e
      | 1, e => cases e
      | 2, e => cases e
      | i + 3, e =>
        have e : (List.replicate m Cell.un)[i]? = some (.own ti) := e
        cases (List.mem_replicate.mp (List.mem_of_getElem? e)).2
  · match i, e with
    | 0, e =>
      cases e
      exact ⟨_, rfl, trivial⟩
    | 1, e =>
      cases e
      exact ⟨_, rfl, _, rfl, .op _⟩
    | 2, e =>
      cases e
      exact ⟨_, rfl, trivial⟩
    | i + 3, e =>
      have e : (List.replicate m Cell.un)[i]? = some c := e
      have hi := (List.getElem?_eq_some_iff.mp e).1
      obtain rfl := (List.mem_replicate.mp (List.mem_of_getElem? e)).2
      rw [List.length_replicate] at hi
      exact ⟨none, by show (List.replicate m (none : Option V))[i]? = some none; rw [List.getElem?_replicate, if_pos hi], trivial⟩
  · exfalso
    match i, e with
    | 0, e => cases e
    | 1, e => cases e
    | 2, e => cases e
    | i + 3, e =>
      have e : (List.replicate m Cell.un)[i]? = some (.own ti) := e
      cases (List.mem_replicate.mp (List.mem_of_getElem? e)).2
end Tl
/-! conditions made; the law -/
namespace Tl
open PySem PySem.Spec PyProof.Rows L2 Lw Tv Nm Lh
abbrev sCondI : Stmt := inClass (Lw.top 29) 0
def condT (CC CL : Addr) (zs : List Str) (t : T) : T := .obj CC [("columns", colsT CL zs), ("part", t)]
def cCond (CL CB : Addr) (n : Nat) : CtI := fun _ ts P PX => ∃ zs t, ts = [colsT CL zs, t] ∧ datR t = true ∧ deepT n t ∧ n ≤ 900 ∧ (chkT zs n t [] = none → P [("columns", colsT CL zs), ("part", t)]) ∧ ∀ q why, chkT zs n t [] = some (q, why) → PX CB [("why", .str why), ("place", .tup q)]
def cLawCols (CL : Addr) : CtX := fun _ ts P _ => ∃ zs, ts = [strsT zs] ∧ Fine zs ∧ P (colsT CL zs)
theorem first_some {f : Nat → T → Option (List T × Str)} {y : List T × Str} : ∀ {us : List T} {k : Nat}, firstT f k us = some y → ∃ i u, u ∈ us ∧ f i u = some y
  | [], _, h => by cases h
  | u :: us, k, h => by
    have h : (match f k u with
      | some y => some y
      | none => firstT f (k + 1) us) = some y := h
    cases e : f k u with
    | some z =>
      rw [e] at h
      exact ⟨k, u, List.mem_cons_self, by rw [e]; exact h⟩
    | none =>
      rw [e] at h
      obtain ⟨i, v, m, hv⟩ := first_some h
      exact ⟨i, v, List.mem_cons_of_mem _ m, hv⟩
/-- what is wrong, and where -/
theorem chk_said {zs : List Str} : ∀ {n : Nat} {t : T} {p : List T} {q : List T} {why : Str}, chkT zs n t p = some (q, why) → ∃ is : List Nat, q = p ++ natsT is ∧ is.length < n ∧ (why = "form" ∨ why = "name")
  | 0, _, _, _, _, h => by cases h
  | n + 1, t, p, q, why, h => by
    have h : (if formB t = true then (if termsB zs t = true then firstT (fun i u => chkT zs n u (p ++ [T.int (i : Int)])) 0 (innerT t) else some (p, ("name" : Str))) else some (p, ("form" : Str))) = some (q, why) := h
    split at h
    · split at h
      · obtain ⟨i, u, _, hu⟩ := first_some h
        obtain ⟨is, e, l, y⟩ := chk_said hu
        refine ⟨i :: is, ?_, by rw [List.length_cons]; omega, y⟩
        rw [e, List.append_assoc]
        rfl
      · cases h
        exact ⟨[], by simp [natsT], Nat.succ_pos n, .inr rfl⟩
    · cases h
      exact ⟨[], by simp [natsT], Nat.succ_pos n, .inl rfl⟩
theorem nats_dat {q : List Nat} (h : q.length ≤ 1000) : datR (.tup (natsT q)) = true := dat_mk (fun t m => by
  obtain ⟨i, _, rfl⟩ := List.mem_map.mp m
  rfl) (by unfold natsT; rw [List.length_map]; exact h)
theorem nats_dep {q : List Nat} : depT (.tup (natsT q)) ≤ 1 := by
  have : depTs (natsT q) ≤ 0 := by
    induction q with
    | nil => exact Nat.le_refl _
    | cons i q ih => exact Nat.max_le.mpr ⟨Nat.le_refl _, ih⟩
  show depTs (natsT q) + 1 ≤ 1
  omega
theorem nats_okN {q : List Nat} : OkN 1 (.tup (natsT q)) := OkN.tup fun t m => by
  obtain ⟨i, _, rfl⟩ := List.mem_map.mp m
  exact OkN.int
theorem eqT_refl {n : Nat} {t : T} (h : OkN n t) : eqT t t = true := PySem.SeqAt.eqv_refl _ h.c
theorem cutT_take {xs : List T} {k : Nat} (h : k ≤ xs.length) : cutT xs none (some (k : Int)) = xs.take k := by
  unfold cutT
  rw [HT.sIx_nat, show HT.sIx xs.length 0 none = 0 from rfl, Nat.min_eq_left h]
  rfl
theorem take_nats {q : List Nat} {k : Nat} : (natsT q).take k = natsT (q.take k) := (List.map_take ..).symm
theorem map_str_inj : ∀ {xs ys : List Str}, xs.map V.str = ys.map V.str → xs = ys := @Nm.map_inj
theorem cols_lift {K : PySem.W.Frag} {CL CB : Addr} {vs : List V} {H : Hp} {Q : VK} {E : XK} (h : spTX K [.S] false (cLawCols CL) vs H Q E) : spMade K CL CB (fun n => decide (1 ≤ n) && decide (n ≤ 4)) vs H Q E := by
  obtain ⟨R, F, ts, P, PX, ok, r, ⟨zs, rfl, fz, k⟩, hq, _⟩ := h
  cases r with
  | @cons _ _ v _ _ _ r l =>
    cases l
    have r : Rep K F v (.lst (zs.map T.str)) := r
    generalize e : T.lst (zs.map T.str) = t at r
    cases r with
    | @lst a us ts g l =>
      cases e
      have eu := l.strs
      subst eu
      obtain ⟨f1, f2, f3⟩ := fz
      have hl := (sans_some (ok.sub _ _ g)).2
      have len : (zs.map V.str).length = zs.length := List.length_map ..
      refine ⟨a, _, rfl, hl, ?_, by rw [len]; omega, fun x m => ?_, ⟨fun _ o p ys H' ho hp e _ s c => ?_, fun i d => ?_⟩⟩
      · rw [len]
        show (decide (1 ≤ zs.length) && decide (zs.length ≤ 4)) = true
        rw [decide_eq_true (show 1 ≤ zs.length by omega), decide_eq_true (show zs.length ≤ 4 by omega)]
        rfl
      · obtain ⟨z, hz, rfl⟩ := List.mem_map.mp m
        have := (name_len (f1 z hz)).1
        exact .inl ⟨z, rfl, by omega⟩
      · have e := map_str_inj e
        subst e
        obtain ⟨⟨dx, c1⟩, c2⟩ := c
        have st := keep_all (step_same ok s) (fun b => b = o ∨ b = p) fun b hb => by
          rcases hb with rfl | rfl
          · exact ⟨ho, ok.adNew ho, ok.free ho⟩
          · exact ⟨hp, ok.adNew hp, ok.free hp⟩
        refine hq _ (.ref o) _ H' k st (.obj (a := o) (dx := dx) (C := CL) (fs := [("names", .ref p)]) (ts := [.tup (zs.map T.str)]) ?_ (.cons (.tup (.inl (.inl ?_)) (repL_strs zs)) .nil))
        · show (if o = o ∨ o = p then H' o else F o) = _
          rw [if_pos (.inl rfl), c1]
        · show (if p = o ∨ p = p then H' p else F p) = _
          rw [if_pos (.inr rfl), c2]
      · exfalso
        rw [fine_due ⟨f1, f2, f3⟩] at d
        cases d
    | _ => cases e
section
variable {P : Program} {w : World} {K : PySem.W.Frag} {mg : Str → Option Value} {base : Heap} {CC CL CB : Addr}

theorem scCondI : FnScope ["self", "columns", "part"] ["self", "columns", "part"] (defScope sCondI) := ⟨rfl, rfl, rfl, by decide +kernel, rfl, by decide +kernel, by decide +kernel⟩
theorem okCondI {f : Addr} {fd : FuncData} (F : Fun K "__init__" "Condition.__init__" sCondI f fd) (B : Bt mg) {n : Nat} (cK : CCk P w K mg base CL CB n) (cl : Cls K CC) (n1 : NoAttr K CC "columns") (n2 : NoAttr K CC "part") : FnOk P w K mg base (L2.CX P w) (6 + n + 1) f fd ["self", "columns", "part"] (spIT K CC [.S, .S] (cCond CL CB n)) := by
  refine okvI F scCondI rfl (by decide) fun cdv A outer s H E R ts Pt PX hr hc => ?_
  obtain ⟨zs, t, rfl, dt, dp, n9, k0, kx⟩ := hc
  refine ⟨_, (cons_ (dropX_ (κs := [.S, .S, .S]) (ms := [.S, .S, .S]) rfl (fun a => cK.pe (takes_of rfl rfl rfl rfl) hr (Nat.le_refl _) (by rfl) a) (pa1_ (pv_ (κ := .S) 1 (pv 1)) (pa1_ (pv_ (κ := .S) 2 (pv 2)) (pa1_ (ptup_ (κ := .S) pa0_ rfl) pa0_))))
      (cons_ (fldSet_ 0 cl n1 (pv 0) (pv_ (κ := .S) 1 (pv 1)) (fun a b => ps_fld a b (by rfl)))
      (one_ (fldSet_ 0 cl n2 (pv 0) (pv_ (κ := .S) 2 (pv 2)) (fun a b => ps_fld a b (by rfl)))))), ?_⟩
  intro self
  simp only [Tv.wSeq, Tv.wNext, Tv.wIfS, Tv.wSet, Tv.wSetN, Tv.wRet, Tv.wRetO, Tv.wFrz, Tv.wApp, Tv.wOp, Tv.wTest, Tv.wAnd, Tv.wOr, Tv.wNot, Tv.wIf, Tv.wAndV, Tv.wOrV, Tv.wNotV, Tv.wCall, Tv.wCons, Tv.wNil, Tv.wV, Tv.wC, Tv.wTup, Tv.wLst, Tv.wSeqT, Tv.wO, Tv.wLen, Tv.wList, Tv.wTuple, Tv.wCat, Tv.wSl, Tv.wLst1, Tv.wTup1, Tv.wRng1, Tv.wRng2, Tv.wEnum, Tv.wFor, Tv.wLc, Tv.wYes, Tv.wCB, Tv.wipeE, Tv.gSet, Tv.gNilT, Tv.gConsT, Tv.gTupT, Tv.cellOf, Tv.env0, Tv.fEq, Tv.fIn, Tv.fI0, Tv.fI, Tv.fSc, Tv.fIsN, Tv.fIsB, Tv.fIx, Tv.fIxS, Tv.fCatT, Tv.fInt1, Tv.fMin2, List.zipWith_cons_cons, List.zipWith_nil_left, List.length_cons, List.length_nil, List.cons_append, List.nil_append, List.replicate, List.getElem?_cons_zero, List.getElem?_cons_succ, List.set_cons_zero, List.set_cons_succ, Tv.wRoom, Tv.wRoomSet, Tv.wIfDraw, Tv.wStar, Tv.wLen6, Tv.wFld, Tv.wExt, Tv.wTru, Tv.wChain, Tv.fIsi_e, Tv.fInF, Tv.seq_l, Tv.seq_t, Tv.lst_l, Tv.tup_t, Tv.scal_ii, Tv.scal_ss, Tv.scal_bb, Tv.same_ii, Tv.same_ss, Tv.same_bb, Tv.at_0, Tv.at_1, Tv.at_2, Tv.at_3, Tv.isN_non, Tv.isN_int, Tv.isN_str, Tv.isN_tup, Tv.isN_lst, Tv.isN_bl, Cell.val.injEq, T.op.injEq, forall_const, Tv.isi_non_tuple, Tv.isi_non_str, Tv.isi_non_int, Tv.isi_non_bool, Tv.isi_non_dict, Tv.isi_non_list, Tv.isi_bl_tuple, Tv.isi_bl_str, Tv.isi_bl_int, Tv.isi_bl_bool, Tv.isi_bl_dict, Tv.isi_bl_list, Tv.isi_int_tuple, Tv.isi_int_str, Tv.isi_int_int, Tv.isi_int_bool, Tv.isi_int_dict, Tv.isi_int_list, Tv.isi_str_tuple, Tv.isi_str_str, Tv.isi_str_int, Tv.isi_str_bool, Tv.isi_str_dict, Tv.isi_str_list, Tv.isi_tup_tuple, Tv.isi_tup_str, Tv.isi_tup_int, Tv.isi_tup_bool, Tv.isi_tup_dict, Tv.isi_tup_list, Tv.isi_lst_tuple, Tv.isi_lst_str, Tv.isi_lst_int, Tv.isi_lst_bool, Tv.isi_lst_dict, Tv.isi_lst_list, Tv.isi_dic_tuple, Tv.isi_dic_str, Tv.isi_dic_int, Tv.isi_dic_bool, Tv.isi_dic_dict, Tv.isi_dic_list, V.ty.injEq, Tv.wLc2, Tv.fAll, Tv.wDropX, Tv.wSetX, Tv.wRaise, Tv.wIsi2, Tv.wDead, Tv.wStr1, Tv.fInS, Tv.fAddS, Tv.fLenS, Tv.wDisp, Tv.fDIn, Tv.fDGet, Tv.wISet, Tv.wTry, Tv.noEx, Tv.wXf, Tv.fIsX, Tv.wSetMk, Tv.wMk, Tv.wFldSet, Cell.own.injEq, T.obj.injEq, T.exc.injEq, Value.ref.injEq, List.all_nil, List.all_cons, Bool.and_true, Bool.true_and, ↓reduceIte, Bool.false_eq_true, decide_eq_true_eq, T.int.injEq, T.str.injEq, T.bl.injEq, T.lst.injEq, T.tup.injEq, exists_eq_left', exists_eq_left, exists_and_left, true_and, and_true, reduceCtorEq, ne_eq, not_false_eq_true, not_true_eq_false, forall_eq', forall_eq, Option.some.injEq, Option.isSome_some]
  refine ⟨zs, t, [], rfl, dt, dp, by show 0 + n ≤ 1000; omega, fun h => ?_, fun q why h => kx q why h⟩
  refine ⟨by decide, by decide, by decide +kernel, _, rfl, k0 h⟩
abbrev s09 : Stmt := Lw.top 60
theorem sc09 : FnScope ["_law_script", "_law_hand_here", "_law_world_here", "_law_names_here", "_law_stranger", "_law_part_here", "_law_place", "_law_inner_here", "_law_places_here", "_law_spoiled", "_law_first", "_law_turn", "_law_due", "_law_raised", "_law_condition", "e"] ["_law_script"] (defScope s09) := ⟨rfl, rfl, rfl, by decide +kernel, rfl, by decide +kernel, by decide +kernel⟩
theorem ok09 {f : Addr} {fd : FuncData} (F : Fun K "law" "law" s09 f fd) (B : Bt mg) {fH : Addr} {fdH : FuncData} (GH : FnOk P w K mg base CX0 1 fH fdH ["_law_script"] (spHand K)) (kH : PySem.W.keepIn K (.ref fH) = true) (bH : Binds K fdH ["_law_script"] []) (mH : mg "_law_hand" = some (.ref fH))
    (cD : CD P w K mg base) (cU : Cl P w K mg base 3 "_law_unit" (spT K [.S] false cUnit)) (cW : Cl P w K mg base 6 "_law_world" (spT K [.S, .S, .S, .S, .S] true cWorld)) (cN : Cl P w K mg base 3 "_law_name" (spT K [.S, .B] false cName)) (cPa : CPa P w K mg base 12 4) (cPl : CLPl P w K mg base 4) (cRp : CRpl P w K mg base 4)
    (cSt : Cl P w K mg base 4 "_law_strange" (spT K [.S, .S, .S, .S] false cStrange)) (cFa : CLFa P w K mg base 14) (cSm : CLSm P w K mg base 16) (cCo : ClX P w K mg base 5 "_law_columns" (spTX K [.S] false (cLawCols CL)))
    {fI : Addr} {fdI : FuncData} (mC : Mk K CC fI) (GC : FnOk P w K mg base (L2.CX P w) 21 fI fdI ["self", "columns", "part"] (spIT K CC [.S, .S] (cCond CL CB 14))) (bC : Binds K fdI ["self", "columns", "part"] []) (gC : mg "Condition" = some (.ref CC)) (clC : Cls K CC) (nC : NoAttr K CC "part")
    (xf : XfC K CB) (xe : ExcC K CB) (x1 : PySem.W.findIn K (.ref CB) "place" = some none) (x2 : PySem.W.findIn K (.ref CB) "why" = some none) (gB : mg "BadPart" = some (.ref CB)) {BE : Addr} (gE : mg "BatchError" = some (.ref BE)) (xx : PySem.W.exmOne K (.ref CB) (.ref CB) = some true) (xb : PySem.W.kitOne K (.ref CB) (.ref BE) = some true) : FnOk P w K mg base CX0 23 f fd ["_law_script"] (spLaw K) := by
  refine F.ok sc09 (fun vs H Q E h => ?_) (fun cdv A outer s H vs Q E hr h => ?_)
  · obtain ⟨a, ns, rfl, _⟩ := h
    rfl
  obtain ⟨a0, ns, rfl, hS, hlen, k⟩ := h
  have hu1 : (A.deeper (envOfC "law" (defScope s09) s.heap.objs.size f cdv)).units + 1 + 64 < cLine := by have := hr.un; omega
  refine ⟨_, pss_cons (ps_set (i := 1) sc09.nd rfl (Or.inl rfl) (pe_call GH (hr.mono (by decide)) (by rfl) mH kH bH .nil pass0 (pa_cons (pv 0) pa_nil)))
    (pss_cons (PSv.canonR (n := false) (Wx := noW) fun R => (setN_ 2 (fun a => ps_set (i := 2) sc09.nd rfl (Or.inl rfl) a) (callN_ (κs := [.S, .S, .S, .S, .S]) (ms := [.S, .S, .S, .S, .S]) rfl (fun a => cW.pe hr (by decide) (by rfl) a) (pa1_ (pv_ (κ := .S) 1 (pv 1)) (pa1_ (pint_ (κ := .S)) (pa1_ (pint_ (κ := .S)) (pa1_ (callS_ (κ := .S) (κs := [.S]) (ms := [.S]) rfl (fun a => cU.pe hr (by decide) (by rfl) a) (pa1_ (pv_ (κ := .S) 1 (pv 1)) pa0_)) (pa1_ (PEn.up (κ := .S) (plst_ (pa1_ (pint_ (κ := .S)) (pa1_ (pint_ (κ := .S)) (pa1_ (pint_ (κ := .S)) pa0_))) rfl)) pa0_)))))))) (PSsv.canonR (n := false) (Wx := noW) fun R => (cons_ (set_ (κ := .S) 3 (fun a => ps_set (i := 3) sc09.nd rfl (Or.inl rfl) a) (pix_ (pv_ (κ := .S) 2 (pv 2)) (pint_ (κ := .M))))
      (cons_ (set_ (κ := .S) 4 (fun a => ps_set (i := 4) sc09.nd rfl (Or.inl rfl) a) (callS_ (κ := .S) (κs := [.S, .B]) (ms := [.S, .M]) rfl (fun a => cN.pe hr (by decide) (by rfl) a) (pa1_ (pv_ (κ := .S) 1 (pv 1)) (pa1_ (PEn.up (κ := .M) (plist_ (PEv.items (pv_ (κ := .S) 3 (pv 3))) (fun a => pe_callTy call_list_of (by rfl) B.list (by decide +kernel) (pa_cons a pa_nil)))) pa0_))))
      (cons_ (set_ (κ := .S) 5 (fun a => ps_set (i := 5) sc09.nd rfl (Or.inl rfl) a) (callS_ (κ := .S) (κs := [.S, .S, .S, .S]) (ms := [.S, .S, .S, .S]) rfl (fun a => cPa.pe hr (by decide) (by rfl) a) (pa1_ (pv_ (κ := .S) 1 (pv 1)) (pa1_ (pv_ (κ := .S) 2 (pv 2)) (pa1_ (pint_ (κ := .S)) (pa1_ (padd_ (μ := .S) (pint_ (κ := .M)) (callS_ (κ := .M) (κs := [.S, .S]) (ms := [.S, .S]) rfl (fun a => cD.pe hr (by decide) (by rfl) a) (pa1_ (pv_ (κ := .S) 1 (pv 1)) (pa1_ (pint_ (κ := .S)) pa0_)))) pa0_))))))
      (cons_ (setLc_ 8 (own := [("_law_place", 6), ("_law_inner_here", 7)]) rfl sc09.nd rfl rfl (sw_true rfl rfl rfl (by decide +kernel)) (srcL_ (callS_ (κ := .S) (κs := [.S, .S]) (ms := [.S, .S]) rfl (fun a => cPl.pe hr (show 2 + 4 ≤ 22 by decide) (by rfl) a) (pa1_ (pv_ (κ := .S) 5 (pv 5)) (pa1_ (ptup_ (κ := .S) pa0_ rfl) pa0_)))) (blkOk_by (N := ["_law_script", "_law_hand_here", "_law_world_here", "_law_names_here", "_law_stranger", "_law_part_here", "_law_place", "_law_inner_here", "_law_places_here", "_law_spoiled", "_law_first", "_law_turn", "_law_due", "_law_raised", "_law_condition", "e"]) (sc := defScope s09) (by decide +kernel)) (fun _ _ _ _ _ => (gtp_ (gs1_ (gnm_ (κ := .S) 6 (by decide) (pg_name (i := 6) sc09.nd rfl (Or.inl rfl))) (gs1_ (gnm_ (κ := .S) 7 (by decide) (pg_name (i := 7) sc09.nd rfl (Or.inl rfl))) gs0_)) (hn := by rintro _ _ _ ⟨_, _, rfl, _, _, rfl, rfl, _⟩; rfl))) (fun _ _ _ _ _ => (pv_ (κ := .S) 6 (pv 6))) rfl)
      (cons_ (set_ (κ := .S) 9 (fun a => ps_set (i := 9) sc09.nd rfl (Or.inl rfl) a) (pv_ (κ := .S) 5 (pv 5)))
      (cons_ (set_ (κ := .S) 10 (fun a => ps_set (i := 10) sc09.nd rfl (Or.inl rfl) a) (pnon_ (κ := .S)))
      (cut_ (for_ (srcR1_ (κ := .S) (callS_ (κ := .M) (κs := [.S, .S]) (ms := [.S, .S]) rfl (fun a => cD.pe hr (by decide) (by rfl) a) (pa1_ (pv_ (κ := .S) 1 (pv 1)) (pa1_ (pint_ (κ := .S)) pa0_))) (fun a => pi_range1 (by rfl) B.range (pa_cons a pa_nil))) (gnm_ (κ := .S) 11 (by decide) (pg_name (i := 11) sc09.nd rfl (Or.inl rfl)))
      (cons_ (set_ (κ := .S) 6 (fun a => ps_set (i := 6) sc09.nd rfl (Or.inl rfl) a) (pix_ (pv_ (κ := .S) 8 (pv 8)) (callS_ (κ := .M) (κs := [.S, .S]) (ms := [.S, .S]) rfl (fun a => cD.pe hr (by decide) (by rfl) a) (pa1_ (pv_ (κ := .S) 1 (pv 1)) (pa1_ (plen_ (μ := .S) (PEv.items (pv_ (κ := .S) 8 (pv 8))) (fun a => pe_callB call_len_seq (by rfl) B.len PySem.boot_len (pa_cons a pa_nil))) pa0_)))))
      (one_ (if_ (PWv.pt (por_ (ptcmp_ op_isN re_isN (nomark _) (pv_ (κ := .M) 10 (pv 10)) (pnon_ (κ := .M))) (por1_ (ptcmp_ (op_neD (hr.units)) (re_ne (hr.units)).2 (nomark _) (pslT_ (μ := .M) (pv_ (κ := .S) 6 (pv 6)) po0_ (po1_ (plen_ (μ := .M) (PEv.items (pv_ (κ := .S) 10 (pv 10))) (fun a => pe_callB call_len_seq (by rfl) B.len PySem.boot_len (pa_cons a pa_nil)))) (fun a b c => pe_slice sl_tupA a b c)) (pv_ (κ := .M) 10 (pv 10)))))) (cons_ (set_ (κ := .S) 9 (fun a => ps_set (i := 9) sc09.nd rfl (Or.inl rfl) a) (callS_ (κ := .S) (κs := [.S, .S, .S]) (ms := [.S, .S, .S]) rfl (fun a => cRp.pe hr (by decide) (by rfl) a) (pa1_ (pv_ (κ := .S) 9 (pv 9)) (pa1_ (pv_ (κ := .S) 6 (pv 6)) (pa1_ (callS_ (κ := .S) (κs := [.S, .S, .S, .S]) (ms := [.S, .S, .S, .S]) rfl (fun a => cSt.pe hr (by decide) (by rfl) a) (pa1_ (pv_ (κ := .S) 1 (pv 1)) (pa1_ (pv_ (κ := .S) 3 (pv 3)) (pa1_ (ptup_ (κ := .S) (pa1_ (pstr_ (κ := .S)) (pa1_ (pix_ (pv_ (κ := .S) 3 (pv 3)) (pint_ (κ := .M))) pa0_)) rfl) (pa1_ (pv_ (κ := .S) 4 (pv 4)) pa0_))))) pa0_)))))
      (one_ (set_ (κ := .S) 10 (fun a => ps_set (i := 10) sc09.nd rfl (Or.inl rfl) a) (pv_ (κ := .S) 6 (pv 6))))) nil_))) (fun a b c => ps_for PassesOwn.never rfl a b c))
      (cons_ (set_ (κ := .S) 12 (fun a => ps_set (i := 12) sc09.nd rfl (Or.inl rfl) a) (callS_ (κ := .S) (κs := [.S, .S, .S]) (ms := [.S, .S, .S]) rfl (fun a => cFa.pe hr (by decide) (by rfl) a) (pa1_ (pv_ (κ := .S) 3 (pv 3)) (pa1_ (pv_ (κ := .S) 9 (pv 9)) (pa1_ (ptup_ (κ := .S) pa0_ rfl) pa0_)))))
      (cons_ (set_ (κ := .S) 13 (fun a => ps_set (i := 13) sc09.nd rfl (Or.inl rfl) a) (PEn.up (κ := .S) (plst_ pa0_ rfl)))
      (cut_ (try_ (i := 15) (nm := "e") rfl rfl sc09.nd rfl rfl ⟨rfl, by decide, .inl gB⟩ takes0 (fun W pn xe tk _ => (cons_ (setMk_ (κs := [.S, .S]) (ms := [.S, .S]) 14 rfl (fun a => pe_mkS mC GC hr bC (fun σ => passAt tk σ) (by rfl) gC a) (pa1_ (callSX_ (κ := .S) (κs := [.S]) (ms := [.S]) rfl (fun a => cCo.pe tk hr (by decide) (by rfl) a) (pa1_ (pv_ (κ := .S) 3 (pv 3)) pa0_)) (pa1_ (pv_ (κ := .S) 9 (pv 9)) pa0_)) (fun a => ps_set (i := 14) sc09.nd rfl (Or.inl rfl) a))
      (frz_ 14 (one_ (set_ (κ := .S) 13 (fun a => ps_set (i := 13) sc09.nd rfl (Or.inl rfl) a) (PEn.up (κ := .S) (plst_ (pa1_ (pfld_ (pv_ (κ := .S) 14 (pv 14)) clC nC) pa0_) rfl)))))))
      (fun a oe cls d pn hz hf => (one_ (set_ (κ := .S) 13 (fun a => ps_set (i := 13) sc09.nd rfl (Or.inl rfl) a) (PEn.up (κ := .S) (plst_ (pa1_ (xf_ (κ := .S) xf x1 hz hf (pv_ (κ := .S) 15 (pv 15))) (pa1_ (xf_ (κ := .S) xf x2 hz hf (pv_ (κ := .S) 15 (pv 15))) (pa1_ (pcb_ (μ := .S) (rc_isx K (a := a) (C := CB) (cls := cls) (d := d)) (fun ta => pe_callB (Nm.call_isF xe hz hf) (by rfl) B.isi (by decide +kernel) ta) (pa1_ (pv_ (κ := .M) 15 (pv 15)) (pa1_ (pglob_ (κ := .M) (pe_glob (v := .ref BE) (by rfl) gE rfl)) pa0_))) pa0_))) rfl))))))
      (cons_ (if_ (ptcmp_ op_isN re_isN (nomark _) (pv_ (κ := .M) 12 (pv 12)) (pnon_ (κ := .M))) (one_ (ret_ (callS_ (κ := .S) (κs := [.S, .S]) (ms := [.S, .S]) rfl (fun a => cSm.pe hr (by decide) (by rfl) a) (pa1_ (pv_ (κ := .S) 13 (pv 13)) (pa1_ (PEn.up (κ := .S) (plst_ (pa1_ (pv_ (κ := .S) 9 (pv 9)) pa0_) rfl)) pa0_))))) nil_)
      (one_ (ret_ (callS_ (κ := .S) (κs := [.S, .S]) (ms := [.S, .S]) rfl (fun a => cSm.pe hr (by decide) (by rfl) a) (pa1_ (pv_ (κ := .S) 13 (pv 13)) (pa1_ (PEn.up (κ := .S) (plst_ (pa1_ (pix_ (pv_ (κ := .S) 12 (pv 12)) (pint_ (κ := .M))) (pa1_ (pix_ (pv_ (κ := .S) 12 (pv 12)) (pint_ (κ := .M))) (pa1_ (pbl_ (κ := .S)) pa0_))) rfl)) pa0_)))))))))))))))))), ?_⟩
  refine ⟨_, rfl, a0, ns, rfl, hS, hlen, fun p q H1 hp hq hA s1 => ?_⟩
  refine world_start (m := 13) (cm := 3) (x := 11) (y := 4) (z := 4) hA rfl (fun W hW => ?_) (fun r zs pool cs W wo cl hW => ?_) (fun H' => k H')
  · simp only [List.replicate, Tv.wSeq, Tv.wNext, Tv.wIfS, Tv.wSet, Tv.wSetN, Tv.wRet, Tv.wRetO, Tv.wFrz, Tv.wApp, Tv.wOp, Tv.wTest, Tv.wAnd, Tv.wOr, Tv.wNot, Tv.wIf, Tv.wAndV, Tv.wOrV, Tv.wNotV, Tv.wCall, Tv.wCons, Tv.wNil, Tv.wV, Tv.wC, Tv.wTup, Tv.wLst, Tv.wSeqT, Tv.wO, Tv.wLen, Tv.wList, Tv.wTuple, Tv.wCat, Tv.wSl, Tv.wLst1, Tv.wTup1, Tv.wRng1, Tv.wRng2, Tv.wEnum, Tv.wFor, Tv.wLc, Tv.wYes, Tv.wCB, Tv.wipeE, Tv.gSet, Tv.gNilT, Tv.gConsT, Tv.gTupT, Tv.cellOf, Tv.env0, Tv.fEq, Tv.fIn, Tv.fI0, Tv.fI, Tv.fSc, Tv.fIsN, Tv.fIsB, Tv.fIx, Tv.fIxS, Tv.fCatT, Tv.fInt1, Tv.fMin2, List.zipWith_cons_cons, List.zipWith_nil_left, List.length_cons, List.length_nil, List.cons_append, List.nil_append, List.replicate, List.getElem?_cons_zero, List.getElem?_cons_succ, List.set_cons_zero, List.set_cons_succ, Tv.wRoom, Tv.wRoomSet, Tv.wIfDraw, Tv.wStar, Tv.wLen6, Tv.wFld, Tv.wExt, Tv.wTru, Tv.wChain, Tv.fIsi_e, Tv.fInF, Tv.seq_l, Tv.seq_t, Tv.lst_l, Tv.tup_t, Tv.scal_ii, Tv.scal_ss, Tv.scal_bb, Tv.same_ii, Tv.same_ss, Tv.same_bb, Tv.at_0, Tv.at_1, Tv.at_2, Tv.at_3, Tv.isN_non, Tv.isN_int, Tv.isN_str, Tv.isN_tup, Tv.isN_lst, Tv.isN_bl, Cell.val.injEq, T.op.injEq, forall_const, Tv.isi_non_tuple, Tv.isi_non_str, Tv.isi_non_int, Tv.isi_non_bool, Tv.isi_non_dict, Tv.isi_non_list, Tv.isi_bl_tuple, Tv.isi_bl_str, Tv.isi_bl_int, Tv.isi_bl_bool, Tv.isi_bl_dict, Tv.isi_bl_list, Tv.isi_int_tuple, Tv.isi_int_str, Tv.isi_int_int, Tv.isi_int_bool, Tv.isi_int_dict, Tv.isi_int_list, Tv.isi_str_tuple, Tv.isi_str_str, Tv.isi_str_int, Tv.isi_str_bool, Tv.isi_str_dict, Tv.isi_str_list, Tv.isi_tup_tuple, Tv.isi_tup_str, Tv.isi_tup_int, Tv.isi_tup_bool, Tv.isi_tup_dict, Tv.isi_tup_list, Tv.isi_lst_tuple, Tv.isi_lst_str, Tv.isi_lst_int, Tv.isi_lst_bool, Tv.isi_lst_dict, Tv.isi_lst_list, Tv.isi_dic_tuple, Tv.isi_dic_str, Tv.isi_dic_int, Tv.isi_dic_bool, Tv.isi_dic_dict, Tv.isi_dic_list, V.ty.injEq, Tv.wLc2, Tv.fAll, Tv.wDropX, Tv.wSetX, Tv.wRaise, Tv.wIsi2, Tv.wDead, Tv.wStr1, Tv.fInS, Tv.fAddS, Tv.fLenS, Tv.wDisp, Tv.fDIn, Tv.fDGet, Tv.wISet, Tv.wTry, Tv.noEx, Tv.wXf, Tv.fIsX, Tv.wSetMk, Tv.wMk, Tv.wFldSet, Cell.own.injEq, T.obj.injEq, T.exc.injEq, Value.ref.injEq, List.all_nil, List.all_cons, Bool.and_true, Bool.true_and, ↓reduceIte, Bool.false_eq_true, decide_eq_true_eq, T.int.injEq, T.str.injEq, T.bl.injEq, T.lst.injEq, T.tup.injEq, exists_eq_left', exists_eq_left, exists_and_left, true_and, and_true, reduceCtorEq, ne_eq, not_false_eq_true, not_true_eq_false, forall_eq', forall_eq, Option.some.injEq, Option.isSome_some]
    exact ⟨p, q, none, rfl, rfl, fun u u1 => ⟨p, q, 3, 5, u, 11, 4, 4, rfl, rfl, by decide, by decide, by decide, by decide, fun zs pool cs wo cl => hW zs pool cs wo cl⟩⟩
  · simp only [List.replicate, worldT, Tv.wSeq, Tv.wNext, Tv.wIfS, Tv.wSet, Tv.wSetN, Tv.wRet, Tv.wRetO, Tv.wFrz, Tv.wApp, Tv.wOp, Tv.wTest, Tv.wAnd, Tv.wOr, Tv.wNot, Tv.wIf, Tv.wAndV, Tv.wOrV, Tv.wNotV, Tv.wCall, Tv.wCons, Tv.wNil, Tv.wV, Tv.wC, Tv.wTup, Tv.wLst, Tv.wSeqT, Tv.wO, Tv.wLen, Tv.wList, Tv.wTuple, Tv.wCat, Tv.wSl, Tv.wLst1, Tv.wTup1, Tv.wRng1, Tv.wRng2, Tv.wEnum, Tv.wLc, Tv.wYes, Tv.wCB, Tv.wipeE, Tv.gSet, Tv.gNilT, Tv.gConsT, Tv.gTupT, Tv.cellOf, Tv.env0, Tv.fEq, Tv.fIn, Tv.fI0, Tv.fI, Tv.fSc, Tv.fIsN, Tv.fIsB, Tv.fIx, Tv.fIxS, Tv.fCatT, Tv.fInt1, Tv.fMin2, List.zipWith_cons_cons, List.zipWith_nil_left, List.length_cons, List.length_nil, List.cons_append, List.nil_append, List.replicate, List.getElem?_cons_zero, List.getElem?_cons_succ, List.set_cons_zero, List.set_cons_succ, Tv.wRoom, Tv.wRoomSet, Tv.wIfDraw, Tv.wStar, Tv.wLen6, Tv.wFld, Tv.wExt, Tv.wTru, Tv.wChain, Tv.fIsi_e, Tv.fInF, Tv.seq_l, Tv.seq_t, Tv.lst_l, Tv.tup_t, Tv.scal_ii, Tv.scal_ss, Tv.scal_bb, Tv.same_ii, Tv.same_ss, Tv.same_bb, Tv.at_0, Tv.at_1, Tv.at_2, Tv.at_3, Tv.isN_non, Tv.isN_int, Tv.isN_str, Tv.isN_tup, Tv.isN_lst, Tv.isN_bl, Cell.val.injEq, T.op.injEq, forall_const, Tv.isi_non_tuple, Tv.isi_non_str, Tv.isi_non_int, Tv.isi_non_bool, Tv.isi_non_dict, Tv.isi_non_list, Tv.isi_bl_tuple, Tv.isi_bl_str, Tv.isi_bl_int, Tv.isi_bl_bool, Tv.isi_bl_dict, Tv.isi_bl_list, Tv.isi_int_tuple, Tv.isi_int_str, Tv.isi_int_int, Tv.isi_int_bool, Tv.isi_int_dict, Tv.isi_int_list, Tv.isi_str_tuple, Tv.isi_str_str, Tv.isi_str_int, Tv.isi_str_bool, Tv.isi_str_dict, Tv.isi_str_list, Tv.isi_tup_tuple, Tv.isi_tup_str, Tv.isi_tup_int, Tv.isi_tup_bool, Tv.isi_tup_dict, Tv.isi_tup_list, Tv.isi_lst_tuple, Tv.isi_lst_str, Tv.isi_lst_int, Tv.isi_lst_bool, Tv.isi_lst_dict, Tv.isi_lst_list, Tv.isi_dic_tuple, Tv.isi_dic_str, Tv.isi_dic_int, Tv.isi_dic_bool, Tv.isi_dic_dict, Tv.isi_dic_list, V.ty.injEq, Tv.wLc2, Tv.fAll, Tv.wDropX, Tv.wSetX, Tv.wRaise, Tv.wIsi2, Tv.wDead, Tv.wStr1, Tv.fInS, Tv.fAddS, Tv.fLenS, Tv.wDisp, Tv.fDIn, Tv.fDGet, Tv.wISet, Tv.wTry, Tv.noEx, Tv.wXf, Tv.fIsX, Tv.wSetMk, Tv.wMk, Tv.wFldSet, Cell.own.injEq, T.obj.injEq, T.exc.injEq, Value.ref.injEq, List.all_nil, List.all_cons, Bool.and_true, Bool.true_and, ↓reduceIte, Bool.false_eq_true, decide_eq_true_eq, T.int.injEq, T.str.injEq, T.bl.injEq, T.lst.injEq, T.tup.injEq, exists_eq_left', exists_eq_left, exists_and_left, true_and, and_true, reduceCtorEq, ne_eq, not_false_eq_true, not_true_eq_false, forall_eq', forall_eq, Option.some.injEq, Option.isSome_some]
    have z1 := wo.nz.l0
    have ndec : zs.length ≤ 5 := wo.nz.l5
    refine ⟨rfl, fun ts e => ?_⟩
    cases e
    refine ⟨p, q, some r, zs, rfl, rfl, ndec, fun y y1 y2 => ?_⟩
    refine ⟨p, q, some r, 5, rfl, rfl, by decide, by decide, fun i i0 i1 => ⟨i, rfl, ?_⟩⟩
    refine ⟨p, q, r, zs, pool, cs, 3, 5 + i, rfl, rfl, wo, by decide, by omega, by omega, fun t ht => ?_⟩
    refine ⟨t, [], rfl, part_well wo.nz wo.nc (by decide) ht, by decide, by decide, fun ls l0 l8 hls => ?_⟩
    refine ⟨_, rfl, Nat.le_trans l8 (by decide), fun i acc => ∃ qs : List (List Nat), acc = qs.map (fun q => T.tup (natsT q)) ∧ qs.length = i ∧ ∀ q ∈ qs, Walk t q ∧ q.length < 4, ⟨[], rfl, rfl, fun q m => by cases m⟩, ?_, ?_⟩
    · rintro i x acc hi ⟨qs, rfl, hl, hqs⟩
      obtain ⟨q', u, rfl, hw, hn⟩ := hls x (List.mem_of_getElem? hi)
      refine ⟨_, rfl, _, _, rfl, _, _, rfl, rfl, ?_⟩
      refine ⟨qs ++ [q'], by rw [List.map_append]; rfl, by rw [List.length_append, hl]; rfl, fun q m => ?_⟩
      rcases List.mem_append.mp m with m | m
      · exact hqs q m
      · rw [List.mem_singleton.mp m]
        exact ⟨hw, hn⟩
    · rintro acc ⟨qs, rfl, hl, hqs⟩
      have q0 : 0 < qs.length := by rw [hl]; exact List.length_pos_iff.mpr l0
      have q8 : qs.length ≤ 4096 := by rw [hl]; exact l8
      obtain ⟨dt, ddep⟩ := part_dat wo.nz wo.nc ht
      refine ⟨fun e => ∃ sp c6 c7 c10 c11, e = [.un, .val (.op (.ref p)), .val (.lst [strsT zs, .lst pool, strsT cs, .op (.ref r)]), .val (strsT zs), .val (.str y), .val t, c6, c7, .val (.lst (qs.map fun q => T.tup (natsT q))), .val sp, c10, c11, .un, .un, .un, .un] ∧ datR sp = true ∧ depT sp ≤ 13, ?_, ?_⟩
      · unfold Tv.wFor
        refine ⟨p, q, some r, 3, rfl, rfl, by decide, by decide, fun n n0 n3 => ⟨n, rfl, by show (-4611686018427387904 : Int) ≤ n; omega, by show n < (4611686018427387904 : Int); omega, ?_⟩⟩
        refine ⟨fun j env => ∃ sp fi c6 c11, env = [.un, .val (.op (.ref p)), .val (.lst [strsT zs, .lst pool, strsT cs, .op (.ref r)]), .val (strsT zs), .val (.str y), .val t, c6, .un, .val (.lst (qs.map fun q => T.tup (natsT q))), .val sp, .val fi, c11, .un, .un, .un, .un] ∧ datR sp = true ∧ depT sp ≤ 13 ∧ (j = 0 → fi = .non ∧ sp = t) ∧ (j = 1 → ∃ q1 u, fi = .tup (natsT q1) ∧ sp = repT t q1 u ∧ Walk t q1 ∧ q1.length < 4), ⟨t, .non, .un, .un, rfl, dt, by omega, fun _ => ⟨rfl, rfl⟩, fun h => by cases h⟩, ?_, ?_⟩
        · rintro j x env' hj ⟨sp, fi, c6, c11, rfl, dsp, psp, h0, h1⟩
          have jl := (List.getElem?_eq_some_iff.mp hj).1
          rw [show (rngT 0 n.toNat).length = n.toNat by unfold rngT; rw [List.length_map, List.length_range]] at jl
          simp only [Tv.wSeq, Tv.wNext, Tv.wIfS, Tv.wSet, Tv.wSetN, Tv.wRet, Tv.wRetO, Tv.wFrz, Tv.wApp, Tv.wOp, Tv.wTest, Tv.wAnd, Tv.wOr, Tv.wNot, Tv.wIf, Tv.wAndV, Tv.wOrV, Tv.wNotV, Tv.wCall, Tv.wCons, Tv.wNil, Tv.wV, Tv.wC, Tv.wTup, Tv.wLst, Tv.wSeqT, Tv.wO, Tv.wLen, Tv.wList, Tv.wTuple, Tv.wCat, Tv.wSl, Tv.wLst1, Tv.wTup1, Tv.wRng1, Tv.wRng2, Tv.wEnum, Tv.wLc, Tv.wYes, Tv.wCB, Tv.wipeE, Tv.gSet, Tv.gNilT, Tv.gConsT, Tv.gTupT, Tv.cellOf, Tv.env0, Tv.fEq, Tv.fIn, Tv.fI0, Tv.fI, Tv.fSc, Tv.fIsN, Tv.fIsB, Tv.fIx, Tv.fIxS, Tv.fCatT, Tv.fInt1, Tv.fMin2, List.zipWith_cons_cons, List.zipWith_nil_left, List.length_cons, List.length_nil, List.cons_append, List.nil_append, List.replicate, List.getElem?_cons_zero, List.getElem?_cons_succ, List.set_cons_zero, List.set_cons_succ, Tv.wRoom, Tv.wRoomSet, Tv.wIfDraw, Tv.wStar, Tv.wLen6, Tv.wFld, Tv.wExt, Tv.wTru, Tv.wChain, Tv.fIsi_e, Tv.fInF, Tv.seq_l, Tv.seq_t, Tv.lst_l, Tv.tup_t, Tv.scal_ii, Tv.scal_ss, Tv.scal_bb, Tv.same_ii, Tv.same_ss, Tv.same_bb, Tv.at_0, Tv.at_1, Tv.at_2, Tv.at_3, Tv.isN_non, Tv.isN_int, Tv.isN_str, Tv.isN_tup, Tv.isN_lst, Tv.isN_bl, Cell.val.injEq, T.op.injEq, forall_const, Tv.isi_non_tuple, Tv.isi_non_str, Tv.isi_non_int, Tv.isi_non_bool, Tv.isi_non_dict, Tv.isi_non_list, Tv.isi_bl_tuple, Tv.isi_bl_str, Tv.isi_bl_int, Tv.isi_bl_bool, Tv.isi_bl_dict, Tv.isi_bl_list, Tv.isi_int_tuple, Tv.isi_int_str, Tv.isi_int_int, Tv.isi_int_bool, Tv.isi_int_dict, Tv.isi_int_list, Tv.isi_str_tuple, Tv.isi_str_str, Tv.isi_str_int, Tv.isi_str_bool, Tv.isi_str_dict, Tv.isi_str_list, Tv.isi_tup_tuple, Tv.isi_tup_str, Tv.isi_tup_int, Tv.isi_tup_bool, Tv.isi_tup_dict, Tv.isi_tup_list, Tv.isi_lst_tuple, Tv.isi_lst_str, Tv.isi_lst_int, Tv.isi_lst_bool, Tv.isi_lst_dict, Tv.isi_lst_list, Tv.isi_dic_tuple, Tv.isi_dic_str, Tv.isi_dic_int, Tv.isi_dic_bool, Tv.isi_dic_dict, Tv.isi_dic_list, V.ty.injEq, Tv.wLc2, Tv.fAll, Tv.wDropX, Tv.wSetX, Tv.wRaise, Tv.wIsi2, Tv.wDead, Tv.wStr1, Tv.fInS, Tv.fAddS, Tv.fLenS, Tv.wDisp, Tv.fDIn, Tv.fDGet, Tv.wISet, Tv.wTry, Tv.noEx, Tv.wXf, Tv.fIsX, Tv.wSetMk, Tv.wMk, Tv.wFldSet, Cell.own.injEq, T.obj.injEq, T.exc.injEq, Value.ref.injEq, List.all_nil, List.all_cons, Bool.and_true, Bool.true_and, ↓reduceIte, Bool.false_eq_true, decide_eq_true_eq, T.int.injEq, T.str.injEq, T.bl.injEq, T.lst.injEq, T.tup.injEq, exists_eq_left', exists_eq_left, exists_and_left, true_and, and_true, reduceCtorEq, ne_eq, not_false_eq_true, not_true_eq_false, forall_eq', forall_eq, Option.some.injEq, Option.isSome_some]
          refine ⟨p, q, some r, _, rfl, rfl, by rw [List.length_map]; omega, by rw [List.length_map]; omega, fun v v0 v1 => ⟨v, rfl, ?_⟩⟩
          obtain ⟨x2, hx2, m2⟩ := at_pos v0 v1
          obtain ⟨q2, hq2, rfl⟩ := List.mem_map.mp m2
          obtain ⟨w2, n2⟩ := hqs q2 hq2
          refine ⟨_, hx2, ?_⟩
          obtain ⟨nm, hn, mn⟩ := at_strs (zs := zs) (i := 0) (by decide) (by omega)
          have nm8 := (name_len (wo.nz.ok nm mn)).1
          have y8 := (name_len y1).1
          have put : ∀ {Q : T → Prop}, Walk sp q2 → (∀ t1, (∃ u, t1 = repT sp q2 u ∧ datR (repT sp q2 u) = true ∧ depT (repT sp q2 u) ≤ 13) → Q t1) → ∃ ts, seqT (strsT zs) = some ts ∧ ∃ x_3, atI ts 0 = some x_3 ∧ cStrange (handR p q (some r)) [.op (.ref p), strsT zs, .tup [.str "missing", x_3], .str y] fun x_4 => cRepl 4 (handR p q (some r)) [sp, .tup (natsT q2), x_4] Q := fun hW kQ => by
            refine ⟨_, rfl, _, hn, p, q, some r, zs, _, y, rfl, rfl, wo.nz, fun z m => (name_len (wo.nz.ok z m)).1, by omega, ?_, by simp [depT, depTs], fun u du pu => ⟨sp, q2, u, rfl, n2, by omega, hW, kQ _ ?_⟩⟩
            · refine dat_mk (fun t m => ?_) (by simp)
              simp only [List.mem_cons, List.not_mem_nil, or_false] at m
              rcases m with rfl | rfl
              · exact (by decide +kernel : datR (.str "missing") = true)
              · exact decide_eq_true (by omega)
            · obtain ⟨d1, d2⟩ := rep_ok hW dsp du
              exact ⟨u, rfl, d1, by omega⟩
          by_cases j0 : j = 0
          · obtain ⟨rfl, rfl⟩ := h0 j0
            refine (if_pos rfl).mpr (put w2 ?_)
            rintro _ ⟨u, rfl, d1, d2⟩
            exact ⟨_, _, _, _, rfl, d1, d2, fun h => h.elim, fun _ => ⟨q2, rfl, u, rfl, w2, n2⟩⟩
          · have j1 : j = 1 := by omega
            obtain ⟨q1, u1, rfl, rfl, w1, n1⟩ := h1 j1
            refine (if_neg Bool.false_ne_true).mpr ⟨rfl, fun ts e => ?_⟩
            cases e
            refine ⟨_, rfl, ?_, nats_okN.okD (by decide), ?_⟩
            · refine OkN.okD (n := 1) (OkN.tup fun t m => ?_) (by decide)
              have m := List.mem_of_mem_drop (List.mem_of_mem_take m)
              obtain ⟨i, _, rfl⟩ := List.mem_map.mp m
              exact OkN.int
            · split
              · rename_i ne
                refine put (w1.rep w2 fun pre => ?_) ?_
                · have e : cutT (natsT q2) none (some ((natsT q1).length : Int)) = natsT q1 := by
                    have l1 : (natsT q1).length = q1.length := List.length_map ..
                    have l2 : (natsT q2).length = q2.length := List.length_map ..
                    rw [cutT_take (by rw [l1, l2]; exact pre.length_le), take_nats, l1, List.prefix_iff_eq_take.mp pre, List.length_take, Nat.min_eq_left pre.length_le]
                  rw [e, eqT_refl nats_okN] at ne
                  cases ne
                · rintro _ ⟨u, rfl, d1, d2⟩
                  exact ⟨_, _, _, _, rfl, d1, d2, fun h => h.elim, fun h => by omega⟩
              · exact ⟨_, _, _, _, rfl, dsp, psp, fun h => h.elim, fun h => by omega⟩
        · rintro env' ⟨sp, fi, c6, c11, rfl, dsp, psp, _, _⟩
          exact ⟨sp, c6, _, _, c11, rfl, dsp, psp⟩
      · rintro _ ⟨sp, c6, c7, c10, c11, rfl, dsp, psp⟩
        simp only [Tv.wSeq, Tv.wNext, Tv.wIfS, Tv.wSet, Tv.wSetN, Tv.wRet, Tv.wRetO, Tv.wFrz, Tv.wApp, Tv.wOp, Tv.wTest, Tv.wAnd, Tv.wOr, Tv.wNot, Tv.wIf, Tv.wAndV, Tv.wOrV, Tv.wNotV, Tv.wCall, Tv.wCons, Tv.wNil, Tv.wV, Tv.wC, Tv.wTup, Tv.wLst, Tv.wSeqT, Tv.wO, Tv.wLen, Tv.wList, Tv.wTuple, Tv.wCat, Tv.wSl, Tv.wLst1, Tv.wTup1, Tv.wRng1, Tv.wRng2, Tv.wEnum, Tv.wLc, Tv.wYes, Tv.wCB, Tv.wipeE, Tv.gSet, Tv.gNilT, Tv.gConsT, Tv.gTupT, Tv.cellOf, Tv.env0, Tv.fEq, Tv.fIn, Tv.fI0, Tv.fI, Tv.fSc, Tv.fIsN, Tv.fIsB, Tv.fIx, Tv.fIxS, Tv.fCatT, Tv.fInt1, Tv.fMin2, List.zipWith_cons_cons, List.zipWith_nil_left, List.length_cons, List.length_nil, List.cons_append, List.nil_append, List.replicate, List.getElem?_cons_zero, List.getElem?_cons_succ, List.set_cons_zero, List.set_cons_succ, Tv.wRoom, Tv.wRoomSet, Tv.wIfDraw, Tv.wStar, Tv.wLen6, Tv.wFld, Tv.wExt, Tv.wTru, Tv.wChain, Tv.fIsi_e, Tv.fInF, Tv.seq_l, Tv.seq_t, Tv.lst_l, Tv.tup_t, Tv.scal_ii, Tv.scal_ss, Tv.scal_bb, Tv.same_ii, Tv.same_ss, Tv.same_bb, Tv.at_0, Tv.at_1, Tv.at_2, Tv.at_3, Tv.isN_non, Tv.isN_int, Tv.isN_str, Tv.isN_tup, Tv.isN_lst, Tv.isN_bl, Cell.val.injEq, T.op.injEq, forall_const, Tv.isi_non_tuple, Tv.isi_non_str, Tv.isi_non_int, Tv.isi_non_bool, Tv.isi_non_dict, Tv.isi_non_list, Tv.isi_bl_tuple, Tv.isi_bl_str, Tv.isi_bl_int, Tv.isi_bl_bool, Tv.isi_bl_dict, Tv.isi_bl_list, Tv.isi_int_tuple, Tv.isi_int_str, Tv.isi_int_int, Tv.isi_int_bool, Tv.isi_int_dict, Tv.isi_int_list, Tv.isi_str_tuple, Tv.isi_str_str, Tv.isi_str_int, Tv.isi_str_bool, Tv.isi_str_dict, Tv.isi_str_list, Tv.isi_tup_tuple, Tv.isi_tup_str, Tv.isi_tup_int, Tv.isi_tup_bool, Tv.isi_tup_dict, Tv.isi_tup_list, Tv.isi_lst_tuple, Tv.isi_lst_str, Tv.isi_lst_int, Tv.isi_lst_bool, Tv.isi_lst_dict, Tv.isi_lst_list, Tv.isi_dic_tuple, Tv.isi_dic_str, Tv.isi_dic_int, Tv.isi_dic_bool, Tv.isi_dic_dict, Tv.isi_dic_list, V.ty.injEq, Tv.wLc2, Tv.fAll, Tv.wDropX, Tv.wSetX, Tv.wRaise, Tv.wIsi2, Tv.wDead, Tv.wStr1, Tv.fInS, Tv.fAddS, Tv.fLenS, Tv.wDisp, Tv.fDIn, Tv.fDGet, Tv.wISet, Tv.wTry, Tv.noEx, Tv.wXf, Tv.fIsX, Tv.wSetMk, Tv.wMk, Tv.wFldSet, Cell.own.injEq, T.obj.injEq, T.exc.injEq, Value.ref.injEq, List.all_nil, List.all_cons, Bool.and_true, Bool.true_and, ↓reduceIte, Bool.false_eq_true, decide_eq_true_eq, T.int.injEq, T.str.injEq, T.bl.injEq, T.lst.injEq, T.tup.injEq, exists_eq_left', exists_eq_left, exists_and_left, true_and, and_true, reduceCtorEq, ne_eq, not_false_eq_true, not_true_eq_false, forall_eq', forall_eq, Option.some.injEq, Option.isSome_some]
        refine ⟨zs, sp, [], rfl, dsp, deep_of (by omega), by decide, by omega, ?_⟩
        have ec : ∃ c, chkT zs 14 sp [] = c := ⟨_, rfl⟩
        obtain ⟨ck, ec⟩ := ec
        rw [ec]
        refine ⟨fun e => ∃ c14, e = [.un, .val (.op (.ref p)), .val (.lst [strsT zs, .lst pool, strsT cs, .op (.ref r)]), .val (strsT zs), .val (.str y), .val t, c6, c7, .val (.lst (qs.map fun q => T.tup (natsT q))), .val sp, c10, c11, .val (resT ck), .val (match ck with
          | none => .lst [sp]
          | some (q, why) => .lst [.tup q, .str why, .bl true]), c14, .un], ?_, ?_⟩
        · simp only [Tv.wSeq, Tv.wNext, Tv.wIfS, Tv.wSet, Tv.wSetN, Tv.wRet, Tv.wRetO, Tv.wFrz, Tv.wApp, Tv.wOp, Tv.wTest, Tv.wAnd, Tv.wOr, Tv.wNot, Tv.wIf, Tv.wAndV, Tv.wOrV, Tv.wNotV, Tv.wCall, Tv.wCons, Tv.wNil, Tv.wV, Tv.wC, Tv.wTup, Tv.wLst, Tv.wSeqT, Tv.wO, Tv.wLen, Tv.wList, Tv.wTuple, Tv.wCat, Tv.wSl, Tv.wLst1, Tv.wTup1, Tv.wRng1, Tv.wRng2, Tv.wEnum, Tv.wLc, Tv.wYes, Tv.wCB, Tv.wipeE, Tv.gSet, Tv.gNilT, Tv.gConsT, Tv.gTupT, Tv.cellOf, Tv.env0, Tv.fEq, Tv.fIn, Tv.fI0, Tv.fI, Tv.fSc, Tv.fIsN, Tv.fIsB, Tv.fIx, Tv.fIxS, Tv.fCatT, Tv.fInt1, Tv.fMin2, List.zipWith_cons_cons, List.zipWith_nil_left, List.length_cons, List.length_nil, List.cons_append, List.nil_append, List.replicate, List.getElem?_cons_zero, List.getElem?_cons_succ, List.set_cons_zero, List.set_cons_succ, Tv.wRoom, Tv.wRoomSet, Tv.wIfDraw, Tv.wStar, Tv.wLen6, Tv.wFld, Tv.wExt, Tv.wTru, Tv.wChain, Tv.fIsi_e, Tv.fInF, Tv.seq_l, Tv.seq_t, Tv.lst_l, Tv.tup_t, Tv.scal_ii, Tv.scal_ss, Tv.scal_bb, Tv.same_ii, Tv.same_ss, Tv.same_bb, Tv.at_0, Tv.at_1, Tv.at_2, Tv.at_3, Tv.isN_non, Tv.isN_int, Tv.isN_str, Tv.isN_tup, Tv.isN_lst, Tv.isN_bl, Cell.val.injEq, T.op.injEq, forall_const, Tv.isi_non_tuple, Tv.isi_non_str, Tv.isi_non_int, Tv.isi_non_bool, Tv.isi_non_dict, Tv.isi_non_list, Tv.isi_bl_tuple, Tv.isi_bl_str, Tv.isi_bl_int, Tv.isi_bl_bool, Tv.isi_bl_dict, Tv.isi_bl_list, Tv.isi_int_tuple, Tv.isi_int_str, Tv.isi_int_int, Tv.isi_int_bool, Tv.isi_int_dict, Tv.isi_int_list, Tv.isi_str_tuple, Tv.isi_str_str, Tv.isi_str_int, Tv.isi_str_bool, Tv.isi_str_dict, Tv.isi_str_list, Tv.isi_tup_tuple, Tv.isi_tup_str, Tv.isi_tup_int, Tv.isi_tup_bool, Tv.isi_tup_dict, Tv.isi_tup_list, Tv.isi_lst_tuple, Tv.isi_lst_str, Tv.isi_lst_int, Tv.isi_lst_bool, Tv.isi_lst_dict, Tv.isi_lst_list, Tv.isi_dic_tuple, Tv.isi_dic_str, Tv.isi_dic_int, Tv.isi_dic_bool, Tv.isi_dic_dict, Tv.isi_dic_list, V.ty.injEq, Tv.wLc2, Tv.fAll, Tv.wDropX, Tv.wSetX, Tv.wRaise, Tv.wIsi2, Tv.wDead, Tv.wStr1, Tv.fInS, Tv.fAddS, Tv.fLenS, Tv.wDisp, Tv.fDIn, Tv.fDGet, Tv.wISet, Tv.wTry, Tv.noEx, Tv.wXf, Tv.fIsX, Tv.wSetMk, Tv.wMk, Tv.wFldSet, Cell.own.injEq, T.obj.injEq, T.exc.injEq, Value.ref.injEq, List.all_nil, List.all_cons, Bool.and_true, Bool.true_and, ↓reduceIte, Bool.false_eq_true, decide_eq_true_eq, T.int.injEq, T.str.injEq, T.bl.injEq, T.lst.injEq, T.tup.injEq, exists_eq_left', exists_eq_left, exists_and_left, true_and, and_true, reduceCtorEq, ne_eq, not_false_eq_true, not_true_eq_false, forall_eq', forall_eq, Option.some.injEq, Option.isSome_some]
          have lp : (("part" : Str) == "columns") = false := by decide +kernel
          have lq : (("place" : Str) == "why") = false := by decide +kernel
          refine ⟨zs, rfl, ⟨wo.nz.ok, wo.nz.nd, by omega⟩, zs, sp, rfl, dsp, deep_of (by omega), by decide, fun h => ?_, fun qq why h => ?_⟩
          · rw [ec] at h
            subst h
            exact ⟨sp, by simp [List.lookup_cons, lp], _, rfl⟩
          · rw [ec] at h
            subst h
            refine ⟨true, xx, fun _ a d => ⟨rfl, .tup qq, by simp [List.lookup_cons, lq], rfl, .str why, by simp [List.lookup_cons], _, BE, rfl, rfl, true, xb, _, rfl⟩, fun h => by cases h⟩
        · rintro _ ⟨c14, rfl⟩
          simp only [Tv.wSeq, Tv.wNext, Tv.wIfS, Tv.wSet, Tv.wSetN, Tv.wRet, Tv.wRetO, Tv.wFrz, Tv.wApp, Tv.wOp, Tv.wTest, Tv.wAnd, Tv.wOr, Tv.wNot, Tv.wIf, Tv.wAndV, Tv.wOrV, Tv.wNotV, Tv.wCall, Tv.wCons, Tv.wNil, Tv.wV, Tv.wC, Tv.wTup, Tv.wLst, Tv.wSeqT, Tv.wO, Tv.wLen, Tv.wList, Tv.wTuple, Tv.wCat, Tv.wSl, Tv.wLst1, Tv.wTup1, Tv.wRng1, Tv.wRng2, Tv.wEnum, Tv.wLc, Tv.wYes, Tv.wCB, Tv.wipeE, Tv.gSet, Tv.gNilT, Tv.gConsT, Tv.gTupT, Tv.cellOf, Tv.env0, Tv.fEq, Tv.fIn, Tv.fI0, Tv.fI, Tv.fSc, Tv.fIsN, Tv.fIsB, Tv.fIx, Tv.fIxS, Tv.fCatT, Tv.fInt1, Tv.fMin2, List.zipWith_cons_cons, List.zipWith_nil_left, List.length_cons, List.length_nil, List.cons_append, List.nil_append, List.replicate, List.getElem?_cons_zero, List.getElem?_cons_succ, List.set_cons_zero, List.set_cons_succ, Tv.wRoom, Tv.wRoomSet, Tv.wIfDraw, Tv.wStar, Tv.wLen6, Tv.wFld, Tv.wExt, Tv.wTru, Tv.wChain, Tv.fIsi_e, Tv.fInF, Tv.seq_l, Tv.seq_t, Tv.lst_l, Tv.tup_t, Tv.scal_ii, Tv.scal_ss, Tv.scal_bb, Tv.same_ii, Tv.same_ss, Tv.same_bb, Tv.at_0, Tv.at_1, Tv.at_2, Tv.at_3, Tv.isN_non, Tv.isN_int, Tv.isN_str, Tv.isN_tup, Tv.isN_lst, Tv.isN_bl, Cell.val.injEq, T.op.injEq, forall_const, Tv.isi_non_tuple, Tv.isi_non_str, Tv.isi_non_int, Tv.isi_non_bool, Tv.isi_non_dict, Tv.isi_non_list, Tv.isi_bl_tuple, Tv.isi_bl_str, Tv.isi_bl_int, Tv.isi_bl_bool, Tv.isi_bl_dict, Tv.isi_bl_list, Tv.isi_int_tuple, Tv.isi_int_str, Tv.isi_int_int, Tv.isi_int_bool, Tv.isi_int_dict, Tv.isi_int_list, Tv.isi_str_tuple, Tv.isi_str_str, Tv.isi_str_int, Tv.isi_str_bool, Tv.isi_str_dict, Tv.isi_str_list, Tv.isi_tup_tuple, Tv.isi_tup_str, Tv.isi_tup_int, Tv.isi_tup_bool, Tv.isi_tup_dict, Tv.isi_tup_list, Tv.isi_lst_tuple, Tv.isi_lst_str, Tv.isi_lst_int, Tv.isi_lst_bool, Tv.isi_lst_dict, Tv.isi_lst_list, Tv.isi_dic_tuple, Tv.isi_dic_str, Tv.isi_dic_int, Tv.isi_dic_bool, Tv.isi_dic_dict, Tv.isi_dic_list, V.ty.injEq, Tv.wLc2, Tv.fAll, Tv.wDropX, Tv.wSetX, Tv.wRaise, Tv.wIsi2, Tv.wDead, Tv.wStr1, Tv.fInS, Tv.fAddS, Tv.fLenS, Tv.wDisp, Tv.fDIn, Tv.fDGet, Tv.wISet, Tv.wTry, Tv.noEx, Tv.wXf, Tv.fIsX, Tv.wSetMk, Tv.wMk, Tv.wFldSet, Cell.own.injEq, T.obj.injEq, T.exc.injEq, Value.ref.injEq, List.all_nil, List.all_cons, Bool.and_true, Bool.true_and, ↓reduceIte, Bool.false_eq_true, decide_eq_true_eq, T.int.injEq, T.str.injEq, T.bl.injEq, T.lst.injEq, T.tup.injEq, exists_eq_left', exists_eq_left, exists_and_left, true_and, and_true, reduceCtorEq, ne_eq, not_false_eq_true, not_true_eq_false, forall_eq', forall_eq, Option.some.injEq, Option.isSome_some]
          cases ck with
          | none =>
            refine (if_pos rfl).mpr ⟨.lst [sp], rfl, by simp [datR, datRs, dsp], by simp only [depT, depTs]; omega, hW⟩
          | some y =>
            obtain ⟨qq, why⟩ := y
            obtain ⟨is, e1, l1, e2⟩ := chk_said ec
            rw [List.nil_append] at e1
            subst e1
            have w9 : why.length ≤ 9 := by rcases e2 with rfl | rfl <;> decide +kernel
            have dq := nats_dat (q := is) (by omega)
            have pq := nats_dep (q := is)
            refine (if_neg Bool.false_ne_true).mpr ⟨_, rfl, _, rfl, _, rfl, _, rfl, .lst [.tup (natsT is), .str why, .bl true], rfl, ?_, ?_, hW⟩
            · show ((datR (.tup (natsT is)) && (decide (why.length ≤ 9) && (true && true))) && decide (3 ≤ 1000)) = true
              rw [dq, decide_eq_true w9]
              rfl
            · have : depT (.lst [.tup (natsT is), .str why, .bl true]) = max (depT (.tup (natsT is))) (max 0 (max 0 0)) + 1 := rfl
              rw [this]
              omega
end
end Tl
/-! recursions of any depth; the table of sizes; columns' parts that the head asks -/
namespace Tl
open PySem PySem.Spec PyProof.Rows L2 Lw Tv Nm Lh
section
variable {P : Program} {w : World} {K : PySem.W.Frag} {mg : Str → Option Value} {base : Heap}
theorem okFaults {f : Addr} {fd : FuncData} (F : Fun K "_law_fault" "_law_fault" sLFault f fd) (m : mg "_law_fault" = some (.ref f)) (kp : PySem.W.keepIn K (.ref f) = true) (bd : Binds K fd ["_law_names_here", "_law_item", "_law_place"] []) (B : Bt mg) (cF : CLFF P w K mg base) (cT : CLTF P w K mg base) (cI : CLIn P w K mg base) : ∀ n, CLFa P w K mg base n
  | 0 => ⟨f, fd, _, fn_no fun vs H Q E h => by
      obtain ⟨R, F, ts, Pt, _, _, ⟨_, _, _, _, _, h, _⟩, _⟩ := h
      exact h, m, kp, bd⟩
  | n + 1 => ⟨f, fd, _, okLFault F B cF cT cI (okFaults F m kp bd B cF cT cI n), m, kp, bd⟩
theorem okPlacess {f : Addr} {fd : FuncData} (F : Fun K "_law_places" "_law_places" sLPlaces f fd) (m : mg "_law_places" = some (.ref f)) (kp : PySem.W.keepIn K (.ref f) = true) (bd : Binds K fd ["_law_part_here", "_law_place"] []) (B : Bt mg) (cI : CLIn P w K mg base) : ∀ n, CLPl P w K mg base n
  | 0 => ⟨f, fd, _, fn_no fun vs H Q E h => by
      obtain ⟨R, F, ts, Pt, _, _, ⟨_, _, _, h, _⟩, _⟩ := h
      exact h, m, kp, bd⟩
  | n + 1 => ⟨f, fd, _, okLPlaces F B cI (okPlacess F m kp bd B cI n), m, kp, bd⟩
theorem okSames {f : Addr} {fd : FuncData} (F : Fun K "_law_same" "_law_same" sLSame f fd) (m : mg "_law_same" = some (.ref f)) (kp : PySem.W.keepIn K (.ref f) = true) (bd : Binds K fd ["_law_actual", "_law_expected"] []) (B : Bt mg) : ∀ n, CLSm P w K mg base n
  | 0 => ⟨f, fd, _, fn_no fun vs H Q E h => by
      obtain ⟨R, F, ts, Pt, _, _, ⟨_, _, _, h, _⟩, _⟩ := h
      exact absurd h (Nat.not_lt_zero _), m, kp, bd⟩
  | n + 1 => ⟨f, fd, _, okLSame F B (okSames F m kp bd B n), m, kp, bd⟩
end
theorem sz_of {K : PySem.W.Frag} {w : World} {mg : Str → Option Value} {a : Addr} (m : mg "SIZES" = some (.ref a)) (h : He.dicW K a = some (He.keysIn w.params sizeKeys)) (hv : He.valsB K a sizeDv = true) : Sz K w mg a := by
  refine ⟨m, He.dicW_ok h, fun z => ?_⟩
  have pick : ∀ (x : Str) (n : Nat), (x, He.Dv.int (n : Int)) ∈ sizeDv → szOf x = some n → z = x → (szOf z = none ∧ PySem.W.nsIn K a z = some none) ∨ ∃ m u, szOf z = some m ∧ PySem.W.nsIn K a z = some (some u) ∧ RelV (.int (m : Int)) u := fun x n mem e1 e2 => by
    subst e2
    obtain ⟨u, q1, q2⟩ := He.valsB_ok hv mem
    exact .inr ⟨n, u, e1, q1, q2⟩
  by_cases c1 : z = "atmost"
  · exact pick "atmost" 4 (List.mem_of_getElem? (i := 0) rfl) (by decide +kernel) c1
  by_cases c2 : z = "missing"
  · exact pick "missing" 2 (List.mem_of_getElem? (i := 1) rfl) (by decide +kernel) c2
  by_cases c3 : z = "must"
  · exact pick "must" 4 (List.mem_of_getElem? (i := 2) rfl) (by decide +kernel) c3
  by_cases c4 : z = "not"
  · exact pick "not" 2 (List.mem_of_getElem? (i := 3) rfl) (by decide +kernel) c4
  by_cases c5 : z = "and"
  · exact pick "and" 2 (List.mem_of_getElem? (i := 4) rfl) (by decide +kernel) c5
  by_cases c6 : z = "or"
  · exact pick "or" 2 (List.mem_of_getElem? (i := 5) rfl) (by decide +kernel) c6
  by_cases c7 : z = "case"
  · exact pick "case" 3 (List.mem_of_getElem? (i := 6) rfl) (by decide +kernel) c7
  refine .inl ⟨?_, ns_absent h ?_⟩
  · unfold szOf
    rw [if_neg (by simpa using c1), if_neg (by simpa using c2), if_neg (by simpa using c3), if_neg (by simpa using c4), if_neg (by simpa using c5), if_neg (by simpa using c6), if_neg (by simpa using c7)]
  · simp only [sizeKeys, List.mem_cons, List.not_mem_nil, or_false, not_or]
    exact ⟨c1, c2, c3, c4, c5, c6, c7⟩
end Tl
set_option pp.maxSteps 12
set_option pp.deepTerms false
namespace Te
open PySem PySem.Spec PyProof.Rows L2 Lw Xv Lh Ow Lx Nm Tv Tl
theorem facts {P : Program} {w : World} {K : PySem.W.Frag} {h : Heap} {mg : Str → Option Value} {f : Addr} (X : K.In h) (G : h.Ns mainGlobals mg) (hfa : mg ("law" : Str) = some (.ref f)) (c : He.SaysD [] fn K) (hx : ex K = true) (ht : (tabs.map fun t => He.dicW K (t.1 K)) = tabs.map fun t => some (He.keysIn w.params t.2)) :
    ∃ fd : FuncData, (∀ (s : Shared) (v : Value), BindsTo s fd ⟨[v], []⟩ [("_law_script", v)]) ∧ ∀ base : Heap, K.In base → base.Ns mainGlobals mg → FnOk P w K mg base CX0 23 f fd ["_law_script"] (spLaw K) := by
  obtain ⟨xbt, hx⟩ := He.ba hx
  obtain ⟨xfree, hx⟩ := He.ba hx
  obtain ⟨xfns, hx⟩ := He.ba hx
  obtain ⟨xglo, hx⟩ := He.ba hx
  obtain ⟨xwords, hx⟩ := He.ba hx
  obtain ⟨xletters, hx⟩ := He.ba hx
  obtain ⟨xmletters, hx⟩ := He.ba hx
  obtain ⟨xmcols, hx⟩ := He.ba hx
  obtain ⟨xg, hx⟩ := He.ba hx
  obtain ⟨xbc, hx⟩ := He.ba hx
  obtain ⟨xbci, hx⟩ := He.ba hx
  obtain ⟨xccl, hx⟩ := He.ba hx
  obtain ⟨xceq, hx⟩ := He.ba hx
  obtain ⟨xcno, hx⟩ := He.ba hx
  obtain ⟨xcmk, hx⟩ := He.ba hx
  obtain ⟨xcco, hx⟩ := He.ba hx
  obtain ⟨xmj, hx⟩ := He.ba hx
  obtain ⟨xmb, hx⟩ := He.ba hx
  obtain ⟨xsz, hx⟩ := He.ba hx
  obtain ⟨xbp, hx⟩ := He.ba hx
  obtain ⟨xbpi, hx⟩ := He.ba hx
  obtain ⟨xdcl, hx⟩ := He.ba hx
  obtain ⟨xdno, hx⟩ := He.ba hx
  obtain ⟨xdmk, hx⟩ := He.ba hx
  have xcau := hx
  have B := bt_of X G xbt
  have gF : ∀ n ∈ fnNames, mg n = some (.ref (He.ga K n)) := fun n hn => mg_glo X G (List.all_eq_true.mp xfns n hn)
  obtain ⟨fdhand, Fhand⟩ : ∃ fd, Fun K "_law_hand" "_law_hand" sHand (He.ga K "_law_hand") fd := (c.def_ 0 (d := dd ("_law_hand", none) "_law_hand" "_law_hand" (Lw.top 35)) rfl).imp fun _ F => fun_of (st := sHand) F
  have Bhand := Fhand.binds (ps := ["_law_script"]) fun _ _ _ _ _ _ us hl => match us, hl with | [_], _ => rfl
  have ghand : mg "_law_hand" = some (.ref (He.ga K "_law_hand")) := gF "_law_hand" (by decide +kernel)
  obtain ⟨fdmixed, Fmixed⟩ : ∃ fd, Fun K "_law_mixed" "_law_mixed" sMixed (He.ga K "_law_mixed") fd := (c.def_ 1 (d := dd ("_law_mixed", none) "_law_mixed" "_law_mixed" (Lw.top 36)) rfl).imp fun _ F => fun_of (st := sMixed) F
  have Bmixed := Fmixed.binds (ps := ["_law_number_here", "_law_count"]) fun _ _ _ _ _ _ us hl => match us, hl with | [_, _], _ => rfl
  have gmixed : mg "_law_mixed" = some (.ref (He.ga K "_law_mixed")) := gF "_law_mixed" (by decide +kernel)
  obtain ⟨fddraw, Fdraw⟩ : ∃ fd, Fun K "_law_draw" "_law_draw" sDraw (He.ga K "_law_draw") fd := (c.def_ 2 (d := dd ("_law_draw", none) "_law_draw" "_law_draw" (Lw.top 37)) rfl).imp fun _ F => fun_of (st := sDraw) F
  have Bdraw := Fdraw.binds (ps := ["_law_hand_here", "_law_many"]) fun _ _ _ _ _ _ us hl => match us, hl with | [_, _], _ => rfl
  have gdraw : mg "_law_draw" = some (.ref (He.ga K "_law_draw")) := gF "_law_draw" (by decide +kernel)
  obtain ⟨fdname, Fname⟩ : ∃ fd, Fun K "_law_name" "_law_name" sName (He.ga K "_law_name") fd := (c.def_ 3 (d := dd ("_law_name", none) "_law_name" "_law_name" (Lw.top 38)) rfl).imp fun _ F => fun_of (st := sName) F
  have Bname := Fname.binds (ps := ["_law_hand_here", "_law_taken"]) fun _ _ _ _ _ _ us hl => match us, hl with | [_, _], _ => rfl
  have gname : mg "_law_name" = some (.ref (He.ga K "_law_name")) := gF "_law_name" (by decide +kernel)
  obtain ⟨fdnames, Fnames⟩ : ∃ fd, Fun K "_law_names" "_law_names" sNames (He.ga K "_law_names") fd := (c.def_ 4 (d := dd ("_law_names", none) "_law_names" "_law_names" (Lw.top 39)) rfl).imp fun _ F => fun_of (st := sNames) F
  have Bnames := Fnames.binds (ps := ["_law_hand_here", "_law_many"]) fun _ _ _ _ _ _ us hl => match us, hl with | [_, _], _ => rfl
  have gnames : mg "_law_names" = some (.ref (He.ga K "_law_names")) := gF "_law_names" (by decide +kernel)
  obtain ⟨fdunit, Funit⟩ : ∃ fd, Fun K "_law_unit" "_law_unit" sUnit (He.ga K "_law_unit") fd := (c.def_ 5 (d := dd ("_law_unit", none) "_law_unit" "_law_unit" (Lw.top 40)) rfl).imp fun _ F => fun_of (st := sUnit) F
  have Bunit := Funit.binds (ps := ["_law_hand_here"]) fun _ _ _ _ _ _ us hl => match us, hl with | [_], _ => rfl
  have gunit : mg "_law_unit" = some (.ref (He.ga K "_law_unit")) := gF "_law_unit" (by decide +kernel)
  obtain ⟨fdnumber, Fnumber⟩ : ∃ fd, Fun K "_law_number" "_law_number" sNumber (He.ga K "_law_number") fd := (c.def_ 6 (d := dd ("_law_number", none) "_law_number" "_law_number" (Lw.top 41)) rfl).imp fun _ F => fun_of (st := sNumber) F
  have Bnumber := Fnumber.binds (ps := ["_law_hand_here", "_law_unit_here"]) fun _ _ _ _ _ _ us hl => match us, hl with | [_, _], _ => rfl
  have gnumber : mg "_law_number" = some (.ref (He.ga K "_law_number")) := gF "_law_number" (by decide +kernel)
  obtain ⟨fdliteral, Fliteral⟩ : ∃ fd, Fun K "_law_literal" "_law_literal" sLiteral (He.ga K "_law_literal") fd := (c.def_ 7 (d := dd ("_law_literal", none) "_law_literal" "_law_literal" (Lw.top 42)) rfl).imp fun _ F => fun_of (st := sLiteral) F
  have Bliteral := Fliteral.binds (ps := ["_law_hand_here", "_law_names_here", "_law_unit_here"]) fun _ _ _ _ _ _ us hl => match us, hl with | [_, _, _], _ => rfl
  have gliteral : mg "_law_literal" = some (.ref (He.ga K "_law_literal")) := gF "_law_literal" (by decide +kernel)
  obtain ⟨fdpool, Fpool⟩ : ∃ fd, Fun K "_law_pool" "_law_pool" sPool (He.ga K "_law_pool") fd := (c.def_ 8 (d := dd ("_law_pool", none) "_law_pool" "_law_pool" (Lw.top 43)) rfl).imp fun _ F => fun_of (st := sPool) F
  have Bpool := Fpool.binds (ps := ["_law_hand_here", "_law_names_here", "_law_many", "_law_unit_here"]) fun _ _ _ _ _ _ us hl => match us, hl with | [_, _, _, _], _ => rfl
  have gpool : mg "_law_pool" = some (.ref (He.ga K "_law_pool")) := gF "_law_pool" (by decide +kernel)
  obtain ⟨fdpart, Fpart⟩ : ∃ fd, Fun K "_law_part" "_law_part" sPart (He.ga K "_law_part") fd := (c.def_ 9 (d := dd ("_law_part", none) "_law_part" "_law_part" (Lw.top 44)) rfl).imp fun _ F => fun_of (st := sPart) F
  have Bpart := Fpart.binds (ps := ["_law_hand_here", "_law_world_here", "_law_depth", "_law_kind"]) fun _ _ _ _ _ _ us hl => match us, hl with | [_, _, _, _], _ => rfl
  have gpart : mg "_law_part" = some (.ref (He.ga K "_law_part")) := gF "_law_part" (by decide +kernel)
  obtain ⟨fdwrap, Fwrap⟩ : ∃ fd, Fun K "_law_wrap" "_law_wrap" sWrap (He.ga K "_law_wrap") fd := (c.def_ 10 (d := dd ("_law_wrap", none) "_law_wrap" "_law_wrap" (Lw.top 45)) rfl).imp fun _ F => fun_of (st := sWrap) F
  have Bwrap := Fwrap.binds (ps := ["_law_hand_here", "_law_world_here", "_law_depth", "_law_kind"]) fun _ _ _ _ _ _ us hl => match us, hl with | [_, _, _, _], _ => rfl
  have gwrap : mg "_law_wrap" = some (.ref (He.ga K "_law_wrap")) := gF "_law_wrap" (by decide +kernel)
  obtain ⟨fdworld, Fworld⟩ : ∃ fd, Fun K "_law_world" "_law_world" sWorld (He.ga K "_law_world") fd := (c.def_ 11 (d := dd ("_law_world", none) "_law_world" "_law_world" (Lw.top 46)) rfl).imp fun _ F => fun_of (st := sWorld) F
  have Bworld := Fworld.binds (ps := ["_law_hand_here", "_law_columns_most", "_law_literals_most", "_law_unit_here", "_law_room"]) fun _ _ _ _ _ _ us hl => match us, hl with | [_, _, _, _, _], _ => rfl
  have gworld : mg "_law_world" = some (.ref (He.ga K "_law_world")) := gF "_law_world" (by decide +kernel)
  obtain ⟨fdlcols, Flcols⟩ : ∃ fd, Fun K "_law_columns" "_law_columns" sCols (He.ga K "_law_columns") fd := (c.def_ 12 (d := dd ("_law_columns", none) "_law_columns" "_law_columns" (Lw.top 49)) rfl).imp fun _ F => fun_of (st := sCols) F
  have Blcols := Flcols.binds (ps := ["_law_names_here"]) fun _ _ _ _ _ _ us hl => match us, hl with | [_], _ => rfl
  have glcols : mg "_law_columns" = some (.ref (He.ga K "_law_columns")) := gF "_law_columns" (by decide +kernel)
  obtain ⟨fdlsame, Flsame⟩ : ∃ fd, Fun K "_law_same" "_law_same" sLSame (He.ga K "_law_same") fd := (c.def_ 13 (d := dd ("_law_same", none) "_law_same" "_law_same" (Lw.top 48)) rfl).imp fun _ F => fun_of (st := sLSame) F
  have Blsame := Flsame.binds (ps := ["_law_actual", "_law_expected"]) fun _ _ _ _ _ _ us hl => match us, hl with | [_, _], _ => rfl
  have glsame : mg "_law_same" = some (.ref (He.ga K "_law_same")) := gF "_law_same" (by decide +kernel)
  obtain ⟨fdlinner, Flinner⟩ : ∃ fd, Fun K "_law_inner" "_law_inner" sLInner (He.ga K "_law_inner") fd := (c.def_ 14 (d := dd ("_law_inner", none) "_law_inner" "_law_inner" (Lw.top 52)) rfl).imp fun _ F => fun_of (st := sLInner) F
  have Blinner := Flinner.binds (ps := ["_law_part_here"]) fun _ _ _ _ _ _ us hl => match us, hl with | [_], _ => rfl
  have glinner : mg "_law_inner" = some (.ref (He.ga K "_law_inner")) := gF "_law_inner" (by decide +kernel)
  obtain ⟨fdlplaces, Flplaces⟩ : ∃ fd, Fun K "_law_places" "_law_places" sLPlaces (He.ga K "_law_places") fd := (c.def_ 15 (d := dd ("_law_places", none) "_law_places" "_law_places" (Lw.top 47)) rfl).imp fun _ F => fun_of (st := sLPlaces) F
  have Blplaces := Flplaces.binds (ps := ["_law_part_here", "_law_place"]) fun _ _ _ _ _ _ us hl => match us, hl with | [_, _], _ => rfl
  have glplaces : mg "_law_places" = some (.ref (He.ga K "_law_places")) := gF "_law_places" (by decide +kernel)
  obtain ⟨fdlrepl, Flrepl⟩ : ∃ fd, Fun K "_law_replaced" "_law_replaced" sLRepl (He.ga K "_law_replaced") fd := (c.def_ 16 (d := dd ("_law_replaced", none) "_law_replaced" "_law_replaced" (Lw.top 50)) rfl).imp fun _ F => fun_of (st := sLRepl) F
  have Blrepl := Flrepl.binds (ps := ["_law_part_here", "_law_place", "_law_new"]) fun _ _ _ _ _ _ us hl => match us, hl with | [_, _, _], _ => rfl
  have glrepl : mg "_law_replaced" = some (.ref (He.ga K "_law_replaced")) := gF "_law_replaced" (by decide +kernel)
  obtain ⟨fdlres, Flres⟩ : ∃ fd, Fun K "_law_reserved" "_law_reserved" sLRes (He.ga K "_law_reserved") fd := (c.def_ 17 (d := dd ("_law_reserved", none) "_law_reserved" "_law_reserved" (Lw.top 51)) rfl).imp fun _ F => fun_of (st := sLRes) F
  have Blres := Flres.binds (ps := ["_law_hand_here"]) fun _ _ _ _ _ _ us hl => match us, hl with | [_], _ => rfl
  have glres : mg "_law_reserved" = some (.ref (He.ga K "_law_reserved")) := gF "_law_reserved" (by decide +kernel)
  obtain ⟨fdlcode, Flcode⟩ : ∃ fd, Fun K "_law_is_code" "_law_is_code" sLCode (He.ga K "_law_is_code") fd := (c.def_ 18 (d := dd ("_law_is_code", none) "_law_is_code" "_law_is_code" (Lw.top 53)) rfl).imp fun _ F => fun_of (st := sLCode) F
  have Blcode := Flcode.binds (ps := ["_law_item"]) fun _ _ _ _ _ _ us hl => match us, hl with | [_], _ => rfl
  have glcode : mg "_law_is_code" = some (.ref (He.ga K "_law_is_code")) := gF "_law_is_code" (by decide +kernel)
  obtain ⟨fdlnum, Flnum⟩ : ∃ fd, Fun K "_law_number_fits" "_law_number_fits" sLNum (He.ga K "_law_number_fits") fd := (c.def_ 19 (d := dd ("_law_number_fits", none) "_law_number_fits" "_law_number_fits" (Lw.top 54)) rfl).imp fun _ F => fun_of (st := sLNum) F
  have Blnum := Flnum.binds (ps := ["_law_item"]) fun _ _ _ _ _ _ us hl => match us, hl with | [_], _ => rfl
  have glnum : mg "_law_number_fits" = some (.ref (He.ga K "_law_number_fits")) := gF "_law_number_fits" (by decide +kernel)
  obtain ⟨fdlbr, Flbr⟩ : ∃ fd, Fun K "_law_branches_fit" "_law_branches_fit" sLBr (He.ga K "_law_branches_fit") fd := (c.def_ 20 (d := dd ("_law_branches_fit", none) "_law_branches_fit" "_law_branches_fit" (Lw.top 55)) rfl).imp fun _ F => fun_of (st := sLBr) F
  have Blbr := Flbr.binds (ps := ["_law_item"]) fun _ _ _ _ _ _ us hl => match us, hl with | [_], _ => rfl
  have glbr : mg "_law_branches_fit" = some (.ref (He.ga K "_law_branches_fit")) := gF "_law_branches_fit" (by decide +kernel)
  obtain ⟨fdlform, Flform⟩ : ∃ fd, Fun K "_law_form_fits" "_law_form_fits" sLForm (He.ga K "_law_form_fits") fd := (c.def_ 21 (d := dd ("_law_form_fits", none) "_law_form_fits" "_law_form_fits" (Lw.top 56)) rfl).imp fun _ F => fun_of (st := sLForm) F
  have Blform := Flform.binds (ps := ["_law_item"]) fun _ _ _ _ _ _ us hl => match us, hl with | [_], _ => rfl
  have glform : mg "_law_form_fits" = some (.ref (He.ga K "_law_form_fits")) := gF "_law_form_fits" (by decide +kernel)
  obtain ⟨fdlterms, Flterms⟩ : ∃ fd, Fun K "_law_terms_fit" "_law_terms_fit" sLTerms (He.ga K "_law_terms_fit") fd := (c.def_ 22 (d := dd ("_law_terms_fit", none) "_law_terms_fit" "_law_terms_fit" (Lw.top 57)) rfl).imp fun _ F => fun_of (st := sLTerms) F
  have Blterms := Flterms.binds (ps := ["_law_names_here", "_law_item"]) fun _ _ _ _ _ _ us hl => match us, hl with | [_, _], _ => rfl
  have glterms : mg "_law_terms_fit" = some (.ref (He.ga K "_law_terms_fit")) := gF "_law_terms_fit" (by decide +kernel)
  obtain ⟨fdlfault, Flfault⟩ : ∃ fd, Fun K "_law_fault" "_law_fault" sLFault (He.ga K "_law_fault") fd := (c.def_ 23 (d := dd ("_law_fault", none) "_law_fault" "_law_fault" (Lw.top 58)) rfl).imp fun _ F => fun_of (st := sLFault) F
  have Blfault := Flfault.binds (ps := ["_law_names_here", "_law_item", "_law_place"]) fun _ _ _ _ _ _ us hl => match us, hl with | [_, _, _], _ => rfl
  have glfault : mg "_law_fault" = some (.ref (He.ga K "_law_fault")) := gF "_law_fault" (by decide +kernel)
  obtain ⟨fdlstr, Flstr⟩ : ∃ fd, Fun K "_law_strange" "_law_strange" sLStr (He.ga K "_law_strange") fd := (c.def_ 24 (d := dd ("_law_strange", none) "_law_strange" "_law_strange" (Lw.top 59)) rfl).imp fun _ F => fun_of (st := sLStr) F
  have Blstr := Flstr.binds (ps := ["_law_hand_here", "_law_names_here", "_law_part_here", "_law_stranger"]) fun _ _ _ _ _ _ us hl => match us, hl with | [_, _, _, _], _ => rfl
  have glstr : mg "_law_strange" = some (.ref (He.ga K "_law_strange")) := gF "_law_strange" (by decide +kernel)
  obtain ⟨fdlaw, Flaw⟩ : ∃ fd, Fun K "law" "law" s09 (He.ga K "law") fd := (c.def_ 25 (d := dd ("law", none) "law" "law" (Lw.top 60)) rfl).imp fun _ F => fun_of (st := s09) F
  have Blaw := Flaw.binds (ps := ["_law_script"]) fun _ _ _ _ _ _ us hl => match us, hl with | [_], _ => rfl
  have glaw : mg "law" = some (.ref (He.ga K "law")) := gF "law" (by decide +kernel)
  obtain ⟨fdecols, Fecols⟩ : ∃ fd, Fun K "__init__" "BadColumns.__init__" sErr (He.ma K (aBadColumns K) "__init__") fd := (c.def_ 26 (d := dd ("BadColumns", some "__init__") "__init__" "BadColumns.__init__" (inClass (Lw.top 3) 0)) rfl).imp fun _ F => fun_of (st := sErr) F
  have Becols := Fecols.binds (ps := ["self", "index"]) fun _ _ _ _ _ _ us hl => match us, hl with | [_, _], _ => rfl
  obtain ⟨fdisname, Fisname⟩ : ∃ fd, Fun K "is_name" "is_name" sIsName (He.ga K "is_name") fd := (c.def_ 27 (d := dd ("is_name", none) "is_name" "is_name" (Lw.top 11)) rfl).imp fun _ F => fun_of (st := sIsName) F
  have Bisname := Fisname.binds (ps := ["value"]) fun _ _ _ _ _ _ us hl => match us, hl with | [_], _ => rfl
  have gisname : mg "is_name" = some (.ref (He.ga K "is_name")) := gF "is_name" (by decide +kernel)
  obtain ⟨fdicols, Ficols⟩ : ∃ fd, Fun K "__init__" "Columns.__init__" sInit (He.ma K (aColumns K) "__init__") fd := (c.def_ 28 (d := dd ("Columns", some "__init__") "__init__" "Columns.__init__" (inClass (Lw.top 33) 0)) rfl).imp fun _ F => fun_of (st := sInit) F
  obtain ⟨fdccols, Fccols⟩ : ∃ fd, Fun K "__contains__" "Columns.__contains__" sCon3 (He.ma K (aColumns K) "__contains__") fd := (c.def_ 29 (d := dd ("Columns", some "__contains__") "__contains__" "Columns.__contains__" (inClass (Lw.top 33) 3)) rfl).imp fun _ F => fun_of (st := sCon3) F
  have Bccols := Fccols.binds (ps := ["self", "name"]) fun _ _ _ _ _ _ us hl => match us, hl with | [_, _], _ => rfl
  obtain ⟨fdebad, Febad⟩ : ∃ fd, Fun K "__init__" "BadPart.__init__" sBadPart3 (He.ma K (aBadPart K) "__init__") fd := (c.def_ 30 (d := dd ("BadPart", some "__init__") "__init__" "BadPart.__init__" (inClass (Lw.top 4) 0)) rfl).imp fun _ F => fun_of (st := sBadPart3) F
  have Bebad := Febad.binds (ps := ["self", "place", "why"]) fun _ _ _ _ _ _ us hl => match us, hl with | [_, _, _], _ => rfl
  obtain ⟨fdisint, Fisint⟩ : ∃ fd, Fun K "is_integer" "is_integer" sIsInt3 (He.ga K "is_integer") fd := (c.def_ 31 (d := dd ("is_integer", none) "is_integer" "is_integer" (Lw.top 10)) rfl).imp fun _ F => fun_of (st := sIsInt3) F
  have Bisint := Fisint.binds (ps := ["value"]) fun _ _ _ _ _ _ us hl => match us, hl with | [_], _ => rfl
  have gisint : mg "is_integer" = some (.ref (He.ga K "is_integer")) := gF "is_integer" (by decide +kernel)
  obtain ⟨fdtriple, Ftriple⟩ : ∃ fd, Fun K "is_triple" "is_triple" sTriple (He.ga K "is_triple") fd := (c.def_ 32 (d := dd ("is_triple", none) "is_triple" "is_triple" (Lw.top 13)) rfl).imp fun _ F => fun_of (st := sTriple) F
  have Btriple := Ftriple.binds (ps := ["thing"]) fun _ _ _ _ _ _ us hl => match us, hl with | [_], _ => rfl
  have gtriple : mg "is_triple" = some (.ref (He.ga K "is_triple")) := gF "is_triple" (by decide +kernel)
  obtain ⟨fdhasterms, Fhasterms⟩ : ∃ fd, Fun K "has_terms" "has_terms" sHasTerms (He.ga K "has_terms") fd := (c.def_ 33 (d := dd ("has_terms", none) "has_terms" "has_terms" (Lw.top 14)) rfl).imp fun _ F => fun_of (st := sHasTerms) F
  have Bhasterms := Fhasterms.binds (ps := ["columns", "literal"]) fun _ _ _ _ _ _ us hl => match us, hl with | [_, _], _ => rfl
  have ghasterms : mg "has_terms" = some (.ref (He.ga K "has_terms")) := gF "has_terms" (by decide +kernel)
  obtain ⟨fdterm, Fterm⟩ : ∃ fd, Fun K "is_term" "is_term" sTerm (He.ga K "is_term") fd := (c.def_ 34 (d := dd ("is_term", none) "is_term" "is_term" (Lw.top 15)) rfl).imp fun _ F => fun_of (st := sTerm) F
  have Bterm := Fterm.binds (ps := ["columns", "thing"]) fun _ _ _ _ _ _ us hl => match us, hl with | [_, _], _ => rfl
  have gterm : mg "is_term" = some (.ref (He.ga K "is_term")) := gF "is_term" (by decide +kernel)
  obtain ⟨fdfaultof, Ffaultof⟩ : ∃ fd, Fun K "fault_of" "fault_of" sFaultOf (He.ga K "fault_of") fd := (c.def_ 35 (d := dd ("fault_of", none) "fault_of" "fault_of" (Lw.top 20)) rfl).imp fun _ F => fun_of (st := sFaultOf) F
  have Bfaultof := Ffaultof.binds (ps := ["columns", "thing"]) fun _ _ _ _ _ _ us hl => match us, hl with | [_, _], _ => rfl
  have gfaultof : mg "fault_of" = some (.ref (He.ga K "fault_of")) := gF "fault_of" (by decide +kernel)
  obtain ⟨fdhasform, Fhasform⟩ : ∃ fd, Fun K "has_form" "has_form" sHasForm (He.ga K "has_form") fd := (c.def_ 36 (d := dd ("has_form", none) "has_form" "has_form" (Lw.top 21)) rfl).imp fun _ F => fun_of (st := sHasForm) F
  have Bhasform := Fhasform.binds (ps := ["thing"]) fun _ _ _ _ _ _ us hl => match us, hl with | [_], _ => rfl
  have ghasform : mg "has_form" = some (.ref (He.ga K "has_form")) := gF "has_form" (by decide +kernel)
  obtain ⟨fdupto, Fupto⟩ : ∃ fd, Fun K "is_tuple_up_to" "is_tuple_up_to" sUpTo (He.ga K "is_tuple_up_to") fd := (c.def_ 37 (d := dd ("is_tuple_up_to", none) "is_tuple_up_to" "is_tuple_up_to" (Lw.top 22)) rfl).imp fun _ F => fun_of (st := sUpTo) F
  have Bupto := Fupto.binds (ps := ["most", "thing"]) fun _ _ _ _ _ _ us hl => match us, hl with | [_, _], _ => rfl
  have gupto : mg "is_tuple_up_to" = some (.ref (He.ga K "is_tuple_up_to")) := gF "is_tuple_up_to" (by decide +kernel)
  obtain ⟨fdispair, Fispair⟩ : ∃ fd, Fun K "is_pair" "is_pair" sPair (He.ga K "is_pair") fd := (c.def_ 38 (d := dd ("is_pair", none) "is_pair" "is_pair" (Lw.top 23)) rfl).imp fun _ F => fun_of (st := sPair) F
  have Bispair := Fispair.binds (ps := ["thing"]) fun _ _ _ _ _ _ us hl => match us, hl with | [_], _ => rfl
  have gispair : mg "is_pair" = some (.ref (He.ga K "is_pair")) := gF "is_pair" (by decide +kernel)
  obtain ⟨fdright, Fright⟩ : ∃ fd, Fun K "has_right_terms" "has_right_terms" sRight (He.ga K "has_right_terms") fd := (c.def_ 39 (d := dd ("has_right_terms", none) "has_right_terms" "has_right_terms" (Lw.top 24)) rfl).imp fun _ F => fun_of (st := sRight) F
  have Bright := Fright.binds (ps := ["columns", "part"]) fun _ _ _ _ _ _ us hl => match us, hl with | [_, _], _ => rfl
  have gright : mg "has_right_terms" = some (.ref (He.ga K "has_right_terms")) := gF "has_right_terms" (by decide +kernel)
  obtain ⟨fdlitof, Flitof⟩ : ∃ fd, Fun K "literal_of" "literal_of" sLitOf (He.ga K "literal_of") fd := (c.def_ 40 (d := dd ("literal_of", none) "literal_of" "literal_of" (Lw.top 25)) rfl).imp fun _ F => fun_of (st := sLitOf) F
  have Blitof := Flitof.binds (ps := ["part"]) fun _ _ _ _ _ _ us hl => match us, hl with | [_], _ => rfl
  have glitof : mg "literal_of" = some (.ref (He.ga K "literal_of")) := gF "literal_of" (by decide +kernel)
  obtain ⟨fdinner, Finner⟩ : ∃ fd, Fun K "inner_parts" "inner_parts" sInner (He.ga K "inner_parts") fd := (c.def_ 41 (d := dd ("inner_parts", none) "inner_parts" "inner_parts" (Lw.top 26)) rfl).imp fun _ F => fun_of (st := sInner) F
  have Binner := Finner.binds (ps := ["part"]) fun _ _ _ _ _ _ us hl => match us, hl with | [_], _ => rfl
  have ginner : mg "inner_parts" = some (.ref (He.ga K "inner_parts")) := gF "inner_parts" (by decide +kernel)
  obtain ⟨fdcheck, Fcheck⟩ : ∃ fd, Fun K "check_part" "check_part" sCheck (He.ga K "check_part") fd := (c.def_ 42 (d := dd ("check_part", none) "check_part" "check_part" (Lw.top 30)) rfl).imp fun _ F => fun_of (st := sCheck) F
  have Bcheck := Fcheck.binds (ps := ["columns", "thing", "place"]) fun _ _ _ _ _ _ us hl => match us, hl with | [_, _, _], _ => rfl
  have gcheck : mg "check_part" = some (.ref (He.ga K "check_part")) := gF "check_part" (by decide +kernel)
  obtain ⟨fdicond, Ficond⟩ : ∃ fd, Fun K "__init__" "Condition.__init__" sCondI (He.ma K (aCondition K) "__init__") fd := (c.def_ 43 (d := dd ("Condition", some "__init__") "__init__" "Condition.__init__" (inClass (Lw.top 29) 0)) rfl).imp fun _ F => fun_of (st := sCondI) F
  have Bicond := Ficond.binds (ps := ["self", "columns", "part"]) fun _ _ _ _ _ _ us hl => match us, hl with | [_, _, _], _ => rfl
  refine ⟨fdlaw, ?_, fun base _ _ => ?_⟩
  · obtain ⟨oc, od, kV, doc, pm, an, cdv, ct, osl, rfl, lk, hcd⟩ := Flaw.ex
    exact fun s v => .of_eq rfl
  have e := hfa.symm.trans glaw
  cases e
  have fr : ∀ n ∈ (["all", "enumerate", "min"] : List Str), mg n = none := fun n hn => mg_free X G (List.all_eq_true.mp xfree n hn)
  have g2 : ∀ n ∈ (["WORDS", "SIZES", "Columns", "BadColumns", "BadPart", "Condition", "BatchError"] : List Str), mg n = some (.ref (He.ga K n)) := fun n hn => mg_glo X G (List.all_eq_true.mp xglo n hn)
  have GD : FnOk P w K mg base CX0 2 _ fddraw ["_law_hand_here", "_law_many"] spDraw := ok_draw Fdraw B Fmixed Bmixed gmixed
  have cD : CD P w K mg base := ⟨_, _, _, GD.imp fun _ _ _ _ h => draw_spT h, gdraw, Fdraw.kp, Bdraw⟩
  have GN : FnOk P w K mg base CX0 3 _ fdname ["_law_hand_here", "_law_taken"] spName := okName Fname B GD Fdraw.kp Bdraw gdraw
  have cN : Cl P w K mg base 3 "_law_name" (spT K [.S, .B] false cName) := ⟨_, _, _, GN.imp fun _ _ _ _ h => name_spT h, gname, Fname.kp, Bname⟩
  have cNs : CNs P w K mg base 4 := ⟨_, _, _, (okNames Fnames B GN Fname.kp Bname gname).imp fun _ _ _ _ h => names_spT h, gnames, Fnames.kp, Bnames⟩
  have cU : Cl P w K mg base 3 "_law_unit" (spT K [.S] false cUnit) := ⟨_, _, _, (okUnit Funit GD Fdraw.kp Bdraw gdraw).imp fun _ _ _ _ h => unit_spT h, gunit, Funit.kp, Bunit⟩
  have cNu : CN P w K mg base := ⟨_, _, _, okNumber Fnumber B cD, gnumber, Fnumber.kp, Bnumber⟩
  have cLi : CL P w K mg base := ⟨_, _, _, okLiteral Fliteral B cD cNu, gliteral, Fliteral.kp, Bliteral⟩
  have cPo : CPo P w K mg base := ⟨_, _, _, okPool Fpool B cLi, gpool, Fpool.kp, Bpool⟩
  have cW : Cl P w K mg base 6 "_law_world" (spT K [.S, .S, .S, .S, .S] true cWorld) := ⟨_, _, _, okWorld Fworld B cD (j := 4) (by decide) cNs cPo, gworld, Fworld.kp, Bworld⟩
  have cPas : ∀ n, CPa P w K mg base (4 + 2 * n) n := okParts Fpart gpart Fpart.kp Bpart Fwrap gwrap Fwrap.kp Bwrap B (fr "min" (by decide +kernel)) cD
  have xb := xB_ok xbc xg
  obtain ⟨MB, NB⟩ := iB_ok xbci xb
  obtain ⟨gg1, gg2⟩ := He.ba xg
  obtain ⟨e1, ex⟩ := He.ba xceq
  obtain ⟨e2, e3⟩ := He.ba ex
  have DC : Cf K mg (aColumns K) := ⟨clsB_ok xccl, He.eqO_ok e1, He.eqO_ok gg1, of_decide_eq_true gg2, of_decide_eq_true e2, noB_ok xcno (by decide +kernel), g2 "Columns" (by decide +kernel), of_decide_eq_true e3⟩
  have DE : Ef K mg (aBadColumns K) (He.ma K (aBadColumns K) "__init__") := ⟨MB.T, MB.iC, MB.tI, NB "index" (by decide +kernel), g2 "BadColumns" (by decide +kernel)⟩
  have DK : Kd K mg := by
    obtain ⟨u1, e1, r1⟩ := valB_ok X G xletters
    obtain ⟨u2, e2, r2⟩ := valB_ok X G xmletters
    obtain ⟨u3, e3, r3⟩ := valB_ok X G xmcols
    obtain ⟨k1, rfl⟩ := r1
    obtain ⟨k2, rfl⟩ := r2
    obtain ⟨k3, rfl⟩ := r3
    exact ⟨⟨_, g2 "WORDS" (by decide +kernel), fun H => He.tupB_ok xwords H⟩, ⟨k1, e1⟩, ⟨k2, e2⟩, ⟨k3, e3⟩, fr "all" (by decide +kernel), fr "enumerate" (by decide +kernel)⟩
  have GT : FnR P w K mg base (L2.CX P w) 3 _ (spNew K (aColumns K) (aBadColumns K)) := okInit Ficols B DK DC DE Fecols Becols Fisname Bisname gisname
  have cCo : ClX P w K mg base 5 "_law_columns" (spTX K [.S] false (cLawCols (aColumns K))) := ⟨_, _, _, (okCols Flcols B DC (mkeB_ok xcmk) GT).imp fun _ _ _ _ h => cols_lift h, glcols, Flcols.kp, Blcols⟩
  have xp := xB_ok xbp xg
  obtain ⟨MP, NP⟩ := iB_ok xbpi xp
  have DP : Bp K mg (aBadPart K) (He.ma K (aBadPart K) "__init__") := ⟨MP.T, MP.iC, MP.tI, NP "place" (by decide +kernel), NP "why" (by decide +kernel), g2 "BadPart" (by decide +kernel)⟩
  have hsz : Sz K w mg (He.ga K "SIZES") := sz_of (g2 "SIZES" (by decide +kernel)) (by have e := ht; simp only [tabs, List.map_cons, List.map_nil, List.cons.injEq, and_true] at e; exact e) xsz
  obtain ⟨u4, v4, r4⟩ := valB_ok X G xmj
  obtain ⟨u5, v5, r5⟩ := valB_ok X G xmb
  obtain ⟨k4, rfl⟩ := r4
  obtain ⟨k5, rfl⟩ := r5
  have cNm : CNm P w K mg base := ⟨_, _, _, (okIsName Fisname B DK).imp fun _ _ _ _ h => name_is h, gisname, Fisname.kp, Bisname⟩
  have cI3 : CI3 P w K mg base := ⟨_, _, _, okIsInt3 Fisint B, gisint, Fisint.kp, Bisint⟩
  have cTr : CTr P w K mg base := ⟨_, _, _, okTriple Ftriple B cI3, gtriple, Ftriple.kp, Btriple⟩
  have cUp : CUp P w K mg base := ⟨_, _, _, okUpTo Fupto B, gupto, Fupto.kp, Bupto⟩
  have cPr : CPr P w K mg base := ⟨_, _, _, okPair Fispair B, gispair, Fispair.kp, Bispair⟩
  have mCo := mthB_ok xcco
  have hCo : Om P w K mg base 1 (aColumns K) "__contains__" ["self", "name"] (spT K [.B, .B] false (cCon (aColumns K))) (He.ma K (aColumns K) "__contains__") fdccols := ⟨mCo.at_, mCo.fn, okCon3 Fccols B DC.cl DC.no, Bccols⟩
  have cTm : CTm P w K mg base (aColumns K) := ⟨_, _, _, okTerm Fterm B hCo, gterm, Fterm.kp, Bterm⟩
  have cHt : CHt P w K mg base (aColumns K) := ⟨_, _, _, okHasTerms Fhasterms B cTm, ghasterms, Fhasterms.kp, Bhasterms⟩
  have cLo : CLi P w K mg base := ⟨_, _, _, okLitOf Flitof B, glitof, Flitof.kp, Blitof⟩
  have cRt : CRt P w K mg base (aColumns K) := ⟨_, _, _, okRight Fright B cHt cLo hCo, gright, Fright.kp, Bright⟩
  have cHf : CHf P w K mg base := ⟨_, _, _, okHasForm Fhasform B hsz v4 v5 (fr "all" (by decide +kernel)) cTr cNm cUp cPr, ghasform, Fhasform.kp, Bhasform⟩
  have cFo : CFo P w K mg base (aColumns K) := ⟨_, _, _, okFaultOf Ffaultof B cHf cRt, gfaultof, Ffaultof.kp, Bfaultof⟩
  have cIn : CIn P w K mg base := ⟨_, _, _, okInner Finner B, ginner, Finner.kp, Binner⟩
  have cCk : ∀ n, CCk P w K mg base (aColumns K) (aBadPart K) n := okChecks Fcheck gcheck Fcheck.kp Bcheck B (fr "enumerate" (by decide +kernel)) cFo cIn DP (okBadPart3 Febad DP) Bebad
  have GCo := fun n => okCondI Ficond B (cCk n) (clsB_ok xdcl) (noB_ok xdno (by decide +kernel)) (noB_ok xdno (by decide +kernel))
  have cLI : CLIn P w K mg base := ⟨_, _, _, okLInner Flinner B, glinner, Flinner.kp, Blinner⟩
  have cPls : ∀ n, CLPl P w K mg base n := okPlacess Flplaces glplaces Flplaces.kp Blplaces B cLI
  have cSms : ∀ n, CLSm P w K mg base n := okSames Flsame glsame Flsame.kp Blsame B
  have cRp : ∀ n, CRpl P w K mg base n := okRepls Flrepl glrepl Flrepl.kp Blrepl B
  have cRe : Cl P w K mg base 3 "_law_reserved" (spT K [.S] false cRes) := ⟨_, _, _, okLRes Flres B cD, glres, Flres.kp, Blres⟩
  have cSt : Cl P w K mg base 4 "_law_strange" (spT K [.S, .S, .S, .S] false cStrange) := ⟨_, _, _, okLStr Flstr B cD cRe, glstr, Flstr.kp, Blstr⟩
  have cCd : Cl P w K mg base 1 "_law_is_code" (spT K [.B] false cIsName) := ⟨_, _, _, okLCode Flcode B, glcode, Flcode.kp, Blcode⟩
  have cLn : Cl P w K mg base 1 "_law_number_fits" (spT K [.B] false cIsInt) := ⟨_, _, _, okLNum Flnum B, glnum, Flnum.kp, Blnum⟩
  have cLb : Cl P w K mg base 1 "_law_branches_fit" (spT K [.S] false cBr) := ⟨_, _, _, okLBr Flbr B, glbr, Flbr.kp, Blbr⟩
  have cLF : CLFF P w K mg base := ⟨_, _, _, okLForm Flform B cCd cLn cLb, glform, Flform.kp, Blform⟩
  have cLT : CLTF P w K mg base := ⟨_, _, _, okLTerms Flterms B, glterms, Flterms.kp, Blterms⟩
  have cFa : ∀ n, CLFa P w K mg base n := okFaults Flfault glfault Flfault.kp Blfault B cLF cLT cLI
  obtain ⟨q1, q2⟩ := He.ba xcau
  exact ok09 Flaw B (ok_hand Fhand B) Fhand.kp Bhand ghand cD cU cW cN (cPas 4) (cPls 4) (cRp 4) cSt (cFa 14) (cSms 16) cCo (mkeB_ok xdmk) (GCo 14) Bicond (g2 "Condition" (by decide +kernel)) (clsB_ok xdcl) (noB_ok xdno (by decide +kernel)) xp.f xp.e (NP "place" (by decide +kernel)) (NP "why" (by decide +kernel)) (g2 "BadPart" (by decide +kernel)) (g2 "BatchError" (by decide +kernel)) (of_decide_eq_true q1) (of_decide_eq_true q2)
end Te
open PySem PySem.W PySem.Calls PyProof.Rows
theorem PySem.Challenge.cw_batchtests_k09_wrong_parts_holds : PySem.Challenge.rw_batchtests_k09_wrong_parts.Holds := by
  w_on; o_law
  refine HandSHeadRun.head_any (r := OpenLaw.row PySem.Challenge.rw_batchtests_k09_wrong_parts) (q := view (OpenLaw.row PySem.Challenge.rw_batchtests_k09_wrong_parts).prog [60]) (H := Te.hk) (ob := Te.ob) (M := 20000) (loose := ((["_wall", "BatchError", "BadColumns", "BadPart", "NoPlace", "LETTERS", "MOST_LETTERS", "WORDS", "is_integer", "is_name", "is_triple", "has_terms", "is_term", "MOST_JOINED", "MOST_BRANCHES", "SIZES", "fault_of", "has_form", "is_tuple_up_to", "is_pair", "has_right_terms", "literal_of", "inner_parts", "part_at", "Condition"] : List PySem.Str) ++ (["check_part", "MOST_COLUMNS", "Columns", "_law_hand", "_law_mixed", "_law_draw", "_law_name", "_law_names", "_law_unit", "_law_number", "_law_literal", "_law_pool", "_law_part", "_law_wrap", "_law_world", "_law_places", "_law_same", "_law_columns", "_law_replaced", "_law_reserved", "_law_inner", "_law_is_code", "_law_number_fits", "_law_branches_fit", "_law_form_fits"] : List PySem.Str) ++ (["_law_terms_fit", "_law_fault", "_law_strange"] : List PySem.Str))) (d := HandSHeadRun.topDef (OpenLaw.row PySem.Challenge.rw_batchtests_k09_wrong_parts).prog 60) (kwd := []) Te.ob_eq
    (by kernel_rfl) (fun s => by kernel_rfl) Te.run (by kernel_rfl) (by kernel_rfl) (by kernel_rfl) (by rfl) (by first | assumption | decide +kernel) (by decide +kernel) ⟨rfl, rfl, rfl, rfl, rfl, by decide +kernel⟩ ?hw ?hc
  case hw => w_witness2
  case hc =>
    refine L2.walk_ofE (l := PySem.Challenge.rw_batchtests_k09_wrong_parts) (n := 63) (k := 23) (x := "_law_script") (CX := L2.CX0) rfl (by decide) (by kernel_rfl) ⟨rfl, by decide, by decide⟩ ?F (fun _ _ _ _ z => z)
    intro w mg fa h Y G hmg0
    obtain ⟨K, KX, c, hx, ht⟩ := Y
    have hmg : mg ("law" : PySem.Str) = some (.ref fa) := by
      have e : (HandSHeadRun.topDef (OpenLaw.row PySem.Challenge.rw_batchtests_k09_wrong_parts).prog 60).name = ("law" : PySem.Str) := by kernel_rfl
      rw [← e]
      exact hmg0
    obtain ⟨fd, hb, hF⟩ := Te.facts (P := (PySem.Challenge.rw_batchtests_k09_wrong_parts).prog) (w := w) KX G hmg c hx ht
    exact ⟨K, fd, Lh.spLaw K, KX, hb, fun H a ns hl _ hS => ⟨a, ns, rfl, hS, hl, fun _ => rfl⟩, hF⟩
#print axioms PySem.Challenge.cw_batchtests_k09_wrong_parts_holds
