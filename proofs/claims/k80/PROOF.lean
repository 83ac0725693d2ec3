import PyProof.Rows.All
import Wide.All
import OpenK.AllK
import Wide.FinOn
import HandS.ForMost
import HandS.IsInst
import HandS.Exc
import HandS.ExcOwn
import HandS.ExcInit
import HandS.ExcField
import HandS.ExcIs
import HandS.ExcValue
import HandS.Defaults
import HandS.Head0
import HandS.Head1
import HandS.Head2
import HandS.HeadEnd
import HandS.HeadHook1
import HandS.HeadHook2
import KE.KExcIs
import KE.KStateDown
import PySem.Challenge.RW_batchtests_k80_errors
set_option Elab.async false
set_option maxRecDepth 100000
set_option maxHeartbeats 4000000
/-! what every law of this document shares: the hand of drawn numbers -/
namespace Lw
open PySem L2
def top (i : Nat) : Stmt := PySem.Challenge.pw_batchtests_k80_errors.main.body.getD i (.Pass ⟨0, 0, 0, 0⟩)
abbrev sHand : Stmt := top 21
abbrev sMixed : Stmt := top 22
abbrev sDraw : Stmt := top 23
/-- a hand at p with its cells at q -/
structure HandAt (H : Hp) (p q : Addr) : Prop where
  ob : ∃ (i : Nat) (b c s : Int), H p = some (.lst [.ref q, .int (i : Int), .int b, .int c, .int s])
  cs : ∃ ns : List Int, H q = some (.lst (ns.map V.int)) ∧ ns.length ≤ 63
theorem HandAt.ne {H : Hp} {p q : Addr} (h : HandAt H p q) : q ≠ p := by
  intro e
  obtain ⟨⟨i, b, c, s, h1⟩, ns, h2, _⟩ := h
  subst e
  rw [h1] at h2
  have h3 := HO.lst.inj (Option.some.inj h2)
  cases ns with
  | nil => cases h3
  | cons a r => exact V.noConfusion (List.cons.inj h3).1
theorem HandAt.keep {H H' : Hp} {p q : Addr} (h : HandAt H p q) (hp : ∀ o, H p = some o → H' p = some o) (hq : ∀ o, H q = some o → H' q = some o) : HandAt H' p q := by
  obtain ⟨⟨i, b, c, s, h1⟩, ns, h2, h3⟩ := h
  exact ⟨⟨i, b, c, s, hp _ h1⟩, ns, hq _ h2, h3⟩
theorem HandAt.same {H H' : Hp} {p q : Addr} (h : HandAt H p q) (e : Same H H') : HandAt H' p q := h.keep (fun o z => e p o z) (fun o z => e q o z)
theorem HandAt.np {H : Hp} {p q x : Addr} (h : HandAt H p q) (e : H x = none) : x ≠ p ∧ x ≠ q := by
  obtain ⟨⟨i, b, c, s, h1⟩, ns, h2, h3⟩ := h
  exact ⟨(ne_of_none h1 e).symm, (ne_of_none h2 e).symm⟩
theorem HandAt.upd {H : Hp} {p q x : Addr} {o : HO} (h : HandAt H p q) (hp : x ≠ p) (hq : x ≠ q) : HandAt (upd H x o) p q :=
  h.keep (fun z e => by rw [upd_ne hp.symm]; exact e) (fun z e => by rw [upd_ne hq.symm]; exact e)
/-- all but p is as it was -/
def Else (p : Addr) (H H' : Hp) : Prop := ∀ b o, H b = some o → b ≠ p → H' b = some o
theorem Else.refl (p : Addr) (H : Hp) : Else p H H := fun _ _ h _ => h
theorem Else.trans {p : Addr} {H H1 H2 : Hp} (a : Else p H H1) (b : Else p H1 H2) : Else p H H2 := fun c o h n => b c o (a c o h n) n
theorem Else.of {p : Addr} {H H' : Hp} (a : Same H H') : Else p H H' := fun c o h _ => a c o h
theorem Else.put {p : Addr} {H : Hp} {o : HO} : Else p H (L2.upd H p o) := fun c u h n => by rw [upd_ne n]; exact h
theorem Else.new {p a : Addr} {H H' : Hp} {o : HO} (e : Else p H H') (h : H' a = none) : Else p H (L2.upd H' a o) := fun c u z n => by
  have y := e c u z n
  rw [upd_ne (ne_of_none y h)]
  exact y
theorem Else.none {p a : Addr} {H H' : Hp} (e : Else p H H') (h : H' a = none) (n : a ≠ p) : H a = none := by
  cases q : H a with
  | none => rfl
  | some o =>
    rw [e a o q n] at h
    cases h
theorem same_new {H : Hp} {a : Addr} {o : HO} (h : H a = none) : Same H (L2.upd H a o) := fun b u e => by
  rw [upd_ne (ne_of_none e h)]
  exact e
/-- a part whose place no run comes to -/
theorem pe_never {X : Cx} {e : Expr} : PE X e (fun _ _ _ => False) := ⟨fun _ _ _ _ _ _ h => h.elim⟩
/-- the built-in names that no module's name hides -/
structure Bt (mg : Str → Option Value) : Prop where
  len : mg "len" = none
  int : mg "int" = none
  list : mg "list" = none
  range : mg "range" = none
  isi : mg "isinstance" = none
  str : mg "str" = none
  bool : mg "bool" = none
  tuple : mg "tuple" = none
  dict : mg "dict" = none
def spHand (K : PySem.W.Frag) : Sp := fun vs H Q _ => ∃ (a : Addr) (ns : List Int), vs = [.ref a] ∧ SqL K H a (ns.map V.int) ∧ ns.length ≤ 63 ∧
  ∀ (p q : Addr) (H' : Hp), H p = none → H q = none → HandAt H' p q → Same H H' → Q (.ref p) H'
def spMixed : Sp := fun vs H Q _ => ∃ x y : Int, vs = [.int x, .int y] ∧ ∀ r : Int, 0 ≤ r → Q (.int r) H
def spDraw : Sp := fun vs H Q _ => ∃ (p q : Addr) (m : Int), vs = [.ref p, .int m] ∧ HandAt H p q ∧ 0 < m ∧ m < 1073741824 ∧
  ∀ (r : Int) (H' : Hp), 0 ≤ r → r < m → HandAt H' p q → Else p H H' → Q (.int r) H'
section
variable {P : Program} {w : World} {K : PySem.W.Frag} {mg : Str → Option Value} {base : Heap}
theorem scMixed : FnScope ["_law_number", "_law_count", "_law_first", "_law_second"] ["_law_number", "_law_count"] (defScope sMixed) := ⟨rfl, rfl, rfl, by decide +kernel, rfl, by decide +kernel, by decide +kernel⟩
theorem ok_mixed {f : Addr} {fd : FuncData} (F : Fun K "_law_mixed" "_law_mixed" sMixed f fd) (B : Bt mg) : FnOk P w K mg base CX0 1 f fd ["_law_number", "_law_count"] spMixed := by
  refine F.ok scMixed (fun vs H Q E h => ?_) (fun cdv A outer s H vs Q E hr h => ?_)
  · obtain ⟨x, y, rfl, _⟩ := h
    rfl
  · obtain ⟨x, y, rfl, k⟩ := h
    refine ⟨_, pss_cons (ps_set (i := 2) scMixed.nd rfl (Or.inl rfl) (pe_op op_mod (pe_callTy call_int1 (by rfl) B.int (by decide +kernel) (pa_cons (pe_op op_add (pe_op op_add (pe_op op_mul (pv 0) pe_int) (pe_op op_mul (pv 1) pe_int)) pe_int) pa_nil)) pe_int))
      (pss_cons (ps_set (i := 3) scMixed.nd rfl (Or.inl rfl) (pe_op op_mod (pe_callTy call_int1 (by rfl) B.int (by decide +kernel) (pa_cons (pe_op op_mul (pv 2) (pe_op op_add (pe_op op_fdiv (pv 2) pe_int) pe_int)) pa_nil)) pe_int))
      (pss_one (ps_ret (pe_op op_mod (pe_callTy call_int1 (by rfl) B.int (by decide +kernel) (pa_cons (pe_op op_add (pe_op op_mul (pv 3) (pe_op op_add (pe_op op_fdiv (pv 3) pe_int) pe_int)) (pe_op op_mul (pv 1) pe_int)) pa_nil)) pe_int)))), ?_⟩
    refine ⟨_, rfl, _, _, rfl, rfl, .inr ⟨by decide, by decide⟩, _, rfl, _, _, rfl, rfl, .inr ⟨by decide, by decide⟩, _, _, rfl, rfl, _, _, rfl, rfl, .inl ⟨_, rfl, _, _, rfl, rfl, (by show (0 : Int) < 2147483647; decide), ?_⟩⟩
    generalize e1 : (x * 48271 + y * 7919 + 30103) % 2147483647 = u
    have u0 : 0 ≤ u := by omega
    have u1 : u < 2147483647 := by omega
    refine ⟨_, rfl, _, rfl, _, _, rfl, rfl, ⟨by decide, by decide⟩, _, _, rfl, rfl, _, _, rfl, rfl, .inl ⟨by omega, by omega⟩, .inl ⟨_, rfl, _, _, rfl, rfl, (by show (0 : Int) < 2147483647; decide), ?_⟩⟩
    generalize e2 : (u * (u / 1009 + 69621)) % 2147483647 = v
    have v0 : 0 ≤ v := by omega
    have v1 : v < 2147483647 := by omega
    refine ⟨_, rfl, _, rfl, _, _, rfl, rfl, ⟨by decide, by decide⟩, _, _, rfl, rfl, _, _, rfl, rfl, .inl ⟨by omega, by omega⟩, _, rfl, _, _, rfl, rfl, .inr ⟨by decide, by decide⟩, _, _, rfl, rfl, .inl ⟨_, rfl, _, _, rfl, rfl, (by show (0 : Int) < 2147483399; decide), ?_⟩⟩
    exact k _ (by omega)
theorem scHand : FnScope ["_law_script", "_law_cells", "_law_seed", "_law_cell"] ["_law_script"] (defScope sHand) := ⟨rfl, rfl, rfl, by decide +kernel, rfl, by decide +kernel, by decide +kernel⟩
theorem ok_hand {f : Addr} {fd : FuncData} (F : Fun K "_law_hand" "_law_hand" sHand f fd) (B : Bt mg) : FnOk P w K mg base CX0 1 f fd ["_law_script"] (spHand K) := by
  refine F.ok scHand (fun vs H Q E h => ?_) (fun cdv A outer s H vs Q E hr h => ?_)
  · obtain ⟨a, ns, rfl, _⟩ := h
    rfl
  · obtain ⟨a, ns, rfl, hS, hlen, k⟩ := h
    refine ⟨_, pss_cons (ps_set (i := 1) scHand.nd rfl (Or.inl rfl) (pe_callTy call_list_of (by rfl) B.list (by decide +kernel) (pa_cons (pe_slice sl_list (pv 0) po_none (po_some pe_int)) pa_nil)))
      (pss_cons (ps_set (i := 2) scHand.nd rfl (Or.inl rfl) pe_int)
      (pss_cons (ps_for PassesOwn.never rfl (pi_list (pv 1)) (pg_name (i := 3) scHand.nd rfl (Or.inl rfl))
        (pss_one (ps_set (i := 2) scHand.nd rfl (Or.inl rfl) (pe_op op_mod (pe_callTy call_int1 (by rfl) B.int (by decide +kernel) (pa_cons (pe_op op_add (pe_op op_add (pe_op op_mul (pv 2) pe_int) (pv 3)) pe_int) pa_nil)) pe_int))))
      (pss_one (ps_ret (pe_lst (pa_cons (pv 1) (pa_cons pe_int (pa_cons pe_int (pa_cons pe_int (pa_cons (pv 2) pa_nil)))))))))), ?_⟩
    -- list(script[:63])
    refine ⟨_, rfl, 63, rfl, a, _, rfl, hS, fun t ht => ⟨t, _, rfl, .inl (SqL.of upd_same), fun q hq => ?_⟩⟩
    have hq0 : H q = none := (same_new ht).free hq
    obtain ⟨ms, em, lm⟩ : ∃ ms : List Int, cutV (ns.map V.int) none (some 63) = ms.map V.int ∧ ms.length ≤ 63 := by
      refine ⟨(ns.drop (HT.sIx ns.length 0 none)).take (HT.sIx ns.length ns.length (some 63) - HT.sIx ns.length 0 none), ?_, ?_⟩
      · unfold cutV
        rw [List.length_map, List.map_take, List.map_drop]
      · rw [List.length_take, List.length_drop]
        omega
    rw [em] at hq ⊢
    have s0 : Same H (upd (upd H t (.lst (ms.map V.int))) q (.lst (ms.map V.int))) := (same_new ht).trans (same_new hq)
    refine ⟨_, rfl, q, rfl, ⟨_, SqL.of upd_same⟩, for_list (K := K) (a := q) (xs := ms.map V.int) (fun i σ H2 => ∃ (z : Int) (v : Option V), σ = [some (.ref a), some (.ref q), some (.int z), v] ∧ H2 = upd (upd H t (.lst (ms.map V.int))) q (.lst (ms.map V.int)))
      ⟨7, none, rfl, rfl⟩ (fun i σ H2 _ ⟨_, _, _, e⟩ => by rw [e]; exact SqL.of upd_same) ?_ ?_⟩
    · rintro i y σ H2 hi ⟨z, v, rfl, rfl⟩
      obtain ⟨n, rfl⟩ : ∃ n, y = V.int n := by
        rw [List.getElem?_map] at hi
        cases e : ms[i]? with
        | none =>
          rw [e] at hi
          cases hi
        | some n =>
          rw [e] at hi
          exact ⟨n, (Option.some.inj hi).symm⟩
      refine ⟨_, rfl, _, _, rfl, rfl, .inr ⟨by decide, by decide⟩, _, rfl, _, _, rfl, rfl, _, _, rfl, rfl, .inl ⟨_, rfl, _, _, rfl, rfl, (by show (0 : Int) < 2147483629; decide), ?_⟩⟩
      exact ⟨_, _, rfl, rfl⟩
    · rintro σ H2 ⟨z, v, rfl, rfl⟩
      refine ⟨_, rfl, _, rfl, (by show 5 ≤ sizeLine; decide), fun p hp => ?_⟩
      have hp0 : H p = none := s0.free hp
      have hqp : q ≠ p := ne_of_none (upd_same (H := upd H t (.lst (ms.map V.int))) (a := q) (o := .lst (ms.map V.int))) hp
      refine k p q _ hp0 hq0 ⟨⟨0, 0, 0, z, upd_same⟩, ms, by rw [upd_ne hqp, upd_same], lm⟩ (s0.trans (same_new hp))
end
end Lw
namespace Lw
open PySem L2
section
variable {P : Program} {w : World} {K : PySem.W.Frag} {mg : Str → Option Value} {base : Heap}
theorem scDraw : FnScope ["_law_hand_here", "_law_many", "_law_cell", "_law_digit"] ["_law_hand_here", "_law_many"] (defScope sDraw) := ⟨rfl, rfl, rfl, by decide +kernel, rfl, by decide +kernel, by decide +kernel⟩
/-- the hand's list -/
abbrev hl (q : Addr) (i : Nat) (b c s : Int) : HO := .lst [.ref q, .int (i : Int), .int b, .int c, .int s]
theorem ok_draw {f fM : Addr} {fd fdM : FuncData} (F : Fun K "_law_draw" "_law_draw" sDraw f fd) (B : Bt mg) (FM : Fun K "_law_mixed" "_law_mixed" sMixed fM fdM) (bM : Binds K fdM ["_law_number", "_law_count"] []) (mM : mg "_law_mixed" = some (.ref fM)) :
    FnOk P w K mg base CX0 2 f fd ["_law_hand_here", "_law_many"] spDraw := by
  have GM : FnOk P w K mg base CX0 1 fM fdM ["_law_number", "_law_count"] spMixed := ok_mixed FM B
  refine F.ok scDraw (fun vs H Q E h => ?_) (fun cdv A outer s H vs Q E hr h => ?_)
  · obtain ⟨p, q, m, rfl, _⟩ := h
    rfl
  · obtain ⟨p, q, m, rfl, hA, m0, m1, k⟩ := h
    have hqp : q ≠ p := hA.ne
    obtain ⟨⟨i, b, c, z, h1⟩, ns, h2, h3⟩ := hA
    -- behind the first if
    obtain ⟨t2, d2, k2⟩ : ∃ t, PSs (cxOf CX0 P w K mg base ["_law_hand_here", "_law_many", "_law_cell", "_law_digit"] "_law_draw" (defScope sDraw) f cdv A outer s H E).nox ((defBody sDraw).drop 2) t ∧
        ∀ (v : Option V) (i : Nat) (b c z : Int) (H' : Hp), H' p = some (hl q i b c z) → Else p H H' → t { nx := fun _ H' => Q .non H', rt := Q } [some (.ref p), some (.int m), v, none] H' := by
      refine ⟨_, pss_cons (ps_if (pt_cmpR op_gt (pe_ix ix_list (pv 0) pe_int (fun _ _ => rfl)) pe_int (nomark _))
          (pss_cons (ps_set (i := 3) scDraw.nd rfl (Or.inl rfl) (pe_op op_mod (pe_callTy call_int1 (by rfl) B.int (by decide +kernel) (pa_cons (pe_ix ix_list (pv 0) pe_int (fun _ _ => rfl)) pa_nil)) (pv 1)))
          (pss_cons (ps_asg (pe_op op_fdiv (pe_ix ix_list (pv 0) pe_int (fun _ _ => rfl)) (pv 1)) (pg_sub (pv 0) pe_int set_list))
          (pss_one (ps_ret (pv 3))))) pss_nil)
        (pss_one (ps_ret (pe_op op_mod (pe_callTy call_int1 (by rfl) B.int (by decide +kernel) (pa_cons (pe_op op_fdiv (pe_call GM hr rfl mM FM.kp bM .nil pass0 (pa_cons (pe_ix ix_list (pv 0) pe_int (fun _ _ => rfl)) (pa_cons (pe_ix ix_list (pv 0) pe_int (fun _ _ => rfl)) pa_nil))) pe_int) pa_nil)) (pv 1)))), ?_⟩
      intro v i b c z H' g1 e1
      have g2 := e1 q _ h2 hqp
      refine ⟨_, rfl, p, _, _, _, rfl, rfl, SqL.of g1, at_of (j := 2) rfl rfl, _, _, rfl, rfl, _, rfl, ?_⟩
      refine ite2 (fun hb => ?_) (fun hb => ?_)
      · refine ⟨_, rfl, p, _, _, _, rfl, rfl, SqL.of g1, at_of (j := 2) rfl rfl, .inl ⟨_, rfl, _, rfl, _, _, rfl, rfl, m0, ?_⟩⟩
        refine ⟨_, rfl, p, _, _, _, rfl, rfl, SqL.of g1, at_of (j := 2) rfl rfl, _, rfl, _, _, rfl, rfl, ⟨m0, m1⟩, _, rfl, p, _, _, 2, rfl, rfl, g1, rfl, ?_⟩
        refine ⟨_, rfl, k _ _ (Int.emod_nonneg _ (by omega)) (Int.emod_lt_of_pos _ m0) ⟨⟨i, _, c, z, upd_same⟩, ns, by rw [upd_ne hqp]; exact g2, h3⟩ (e1.trans Else.put)⟩
      · refine ⟨_, rfl, p, _, _, _, rfl, rfl, SqL.of g1, at_of (j := 4) rfl rfl, _, rfl, p, _, _, _, rfl, rfl, SqL.of g1, at_of (j := 3) rfl rfl, _, _, rfl, fun r hr0 => ⟨_, _, rfl, rfl, ⟨by decide, by decide⟩, .inl ⟨_, rfl, _, rfl, _, _, rfl, rfl, m0, ?_⟩⟩⟩
        exact k _ _ (Int.emod_nonneg _ (by omega)) (Int.emod_lt_of_pos _ m0) ⟨⟨i, b, c, z, g1⟩, ns, g2, h3⟩ e1
    refine ⟨_, pss_cons (ps_asg (pe_op op_add (pe_ix ix_list (pv 0) pe_int (fun _ _ => rfl)) pe_int) (pg_sub (pv 0) pe_int set_list))
      (pss_cons (ps_if (pw_and (pt_cmpR op_eq (pe_ix ix_list (pv 0) pe_int (fun _ _ => rfl)) pe_int (nomark _))
          (pw_and1 (pt_cmpR op_lt (pe_ix ix_list (pv 0) pe_int (fun _ _ => rfl)) (pe_callB call_len_seq (by rfl) B.len PySem.boot_len (pa_cons (pe_ix ix_list (pv 0) pe_int (fun _ _ => rfl)) pa_nil)) (nomark _)))).pt
        (pss_cons (ps_set (i := 2) scDraw.nd rfl (Or.inl rfl) (pe_ix ix_list (pe_ix ix_list (pv 0) pe_int (fun _ _ => rfl)) (pe_ix ix_list (pv 0) pe_int (fun _ _ => rfl)) (fun _ _ => rfl)))
        (pss_cons (ps_asg (pe_op op_add (pe_ix ix_list (pv 0) pe_int (fun _ _ => rfl)) pe_int) (pg_sub (pv 0) pe_int set_list))
        (pss_cons (ps_if (pt_cmpR op_lt (pv 2) (pe_op op_pow pe_int pe_int) (nomark _))
          (pss_one (ps_ret (pe_op op_mod (pe_callTy call_int1 (by rfl) B.int (by decide +kernel) (pa_cons (pe_op op_fdiv (pe_call GM hr rfl mM FM.kp bM .nil pass0 (pa_cons (pe_op op_add (pv 2) (pe_ix ix_list (pv 0) pe_int (fun _ _ => rfl))) (pa_cons (pe_ix ix_list (pv 0) pe_int (fun _ _ => rfl)) pa_nil))) pe_int) pa_nil)) (pv 1)))) pss_nil)
        (pss_one (ps_asg (pv 2) (pg_sub (pv 0) pe_int set_list)))))) pss_nil) d2), ?_⟩
    -- hand[3] = hand[3] + 1
    refine ⟨_, rfl, p, _, _, _, rfl, rfl, SqL.of h1, at_of (j := 3) rfl rfl, _, _, rfl, rfl, _, rfl, p, _, _, 3, rfl, rfl, h1, rfl, ?_⟩
    have g1 : upd H p (.lst (List.set [V.ref q, .int (i : Int), .int b, .int c, .int z] 3 (.int (c + 1)))) p = some (hl q i b (c + 1) z) := upd_same
    have g2 : upd H p (.lst (List.set [V.ref q, .int (i : Int), .int b, .int c, .int z] 3 (.int (c + 1)))) q = some (.lst (ns.map V.int)) := by rw [upd_ne hqp]; exact h2
    have e1 : Else p H (upd H p (.lst (List.set [V.ref q, .int (i : Int), .int b, .int c, .int z] 3 (.int (c + 1))))) := Else.put
    generalize upd H p (.lst (List.set [V.ref q, .int (i : Int), .int b, .int c, .int z] 3 (.int (c + 1)))) = H1 at g1 g2 e1
    -- hand[2] == 0
    refine ⟨_, rfl, p, _, _, _, rfl, rfl, SqL.of g1, at_of (j := 2) rfl rfl, rfl, _, rfl, ?_⟩
    refine ite2 (fun hb => ?_) (fun hb => iteF (k2 _ _ _ _ _ _ g1 e1))
    -- hand[1] < len(hand[0])
    refine ⟨_, rfl, p, _, _, _, rfl, rfl, SqL.of g1, at_of (j := 1) rfl rfl, _, rfl, p, _, _, _, rfl, rfl, SqL.of g1, at_of (j := 0) rfl rfl, q, _, rfl, .inl (SqL.of g2), _, _, rfl, rfl, _, rfl, ?_⟩
    refine ite2 (fun hi => ?_) (fun hi => k2 _ _ _ _ _ _ g1 e1)
    have hi' : (i : Int) < ((ns.map V.int).length : Int) := of_decide_eq_true hi
    rw [List.length_map] at hi'
    obtain ⟨n, hn⟩ : ∃ n, ns[i]? = some n := ⟨ns[i]'(by omega), List.getElem?_eq_getElem (by omega)⟩
    have hn' : (ns.map V.int)[i]? = some (V.int n) := by rw [List.getElem?_map, hn]; rfl
    -- cell = hand[0][hand[1]]; hand[1] = hand[1] + 1
    refine ⟨_, rfl, p, _, _, _, rfl, rfl, SqL.of g1, at_of (j := 0) rfl rfl, _, rfl, p, _, _, _, rfl, rfl, SqL.of g1, at_of (j := 1) rfl rfl, q, _, _, _, rfl, rfl, SqL.of g2, atI_nat hn', ?_⟩
    refine ⟨_, rfl, p, _, _, _, rfl, rfl, SqL.of g1, at_of (j := 1) rfl rfl, _, _, rfl, rfl, _, rfl, p, _, _, 1, rfl, rfl, g1, rfl, ?_⟩
    have f1 : upd H1 p (.lst (List.set [V.ref q, .int (i : Int), .int b, .int (c + 1), .int z] 1 (.int ((i : Int) + 1)))) p = some (hl q (i + 1) b (c + 1) z) := upd_same
    have f2 : upd H1 p (.lst (List.set [V.ref q, .int (i : Int), .int b, .int (c + 1), .int z] 1 (.int ((i : Int) + 1)))) q = some (.lst (ns.map V.int)) := by rw [upd_ne hqp]; exact g2
    have e2 : Else p H (upd H1 p (.lst (List.set [V.ref q, .int (i : Int), .int b, .int (c + 1), .int z] 1 (.int ((i : Int) + 1))))) := e1.trans Else.put
    generalize upd H1 p (.lst (List.set [V.ref q, .int (i : Int), .int b, .int (c + 1), .int z] 1 (.int ((i : Int) + 1)))) = H2 at f1 f2 e2
    -- cell < 10 ** 18
    refine ⟨_, rfl, _, _, rfl, rfl, ⟨by decide, by decide, by decide⟩, _, _, rfl, rfl, _, rfl, ?_⟩
    refine ite2 (fun hc => ?_) (fun hc => ?_)
    · refine ⟨_, rfl, _, rfl, p, _, _, _, rfl, rfl, SqL.of f1, at_of (j := 4) rfl rfl, _, _, rfl, rfl, _, rfl, p, _, _, _, rfl, rfl, SqL.of f1, at_of (j := 3) rfl rfl, _, _, rfl, fun r hr0 => ⟨_, _, rfl, rfl, ⟨by decide, by decide⟩, .inl ⟨_, rfl, _, rfl, _, _, rfl, rfl, m0, ?_⟩⟩⟩
      exact k _ _ (Int.emod_nonneg _ (by omega)) (Int.emod_lt_of_pos _ m0) ⟨⟨_, _, _, _, f1⟩, ns, f2, h3⟩ e2
    · refine ⟨_, rfl, _, rfl, p, _, _, 2, rfl, rfl, f1, rfl, ?_⟩
      exact k2 _ (i + 1) n (c + 1) z _ upd_same (e2.trans Else.put)
end
end Lw
namespace Lw
open PySem L2
abbrev sSame : Stmt := top 24
def Atom : V → Prop
  | .non => True
  | .bl _ => True
  | .int _ => True
  | .str _ => True
  | _ => False
/-- x and y hold the same data, n deep -/
def Eqv (H : Hp) : Nat → V → V → Prop
  | 0, x, y => x = y ∧ Atom x
  | n + 1, x, y => (x = y ∧ Atom x) ∨ ∃ (a b : Addr) (xs ys : List V), x = .ref a ∧ y = .ref b ∧ ((H a = some (.lst xs) ∧ H b = some (.lst ys)) ∨ (H a = some (.tup xs) ∧ H b = some (.tup ys))) ∧
      xs.length = ys.length ∧ xs.length ≤ 1000 ∧ ∀ (i : Nat) (u v : V), xs[i]? = some u → ys[i]? = some v → Eqv H n u v
theorem Eqv.atom {H : Hp} {x : V} (h : Atom x) : ∀ n, Eqv H n x x
  | 0 => ⟨rfl, h⟩
  | _ + 1 => .inl ⟨rfl, h⟩
theorem Eqv.same {H H' : Hp} (s : Same H H') : ∀ {n : Nat} {x y : V}, Eqv H n x y → Eqv H' n x y
  | 0, _, _, h => h
  | n + 1, x, y, h => by
    rcases h with h | ⟨a, b, xs, ys, e1, e2, h1, h2, h3, h4⟩
    · exact .inl h
    · refine .inr ⟨a, b, xs, ys, e1, e2, ?_, h2, h3, fun i u v p q => Eqv.same s (h4 i u v p q)⟩
      rcases h1 with ⟨p, q⟩ | ⟨p, q⟩
      · exact .inl ⟨s _ _ p, s _ _ q⟩
      · exact .inr ⟨s _ _ p, s _ _ q⟩
theorem Eqv.up {H : Hp} : ∀ {n : Nat} {x y : V}, Eqv H n x y → Eqv H (n + 1) x y
  | 0, _, _, h => .inl h
  | n + 1, x, y, h => by
    rcases h with h | ⟨a, b, xs, ys, e1, e2, h1, h2, h3, h4⟩
    · exact .inl h
    · exact .inr ⟨a, b, xs, ys, e1, e2, h1, h2, h3, fun i u v p q => (h4 i u v p q).up⟩
theorem isi_of {K : PySem.W.Frag} {H : Hp} {x : V} {n T : String} {b : Bool} {Q : VK} (ty : TyX K H x (.type n)) (h : kitB n T = some b) (q : Q (.bl b) H) : rIsi K [x, .ty T] H Q :=
  ⟨x, .ty T, .type n, .type T, b, rfl, .ty T, ty, kit_ty h, q⟩
def spSame (n : Nat) : Sp := fun vs H Q _ => ∃ x y : V, vs = [x, y] ∧ Eqv H n x y ∧ ∀ H', Same H H' → Q (.bl true) H'
section
variable {P : Program} {w : World} {K : PySem.W.Frag} {mg : Str → Option Value} {base : Heap}
theorem scSame : FnScope ["_law_actual", "_law_expected", "_law_key", "_law_k"] ["_law_actual", "_law_expected"] (defScope sSame) := ⟨rfl, rfl, rfl, by decide +kernel, rfl, by decide +kernel, by decide +kernel⟩
/-- one turn of _law_same's recursion -/
theorem ok_same_of {f : Addr} {fd : FuncData} (F : Fun K "_law_same" "_law_same" sSame f fd) (B : Bt mg) (b0 : Binds K fd ["_law_actual", "_law_expected"] []) (m0 : mg "_law_same" = some (.ref f)) (n : Nat)
    (G : ∀ m, n = m + 1 → FnOk P w K mg base CX0 n f fd ["_law_actual", "_law_expected"] (spSame m)) : FnOk P w K mg base CX0 (n + 1) f fd ["_law_actual", "_law_expected"] (spSame n) := by
  refine F.ok scSame (fun vs H Q E h => ?_) (fun cdv A outer s H vs Q E hr h => ?_)
  · obtain ⟨x, y, rfl, _⟩ := h
    rfl
  · obtain ⟨x, y, rfl, hE, k⟩ := h
    -- what is no atom
    obtain ⟨t5, d5, k5⟩ : ∃ t, PSs (cxOf CX0 P w K mg base ["_law_actual", "_law_expected", "_law_key", "_law_k"] "_law_same" (defScope sSame) f cdv A outer s H E).nox ((defBody sSame).drop 5) t ∧
        ∀ (m : Nat) (a b : Addr) (xs ys : List V), n = m + 1 → ((H a = some (.lst xs) ∧ H b = some (.lst ys)) ∨ (H a = some (.tup xs) ∧ H b = some (.tup ys))) →
          xs.length = ys.length → xs.length ≤ 1000 → (∀ (i : Nat) (u v : V), xs[i]? = some u → ys[i]? = some v → Eqv H m u v) → (x = .ref a ∧ y = .ref b) →
          t { nx := fun _ H' => Q .non H', rt := Q } [some (.ref a), some (.ref b), none, none] H := by
      cases n with
      | zero => exact ⟨_, pss_never, fun m _ _ _ _ e => nomatch e⟩
      | succ m =>
        have GS := G m rfl
        refine ⟨_, pss_cons (ps_if (pw_or (pt_cmpR op_ne (pe_callB call_isi (by rfl) B.isi (by decide +kernel) (pa_cons (pv 1) (pa_cons (pe_bltn (v := .ty "tuple") (by rfl) B.tuple (by decide +kernel) rfl) pa_nil)))
              (pe_callB call_isi (by rfl) B.isi (by decide +kernel) (pa_cons (pv 0) (pa_cons (pe_bltn (v := .ty "tuple") (by rfl) B.tuple (by decide +kernel) rfl) pa_nil))) (nomark _))
            (pw_or1 (pt_not (pt_val (pe_callB call_isiT (by rfl) B.isi (by decide +kernel) (pa_cons (pv 0) (pa_cons (pe_tup (pa_cons (pe_bltn (v := .ty "tuple") (by rfl) B.tuple (by decide +kernel) rfl) (pa_cons (pe_bltn (v := .ty "list") (by rfl) B.list (by decide +kernel) rfl) pa_nil))) pa_nil))))))).pt pss_never pss_nil)
          (pss_cons (ps_if (pt_cmpR op_ne (pe_callB call_len_seq (by rfl) B.len PySem.boot_len (pa_cons (pv 0) pa_nil)) (pe_callB call_len_seq (by rfl) B.len PySem.boot_len (pa_cons (pv 1) pa_nil)) (nomark _)) pss_never pss_nil)
          (pss_one (ps_ret (pe_cmpR op_eq (pe_callB call_len_seq (by rfl) B.len PySem.boot_len (pa_cons
            (pe_lc (own := [("_law_k", 3)]) (g := gName 3) (by rfl) scSame.nd (pi_range1 rfl B.range (pa_cons (pe_callB call_len_seq (by rfl) B.len PySem.boot_len (pa_cons (pv 1) pa_nil)) pa_nil))
              (blkOk_by (own := [("_law_k", 3)]) (N := ["_law_actual", "_law_expected", "_law_key", "_law_k"]) (sc := defScope sSame) (by decide +kernel)) (fun _ _ _ _ _ => pg_name (i := 3) scSame.nd rfl (Or.inl rfl))
              (fun _ _ _ _ _ => pts_one (pt_not (pt_val (pe_call GS hr rfl m0 F.kp b0 .nil pass0 (pa_cons (pe_ix (r := rIx K) ix_seq (pv 0) (pv 3) (fun _ _ => rfl)) (pa_cons (pe_ix (r := rIx K) ix_seq (pv 1) (pv 3) (fun _ _ => rfl)) pa_nil))))))
              (fun _ _ _ _ _ => pv 3)) pa_nil)) pe_int (nomark _))))), ?_⟩
        intro m' a b xs ys em hk hl hz hp hxy
        obtain rfl : m' = m := by omega
        -- both are of one kind
        obtain ⟨T, tx, ty, e1, e2⟩ : ∃ T : Bool, (∀ H', Same H H' → TyX K H' (.ref a) (.type (if T then "tuple" else "list"))) ∧ TyX K H (.ref b) (.type (if T then "tuple" else "list")) ∧ kitB (if T then "tuple" else "list") "tuple" = some T ∧
            ∀ H', Same H H' → (SqL K H' a xs ∧ SqL K H' b ys) ∨ (SqT K H' a xs ∧ SqT K H' b ys) := by
          rcases hk with ⟨p, q⟩ | ⟨p, q⟩
          · exact ⟨false, fun H' s => .base (.lst (s _ _ p)), .base (.lst q), by decide +kernel, fun H' s => .inl ⟨SqL.of (s _ _ p), SqL.of (s _ _ q)⟩⟩
          · exact ⟨true, fun H' s => .base (.tup (s _ _ p)), .base (.tup q), by decide +kernel, fun H' s => .inr ⟨SqT.of (s _ _ p), SqT.of (s _ _ q)⟩⟩
        have lenA : ∀ H', Same H H' → SqL K H' a xs ∨ SqT K H' a xs := fun H' s => (e2 H' s).elim (fun z => .inl z.1) fun z => .inr z.1
        have lenB : ∀ H', Same H H' → SqL K H' b ys ∨ SqT K H' b ys := fun H' s => (e2 H' s).elim (fun z => .inl z.2) fun z => .inr z.2
        have any : kitB (if T then "tuple" else "list") "list" = some (!T) := by cases T <;> decide +kernel
        refine ⟨_, rfl, _, _, _, _, T, rfl, .ty _, ty, kit_ty e1, _, rfl, _, _, _, _, T, rfl, .ty _, tx H (Same.refl H), kit_ty e1, rfl, _, rfl, ?_⟩
        rw [decide_eq_true (p := V.bl T = V.bl T) rfl]
        refine iteF ⟨_, rfl, (by show 2 ≤ sizeLine; decide), fun tp htp => ⟨_, tp, _, _, _, true, rfl, upd_same, .cons (.ty _) (.cons (.ty _) .nil), tx _ (same_new htp), kitAny_cons (kit_ty e1) (fun z => kitAny_cons (kit_ty any) (fun z' => by rw [z] at z'; cases z') (fun _ => rfl)) (fun _ => rfl), _, rfl, iteF ?_⟩⟩
        -- len(actual) != len(expected)
        refine ⟨_, rfl, a, xs, rfl, lenA _ (same_new htp), _, rfl, b, ys, rfl, lenB _ (same_new htp), rfl, _, rfl, iteNS (by rw [hl]) ?_⟩
        -- the comprehension's list stays empty
        refine ⟨_, rfl, b, ys, rfl, lenB _ (same_new htp), ys.length, rfl, (by omega), (by omega), fun D hD => ?_⟩
        have sD : Same H (upd (upd H tp (.tup [V.ty "tuple", V.ty "list"])) D (.lst [])) := (same_new htp).trans (same_new hD)
        refine lc_range (lo := 0) (n := ys.length) (fun i H' => Same (upd (upd H tp (.tup [V.ty "tuple", V.ty "list"])) D (.lst [])) H') (Same.refl _) ?_ ?_
        · intro i H' hi hs
          obtain ⟨u, hu⟩ : ∃ u, xs[i]? = some u := ⟨xs[i]'(by omega), List.getElem?_eq_getElem (by omega)⟩
          obtain ⟨v, hv⟩ : ∃ v, ys[i]? = some v := ⟨ys[i]'(by omega), List.getElem?_eq_getElem (by omega)⟩
          have s2 : Same H H' := sD.trans hs
          have ux : ∀ Q : VK, Q u H' → rIx K (.ref a) (.int (0 + (i : Int))) H' Q := fun Q q => by
            rcases e2 H' s2 with ⟨z, _⟩ | ⟨z, _⟩
            · exact .inl ⟨a, xs, _, u, rfl, rfl, z, at_of (Int.zero_add _) hu, q⟩
            · exact .inr (.inl ⟨a, xs, _, u, rfl, rfl, z, at_of (Int.zero_add _) hu, q⟩)
          have vx : ∀ Q : VK, Q v H' → rIx K (.ref b) (.int (0 + (i : Int))) H' Q := fun Q q => by
            rcases e2 H' s2 with ⟨_, z⟩ | ⟨_, z⟩
            · exact .inl ⟨b, ys, _, v, rfl, rfl, z, at_of (Int.zero_add _) hv, q⟩
            · exact .inr (.inl ⟨b, ys, _, v, rfl, rfl, z, at_of (Int.zero_add _) hv, q⟩)
          refine ⟨rfl, _, rfl, _, rfl, ux _ ⟨_, rfl, _, rfl, vx _ ⟨u, v, rfl, (hp i u v hu hv).same s2, fun H3 s3 => ⟨_, rfl, iteF (hs.trans s3)⟩⟩⟩⟩
        · intro H' hs
          refine ⟨D, [], rfl, .inl (SqL.of (hs _ _ upd_same)), rfl, ?_⟩
          exact k H' (sD.trans hs)
    refine ⟨_, pss_cons (ps_if (pt_cmp (pc_isN (pv 1))) (pss_one (ps_ret (pe_cmp (pc_isN (pv 0))))) pss_nil)
        (pss_cons (ps_if (pt_val (pe_callB call_isi (by rfl) B.isi (by decide +kernel) (pa_cons (pv 1) (pa_cons (pe_bltn (v := .ty "bool") (by rfl) B.bool (by decide +kernel) rfl) pa_nil))))
          (pss_one (ps_ret (pe_and (pe_callB call_isi (by rfl) B.isi (by decide +kernel) (pa_cons (pv 0) (pa_cons (pe_bltn (v := .ty "bool") (by rfl) B.bool (by decide +kernel) rfl) pa_nil))) (pe_one (pe_cmpR op_eq (pv 0) (pv 1) (nomark _)))))) pss_nil)
        (pss_cons (ps_if (pt_val (pe_callB call_isi (by rfl) B.isi (by decide +kernel) (pa_cons (pv 1) (pa_cons (pe_bltn (v := .ty "int") (by rfl) B.int (by decide +kernel) rfl) pa_nil))))
          (pss_one (ps_ret (pe_and (pe_callB call_isi (by rfl) B.isi (by decide +kernel) (pa_cons (pv 0) (pa_cons (pe_bltn (v := .ty "int") (by rfl) B.int (by decide +kernel) rfl) pa_nil)))
            (pe_and (pe_not (pe_callB call_isi (by rfl) B.isi (by decide +kernel) (pa_cons (pv 0) (pa_cons (pe_bltn (v := .ty "bool") (by rfl) B.bool (by decide +kernel) rfl) pa_nil)))) (pe_one (pe_cmpR op_eq (pv 0) (pv 1) (nomark _))))))) pss_nil)
        (pss_cons (ps_if (pt_val (pe_callB call_isi (by rfl) B.isi (by decide +kernel) (pa_cons (pv 1) (pa_cons (pe_bltn (v := .ty "str") (by rfl) B.str (by decide +kernel) rfl) pa_nil))))
          (pss_one (ps_ret (pe_and (pe_callB call_isi (by rfl) B.isi (by decide +kernel) (pa_cons (pv 0) (pa_cons (pe_bltn (v := .ty "str") (by rfl) B.str (by decide +kernel) rfl) pa_nil))) (pe_one (pe_cmpR op_eq (pv 0) (pv 1) (nomark _)))))) pss_nil)
        (pss_cons (ps_if (pt_val (pe_callB call_isi (by rfl) B.isi (by decide +kernel) (pa_cons (pv 1) (pa_cons (pe_bltn (v := .ty "dict") (by rfl) B.dict (by decide +kernel) rfl) pa_nil)))) pss_never pss_nil) d5)))), ?_⟩
    have cases : (x = y ∧ Atom x) ∨ ∃ (m : Nat) (a b : Addr) (xs ys : List V), n = m + 1 ∧ x = .ref a ∧ y = .ref b ∧ ((H a = some (.lst xs) ∧ H b = some (.lst ys)) ∨ (H a = some (.tup xs) ∧ H b = some (.tup ys))) ∧
          xs.length = ys.length ∧ xs.length ≤ 1000 ∧ ∀ (i : Nat) (u v : V), xs[i]? = some u → ys[i]? = some v → Eqv H m u v := by
      cases n with
      | zero => exact .inl hE
      | succ m =>
        rcases hE with z | ⟨a, b, xs, ys, z⟩
        · exact .inl z
        · exact .inr ⟨m, a, b, xs, ys, rfl, z⟩
    rcases cases with ⟨rfl, ha⟩ | ⟨m, a, b, xs, ys, em, rfl, rfl, hk, hl, hz, hp⟩
    · cases x with
      | non =>
        refine ⟨_, rfl, _, rfl, iteT ⟨_, rfl, ?_⟩⟩
        exact k H (Same.refl H)
      | bl c =>
        refine ⟨_, rfl, _, rfl, iteF ⟨_, rfl, _, _, _, _, true, rfl, .ty _, .base (.bl c), kit_ty (by decide +kernel), ⟨_, rfl, iteT ⟨_, rfl, _, _, _, _, true, rfl, .ty _, .base (.bl c), kit_ty (by decide +kernel), ⟨_, rfl, iteT ⟨_, rfl, _, rfl, rfl, ?_⟩⟩⟩⟩⟩⟩
        rw [decide_eq_true (p := V.bl c = V.bl c) rfl]
        exact k H (Same.refl H)
      | int c =>
        refine ⟨_, rfl, _, rfl, iteF ⟨_, rfl, _, _, _, _, false, rfl, .ty _, .base (.int c), kit_ty (by decide +kernel), ⟨_, rfl, iteF ⟨_, rfl, _, _, _, _, true, rfl, .ty _, .base (.int c), kit_ty (by decide +kernel), ⟨_, rfl, iteT ⟨_, rfl, _, _, _, _, true, rfl, .ty _, .base (.int c), kit_ty (by decide +kernel), ⟨_, rfl, iteT ⟨_, rfl, _, _, _, _, false, rfl, .ty _, .base (.int c), kit_ty (by decide +kernel), ⟨_, rfl, _, rfl, iteT ⟨_, rfl, _, rfl, rfl, ?_⟩⟩⟩⟩⟩⟩⟩⟩⟩⟩
        rw [decide_eq_true (p := V.int c = V.int c) rfl]
        exact k H (Same.refl H)
      | str c =>
        refine ⟨_, rfl, _, rfl, iteF ⟨_, rfl, _, _, _, _, false, rfl, .ty _, .base (.str c), kit_ty (by decide +kernel), ⟨_, rfl, iteF ⟨_, rfl, _, _, _, _, false, rfl, .ty _, .base (.str c), kit_ty (by decide +kernel), ⟨_, rfl, iteF ⟨_, rfl, _, _, _, _, true, rfl, .ty _, .base (.str c), kit_ty (by decide +kernel), ⟨_, rfl, iteT ⟨_, rfl, _, _, _, _, true, rfl, .ty _, .base (.str c), kit_ty (by decide +kernel), ⟨_, rfl, iteT ⟨_, rfl, _, rfl, rfl, ?_⟩⟩⟩⟩⟩⟩⟩⟩⟩⟩
        rw [decide_eq_true (p := V.str c = V.str c) rfl]
        exact k H (Same.refl H)
      | _ => exact ha.elim
    · have q := k5 m a b xs ys em hk hl hz hp ⟨rfl, rfl⟩
      rcases hk with ⟨p1, p2⟩ | ⟨p1, p2⟩
      · exact ⟨_, rfl, _, rfl, iteF ⟨_, rfl, _, _, _, _, false, rfl, .ty _, .base (.lst p2), kit_ty (by decide +kernel), _, rfl, iteF ⟨_, rfl, _, _, _, _, false, rfl, .ty _, .base (.lst p2), kit_ty (by decide +kernel), _, rfl, iteF ⟨_, rfl, _, _, _, _, false, rfl, .ty _, .base (.lst p2), kit_ty (by decide +kernel), _, rfl, iteF ⟨_, rfl, _, _, _, _, false, rfl, .ty _, .base (.lst p2), kit_ty (by decide +kernel), _, rfl, iteF q⟩⟩⟩⟩⟩
      · exact ⟨_, rfl, _, rfl, iteF ⟨_, rfl, _, _, _, _, false, rfl, .ty _, .base (.tup p2), kit_ty (by decide +kernel), _, rfl, iteF ⟨_, rfl, _, _, _, _, false, rfl, .ty _, .base (.tup p2), kit_ty (by decide +kernel), _, rfl, iteF ⟨_, rfl, _, _, _, _, false, rfl, .ty _, .base (.tup p2), kit_ty (by decide +kernel), _, rfl, iteF ⟨_, rfl, _, _, _, _, false, rfl, .ty _, .base (.tup p2), kit_ty (by decide +kernel), _, rfl, iteF q⟩⟩⟩⟩⟩
theorem ok_same {f : Addr} {fd : FuncData} (F : Fun K "_law_same" "_law_same" sSame f fd) (B : Bt mg) (b0 : Binds K fd ["_law_actual", "_law_expected"] []) (m0 : mg "_law_same" = some (.ref f)) :
    ∀ n : Nat, FnOk P w K mg base CX0 (n + 1) f fd ["_law_actual", "_law_expected"] (spSame n) := by
  intro n
  induction n with
  | zero => exact ok_same_of F B b0 m0 0 fun m e => nomatch e
  | succ n ih =>
    refine ok_same_of F B b0 m0 (n + 1) fun m e => ?_
    obtain rfl : n = m := by omega
    exact ih
end
end Lw
/-! exceptions of the program's own classes, held as values: made (by position, by keywords, without arguments), their attributes read, asked by isinstance -/
namespace Xv
open PySem PySem.Spec PySem.W PySem.Calls L2
section
open Builtin Builtin.ObjectAttr
variable {M : Model} {prog : Program} {w : World} {A : Around} {E : Value → Shared → Prop} {R : Result → Shared → Prop} {hp : Heap} {gs : Array GenState} {dr : Drawn} {tk : Nat} {os : OsState}
variable {nm q : Str} {C N : Addr} {bs bm bmB : List Value} {hdct : Bool} {sn : List Str} {sub : List Value} {ab : Bool} {col : Option Bool} {dd : Option Addr} {k0 k1 k2 k3 k5 : Option Value} {B newId initId : String}
theorem chk_new (F : ExcBaseFacts B newId initId bmB) (hT : ∀ Y : String, bm.contains (.type Y) = bmB.contains (.type Y)) {ar : List Value} {kw : List (Str × Value)} {Q : Unit → Shared → Prop}
    (hC : hp.get? C = some (excClassObj nm q C N bs bm hdct sn sub ab col dd k0 k1 k2 k3 k5 newId)) (z : Q () ⟨hp, gs, dr, tk, os⟩) :
    wpAny M A (checkBuiltinCall newId ⟨.ref C :: ar, kw⟩) Q E ⟨hp, gs, dr, tk, os⟩ := by
  have inB : (Value.ref C :: bm).contains (.type B) = true := by (rw [List.contains_cons, hT, F.hasB]; exact Bool.or_true _)
  have st := F.noStar
  simp only [F.newKind, F.newSplit, F.newRow, checkBuiltinCall]
  repeat (first | (refine wpAny_isSubtype_exc hC ?_; rw [inB]) | refine wpAny_loadPart_at hC ?_ | refine wpAny_madeBy_exc hC ?_ | refine wpAny_staticBase_exc hC ?_ | simp only [Bool.false_eq_true, bne_self_eq_false, if_false] | wp_step)
  exact z
theorem do_new (F : ExcBaseFacts B newId initId bmB) (hT : ∀ Y : String, bm.contains (.type Y) = bmB.contains (.type Y)) {ar : List Value} {kw : List (Str × Value)}
    (hC : hp.get? C = some (excClassObj nm q C N bs bm hdct sn sub ab col dd k0 k1 k2 k3 k5 newId)) (few : ar.length ≤ sizeLine)
    (z : R (.ok (.ret (.ref (hp.objs.size + 1)))) ⟨(hp.push (W.kdv_tup ar)).push (HandSPX.excO C hp.objs.size), gs, dr, tk, os⟩) :
    codeAny (model prog w) A (.builtin newId ⟨.ref C :: ar, kw⟩) R ⟨hp, gs, dr, tk, os⟩ := by
  have he := F.ends
  have inB : (Value.ref C :: bm).contains (.type B) = true := by (rw [List.contains_cons, hT, F.hasB]; exact Bool.or_true _)
  have inA : (Value.ref C :: bm).contains (.type "AttributeError") = false := by (rw [List.contains_cons, hT, F.noAttr]; exact rfl)
  have inN : (Value.ref C :: bm).contains (.type "NameError") = false := by (rw [List.contains_cons, hT, F.noName]; exact rfl)
  refine codeAny_builtinAt F.entry ?_
  unfold Builtin.«BaseException.__new__»
  refine wpAt_bind (show PySem.wpAt _ _ _ (stack >>= _) _ _ _ from wpAt_bind (wpAt_stack fun pp bb => wpAt_of_wpAny ?_))
  wp_walk
  refine wpAt_of_wpAny ?_
  rw [F.owner]
  repeat (first | (with_reducible refine wpAny_isSubtype_exc hC ?_; first | rw [inA] | rw [inN] | rw [inB]) | with_reducible refine wpAny_loadPart_at hC ?_ | with_reducible refine wpAny_madeHere_exc F.canon hC ?_ | wp_step)
  show R _ _
  rw [Heap.size_push]
  exact z
theorem do_type (F : ExcBaseFacts B newId initId bmB) (hT : ∀ Y : String, bm.contains (.type Y) = bmB.contains (.type Y)) {ar : List Value} {kw : List (Str × Value)} {fI : Addr} {Q : Fin → Shared → Prop}
    (hC : hp.get? C = some (excClassObj nm q C N bs bm hdct sn sub ab col dd k0 k1 k2 k3 k5 newId)) (few : ar.length ≤ sizeLine)
    (li : W.Looks (model prog w) hp (typeLookup (.ref C) "__init__") (some (.ref fI))) (lb : ∀ me, W.Looks (model prog w) hp (bindSpecial (.ref fI) me) (.ref fI, [me]))
    (z : codeAny (model prog w) A (.call (.ref fI) ⟨.ref (hp.objs.size + 1) :: ar, kw⟩)
      (fun r s' => match r with | .ok (.ret v) => v = .none ∧ Q (.done (.ret (.ref (hp.objs.size + 1)))) s' | .ok _ => False | .error e => E e s') ⟨(hp.push (W.kdv_tup ar)).push (HandSPX.excO C hp.objs.size), gs, dr, tk, os⟩) :
    wpAny (model prog w) A (Builtin.«type.__call__» ⟨.ref C :: ar, kw⟩) Q E ⟨hp, gs, dr, tk, os⟩ := by
  repeat (first | with_reducible refine wpAny_madeBy_exc hC ?_ | with_reducible refine wpAny_loadPart_at hC ?_ | wp_step)
  refine codeAny_call_builtin_code (Code.quiet_builtin _ F.quiet) (chk_new F hT hC (do_new F hT hC few ?_))
  show wpAny _ _ _ _ _ _
  have kp : ∀ b o, hp.get? b = some o → ((hp.push (W.kdv_tup ar)).push (HandSPX.excO C hp.objs.size)).get? b = some o := fun b o y => Heap.get?_push_of_some _ (Heap.get?_push_of_some _ y)
  have atC := kp _ _ hC
  have atE : ((hp.push (W.kdv_tup ar)).push (HandSPX.excO C hp.objs.size)).get? (hp.objs.size + 1) = some (HandSPX.excO C hp.objs.size) := by (heap_get)
  have own : (Value.ref C :: bm).contains (.ref C) = true := by (simp)
  have l1 := li.keeps kp
  have l2 := (lb (.ref (hp.objs.size + 1))).keeps kp
  unfold isInstance
  repeat (first | (with_reducible refine wpAny_isSubtype_exc atC ?_; rw [own]) | with_reducible refine wpAny_loadPart_at atE ?_ | wp_step)
  refine (show wpAny _ _ (typeLookup (.ref C) _) _ _ _ from l1.at (wpAny_holding (wpAny_bind (l2.at ?_))))
  refine wpAny_bind (wpAny_call (codeAny_mono z fun r s' y => ?_))
  cases r with
  | error e => exact y
  | ok fl =>
    cases fl with
    | ret v =>
      obtain ⟨rfl, y⟩ := y
      first
        | exact wpAny_pure (wpAny_pure y)
        | (wp_walk; exact y)
    | next => exact y.elim
    | brk => exact y.elim
    | cont => exact y.elim
theorem do_call (F : ExcBaseFacts B newId initId bmB) (hT : ∀ Y : String, bm.contains (.type Y) = bmB.contains (.type Y)) {ar : List Value} {kw : List (Str × Value)} {fI : Addr}
    (hC : hp.get? C = some (excClassObj nm q C N bs bm hdct sn sub ab col dd k0 k1 k2 k3 k5 newId)) (few : ar.length ≤ sizeLine)
    (li : W.Looks (model prog w) hp (typeLookup (.ref C) "__init__") (some (.ref fI))) (lb : ∀ me, W.Looks (model prog w) hp (bindSpecial (.ref fI) me) (.ref fI, [me]))
    (z : codeAny (model prog w) (A.under (.builtin "type.__call__" ⟨.ref C :: ar, kw⟩)) (.call (.ref fI) ⟨.ref (hp.objs.size + 1) :: ar, kw⟩) (W.InitBack (hp.objs.size + 1) R)
      ⟨(hp.push (W.kdv_tup ar)).push (HandSPX.excO C hp.objs.size), gs, dr, tk, os⟩) :
    codeAny (model prog w) A (.call (.ref C) ⟨ar, kw⟩) R ⟨hp, gs, dr, tk, os⟩ := by
  have e1 := tc_lookup
  have e2 := tc_bind (.ref C)
  have e3 := tc_sub
  have ty : (⟨hp, gs, dr, tk, os⟩ : Shared).TypeIs (.ref C) "type" := ⟨_, hC, rfl⟩
  refine codeAny_of_tree (show wpAny _ _ (callAny (.ref C) _) _ _ _ from ?_)
  repeat (any_goals (first | with_reducible refine wpAny_loadPart_at hC ?_ | assumption | wp_step))
  refine ⟨rfl, ?_⟩
  have chk : ∀ {Q : Unit → Shared → Prop} {A' : Around} {E' : Value → Shared → Prop}, Q () ⟨hp, gs, dr, tk, os⟩ → wpAny (model prog w) A' (checkBuiltinCall "type.__call__" ⟨.ref C :: ar, kw⟩) Q E' ⟨hp, gs, dr, tk, os⟩ := fun {Q A' E'} hq => by
    simp only [tc_split, tc_kind, checkBuiltinCall]
    repeat (any_goals (first | with_reducible refine wpAny_onRaise ?_ | with_reducible refine wpAny_map ?_ | with_reducible refine wpAny_loadPart_at hC ?_ | assumption | wp_step))
  refine codeAny_call_builtin_at (Code.quiet_builtin _ (by decide +kernel)) entry_typeCall (chk (do_type F hT hC few li lb ?_))
  refine codeAny_mono z fun r s' y => ?_
  rcases r with e | (v | _ | _ | _) <;> (exact y)
end
end Xv
namespace Xv
open PySem PySem.Spec PyProof.Rows L2
/-- an exception of the class at C stands at a, with its dict or without -/
def XAt (H : Hp) (a C : Addr) : Prop := H a = some (exo a C none) ∨ ∃ (d : Addr) (fs : List (Str × V)), H a = some (exo a C (some d)) ∧ H d = some (exd d fs)
theorem XAt.same {H H' : Hp} {a C : Addr} (h : XAt H a C) (s : Same H H') : XAt H' a C := by
  rcases h with h | ⟨d, fs, h1, h2⟩
  · exact .inl (s _ _ h)
  · exact .inr ⟨d, fs, s _ _ h1, s _ _ h2⟩
section
variable {X : Cx} {k : Nat} {fI C : Addr} {fd : FuncData} {ps ks : List Str} {sp : Sp} {x f : Str} {p pos : Pos} {e : Expr} {es : List Expr} {kws : List Keyword} {te : TE} {t tk : TA}
/-- what the class at C is asked for when it makes an exception -/
structure XMk (K : PySem.W.Frag) (C fI : Addr) : Prop where
  T : OexC K C
  iC : PySem.W.findIn K (.ref C) "__init__" = some (some (.ref fI))
  tI : PySem.W.typeIn K (.ref fI) = some (.type "function")
theorem run_x {pins : List (Addr × Obj)} {σ : L2.St} {H : Hp} {s : Shared} {Q : VK} {us bound : List Value} {kw : List (Str × Value)} {vs : List V} (M : XMk X.K C fI) (F : FnOk X.prog X.w X.K X.mg X.base CX0 k fI fd ps sp) (hr : Room (k + 1) X.A)
    (I : Inv X pins σ H s) (few : us.length ≤ sizeLine) (hb : ∀ (s' : Shared) (a : Addr), X.K.In s'.heap → BindsTo s' fd ⟨.ref a :: us, kw⟩ (ps.zip (.ref a :: bound))) (r : Vals vs bound)
    (h : ∀ a, H a = none → sp (.ref a :: vs) (upd H a (exo a C none)) (fun v H2 => v = .non ∧ Q (.ref a) H2) E0) : wpAny (model X.prog X.w) X.A (call (.ref C) us kw) (EP X pins σ Q) X.xe s := by
  obtain ⟨nm, q, N, bs, bm, sn, sub, ab, col, dd, k0, k1, k2, k3, k5, hC, hbm⟩ := M.T.cls
  obtain ⟨hp, gs, dr, tk, os⟩ := s
  have up : hp.objs.size ≤ hp.objs.size + 1 := Nat.le_succ _
  have new : H (hp.objs.size + 1) = none := I.hok.fresh up
  have hq := h (hp.objs.size + 1) new
  have kk : ∀ b o, hp.get? b = some o → ((hp.push (PySem.W.kdv_tup us)).push (PySem.HandSPX.excO C hp.objs.size)).get? b = some o := fun b o y => Heap.get?_push_of_some _ (Heap.get?_push_of_some _ y)
  have atE : ((hp.push (PySem.W.kdv_tup us)).push (PySem.HandSPX.excO C hp.objs.size)).get? (hp.objs.size + 1) = some (PySem.HandSPX.excO C hp.objs.size) := by (heap_get)
  have I2 : Inv X pins σ (upd H (hp.objs.size + 1) (exo (hp.objs.size + 1) C none)) ⟨(hp.push (PySem.W.kdv_tup us)).push (PySem.HandSPX.excO C hp.objs.size), gs, dr, tk, os⟩ :=
    I.laid (t' := tk) (a := hp.objs.size + 1) (o := exo (hp.objs.size + 1) C none) (h' := (hp.push (PySem.W.kdv_tup us)).push (PySem.HandSPX.excO C hp.objs.size)) kk up (exo_ok atE)
  have r2 : Vals (V.ref (hp.objs.size + 1) :: vs) (Value.ref (hp.objs.size + 1) :: bound) := .cons rfl r
  refine wpAny_call (do_call PySem.F.excBase_ValueError (fun Y => PySem.HandSPX.refsVE_contains Y bm hbm) (I.kIn _ _ hC) few (PySem.W.looks_findIn I.kIn M.iC) (fun me => PySem.W.bind_fn I.kIn me M.tI)
    (codeAny_mono (F.run _ X.stack _ _ ⟨Value.ref (hp.objs.size + 1) :: us, kw⟩ (Value.ref (hp.objs.size + 1) :: bound) _ _ E0 (hr.make C us kw) (I2.env0.make C us kw) (hb _ _ I2.kIn) r2 hq) fun r s' y => ?_))
  cases r with
  | error er => exact pass0 (X := X) pins σ _ _ er s' I2 y
  | ok fl =>
    cases fl with
    | ret u =>
      obtain ⟨v, H', I3, rv, ev, q3⟩ := I2.after y
      subst ev
      exact ⟨rv, ⟨V.ref (hp.objs.size + 1), H', I3, rfl, q3⟩⟩
    | next => exact y.elim
    | brk => exact y.elim
    | cont => exact y.elim
/-- C(e, ..) -/
def tX (C : Addr) (sp : Sp) (t : TA) : TE := fun σ H Q => t σ H fun vs H1 => vs.length ≤ 1000 ∧ ∀ a, H1 a = none → sp (.ref a :: vs) (upd H1 a (exo a C none)) (fun v H2 => v = .non ∧ Q (.ref a) H2) E0
theorem pe_x (M : XMk X.K C fI) (F : FnOk X.prog X.w X.K X.mg X.base CX0 k fI fd ps sp) (hr : Room (k + 1) X.A) (hb : Binds X.K fd ps []) (hg : Gl X x) (hm : X.mg x = some (.ref C)) (ha : PA X (e :: es) t)
    (hdb : (x == ("__debug__" : Str)) = false := by decide) (hs : starEach (e :: es) X.env = (false, eval e X.env) :: starEach es X.env := by rfl) (hp : (backTo pos (starEach es X.env)).any (·.1) = false := by rfl) :
    PE X (.Call (.Name x p) (e :: es) [] pos) (tX C sp t) := by
  refine ⟨fun pins s σ H Q I h => ?_⟩
  refine wpAny_Call_Name_kw (ld_glob I hg hm (PySem.W.callWith_K (h₀ := X.base) I.ok.mod.kin M.T.kC (thn (ha.run pos pins s σ H _ I h) fun us s1 ⟨vs, H1, I1, r1, hz, q1⟩ => ⟨I1.kIn, ?_⟩) hs hp) hdb)
  have lu := Paired.length r1
  refine run_x (us := us) (kw := []) M F hr I1 (by rw [← lu, sizeLine_eq]; omega) (fun s' a hk => ?_) r1 q1
  have n0 : H1 (s1.heap.objs.size + 1) = none := I1.hok.fresh (Nat.le_succ _)
  have l1 := F.len _ _ _ _ (q1 _ n0)
  have b := hb s' (.ref a :: us) hk (by rw [List.append_nil, List.length_cons, ← lu]; exact l1)
  rw [List.append_nil] at b
  exact b
/-- C(k = e, ..), g what the keywords' values are by place -/
def tXk (C : Addr) (n : Nat) (sp : Sp) (gV : List V → List V) (t : TA) : TE := fun σ H Q => t σ H fun vs H1 => vs.length = n ∧ ∀ a, H1 a = none → sp (.ref a :: gV vs) (upd H1 a (exo a C none)) (fun v H2 => v = .non ∧ Q (.ref a) H2) E0
theorem pe_xk {g : List Value → List Value} {gV : List V → List V} (M : XMk X.K C fI) (F : FnOk X.prog X.w X.K X.mg X.base CX0 k fI fd ps sp) (hr : Room (k + 1) X.A)
    (hb : ∀ (s' : Shared) (a : Addr) (ws : List Value), X.K.In s'.heap → ws.length = ks.length → BindsTo s' fd ⟨[.ref a], ks.zip ws⟩ (ps.zip (.ref a :: g ws))) (hrel : ∀ {zs : List V} {ws : List Value}, Vals zs ws → Vals (gV zs) (g ws))
    (hg : Gl X x) (hm : X.mg x = some (.ref C)) (hkw : PK X kws tk) (hall : (backToKw pos (keywordEach kws X.env)).all (·.1.isSome) = true := by rfl) (hks : (backToKw pos (keywordEach kws X.env)).filterMap (·.1) = ks := by rfl)
    (hdb : (x == ("__debug__" : Str)) = false := by decide) (hp : ((backTo pos (starEach [] X.env)).any (·.1) || (backToKw pos (keywordEach kws X.env)).any (·.1.isNone)) = false := by rfl) :
    PE X (.Call (.Name x p) [] kws pos) (tXk C ks.length sp gV tk) := by
  refine ⟨fun pins s σ H Q I h => ?_⟩
  refine wpAny_Call_Name_kw (ld_glob I hg hm (PySem.W.callWith_KW0 (h₀ := X.base) I.ok.mod.kin M.T.kC hall (thn (hkw.run pos pins s σ H _ I h) fun ws s1 ⟨zs, H1, I1, r1, hz, q1⟩ => ⟨I1.kIn, ?_⟩) hp) hdb)
  rw [hks]
  exact run_x (us := []) (kw := ks.zip ws) M F hr I1 (Nat.zero_le _) (fun s' a hk => hb s' a ws hk ((Paired.length r1).symm.trans hz)) (hrel r1) q1
/-- C(), C without an own __init__ -/
def tX0 (C : Addr) : TE := fun _ H Q => ∀ a, H a = none → Q (.ref a) (upd H a (exo a C none))
theorem pe_x0 {bmB : List Value} {B newId initId : String} (F : ExcBaseFacts B newId initId bmB) (q : PySem.W.excIn X.K C bmB newId = true) (gC : X.mg x = some (.ref C)) (kC : PySem.W.keepIn X.K (.ref C) = true) (hg : Gl X x)
    (hdb : (x == ("__debug__" : Str)) = false := by decide) : PE X (.Call (.Name x p) [] [] pos) (tX0 C) := by
  refine ⟨fun pins s σ H Q I h => ?_⟩
  refine wpAny_Call_Name_kw (ld_glob I hg gC (PySem.W.callWith_K0 I.kIn kC ?_) hdb)
  obtain ⟨bm, N, nm, qn, bs, hdct, sn, sub, ab, col, dd, k0, k1, k2, k3, k5, mN, hC, hN, hni, T⟩ := exc_obj I.kIn q
  refine wpAny_call_exc_subT F T hC hN hni (fun h' a m => ?_) (Nat.zero_le _)
  have hn : H a = none := I.hok.gone m.new
  obtain ⟨t, ht, _, _⟩ := m.there
  exact ⟨.ref a, upd H a (exo a C none), I.laidN m.keeps m.new hn (exo_ok ht), rfl, h a hn⟩
/-- e.f of such an exception -/
def tXf (C : Addr) (f : Str) (te : TE) : TE := fun σ H Q => te σ H fun x H1 => ∃ (a d : Addr) (fs : List (Str × V)) (v : V), x = .ref a ∧ H1 a = some (exo a C (some d)) ∧ H1 d = some (exd d fs) ∧ fs.lookup f = some v ∧ Q v H1
theorem pe_xfield (T : XfC X.K C) (hno : PySem.W.findIn X.K (.ref C) f = some none) (he : PE X e te) (hb : attributeBase e f X.env (eval e X.env) = eval e X.env := by rfl) : PE X (.Attribute e f pos) (tXf C f te) := by
  refine ⟨fun pins s σ H Q I h => attr_of hb (thn (he.run pins s σ H _ I h) fun u s1 hh => ?_)⟩
  obtain ⟨y, H1, I1, ry, a, d, fs, v, rfl, ea, ed, l, q⟩ := hh
  obtain rfl : u = Value.ref a := ry
  obtain ⟨t1, ha⟩ := exo_at I1.hok ea
  obtain ⟨mA, hns, rel⟩ := exd_at I1.hok ed
  obtain ⟨od, ho, hl⟩ := lookIn_ns hns
  obtain ⟨z, hz, rz⟩ := RelO.some_of (v := v) (o := mA f) (by (rw [← l]; exact rel f))
  have J : PySem.W.InstAt s1.heap a { cls := .ref C, dict := some d, data := .fields #[.ref t1, .none, .none, .none, .bool false, .none] } C (some od) := ⟨ha, rfl, rfl, ho⟩
  exact HandSPX.exc_get I1.kIn J T.ga T.gg T.exC (PySem.W.findObj_own T.hdC hno rfl (by (rw [hl, hz]))) (handed_of rz) ⟨v, H1, I1.tok _, rz, q⟩
/-- isinstance(e, c) of such an exception -/
def rIsX (K : PySem.W.Frag) : List V → Hp → VK → Prop := fun xs H Q => ∃ (a C : Addr) (c : V) (cv : Value) (b : Bool), xs = [.ref a, c] ∧ XAt H a C ∧ ExcC K C ∧ ClsV c cv ∧ PySem.W.kitOne K (.ref C) cv = some b ∧ Q (.bl b) H
theorem call_isX : CallR X (.builtin "isinstance") (rIsX X.K) := by
  intro pins s σ H xs us Q I r h
  obtain ⟨a, C, c, cv, b, rfl, hx, T, hc, e, q⟩ := h
  obtain ⟨u1, u2, rfl, r1, r2⟩ := vals2 r
  obtain rfl := hc.eq r2
  cases (show u1 = Value.ref a from r1)
  have hcl : (PySem.W.clsIn X.K C).isSome = true := by
    obtain ⟨cd, hcd, _⟩ := PySem.W.any_some T.hd
    rw [hcd]
    rfl
  rcases hx with ea | ⟨d, fs, ea, ed⟩
  · obtain ⟨t1, ha⟩ := exo_at I.hok ea
    have J : PySem.W.InstAt s.heap a { cls := .ref C, dict := none, data := .fields #[.ref t1, .none, .none, .none, .bool false, .none] } C none := ⟨ha, rfl, rfl, trivial⟩
    exact PySem.W.kia_one (PySem.W.kitx_exc hcl T.hg T.hk T.hs T.ha T.hn T.ht T.hm) I.kIn J e (fun z => nomatch z) fun tk => ⟨.bl b, H, I.kept (t' := tk) fun _ _ z => z, rfl, q⟩
  · obtain ⟨t1, ha⟩ := exo_at I.hok ea
    obtain ⟨mA, hns, rel⟩ := exd_at I.hok ed
    obtain ⟨od, ho, hl⟩ := lookIn_ns hns
    have J : PySem.W.InstAt s.heap a { cls := .ref C, dict := some d, data := .fields #[.ref t1, .none, .none, .none, .bool false, .none] } C (some od) := ⟨ha, rfl, rfl, ho⟩
    exact PySem.W.kia_one (PySem.W.kitx_exc hcl T.hg T.hk T.hs T.ha T.hn T.ht T.hm) I.kIn J e (fun z => nomatch z) fun tk => ⟨.bl b, H, I.kept (t' := tk) fun _ _ z => z, rfl, q⟩
end
end Xv
/-! the head: the defs by names, and one Bool of what else is asked of the written part -/
namespace Lh
open PySem PySem.Spec PyProof.Rows L2
abbrev AlB : Type := He.AlD × Bool
def obsB (n : Nat) (fn : List He.DefD) (ex : PySem.W.Frag → Bool) (g : Addr → Option Obj) : AlB := (He.obsD [] fn (He.frG g (He.asD g n)), ex (He.frG g (He.asD g n)))
def hookB (n : Nat) (fn : List He.DefD) (ex : PySem.W.Frag → Bool) : PySem.W.Hook where
  α := AlB
  obs := fun s => obsB n fn ex s.heap.get?
  val := fun _ => (He.valD fn, true)
  says := fun _ h => ∃ K : PySem.W.Frag, K.In h ∧ He.SaysD [] fn K ∧ ex K = true
  of := fun _ _ e => ⟨_, He.frG_in, congrArg Prod.fst e, congrArg Prod.snd e⟩
  keeps := fun _ _ _ ⟨K, hK, c⟩ k => ⟨K, PySem.W.Frag.In.keeps hK k, c⟩
theorem obsB_eq {n : Nat} {fn : List He.DefD} {ex : PySem.W.Frag → Bool} {g : Addr → Option Obj} {s : Shared} (h : ∀ a, g a = s.heap.get? a) : obsB n fn ex g = (hookB n fn ex).obs s := by
  have e : g = s.heap.get? := funext h
  rw [e]
  rfl
theorem fun_of {K : PySem.W.Frag} {x q : Str} {st : Stmt} {f : Addr} {fd : FuncData} (F : FunD K x q (defArgs st) (defBody st) (defScope st) [] [] f fd) : Fun K x q st f fd := by
  obtain ⟨oc, od, dV, kV, doc, pm, an, cdv, ct, osl, e, lk, hcd, hD, _⟩ := F.ex
  rcases hD with ⟨_, rfl⟩ | ⟨z, _⟩
  · exact ⟨⟨oc, od, kV, doc, pm, an, cdv, ct, osl, e, lk, hcd⟩, F.kp⟩
  · exact absurd rfl z
def gloB (K : PySem.W.Frag) (x : Str) : Bool := He.eqO (PySem.W.nsIn K mainGlobals x) (some (some (.ref (He.ga K x))))
def freeB (K : PySem.W.Frag) (x : Str) : Bool := He.eqO (PySem.W.nsIn K mainGlobals x) (some none)
theorem mg_glo {K : PySem.W.Frag} {h : Heap} {mg : Str → Option Value} (X : K.In h) (G : h.Ns mainGlobals mg) {x : Str} (c : gloB K x = true) : mg x = some (.ref (He.ga K x)) := PySem.W.mg_of X G (He.eqO_ok c)
theorem mg_free {K : PySem.W.Frag} {h : Heap} {mg : Str → Option Value} (X : K.In h) (G : h.Ns mainGlobals mg) {x : Str} (c : freeB K x = true) : mg x = none := PySem.W.mg_none_of X G (He.eqO_ok c)
def dd (at_ : Str × Option Str) (name qual : Str) (st : Stmt) : He.DefD := ⟨at_, name, qual, defArgs st, defBody st, defScope st, [], []⟩
/-- the promise of a law -/
def spLaw (K : PySem.W.Frag) : Sp := fun vs H Q _ => ∃ (a : Addr) (ns : List Int), vs = [.ref a] ∧ SqL K H a (ns.map V.int) ∧ ns.length ≤ 63 ∧ ∀ H', Q (.bl true) H'
def btNames : List Str := ["len", "int", "list", "range", "isinstance", "str", "bool", "tuple", "dict"]
theorem bt_of {K : PySem.W.Frag} {h : Heap} {mg : Str → Option Value} (X : K.In h) (G : h.Ns mainGlobals mg) (c : btNames.all (freeB K) = true) : Lw.Bt mg := by
  have q : ∀ x ∈ btNames, mg x = none := fun x hx => mg_free X G (List.all_eq_true.mp c x hx)
  exact ⟨q _ (by decide +kernel), q _ (by decide +kernel), q _ (by decide +kernel), q _ (by decide +kernel), q _ (by decide +kernel), q _ (by decide +kernel), q _ (by decide +kernel), q _ (by decide +kernel), q _ (by decide +kernel)⟩
end Lh
namespace L80
open PySem PySem.Spec PyProof.Rows L2 Lw Xv Lh
abbrev sKinds : Stmt := Lw.top 25
abbrev sFields : Stmt := Lw.top 26
abbrev sNamed : Stmt := Lw.top 27
abbrev sLaw : Stmt := Lw.top 28
/-- C's own __init__: n values, its fields fs -/
def spI (C : Addr) (n : Nat) (fs : List V → List (Str × V)) : Sp := fun vs H Q _ => ∃ (a : Addr) (ys : List V), vs = .ref a :: ys ∧ ys.length = n ∧ H a = some (exo a C none) ∧
  ∀ (d : Addr) (H' : Hp), H' a = some (exo a C (some d)) → H' d = some (exd d (fs ys)) → (∀ b o, H b = some o → b ≠ a → H' b = some o) → Q .non H'
theorem sm {H H' : Hp} {a : Addr} {x : HO} (n : H a = none) (k : ∀ b o, L2.upd H a x b = some o → b ≠ a → H' b = some o) : Same H H' := fun b o e => k b o (by rw [upd_ne (ne_of_none e n)]; exact e) (ne_of_none e n)
section
variable {P : Program} {w : World} {K : PySem.W.Frag} {mg : Str → Option Value} {base : Heap}

abbrev sIBadColumns : Stmt := inClass (Lw.top 2) 0
theorem scBadColumns : FnScope ["self", "index"] ["self", "index"] (defScope sIBadColumns) := ⟨rfl, rfl, rfl, by decide +kernel, rfl, by decide +kernel, by decide +kernel⟩
theorem okBadColumns {f C : Addr} {fd : FuncData} (F : Fun K "__init__" "BadColumns.__init__" sIBadColumns f fd) (T : OexC K C) (n1 : PySem.W.findIn K (.ref C) "index" = some none) : FnOk P w K mg base CX0 1 f fd ["self", "index"] (spI C 1 fun ys => [("index", ys.getD 0 .non)]) := by
  refine F.ok scBadColumns (fun vs H Q E h => ?_) (fun cdv A outer s H vs Q E hr h => ?_)
  · obtain ⟨a, ys, rfl, hl, _⟩ := h
    exact congrArg Nat.succ hl
  · obtain ⟨a, ys, rfl, hl, ha, k⟩ := h
    obtain ⟨y, rfl⟩ : ∃ y, ys = [y] := by
      match ys, hl with
      | [y], _ => exact ⟨y, rfl⟩
    refine ⟨_, pss_one (ps_ost (pv 0) (pv 1)), ?_⟩
    refine ⟨_, rfl, _, rfl, a, C, rfl, T, n1, .inl ⟨ha, fun dx hn ne => ?_⟩⟩
    exact k dx _ upd_same (by rw [upd_ne ne, upd_same]; rfl) fun b o e nb => by rw [upd_ne nb, upd_ne (ne_of_none e hn)]; exact e

abbrev sIBadCases : Stmt := inClass (Lw.top 3) 0
theorem scBadCases : FnScope ["self", "index"] ["self", "index"] (defScope sIBadCases) := ⟨rfl, rfl, rfl, by decide +kernel, rfl, by decide +kernel, by decide +kernel⟩
theorem okBadCases {f C : Addr} {fd : FuncData} (F : Fun K "__init__" "BadCases.__init__" sIBadCases f fd) (T : OexC K C) (n1 : PySem.W.findIn K (.ref C) "index" = some none) : FnOk P w K mg base CX0 1 f fd ["self", "index"] (spI C 1 fun ys => [("index", ys.getD 0 .non)]) := by
  refine F.ok scBadCases (fun vs H Q E h => ?_) (fun cdv A outer s H vs Q E hr h => ?_)
  · obtain ⟨a, ys, rfl, hl, _⟩ := h
    exact congrArg Nat.succ hl
  · obtain ⟨a, ys, rfl, hl, ha, k⟩ := h
    obtain ⟨y, rfl⟩ : ∃ y, ys = [y] := by
      match ys, hl with
      | [y], _ => exact ⟨y, rfl⟩
    refine ⟨_, pss_one (ps_ost (pv 0) (pv 1)), ?_⟩
    refine ⟨_, rfl, _, rfl, a, C, rfl, T, n1, .inl ⟨ha, fun dx hn ne => ?_⟩⟩
    exact k dx _ upd_same (by rw [upd_ne ne, upd_same]; rfl) fun b o e nb => by rw [upd_ne nb, upd_ne (ne_of_none e hn)]; exact e

abbrev sIBadTable : Stmt := inClass (Lw.top 4) 0
theorem scBadTable : FnScope ["self", "index"] ["self", "index"] (defScope sIBadTable) := ⟨rfl, rfl, rfl, by decide +kernel, rfl, by decide +kernel, by decide +kernel⟩
theorem okBadTable {f C : Addr} {fd : FuncData} (F : Fun K "__init__" "BadTable.__init__" sIBadTable f fd) (T : OexC K C) (n1 : PySem.W.findIn K (.ref C) "index" = some none) : FnOk P w K mg base CX0 1 f fd ["self", "index"] (spI C 1 fun ys => [("index", ys.getD 0 .non)]) := by
  refine F.ok scBadTable (fun vs H Q E h => ?_) (fun cdv A outer s H vs Q E hr h => ?_)
  · obtain ⟨a, ys, rfl, hl, _⟩ := h
    exact congrArg Nat.succ hl
  · obtain ⟨a, ys, rfl, hl, ha, k⟩ := h
    obtain ⟨y, rfl⟩ : ∃ y, ys = [y] := by
      match ys, hl with
      | [y], _ => exact ⟨y, rfl⟩
    refine ⟨_, pss_one (ps_ost (pv 0) (pv 1)), ?_⟩
    refine ⟨_, rfl, _, rfl, a, C, rfl, T, n1, .inl ⟨ha, fun dx hn ne => ?_⟩⟩
    exact k dx _ upd_same (by rw [upd_ne ne, upd_same]; rfl) fun b o e nb => by rw [upd_ne nb, upd_ne (ne_of_none e hn)]; exact e

abbrev sIBadWants : Stmt := inClass (Lw.top 5) 0
theorem scBadWants : FnScope ["self", "index"] ["self", "index"] (defScope sIBadWants) := ⟨rfl, rfl, rfl, by decide +kernel, rfl, by decide +kernel, by decide +kernel⟩
theorem okBadWants {f C : Addr} {fd : FuncData} (F : Fun K "__init__" "BadWants.__init__" sIBadWants f fd) (T : OexC K C) (n1 : PySem.W.findIn K (.ref C) "index" = some none) : FnOk P w K mg base CX0 1 f fd ["self", "index"] (spI C 1 fun ys => [("index", ys.getD 0 .non)]) := by
  refine F.ok scBadWants (fun vs H Q E h => ?_) (fun cdv A outer s H vs Q E hr h => ?_)
  · obtain ⟨a, ys, rfl, hl, _⟩ := h
    exact congrArg Nat.succ hl
  · obtain ⟨a, ys, rfl, hl, ha, k⟩ := h
    obtain ⟨y, rfl⟩ : ∃ y, ys = [y] := by
      match ys, hl with
      | [y], _ => exact ⟨y, rfl⟩
    refine ⟨_, pss_one (ps_ost (pv 0) (pv 1)), ?_⟩
    refine ⟨_, rfl, _, rfl, a, C, rfl, T, n1, .inl ⟨ha, fun dx hn ne => ?_⟩⟩
    exact k dx _ upd_same (by rw [upd_ne ne, upd_same]; rfl) fun b o e nb => by rw [upd_ne nb, upd_ne (ne_of_none e hn)]; exact e

abbrev sINoRow : Stmt := inClass (Lw.top 6) 0
theorem scNoRow : FnScope ["self", "name"] ["self", "name"] (defScope sINoRow) := ⟨rfl, rfl, rfl, by decide +kernel, rfl, by decide +kernel, by decide +kernel⟩
theorem okNoRow {f C : Addr} {fd : FuncData} (F : Fun K "__init__" "NoRow.__init__" sINoRow f fd) (T : OexC K C) (n1 : PySem.W.findIn K (.ref C) "name" = some none) : FnOk P w K mg base CX0 1 f fd ["self", "name"] (spI C 1 fun ys => [("name", ys.getD 0 .non)]) := by
  refine F.ok scNoRow (fun vs H Q E h => ?_) (fun cdv A outer s H vs Q E hr h => ?_)
  · obtain ⟨a, ys, rfl, hl, _⟩ := h
    exact congrArg Nat.succ hl
  · obtain ⟨a, ys, rfl, hl, ha, k⟩ := h
    obtain ⟨y, rfl⟩ : ∃ y, ys = [y] := by
      match ys, hl with
      | [y], _ => exact ⟨y, rfl⟩
    refine ⟨_, pss_one (ps_ost (pv 0) (pv 1)), ?_⟩
    refine ⟨_, rfl, _, rfl, a, C, rfl, T, n1, .inl ⟨ha, fun dx hn ne => ?_⟩⟩
    exact k dx _ upd_same (by rw [upd_ne ne, upd_same]; rfl) fun b o e nb => by rw [upd_ne nb, upd_ne (ne_of_none e hn)]; exact e

abbrev sIBadPart : Stmt := inClass (Lw.top 7) 0
theorem scBadPart : FnScope ["self", "place", "why"] ["self", "place", "why"] (defScope sIBadPart) := ⟨rfl, rfl, rfl, by decide +kernel, rfl, by decide +kernel, by decide +kernel⟩
theorem okBadPart {f C : Addr} {fd : FuncData} (F : Fun K "__init__" "BadPart.__init__" sIBadPart f fd) (T : OexC K C) (n1 : PySem.W.findIn K (.ref C) "place" = some none) (n2 : PySem.W.findIn K (.ref C) "why" = some none) : FnOk P w K mg base CX0 1 f fd ["self", "place", "why"] (spI C 2 fun ys => [("why", ys.getD 1 .non), ("place", ys.getD 0 .non)]) := by
  refine F.ok scBadPart (fun vs H Q E h => ?_) (fun cdv A outer s H vs Q E hr h => ?_)
  · obtain ⟨a, ys, rfl, hl, _⟩ := h
    exact congrArg Nat.succ hl
  · obtain ⟨a, ys, rfl, hl, ha, k⟩ := h
    obtain ⟨y, z, rfl⟩ : ∃ y z, ys = [y, z] := by
      match ys, hl with
      | [y, z], _ => exact ⟨y, z, rfl⟩
    refine ⟨_, pss_cons (ps_ost (pv 0) (pv 1)) (pss_one (ps_ost (pv 0) (pv 2))), ?_⟩
    refine ⟨_, rfl, _, rfl, a, C, rfl, T, n1, .inl ⟨ha, fun dx hn ne => ?_⟩⟩
    refine ⟨_, rfl, _, rfl, a, C, rfl, T, n2, .inr ⟨dx, _, upd_same, by rw [upd_ne ne, upd_same], (by show 1 ≤ 900; decide), ?_⟩⟩
    refine k dx _ (by rw [upd_ne ne.symm, upd_same]) upd_same fun b o e nb => ?_
    rw [upd_ne (ne_of_none e hn), upd_ne nb, upd_ne (ne_of_none e hn)]
    exact e

abbrev sIBadPlan : Stmt := inClass (Lw.top 8) 0
theorem scBadPlan : FnScope ["self", "place", "why"] ["self", "place", "why"] (defScope sIBadPlan) := ⟨rfl, rfl, rfl, by decide +kernel, rfl, by decide +kernel, by decide +kernel⟩
theorem okBadPlan {f C : Addr} {fd : FuncData} (F : Fun K "__init__" "BadPlan.__init__" sIBadPlan f fd) (T : OexC K C) (n1 : PySem.W.findIn K (.ref C) "place" = some none) (n2 : PySem.W.findIn K (.ref C) "why" = some none) : FnOk P w K mg base CX0 1 f fd ["self", "place", "why"] (spI C 2 fun ys => [("why", ys.getD 1 .non), ("place", ys.getD 0 .non)]) := by
  refine F.ok scBadPlan (fun vs H Q E h => ?_) (fun cdv A outer s H vs Q E hr h => ?_)
  · obtain ⟨a, ys, rfl, hl, _⟩ := h
    exact congrArg Nat.succ hl
  · obtain ⟨a, ys, rfl, hl, ha, k⟩ := h
    obtain ⟨y, z, rfl⟩ : ∃ y z, ys = [y, z] := by
      match ys, hl with
      | [y, z], _ => exact ⟨y, z, rfl⟩
    refine ⟨_, pss_cons (ps_ost (pv 0) (pv 1)) (pss_one (ps_ost (pv 0) (pv 2))), ?_⟩
    refine ⟨_, rfl, _, rfl, a, C, rfl, T, n1, .inl ⟨ha, fun dx hn ne => ?_⟩⟩
    refine ⟨_, rfl, _, rfl, a, C, rfl, T, n2, .inr ⟨dx, _, upd_same, by rw [upd_ne ne, upd_same], (by show 1 ≤ 900; decide), ?_⟩⟩
    refine k dx _ (by rw [upd_ne ne.symm, upd_same]) upd_same fun b o e nb => ?_
    rw [upd_ne (ne_of_none e hn), upd_ne nb, upd_ne (ne_of_none e hn)]
    exact e

abbrev sIFailed : Stmt := inClass (Lw.top 9) 0
theorem scFailed : FnScope ["self", "index", "code"] ["self", "index", "code"] (defScope sIFailed) := ⟨rfl, rfl, rfl, by decide +kernel, rfl, by decide +kernel, by decide +kernel⟩
theorem okFailed {f C : Addr} {fd : FuncData} (F : Fun K "__init__" "Failed.__init__" sIFailed f fd) (T : OexC K C) (n1 : PySem.W.findIn K (.ref C) "index" = some none) (n2 : PySem.W.findIn K (.ref C) "code" = some none) : FnOk P w K mg base CX0 1 f fd ["self", "index", "code"] (spI C 2 fun ys => [("code", ys.getD 1 .non), ("index", ys.getD 0 .non)]) := by
  refine F.ok scFailed (fun vs H Q E h => ?_) (fun cdv A outer s H vs Q E hr h => ?_)
  · obtain ⟨a, ys, rfl, hl, _⟩ := h
    exact congrArg Nat.succ hl
  · obtain ⟨a, ys, rfl, hl, ha, k⟩ := h
    obtain ⟨y, z, rfl⟩ : ∃ y z, ys = [y, z] := by
      match ys, hl with
      | [y, z], _ => exact ⟨y, z, rfl⟩
    refine ⟨_, pss_cons (ps_ost (pv 0) (pv 1)) (pss_one (ps_ost (pv 0) (pv 2))), ?_⟩
    refine ⟨_, rfl, _, rfl, a, C, rfl, T, n1, .inl ⟨ha, fun dx hn ne => ?_⟩⟩
    refine ⟨_, rfl, _, rfl, a, C, rfl, T, n2, .inr ⟨dx, _, upd_same, by rw [upd_ne ne, upd_same], (by show 1 ≤ 900; decide), ?_⟩⟩
    refine k dx _ (by rw [upd_ne ne.symm, upd_same]) upd_same fun b o e nb => ?_
    rw [upd_ne (ne_of_none e hn), upd_ne nb, upd_ne (ne_of_none e hn)]
    exact e

abbrev sITooMany : Stmt := inClass (Lw.top 10) 0
theorem scTooMany : FnScope ["self", "limit"] ["self", "limit"] (defScope sITooMany) := ⟨rfl, rfl, rfl, by decide +kernel, rfl, by decide +kernel, by decide +kernel⟩
theorem okTooMany {f C : Addr} {fd : FuncData} (F : Fun K "__init__" "TooMany.__init__" sITooMany f fd) (T : OexC K C) (n1 : PySem.W.findIn K (.ref C) "limit" = some none) : FnOk P w K mg base CX0 1 f fd ["self", "limit"] (spI C 1 fun ys => [("limit", ys.getD 0 .non)]) := by
  refine F.ok scTooMany (fun vs H Q E h => ?_) (fun cdv A outer s H vs Q E hr h => ?_)
  · obtain ⟨a, ys, rfl, hl, _⟩ := h
    exact congrArg Nat.succ hl
  · obtain ⟨a, ys, rfl, hl, ha, k⟩ := h
    obtain ⟨y, rfl⟩ : ∃ y, ys = [y] := by
      match ys, hl with
      | [y], _ => exact ⟨y, rfl⟩
    refine ⟨_, pss_one (ps_ost (pv 0) (pv 1)), ?_⟩
    refine ⟨_, rfl, _, rfl, a, C, rfl, T, n1, .inl ⟨ha, fun dx hn ne => ?_⟩⟩
    exact k dx _ upd_same (by rw [upd_ne ne, upd_same]; rfl) fun b o e nb => by rw [upd_ne nb, upd_ne (ne_of_none e hn)]; exact e

/-- what the law asks of an own class with an __init__ -/
structure XI (P : Program) (w : World) (K : PySem.W.Frag) (mg : Str → Option Value) (base : Heap) (nm : Str) (C fI : Addr) (fd : FuncData) (ps : List Str) (n : Nat) (fs : List V → List (Str × V)) : Prop where
  M : XMk K C fI
  F : FnOk P w K mg base CX0 1 fI fd ps (spI C n fs)
  b : Binds K fd ps []
  kb : ∀ (s : Shared) (us : List Value), us.length = ps.length → ∀ ks : List (Str × Value), (∃ y ys, us = y :: ys ∧ (ks = (ps.drop 1).zip ys ∨ ks = ((ps.drop 1).zip ys).reverse)) → ∀ y, us.head? = some y → BindsTo s fd ⟨[y], ks⟩ (ps.zip us)
  g : mg nm = some (.ref C)
  xf : XfC K C
  no : ∀ f ∈ ps.drop 1, PySem.W.findIn K (.ref C) f = some none

structure Cls80 (P : Program) (w : World) (K : PySem.W.Frag) (mg : Str → Option Value) (base : Heap) (C : Nat → Addr) : Prop where
  x0 : ∃ fI fd, XI P w K mg base "BadCases" (C 0) fI fd ["self", "index"] 1 (fun ys => [("index", ys.getD 0 .non)])
  x1 : ∃ fI fd, XI P w K mg base "BadColumns" (C 1) fI fd ["self", "index"] 1 (fun ys => [("index", ys.getD 0 .non)])
  x2 : PySem.W.excIn K (C 2) He.veBase "ValueError.__new__" = true ∧ mg "BadLevel" = some (.ref (C 2)) ∧ PySem.W.keepIn K (.ref (C 2)) = true
  x3 : PySem.W.excIn K (C 3) He.veBase "ValueError.__new__" = true ∧ mg "BadLimit" = some (.ref (C 3)) ∧ PySem.W.keepIn K (.ref (C 3)) = true
  x4 : ∃ fI fd, XI P w K mg base "BadPart" (C 4) fI fd ["self", "place", "why"] 2 (fun ys => [("why", ys.getD 1 .non), ("place", ys.getD 0 .non)])
  x5 : ∃ fI fd, XI P w K mg base "BadPlan" (C 5) fI fd ["self", "place", "why"] 2 (fun ys => [("why", ys.getD 1 .non), ("place", ys.getD 0 .non)])
  x6 : PySem.W.excIn K (C 6) He.veBase "ValueError.__new__" = true ∧ mg "BadSize" = some (.ref (C 6)) ∧ PySem.W.keepIn K (.ref (C 6)) = true
  x7 : ∃ fI fd, XI P w K mg base "BadTable" (C 7) fI fd ["self", "index"] 1 (fun ys => [("index", ys.getD 0 .non)])
  x8 : PySem.W.excIn K (C 8) He.veBase "ValueError.__new__" = true ∧ mg "BadText" = some (.ref (C 8)) ∧ PySem.W.keepIn K (.ref (C 8)) = true
  x9 : ∃ fI fd, XI P w K mg base "BadWants" (C 9) fI fd ["self", "index"] 1 (fun ys => [("index", ys.getD 0 .non)])
  x10 : PySem.W.excIn K (C 10) He.veBase "ValueError.__new__" = true ∧ mg "Ended" = some (.ref (C 10)) ∧ PySem.W.keepIn K (.ref (C 10)) = true
  x11 : ∃ fI fd, XI P w K mg base "Failed" (C 11) fI fd ["self", "index", "code"] 2 (fun ys => [("code", ys.getD 1 .non), ("index", ys.getD 0 .non)])
  x12 : PySem.W.excIn K (C 12) He.veBase "ValueError.__new__" = true ∧ mg "NoFate" = some (.ref (C 12)) ∧ PySem.W.keepIn K (.ref (C 12)) = true
  x13 : PySem.W.excIn K (C 13) He.veBase "ValueError.__new__" = true ∧ mg "NoPlace" = some (.ref (C 13)) ∧ PySem.W.keepIn K (.ref (C 13)) = true
  x14 : ∃ fI fd, XI P w K mg base "NoRow" (C 14) fI fd ["self", "name"] 1 (fun ys => [("name", ys.getD 0 .non)])
  x15 : PySem.W.excIn K (C 15) He.veBase "ValueError.__new__" = true ∧ mg "NoTruth" = some (.ref (C 15)) ∧ PySem.W.keepIn K (.ref (C 15)) = true
  x16 : ∃ fI fd, XI P w K mg base "TooMany" (C 16) fI fd ["self", "limit"] 1 (fun ys => [("limit", ys.getD 0 .non)])
  x17 : PySem.W.excIn K (C 17) He.veBase "ValueError.__new__" = true ∧ mg "Unlike" = some (.ref (C 17)) ∧ PySem.W.keepIn K (.ref (C 17)) = true
  e : ∀ j, j < 18 → ExcC K (C j)
  k : ∀ i j, i < 18 → j < 18 → PySem.W.kitOne K (.ref (C j)) (.ref (C i)) = some (decide (i = j))
/-- one, two: the values; fields of the nine classes -/
def spF : Sp := fun vs H Q _ => ∃ x y : V, vs = [x, y] ∧ ∀ (p : Addr) (H' : Hp), H p = none → Same H H' → H' p = some (.lst [x, x, x, x, x, x, y, x, y, x, y, x]) → Q (.ref p) H'

theorem vals_rev : ∀ {zs : List V} {ws : List Value}, Vals zs ws → Vals zs.reverse ws.reverse
  | _, _, .nil => .nil
  | z :: zs, u :: us, .cons r t => by
    rw [List.reverse_cons, List.reverse_cons]
    exact (vals_rev t).append (.cons r .nil)
theorem kb1 {nm f : Str} {C fI : Addr} {fd : FuncData} {fs : List V → List (Str × V)} (A : XI P w K mg base nm C fI fd [("self" : Str), f] 1 fs) (s' : Shared) (a : Addr) (ws : List Value) (_ : K.In s'.heap) (l : ws.length = ([f] : List Str).length) :
    BindsTo s' fd ⟨[.ref a], ([f] : List Str).zip ws⟩ (([("self" : Str), f] : List Str).zip (.ref a :: ws)) := by
  match ws, l with
  | [u], _ => exact A.kb s' [.ref a, u] rfl _ ⟨_, _, rfl, .inl rfl⟩ _ rfl
theorem kb2 {nm f g : Str} {C fI : Addr} {fd : FuncData} {fs : List V → List (Str × V)} (A : XI P w K mg base nm C fI fd [("self" : Str), f, g] 2 fs) (s' : Shared) (a : Addr) (ws : List Value) (_ : K.In s'.heap) (l : ws.length = ([g, f] : List Str).length) :
    BindsTo s' fd ⟨[.ref a], ([g, f] : List Str).zip ws⟩ (([("self" : Str), f, g] : List Str).zip (.ref a :: ws.reverse)) := by
  match ws, l with
  | [u, v], _ => exact A.kb s' [.ref a, v, u] rfl _ ⟨_, _, rfl, .inr rfl⟩ _ rfl

theorem scFields : FnScope ["_law_one", "_law_two", "_law_found"] ["_law_one", "_law_two"] (defScope sFields) := ⟨rfl, rfl, rfl, by decide +kernel, rfl, by decide +kernel, by decide +kernel⟩
theorem okFields {f : Addr} {fd : FuncData} {C : Nat → Addr} (F : Fun K "_law_fields" "_law_fields" sFields f fd) (A : Cls80 P w K mg base C) : FnOk P w K mg base CX0 3 f fd ["_law_one", "_law_two"] spF := by
  obtain ⟨f1, g1, A1⟩ := A.x1
  obtain ⟨f0, g0, A0⟩ := A.x0
  obtain ⟨f7, g7, A7⟩ := A.x7
  obtain ⟨f9, g9, A9⟩ := A.x9
  obtain ⟨f14, g14, A14⟩ := A.x14
  obtain ⟨f4, g4, A4⟩ := A.x4
  obtain ⟨f5, g5, A5⟩ := A.x5
  obtain ⟨f11, g11, A11⟩ := A.x11
  obtain ⟨f16, g16, A16⟩ := A.x16
  refine F.ok scFields (fun vs H Q E h => ?_) (fun cdv A outer s H vs Q E hr h => ?_)
  · obtain ⟨x, y, rfl, _⟩ := h
    rfl
  · obtain ⟨x, y, rfl, k⟩ := h
    refine ⟨_, (pss_cons (ps_set (i := 2) scFields.nd rfl (Or.inl rfl) (pe_lst (pa_cons (pe_xfield A1.xf (A1.no _ (by decide +kernel)) (pe_x A1.M A1.F hr A1.b (by rfl) A1.g (pa_cons (pv 0) pa_nil))) (pa_cons (pe_xfield A0.xf (A0.no _ (by decide +kernel)) (pe_x A0.M A0.F hr A0.b (by rfl) A0.g (pa_cons (pv 0) pa_nil))) (pa_cons (pe_xfield A7.xf (A7.no _ (by decide +kernel)) (pe_x A7.M A7.F hr A7.b (by rfl) A7.g (pa_cons (pv 0) pa_nil))) (pa_cons (pe_xfield A9.xf (A9.no _ (by decide +kernel)) (pe_x A9.M A9.F hr A9.b (by rfl) A9.g (pa_cons (pv 0) pa_nil))) (pa_cons (pe_xfield A14.xf (A14.no _ (by decide +kernel)) (pe_x A14.M A14.F hr A14.b (by rfl) A14.g (pa_cons (pv 0) pa_nil))) pa_nil))))))) (pss_cons (ps_set (i := 2) scFields.nd rfl (Or.inl rfl) (pe_op op_cat (pv 2) (pe_lst (pa_cons (pe_xfield A4.xf (A4.no _ (by decide +kernel)) (pe_x A4.M A4.F hr A4.b (by rfl) A4.g (pa_cons (pv 0) (pa_cons (pv 1) pa_nil)))) (pa_cons (pe_xfield A4.xf (A4.no _ (by decide +kernel)) (pe_x A4.M A4.F hr A4.b (by rfl) A4.g (pa_cons (pv 0) (pa_cons (pv 1) pa_nil)))) (pa_cons (pe_xfield A5.xf (A5.no _ (by decide +kernel)) (pe_x A5.M A5.F hr A5.b (by rfl) A5.g (pa_cons (pv 0) (pa_cons (pv 1) pa_nil)))) (pa_cons (pe_xfield A5.xf (A5.no _ (by decide +kernel)) (pe_x A5.M A5.F hr A5.b (by rfl) A5.g (pa_cons (pv 0) (pa_cons (pv 1) pa_nil)))) pa_nil))))))) (pss_one (ps_ret (pe_op op_cat (pv 2) (pe_lst (pa_cons (pe_xfield A11.xf (A11.no _ (by decide +kernel)) (pe_x A11.M A11.F hr A11.b (by rfl) A11.g (pa_cons (pv 0) (pa_cons (pv 1) pa_nil)))) (pa_cons (pe_xfield A11.xf (A11.no _ (by decide +kernel)) (pe_x A11.M A11.F hr A11.b (by rfl) A11.g (pa_cons (pv 0) (pa_cons (pv 1) pa_nil)))) (pa_cons (pe_xfield A16.xf (A16.no _ (by decide +kernel)) (pe_x A16.M A16.F hr A16.b (by rfl) A16.g (pa_cons (pv 0) pa_nil))) pa_nil))))))))), ?_⟩
    have S : Same H H := Same.refl H
    refine ⟨_, rfl, (by show 1 ≤ 1000; decide), fun a0 n0 => ⟨a0, _, rfl, rfl, upd_same, fun d0 H0 p0 q0 z0 => ⟨rfl, a0, d0, _, _, rfl, p0, q0, (by rw [lookup_put, if_pos rfl]), ?_⟩⟩⟩
    have s0 := sm n0 z0
    have S := S.trans s0
    refine ⟨_, rfl, (by show 1 ≤ 1000; decide), fun a1 n1 => ⟨a1, _, rfl, rfl, upd_same, fun d1 H1 p1 q1 z1 => ⟨rfl, a1, d1, _, _, rfl, p1, q1, (by rw [lookup_put, if_pos rfl]), ?_⟩⟩⟩
    have s1 := sm n1 z1
    have S := S.trans s1
    refine ⟨_, rfl, (by show 1 ≤ 1000; decide), fun a2 n2 => ⟨a2, _, rfl, rfl, upd_same, fun d2 H2 p2 q2 z2 => ⟨rfl, a2, d2, _, _, rfl, p2, q2, (by rw [lookup_put, if_pos rfl]), ?_⟩⟩⟩
    have s2 := sm n2 z2
    have S := S.trans s2
    refine ⟨_, rfl, (by show 1 ≤ 1000; decide), fun a3 n3 => ⟨a3, _, rfl, rfl, upd_same, fun d3 H3 p3 q3 z3 => ⟨rfl, a3, d3, _, _, rfl, p3, q3, (by rw [lookup_put, if_pos rfl]), ?_⟩⟩⟩
    have s3 := sm n3 z3
    have S := S.trans s3
    refine ⟨_, rfl, (by show 1 ≤ 1000; decide), fun a4 n4 => ⟨a4, _, rfl, rfl, upd_same, fun d4 H4 p4 q4 z4 => ⟨rfl, a4, d4, _, _, rfl, p4, q4, (by rw [lookup_put, if_pos rfl]), ?_⟩⟩⟩
    have s4 := sm n4 z4
    have S := S.trans s4
    refine ⟨(by show 5 ≤ sizeLine; decide), fun l0 m0 => ?_⟩
    have S := S.trans (same_new (o := .lst [x, x, x, x, x]) m0)
    have L0 := upd_same (H := H4) (a := l0) (o := .lst [x, x, x, x, x])
    refine ⟨_, rfl, _, rfl, _, rfl, (by show 2 ≤ 1000; decide), fun a5 n5 => ⟨a5, _, rfl, rfl, upd_same, fun d5 H5 p5 q5 z5 => ⟨rfl, a5, d5, _, _, rfl, p5, q5, (by rw [lookup_put, if_neg (by decide +kernel), lookup_put, if_pos rfl]), ?_⟩⟩⟩
    have s5 := sm n5 z5
    have S := S.trans s5
    have L0 := s5 _ _ L0
    refine ⟨_, rfl, _, rfl, (by show 2 ≤ 1000; decide), fun a6 n6 => ⟨a6, _, rfl, rfl, upd_same, fun d6 H6 p6 q6 z6 => ⟨rfl, a6, d6, _, _, rfl, p6, q6, (by rw [lookup_put, if_pos rfl]), ?_⟩⟩⟩
    have s6 := sm n6 z6
    have S := S.trans s6
    have L0 := s6 _ _ L0
    refine ⟨_, rfl, _, rfl, (by show 2 ≤ 1000; decide), fun a7 n7 => ⟨a7, _, rfl, rfl, upd_same, fun d7 H7 p7 q7 z7 => ⟨rfl, a7, d7, _, _, rfl, p7, q7, (by rw [lookup_put, if_neg (by decide +kernel), lookup_put, if_pos rfl]), ?_⟩⟩⟩
    have s7 := sm n7 z7
    have S := S.trans s7
    have L0 := s7 _ _ L0
    refine ⟨_, rfl, _, rfl, (by show 2 ≤ 1000; decide), fun a8 n8 => ⟨a8, _, rfl, rfl, upd_same, fun d8 H8 p8 q8 z8 => ⟨rfl, a8, d8, _, _, rfl, p8, q8, (by rw [lookup_put, if_pos rfl]), ?_⟩⟩⟩
    have s8 := sm n8 z8
    have S := S.trans s8
    have L0 := s8 _ _ L0
    refine ⟨(by show 4 ≤ sizeLine; decide), fun l1 m1 => ?_⟩
    have S := S.trans (same_new (o := .lst [x, y, x, y]) m1)
    have L0 := (same_new (o := .lst [x, y, x, y]) m1) _ _ L0
    refine ⟨l0, l1, _, _, rfl, rfl, L0, upd_same, (by show 9 ≤ sizeLine; decide), fun c1 e1 => ?_⟩
    have fr := S.free e1
    have S := S.trans (same_new (o := .lst [x, x, x, x, x, x, y, x, y]) e1)
    have L0 := (same_new (o := .lst [x, x, x, x, x, x, y, x, y]) e1) _ _ L0
    have M1 := upd_same (H := (L2.upd H8 l1 (.lst [x, y, x, y]))) (a := c1) (o := .lst [x, x, x, x, x, x, y, x, y])
    refine ⟨_, rfl, _, rfl, _, rfl, (by show 2 ≤ 1000; decide), fun a9 n9 => ⟨a9, _, rfl, rfl, upd_same, fun d9 H9 p9 q9 z9 => ⟨rfl, a9, d9, _, _, rfl, p9, q9, (by rw [lookup_put, if_neg (by decide +kernel), lookup_put, if_pos rfl]), ?_⟩⟩⟩
    have s9 := sm n9 z9
    have S := S.trans s9
    have M1 := s9 _ _ M1
    refine ⟨_, rfl, _, rfl, (by show 2 ≤ 1000; decide), fun a10 n10 => ⟨a10, _, rfl, rfl, upd_same, fun d10 H10 p10 q10 z10 => ⟨rfl, a10, d10, _, _, rfl, p10, q10, (by rw [lookup_put, if_pos rfl]), ?_⟩⟩⟩
    have s10 := sm n10 z10
    have S := S.trans s10
    have M1 := s10 _ _ M1
    refine ⟨_, rfl, (by show 1 ≤ 1000; decide), fun a11 n11 => ⟨a11, _, rfl, rfl, upd_same, fun d11 H11 p11 q11 z11 => ⟨rfl, a11, d11, _, _, rfl, p11, q11, (by rw [lookup_put, if_pos rfl]), ?_⟩⟩⟩
    have s11 := sm n11 z11
    have S := S.trans s11
    have M1 := s11 _ _ M1
    refine ⟨(by show 3 ≤ sizeLine; decide), fun l2 m2 => ?_⟩
    have S := S.trans (same_new (o := .lst [x, y, x]) m2)
    have M1 := (same_new (o := .lst [x, y, x]) m2) _ _ M1
    refine ⟨c1, l2, _, _, rfl, rfl, M1, upd_same, (by show 12 ≤ sizeLine; decide), fun c2 e2 => ?_⟩
    have fr := S.free e2
    have S := S.trans (same_new (o := .lst [x, x, x, x, x, x, y, x, y, x, y, x]) e2)
    have M1 := (same_new (o := .lst [x, x, x, x, x, x, y, x, y, x, y, x]) e2) _ _ M1
    exact k c2 _ fr S upd_same

theorem scNamed : FnScope ["_law_one", "_law_two", "_law_found"] ["_law_one", "_law_two"] (defScope sNamed) := ⟨rfl, rfl, rfl, by decide +kernel, rfl, by decide +kernel, by decide +kernel⟩
theorem okNamed {f : Addr} {fd : FuncData} {C : Nat → Addr} (F : Fun K "_law_named_fields" "_law_named_fields" sNamed f fd) (A : Cls80 P w K mg base C) : FnOk P w K mg base CX0 3 f fd ["_law_one", "_law_two"] spF := by
  obtain ⟨f1, g1, A1⟩ := A.x1
  obtain ⟨f0, g0, A0⟩ := A.x0
  obtain ⟨f7, g7, A7⟩ := A.x7
  obtain ⟨f9, g9, A9⟩ := A.x9
  obtain ⟨f14, g14, A14⟩ := A.x14
  obtain ⟨f4, g4, A4⟩ := A.x4
  obtain ⟨f5, g5, A5⟩ := A.x5
  obtain ⟨f11, g11, A11⟩ := A.x11
  obtain ⟨f16, g16, A16⟩ := A.x16
  refine F.ok scNamed (fun vs H Q E h => ?_) (fun cdv A outer s H vs Q E hr h => ?_)
  · obtain ⟨x, y, rfl, _⟩ := h
    rfl
  · obtain ⟨x, y, rfl, k⟩ := h
    refine ⟨_, (pss_cons (ps_set (i := 2) scNamed.nd rfl (Or.inl rfl) (pe_lst (pa_cons (pe_xfield A1.xf (A1.no _ (by decide +kernel)) (pe_xk (ks := ["index"]) (g := fun z => z) (gV := fun z => z) A1.M A1.F hr (kb1 A1) (fun z => z) (by rfl) A1.g (pk_cons (pv 0) pk_nil))) (pa_cons (pe_xfield A0.xf (A0.no _ (by decide +kernel)) (pe_xk (ks := ["index"]) (g := fun z => z) (gV := fun z => z) A0.M A0.F hr (kb1 A0) (fun z => z) (by rfl) A0.g (pk_cons (pv 0) pk_nil))) (pa_cons (pe_xfield A7.xf (A7.no _ (by decide +kernel)) (pe_xk (ks := ["index"]) (g := fun z => z) (gV := fun z => z) A7.M A7.F hr (kb1 A7) (fun z => z) (by rfl) A7.g (pk_cons (pv 0) pk_nil))) (pa_cons (pe_xfield A9.xf (A9.no _ (by decide +kernel)) (pe_xk (ks := ["index"]) (g := fun z => z) (gV := fun z => z) A9.M A9.F hr (kb1 A9) (fun z => z) (by rfl) A9.g (pk_cons (pv 0) pk_nil))) pa_nil)))))) (pss_cons (ps_set (i := 2) scNamed.nd rfl (Or.inl rfl) (pe_op op_cat (pv 2) (pe_lst (pa_cons (pe_xfield A14.xf (A14.no _ (by decide +kernel)) (pe_xk (ks := ["name"]) (g := fun z => z) (gV := fun z => z) A14.M A14.F hr (kb1 A14) (fun z => z) (by rfl) A14.g (pk_cons (pv 0) pk_nil))) (pa_cons (pe_xfield A4.xf (A4.no _ (by decide +kernel)) (pe_xk (ks := ["why", "place"]) (g := List.reverse) (gV := List.reverse) A4.M A4.F hr (kb2 A4) vals_rev (by rfl) A4.g (pk_cons (pv 1) (pk_cons (pv 0) pk_nil)))) (pa_cons (pe_xfield A4.xf (A4.no _ (by decide +kernel)) (pe_xk (ks := ["why", "place"]) (g := List.reverse) (gV := List.reverse) A4.M A4.F hr (kb2 A4) vals_rev (by rfl) A4.g (pk_cons (pv 1) (pk_cons (pv 0) pk_nil)))) pa_nil)))))) (pss_cons (ps_set (i := 2) scNamed.nd rfl (Or.inl rfl) (pe_op op_cat (pv 2) (pe_lst (pa_cons (pe_xfield A5.xf (A5.no _ (by decide +kernel)) (pe_xk (ks := ["why", "place"]) (g := List.reverse) (gV := List.reverse) A5.M A5.F hr (kb2 A5) vals_rev (by rfl) A5.g (pk_cons (pv 1) (pk_cons (pv 0) pk_nil)))) (pa_cons (pe_xfield A5.xf (A5.no _ (by decide +kernel)) (pe_xk (ks := ["why", "place"]) (g := List.reverse) (gV := List.reverse) A5.M A5.F hr (kb2 A5) vals_rev (by rfl) A5.g (pk_cons (pv 1) (pk_cons (pv 0) pk_nil)))) pa_nil))))) (pss_one (ps_ret (pe_op op_cat (pv 2) (pe_lst (pa_cons (pe_xfield A11.xf (A11.no _ (by decide +kernel)) (pe_xk (ks := ["code", "index"]) (g := List.reverse) (gV := List.reverse) A11.M A11.F hr (kb2 A11) vals_rev (by rfl) A11.g (pk_cons (pv 1) (pk_cons (pv 0) pk_nil)))) (pa_cons (pe_xfield A11.xf (A11.no _ (by decide +kernel)) (pe_xk (ks := ["code", "index"]) (g := List.reverse) (gV := List.reverse) A11.M A11.F hr (kb2 A11) vals_rev (by rfl) A11.g (pk_cons (pv 1) (pk_cons (pv 0) pk_nil)))) (pa_cons (pe_xfield A16.xf (A16.no _ (by decide +kernel)) (pe_xk (ks := ["limit"]) (g := fun z => z) (gV := fun z => z) A16.M A16.F hr (kb1 A16) (fun z => z) (by rfl) A16.g (pk_cons (pv 0) pk_nil))) pa_nil)))))))))), ?_⟩
    have S : Same H H := Same.refl H
    refine ⟨_, rfl, rfl, fun a0 n0 => ⟨a0, _, rfl, rfl, upd_same, fun d0 H0 p0 q0 z0 => ⟨rfl, a0, d0, _, _, rfl, p0, q0, (by rw [lookup_put, if_pos rfl]), ?_⟩⟩⟩
    have s0 := sm n0 z0
    have S := S.trans s0
    refine ⟨_, rfl, rfl, fun a1 n1 => ⟨a1, _, rfl, rfl, upd_same, fun d1 H1 p1 q1 z1 => ⟨rfl, a1, d1, _, _, rfl, p1, q1, (by rw [lookup_put, if_pos rfl]), ?_⟩⟩⟩
    have s1 := sm n1 z1
    have S := S.trans s1
    refine ⟨_, rfl, rfl, fun a2 n2 => ⟨a2, _, rfl, rfl, upd_same, fun d2 H2 p2 q2 z2 => ⟨rfl, a2, d2, _, _, rfl, p2, q2, (by rw [lookup_put, if_pos rfl]), ?_⟩⟩⟩
    have s2 := sm n2 z2
    have S := S.trans s2
    refine ⟨_, rfl, rfl, fun a3 n3 => ⟨a3, _, rfl, rfl, upd_same, fun d3 H3 p3 q3 z3 => ⟨rfl, a3, d3, _, _, rfl, p3, q3, (by rw [lookup_put, if_pos rfl]), ?_⟩⟩⟩
    have s3 := sm n3 z3
    have S := S.trans s3
    refine ⟨(by show 4 ≤ sizeLine; decide), fun l0 m0 => ?_⟩
    have S := S.trans (same_new (o := .lst [x, x, x, x]) m0)
    have L0 := upd_same (H := H3) (a := l0) (o := .lst [x, x, x, x])
    refine ⟨_, rfl, _, rfl, rfl, fun a4 n4 => ⟨a4, _, rfl, rfl, upd_same, fun d4 H4 p4 q4 z4 => ⟨rfl, a4, d4, _, _, rfl, p4, q4, (by rw [lookup_put, if_pos rfl]), ?_⟩⟩⟩
    have s4 := sm n4 z4
    have S := S.trans s4
    have L0 := s4 _ _ L0
    refine ⟨_, rfl, _, rfl, rfl, fun a5 n5 => ⟨a5, _, rfl, rfl, upd_same, fun d5 H5 p5 q5 z5 => ⟨rfl, a5, d5, _, _, rfl, p5, q5, (by rw [lookup_put, if_neg (by decide +kernel), lookup_put, if_pos rfl]), ?_⟩⟩⟩
    have s5 := sm n5 z5
    have S := S.trans s5
    have L0 := s5 _ _ L0
    refine ⟨_, rfl, _, rfl, rfl, fun a6 n6 => ⟨a6, _, rfl, rfl, upd_same, fun d6 H6 p6 q6 z6 => ⟨rfl, a6, d6, _, _, rfl, p6, q6, (by rw [lookup_put, if_pos rfl]), ?_⟩⟩⟩
    have s6 := sm n6 z6
    have S := S.trans s6
    have L0 := s6 _ _ L0
    refine ⟨(by show 3 ≤ sizeLine; decide), fun l1 m1 => ?_⟩
    have S := S.trans (same_new (o := .lst [x, x, y]) m1)
    have L0 := (same_new (o := .lst [x, x, y]) m1) _ _ L0
    refine ⟨l0, l1, _, _, rfl, rfl, L0, upd_same, (by show 7 ≤ sizeLine; decide), fun c1 e1 => ?_⟩
    have fr := S.free e1
    have S := S.trans (same_new (o := .lst [x, x, x, x, x, x, y]) e1)
    have L0 := (same_new (o := .lst [x, x, x, x, x, x, y]) e1) _ _ L0
    have M1 := upd_same (H := (L2.upd H6 l1 (.lst [x, x, y]))) (a := c1) (o := .lst [x, x, x, x, x, x, y])
    refine ⟨_, rfl, _, rfl, _, rfl, rfl, fun a7 n7 => ⟨a7, _, rfl, rfl, upd_same, fun d7 H7 p7 q7 z7 => ⟨rfl, a7, d7, _, _, rfl, p7, q7, (by rw [lookup_put, if_neg (by decide +kernel), lookup_put, if_pos rfl]), ?_⟩⟩⟩
    have s7 := sm n7 z7
    have S := S.trans s7
    have M1 := s7 _ _ M1
    refine ⟨_, rfl, _, rfl, rfl, fun a8 n8 => ⟨a8, _, rfl, rfl, upd_same, fun d8 H8 p8 q8 z8 => ⟨rfl, a8, d8, _, _, rfl, p8, q8, (by rw [lookup_put, if_pos rfl]), ?_⟩⟩⟩
    have s8 := sm n8 z8
    have S := S.trans s8
    have M1 := s8 _ _ M1
    refine ⟨(by show 2 ≤ sizeLine; decide), fun l2 m2 => ?_⟩
    have S := S.trans (same_new (o := .lst [x, y]) m2)
    have M1 := (same_new (o := .lst [x, y]) m2) _ _ M1
    refine ⟨c1, l2, _, _, rfl, rfl, M1, upd_same, (by show 9 ≤ sizeLine; decide), fun c2 e2 => ?_⟩
    have fr := S.free e2
    have S := S.trans (same_new (o := .lst [x, x, x, x, x, x, y, x, y]) e2)
    have M1 := (same_new (o := .lst [x, x, x, x, x, x, y, x, y]) e2) _ _ M1
    have M2 := upd_same (H := (L2.upd H8 l2 (.lst [x, y]))) (a := c2) (o := .lst [x, x, x, x, x, x, y, x, y])
    refine ⟨_, rfl, _, rfl, _, rfl, rfl, fun a9 n9 => ⟨a9, _, rfl, rfl, upd_same, fun d9 H9 p9 q9 z9 => ⟨rfl, a9, d9, _, _, rfl, p9, q9, (by rw [lookup_put, if_neg (by decide +kernel), lookup_put, if_pos rfl]), ?_⟩⟩⟩
    have s9 := sm n9 z9
    have S := S.trans s9
    have M2 := s9 _ _ M2
    refine ⟨_, rfl, _, rfl, rfl, fun a10 n10 => ⟨a10, _, rfl, rfl, upd_same, fun d10 H10 p10 q10 z10 => ⟨rfl, a10, d10, _, _, rfl, p10, q10, (by rw [lookup_put, if_pos rfl]), ?_⟩⟩⟩
    have s10 := sm n10 z10
    have S := S.trans s10
    have M2 := s10 _ _ M2
    refine ⟨_, rfl, rfl, fun a11 n11 => ⟨a11, _, rfl, rfl, upd_same, fun d11 H11 p11 q11 z11 => ⟨rfl, a11, d11, _, _, rfl, p11, q11, (by rw [lookup_put, if_pos rfl]), ?_⟩⟩⟩
    have s11 := sm n11 z11
    have S := S.trans s11
    have M2 := s11 _ _ M2
    refine ⟨(by show 3 ≤ sizeLine; decide), fun l3 m3 => ?_⟩
    have S := S.trans (same_new (o := .lst [x, y, x]) m3)
    have M2 := (same_new (o := .lst [x, y, x]) m3) _ _ M2
    refine ⟨c2, l3, _, _, rfl, rfl, M2, upd_same, (by show 12 ≤ sizeLine; decide), fun c3 e3 => ?_⟩
    have fr := S.free e3
    have S := S.trans (same_new (o := .lst [x, x, x, x, x, x, y, x, y, x, y, x]) e3)
    have M2 := (same_new (o := .lst [x, x, x, x, x, x, y, x, y, x, y, x]) e3) _ _ M2
    exact k c3 _ fr S upd_same

theorem scKinds : FnScope ["_law_e", "_law_found"] ["_law_e"] (defScope sKinds) := ⟨rfl, rfl, rfl, by decide +kernel, rfl, by decide +kernel, by decide +kernel⟩
def bits (j : Nat) : List V := (List.range 18).map fun i => V.bl (decide (i = j))
def spK (C : Nat → Addr) : Sp := fun vs H Q _ => ∃ (a : Addr) (j : Nat), vs = [.ref a] ∧ j < 18 ∧ XAt H a (C j) ∧ ∀ (p : Addr) (H' : Hp), H p = none → Same H H' → H' p = some (.lst (bits j)) → Q (.ref p) H'
theorem okKinds {f : Addr} {fd : FuncData} {C : Nat → Addr} (F : Fun K "_law_kinds" "_law_kinds" sKinds f fd) (B : Bt mg) (A : Cls80 P w K mg base C) : FnOk P w K mg base CX0 1 f fd ["_law_e"] (spK C) := by
  have G0 : mg "BadCases" = some (.ref (C 0)) := by
    obtain ⟨_, _, z⟩ := A.x0
    exact z.g
  have G1 : mg "BadColumns" = some (.ref (C 1)) := by
    obtain ⟨_, _, z⟩ := A.x1
    exact z.g
  have G2 : mg "BadLevel" = some (.ref (C 2)) := A.x2.2.1
  have G3 : mg "BadLimit" = some (.ref (C 3)) := A.x3.2.1
  have G4 : mg "BadPart" = some (.ref (C 4)) := by
    obtain ⟨_, _, z⟩ := A.x4
    exact z.g
  have G5 : mg "BadPlan" = some (.ref (C 5)) := by
    obtain ⟨_, _, z⟩ := A.x5
    exact z.g
  have G6 : mg "BadSize" = some (.ref (C 6)) := A.x6.2.1
  have G7 : mg "BadTable" = some (.ref (C 7)) := by
    obtain ⟨_, _, z⟩ := A.x7
    exact z.g
  have G8 : mg "BadText" = some (.ref (C 8)) := A.x8.2.1
  have G9 : mg "BadWants" = some (.ref (C 9)) := by
    obtain ⟨_, _, z⟩ := A.x9
    exact z.g
  have G10 : mg "Ended" = some (.ref (C 10)) := A.x10.2.1
  have G11 : mg "Failed" = some (.ref (C 11)) := by
    obtain ⟨_, _, z⟩ := A.x11
    exact z.g
  have G12 : mg "NoFate" = some (.ref (C 12)) := A.x12.2.1
  have G13 : mg "NoPlace" = some (.ref (C 13)) := A.x13.2.1
  have G14 : mg "NoRow" = some (.ref (C 14)) := by
    obtain ⟨_, _, z⟩ := A.x14
    exact z.g
  have G15 : mg "NoTruth" = some (.ref (C 15)) := A.x15.2.1
  have G16 : mg "TooMany" = some (.ref (C 16)) := by
    obtain ⟨_, _, z⟩ := A.x16
    exact z.g
  have G17 : mg "Unlike" = some (.ref (C 17)) := A.x17.2.1
  refine F.ok scKinds (fun vs H Q E h => ?_) (fun cdv A' outer s H vs Q E hr h => ?_)
  · obtain ⟨a, j, rfl, _⟩ := h
    rfl
  · obtain ⟨a, j, rfl, hj, hx, k⟩ := h
    refine ⟨_, (pss_cons (ps_set (i := 1) scKinds.nd rfl (Or.inl rfl) (pe_lst (pa_cons (pe_callB call_isX (by rfl) B.isi (by decide +kernel) (pa_cons (pv 0) (pa_cons (pe_glob (v := .ref (C 0)) (by rfl) G0 rfl) pa_nil))) (pa_cons (pe_callB call_isX (by rfl) B.isi (by decide +kernel) (pa_cons (pv 0) (pa_cons (pe_glob (v := .ref (C 1)) (by rfl) G1 rfl) pa_nil))) (pa_cons (pe_callB call_isX (by rfl) B.isi (by decide +kernel) (pa_cons (pv 0) (pa_cons (pe_glob (v := .ref (C 2)) (by rfl) G2 rfl) pa_nil))) (pa_cons (pe_callB call_isX (by rfl) B.isi (by decide +kernel) (pa_cons (pv 0) (pa_cons (pe_glob (v := .ref (C 3)) (by rfl) G3 rfl) pa_nil))) pa_nil)))))) (pss_cons (ps_set (i := 1) scKinds.nd rfl (Or.inl rfl) (pe_op op_cat (pv 1) (pe_lst (pa_cons (pe_callB call_isX (by rfl) B.isi (by decide +kernel) (pa_cons (pv 0) (pa_cons (pe_glob (v := .ref (C 4)) (by rfl) G4 rfl) pa_nil))) (pa_cons (pe_callB call_isX (by rfl) B.isi (by decide +kernel) (pa_cons (pv 0) (pa_cons (pe_glob (v := .ref (C 5)) (by rfl) G5 rfl) pa_nil))) (pa_cons (pe_callB call_isX (by rfl) B.isi (by decide +kernel) (pa_cons (pv 0) (pa_cons (pe_glob (v := .ref (C 6)) (by rfl) G6 rfl) pa_nil))) (pa_cons (pe_callB call_isX (by rfl) B.isi (by decide +kernel) (pa_cons (pv 0) (pa_cons (pe_glob (v := .ref (C 7)) (by rfl) G7 rfl) pa_nil))) pa_nil))))))) (pss_cons (ps_set (i := 1) scKinds.nd rfl (Or.inl rfl) (pe_op op_cat (pv 1) (pe_lst (pa_cons (pe_callB call_isX (by rfl) B.isi (by decide +kernel) (pa_cons (pv 0) (pa_cons (pe_glob (v := .ref (C 8)) (by rfl) G8 rfl) pa_nil))) (pa_cons (pe_callB call_isX (by rfl) B.isi (by decide +kernel) (pa_cons (pv 0) (pa_cons (pe_glob (v := .ref (C 9)) (by rfl) G9 rfl) pa_nil))) (pa_cons (pe_callB call_isX (by rfl) B.isi (by decide +kernel) (pa_cons (pv 0) (pa_cons (pe_glob (v := .ref (C 10)) (by rfl) G10 rfl) pa_nil))) (pa_cons (pe_callB call_isX (by rfl) B.isi (by decide +kernel) (pa_cons (pv 0) (pa_cons (pe_glob (v := .ref (C 11)) (by rfl) G11 rfl) pa_nil))) pa_nil))))))) (pss_cons (ps_set (i := 1) scKinds.nd rfl (Or.inl rfl) (pe_op op_cat (pv 1) (pe_lst (pa_cons (pe_callB call_isX (by rfl) B.isi (by decide +kernel) (pa_cons (pv 0) (pa_cons (pe_glob (v := .ref (C 12)) (by rfl) G12 rfl) pa_nil))) (pa_cons (pe_callB call_isX (by rfl) B.isi (by decide +kernel) (pa_cons (pv 0) (pa_cons (pe_glob (v := .ref (C 13)) (by rfl) G13 rfl) pa_nil))) (pa_cons (pe_callB call_isX (by rfl) B.isi (by decide +kernel) (pa_cons (pv 0) (pa_cons (pe_glob (v := .ref (C 14)) (by rfl) G14 rfl) pa_nil))) (pa_cons (pe_callB call_isX (by rfl) B.isi (by decide +kernel) (pa_cons (pv 0) (pa_cons (pe_glob (v := .ref (C 15)) (by rfl) G15 rfl) pa_nil))) pa_nil))))))) (pss_one (ps_ret (pe_op op_cat (pv 1) (pe_lst (pa_cons (pe_callB call_isX (by rfl) B.isi (by decide +kernel) (pa_cons (pv 0) (pa_cons (pe_glob (v := .ref (C 16)) (by rfl) G16 rfl) pa_nil))) (pa_cons (pe_callB call_isX (by rfl) B.isi (by decide +kernel) (pa_cons (pv 0) (pa_cons (pe_glob (v := .ref (C 17)) (by rfl) G17 rfl) pa_nil))) pa_nil)))))))))), ?_⟩
    have S : Same H H := Same.refl H
    refine ⟨_, rfl, a, C j, _, _, decide (0 = j), rfl, hx.same S, A.e j hj, .own _, A.k 0 j (by decide) hj, ?_⟩
    refine ⟨_, rfl, a, C j, _, _, decide (1 = j), rfl, hx.same S, A.e j hj, .own _, A.k 1 j (by decide) hj, ?_⟩
    refine ⟨_, rfl, a, C j, _, _, decide (2 = j), rfl, hx.same S, A.e j hj, .own _, A.k 2 j (by decide) hj, ?_⟩
    refine ⟨_, rfl, a, C j, _, _, decide (3 = j), rfl, hx.same S, A.e j hj, .own _, A.k 3 j (by decide) hj, ?_⟩
    refine ⟨(by show 4 ≤ sizeLine; decide), fun l0 m0 => ?_⟩
    have L0 := upd_same (H := H) (a := l0) (o := .lst [V.bl (decide (0 = j)), V.bl (decide (1 = j)), V.bl (decide (2 = j)), V.bl (decide (3 = j))])
    have S := S.trans (same_new (o := .lst [V.bl (decide (0 = j)), V.bl (decide (1 = j)), V.bl (decide (2 = j)), V.bl (decide (3 = j))]) m0)
    refine ⟨_, rfl, _, rfl, a, C j, _, _, decide (4 = j), rfl, hx.same S, A.e j hj, .own _, A.k 4 j (by decide) hj, ?_⟩
    refine ⟨_, rfl, a, C j, _, _, decide (5 = j), rfl, hx.same S, A.e j hj, .own _, A.k 5 j (by decide) hj, ?_⟩
    refine ⟨_, rfl, a, C j, _, _, decide (6 = j), rfl, hx.same S, A.e j hj, .own _, A.k 6 j (by decide) hj, ?_⟩
    refine ⟨_, rfl, a, C j, _, _, decide (7 = j), rfl, hx.same S, A.e j hj, .own _, A.k 7 j (by decide) hj, ?_⟩
    refine ⟨(by show 4 ≤ sizeLine; decide), fun l1 m1 => ?_⟩
    have L0 := same_new (o := .lst [V.bl (decide (4 = j)), V.bl (decide (5 = j)), V.bl (decide (6 = j)), V.bl (decide (7 = j))]) m1 _ _ L0
    refine ⟨l0, l1, _, _, rfl, rfl, L0, upd_same, (by show 8 ≤ sizeLine; decide), fun c1 e1 => ?_⟩
    have S := S.trans (same_new (o := .lst [V.bl (decide (4 = j)), V.bl (decide (5 = j)), V.bl (decide (6 = j)), V.bl (decide (7 = j))]) m1)
    have fr := S.free e1
    have S := S.trans (same_new (o := .lst [V.bl (decide (0 = j)), V.bl (decide (1 = j)), V.bl (decide (2 = j)), V.bl (decide (3 = j)), V.bl (decide (4 = j)), V.bl (decide (5 = j)), V.bl (decide (6 = j)), V.bl (decide (7 = j))]) e1)
    have M1 := upd_same (H := (L2.upd (L2.upd H l0 (.lst [V.bl (decide (0 = j)), V.bl (decide (1 = j)), V.bl (decide (2 = j)), V.bl (decide (3 = j))])) l1 (.lst [V.bl (decide (4 = j)), V.bl (decide (5 = j)), V.bl (decide (6 = j)), V.bl (decide (7 = j))]))) (a := c1) (o := .lst [V.bl (decide (0 = j)), V.bl (decide (1 = j)), V.bl (decide (2 = j)), V.bl (decide (3 = j)), V.bl (decide (4 = j)), V.bl (decide (5 = j)), V.bl (decide (6 = j)), V.bl (decide (7 = j))])
    refine ⟨_, rfl, _, rfl, a, C j, _, _, decide (8 = j), rfl, hx.same S, A.e j hj, .own _, A.k 8 j (by decide) hj, ?_⟩
    refine ⟨_, rfl, a, C j, _, _, decide (9 = j), rfl, hx.same S, A.e j hj, .own _, A.k 9 j (by decide) hj, ?_⟩
    refine ⟨_, rfl, a, C j, _, _, decide (10 = j), rfl, hx.same S, A.e j hj, .own _, A.k 10 j (by decide) hj, ?_⟩
    refine ⟨_, rfl, a, C j, _, _, decide (11 = j), rfl, hx.same S, A.e j hj, .own _, A.k 11 j (by decide) hj, ?_⟩
    refine ⟨(by show 4 ≤ sizeLine; decide), fun l2 m2 => ?_⟩
    have M1 := same_new (o := .lst [V.bl (decide (8 = j)), V.bl (decide (9 = j)), V.bl (decide (10 = j)), V.bl (decide (11 = j))]) m2 _ _ M1
    refine ⟨c1, l2, _, _, rfl, rfl, M1, upd_same, (by show 12 ≤ sizeLine; decide), fun c2 e2 => ?_⟩
    have S := S.trans (same_new (o := .lst [V.bl (decide (8 = j)), V.bl (decide (9 = j)), V.bl (decide (10 = j)), V.bl (decide (11 = j))]) m2)
    have fr := S.free e2
    have S := S.trans (same_new (o := .lst [V.bl (decide (0 = j)), V.bl (decide (1 = j)), V.bl (decide (2 = j)), V.bl (decide (3 = j)), V.bl (decide (4 = j)), V.bl (decide (5 = j)), V.bl (decide (6 = j)), V.bl (decide (7 = j)), V.bl (decide (8 = j)), V.bl (decide (9 = j)), V.bl (decide (10 = j)), V.bl (decide (11 = j))]) e2)
    have M2 := upd_same (H := (L2.upd (L2.upd (L2.upd (L2.upd H l0 (.lst [V.bl (decide (0 = j)), V.bl (decide (1 = j)), V.bl (decide (2 = j)), V.bl (decide (3 = j))])) l1 (.lst [V.bl (decide (4 = j)), V.bl (decide (5 = j)), V.bl (decide (6 = j)), V.bl (decide (7 = j))])) c1 (.lst [V.bl (decide (0 = j)), V.bl (decide (1 = j)), V.bl (decide (2 = j)), V.bl (decide (3 = j)), V.bl (decide (4 = j)), V.bl (decide (5 = j)), V.bl (decide (6 = j)), V.bl (decide (7 = j))])) l2 (.lst [V.bl (decide (8 = j)), V.bl (decide (9 = j)), V.bl (decide (10 = j)), V.bl (decide (11 = j))]))) (a := c2) (o := .lst [V.bl (decide (0 = j)), V.bl (decide (1 = j)), V.bl (decide (2 = j)), V.bl (decide (3 = j)), V.bl (decide (4 = j)), V.bl (decide (5 = j)), V.bl (decide (6 = j)), V.bl (decide (7 = j)), V.bl (decide (8 = j)), V.bl (decide (9 = j)), V.bl (decide (10 = j)), V.bl (decide (11 = j))])
    refine ⟨_, rfl, _, rfl, a, C j, _, _, decide (12 = j), rfl, hx.same S, A.e j hj, .own _, A.k 12 j (by decide) hj, ?_⟩
    refine ⟨_, rfl, a, C j, _, _, decide (13 = j), rfl, hx.same S, A.e j hj, .own _, A.k 13 j (by decide) hj, ?_⟩
    refine ⟨_, rfl, a, C j, _, _, decide (14 = j), rfl, hx.same S, A.e j hj, .own _, A.k 14 j (by decide) hj, ?_⟩
    refine ⟨_, rfl, a, C j, _, _, decide (15 = j), rfl, hx.same S, A.e j hj, .own _, A.k 15 j (by decide) hj, ?_⟩
    refine ⟨(by show 4 ≤ sizeLine; decide), fun l3 m3 => ?_⟩
    have M2 := same_new (o := .lst [V.bl (decide (12 = j)), V.bl (decide (13 = j)), V.bl (decide (14 = j)), V.bl (decide (15 = j))]) m3 _ _ M2
    refine ⟨c2, l3, _, _, rfl, rfl, M2, upd_same, (by show 16 ≤ sizeLine; decide), fun c3 e3 => ?_⟩
    have S := S.trans (same_new (o := .lst [V.bl (decide (12 = j)), V.bl (decide (13 = j)), V.bl (decide (14 = j)), V.bl (decide (15 = j))]) m3)
    have fr := S.free e3
    have S := S.trans (same_new (o := .lst [V.bl (decide (0 = j)), V.bl (decide (1 = j)), V.bl (decide (2 = j)), V.bl (decide (3 = j)), V.bl (decide (4 = j)), V.bl (decide (5 = j)), V.bl (decide (6 = j)), V.bl (decide (7 = j)), V.bl (decide (8 = j)), V.bl (decide (9 = j)), V.bl (decide (10 = j)), V.bl (decide (11 = j)), V.bl (decide (12 = j)), V.bl (decide (13 = j)), V.bl (decide (14 = j)), V.bl (decide (15 = j))]) e3)
    have M3 := upd_same (H := (L2.upd (L2.upd (L2.upd (L2.upd (L2.upd (L2.upd H l0 (.lst [V.bl (decide (0 = j)), V.bl (decide (1 = j)), V.bl (decide (2 = j)), V.bl (decide (3 = j))])) l1 (.lst [V.bl (decide (4 = j)), V.bl (decide (5 = j)), V.bl (decide (6 = j)), V.bl (decide (7 = j))])) c1 (.lst [V.bl (decide (0 = j)), V.bl (decide (1 = j)), V.bl (decide (2 = j)), V.bl (decide (3 = j)), V.bl (decide (4 = j)), V.bl (decide (5 = j)), V.bl (decide (6 = j)), V.bl (decide (7 = j))])) l2 (.lst [V.bl (decide (8 = j)), V.bl (decide (9 = j)), V.bl (decide (10 = j)), V.bl (decide (11 = j))])) c2 (.lst [V.bl (decide (0 = j)), V.bl (decide (1 = j)), V.bl (decide (2 = j)), V.bl (decide (3 = j)), V.bl (decide (4 = j)), V.bl (decide (5 = j)), V.bl (decide (6 = j)), V.bl (decide (7 = j)), V.bl (decide (8 = j)), V.bl (decide (9 = j)), V.bl (decide (10 = j)), V.bl (decide (11 = j))])) l3 (.lst [V.bl (decide (12 = j)), V.bl (decide (13 = j)), V.bl (decide (14 = j)), V.bl (decide (15 = j))]))) (a := c3) (o := .lst [V.bl (decide (0 = j)), V.bl (decide (1 = j)), V.bl (decide (2 = j)), V.bl (decide (3 = j)), V.bl (decide (4 = j)), V.bl (decide (5 = j)), V.bl (decide (6 = j)), V.bl (decide (7 = j)), V.bl (decide (8 = j)), V.bl (decide (9 = j)), V.bl (decide (10 = j)), V.bl (decide (11 = j)), V.bl (decide (12 = j)), V.bl (decide (13 = j)), V.bl (decide (14 = j)), V.bl (decide (15 = j))])
    refine ⟨_, rfl, _, rfl, a, C j, _, _, decide (16 = j), rfl, hx.same S, A.e j hj, .own _, A.k 16 j (by decide) hj, ?_⟩
    refine ⟨_, rfl, a, C j, _, _, decide (17 = j), rfl, hx.same S, A.e j hj, .own _, A.k 17 j (by decide) hj, ?_⟩
    refine ⟨(by show 2 ≤ sizeLine; decide), fun l4 m4 => ?_⟩
    have M3 := same_new (o := .lst [V.bl (decide (16 = j)), V.bl (decide (17 = j))]) m4 _ _ M3
    refine ⟨c3, l4, _, _, rfl, rfl, M3, upd_same, (by show 18 ≤ sizeLine; decide), fun c4 e4 => ?_⟩
    have S := S.trans (same_new (o := .lst [V.bl (decide (16 = j)), V.bl (decide (17 = j))]) m4)
    have fr := S.free e4
    have S := S.trans (same_new (o := .lst [V.bl (decide (0 = j)), V.bl (decide (1 = j)), V.bl (decide (2 = j)), V.bl (decide (3 = j)), V.bl (decide (4 = j)), V.bl (decide (5 = j)), V.bl (decide (6 = j)), V.bl (decide (7 = j)), V.bl (decide (8 = j)), V.bl (decide (9 = j)), V.bl (decide (10 = j)), V.bl (decide (11 = j)), V.bl (decide (12 = j)), V.bl (decide (13 = j)), V.bl (decide (14 = j)), V.bl (decide (15 = j)), V.bl (decide (16 = j)), V.bl (decide (17 = j))]) e4)
    exact k c4 _ fr S upd_same

end
end L80
namespace L80
open PySem PySem.Spec PyProof.Rows L2 Lw Xv Lh
/-- the items of a list are exceptions of the classes from C off on -/
def AX (C : Nat → Addr) (H : Hp) (off : Nat) (xs : List V) : Prop := ∀ (j : Nat) (v : V), xs[j]? = some v → ∃ a, v = .ref a ∧ XAt H a (C (off + j))
theorem AX.nil {C : Nat → Addr} {H : Hp} {off : Nat} : AX C H off [] := fun j v h => by simp at h
theorem AX.same {C : Nat → Addr} {H H' : Hp} {off : Nat} {xs : List V} (h : AX C H off xs) (s : Same H H') : AX C H' off xs := fun j v e => by
  obtain ⟨a, e1, x⟩ := h j v e
  exact ⟨a, e1, x.same s⟩
theorem AX.app {C : Nat → Addr} {H : Hp} {off off' : Nat} {xs ys : List V} (h : AX C H off xs) (h' : AX C H off' ys) (e : off' = off + xs.length) : AX C H off (xs ++ ys) := fun j v q => by
  by_cases z : j < xs.length
  · rw [List.getElem?_append_left z] at q
    exact h j v q
  · rw [List.getElem?_append_right (by omega)] at q
    obtain ⟨a, e1, x⟩ := h' _ v q
    refine ⟨a, e1, ?_⟩
    rw [show off + j = off' + (j - xs.length) by omega]
    exact x
theorem AX.one {C : Nat → Addr} {H : Hp} {off : Nat} {a : Addr} (x : XAt H a (C off)) : AX C H off [.ref a] := fun j v q => by
  match j, q with
  | 0, q =>
    obtain rfl : V.ref a = v := Option.some.inj q
    exact ⟨a, rfl, x⟩
  | j + 1, q => simp at q
theorem AX.snoc {C : Nat → Addr} {H : Hp} {off : Nat} {xs : List V} {a : Addr} (h : AX C H off xs) (x : XAt H a (C (off + xs.length))) : AX C H off (xs ++ [.ref a]) := h.app (AX.one x) rfl
/-- a drawn value: an atom, or a new tuple or list of one number -/
def Gd (H : Hp) (p l : Addr) (x : V) : Prop := Atom x ∨ ∃ (b : Addr) (d : Int), x = .ref b ∧ b ≠ p ∧ b ≠ l ∧ (H b = some (.tup [.int d]) ∨ H b = some (.lst [.int d]))
theorem Gd.keep {H H' : Hp} {p l : Addr} {x : V} (h : Gd H p l x) (k : ∀ b o, H b = some o → b ≠ p → b ≠ l → H' b = some o) : Gd H' p l x := by
  rcases h with h | ⟨b, d, e, n1, n2, z | z⟩
  · exact .inl h
  · exact .inr ⟨b, d, e, n1, n2, .inl (k _ _ z n1 n2)⟩
  · exact .inr ⟨b, d, e, n1, n2, .inr (k _ _ z n1 n2)⟩
theorem Gd.eqv {H : Hp} {p l : Addr} {x : V} (h : Gd H p l x) : Eqv H 1 x x := by
  rcases h with h | ⟨b, d, e, n1, n2, z⟩
  · exact .inl ⟨rfl, h⟩
  · refine .inr ⟨b, b, [.int d], [.int d], e, e, ?_, rfl, (by show 1 ≤ 1000; decide), fun i u v hu hv => ?_⟩
    · rcases z with z | z
      · exact .inr ⟨z, z⟩
      · exact .inl ⟨z, z⟩
    · rw [hu] at hv
      obtain rfl := Option.some.inj hv
      have hm := List.mem_of_getElem? hu
      rw [List.mem_singleton] at hm
      rw [hm]
      exact ⟨rfl, trivial⟩
def pyd (j : Nat) : PyData := .list ((List.range 18).map fun i => .bool (decide (i = j)))
theorem pyd_shaped : ∀ j, j < 18 → SeqAt.shaped (pyd j) = true := by decide +kernel
theorem pyd_eq : ∀ j, j < 18 → PyData.eqv (pyd j) (pyd j) = true := by decide +kernel
theorem dp_bits {K : PySem.W.Frag} {H : Hp} (f : Nat → Bool) : ∀ l : List Nat, DpAll K H (l.map fun i => V.bl (f i)) (l.map fun i => PyData.bool (f i))
  | [] => .nil
  | a :: r => .cons (.bl _) (dp_bits f r)
section
variable {P : Program} {w : World} {K : PySem.W.Frag} {mg : Str → Option Value} {base : Heap}

theorem scLaw : FnScope ["_law_script", "_law_hand_here", "_law_values", "_law_turn", "_law_drawn", "_law_one", "_law_two", "_law_due", "_law_made", "_law_at", "_law_k"] ["_law_script"] (defScope sLaw) := ⟨rfl, rfl, rfl, by decide +kernel, rfl, by decide +kernel, by decide +kernel⟩
theorem okLaw {f fH fM fD fS fK fF fN CB : Addr} {fd fdH fdM fdD fdS fdK fdF fdN : FuncData} {C : Nat → Addr} (F : Fun K "law" "law" sLaw f fd) (B : Bt mg) (A : Cls80 P w K mg base C)
    (FH : Fun K "_law_hand" "_law_hand" sHand fH fdH) (bH : Binds K fdH ["_law_script"] []) (mH : mg "_law_hand" = some (.ref fH)) (FM : Fun K "_law_mixed" "_law_mixed" sMixed fM fdM) (bM : Binds K fdM ["_law_number", "_law_count"] []) (mM : mg "_law_mixed" = some (.ref fM))
    (FD : Fun K "_law_draw" "_law_draw" sDraw fD fdD) (bD : Binds K fdD ["_law_hand_here", "_law_many"] []) (mD : mg "_law_draw" = some (.ref fD)) (FS : Fun K "_law_same" "_law_same" sSame fS fdS) (bS : Binds K fdS ["_law_actual", "_law_expected"] []) (mS : mg "_law_same" = some (.ref fS))
    (FK : Fun K "_law_kinds" "_law_kinds" sKinds fK fdK) (bK : Binds K fdK ["_law_e"] []) (mK : mg "_law_kinds" = some (.ref fK)) (FF : Fun K "_law_fields" "_law_fields" sFields fF fdF) (bF : Binds K fdF ["_law_one", "_law_two"] []) (mF : mg "_law_fields" = some (.ref fF))
    (FN : Fun K "_law_named_fields" "_law_named_fields" sNamed fN fdN) (bN : Binds K fdN ["_law_one", "_law_two"] []) (mN : mg "_law_named_fields" = some (.ref fN))
    (mB : mg "BatchError" = some (.ref CB)) (mV : mg "ValueError" = none) (kB : ∀ j, j < 18 → PySem.W.kitOne K (.ref (C j)) (.ref CB) = some true) (kV : ∀ j, j < 18 → PySem.W.kitOne K (.ref (C j)) (.type "ValueError") = some true) :
    FnOk P w K mg base CX0 4 f fd ["_law_script"] (spLaw K) := by
  have GH : FnOk P w K mg base CX0 1 fH fdH ["_law_script"] (spHand K) := ok_hand FH B
  have GD : FnOk P w K mg base CX0 2 fD fdD ["_law_hand_here", "_law_many"] spDraw := ok_draw FD B FM bM mM
  have GS : FnOk P w K mg base CX0 3 fS fdS ["_law_actual", "_law_expected"] (spSame 2) := ok_same FS B bS mS 2
  have GK : FnOk P w K mg base CX0 1 fK fdK ["_law_e"] (spK C) := okKinds FK B A
  have GF : FnOk P w K mg base CX0 3 fF fdF ["_law_one", "_law_two"] spF := okFields FF A
  have GN : FnOk P w K mg base CX0 3 fN fdN ["_law_one", "_law_two"] spF := okNamed FN A
  have E := A.e
  obtain ⟨f0, g0, A0⟩ := A.x0
  obtain ⟨f1, g1, A1⟩ := A.x1
  have A2 := A.x2
  have A3 := A.x3
  obtain ⟨f4, g4, A4⟩ := A.x4
  obtain ⟨f5, g5, A5⟩ := A.x5
  have A6 := A.x6
  obtain ⟨f7, g7, A7⟩ := A.x7
  have A8 := A.x8
  obtain ⟨f9, g9, A9⟩ := A.x9
  have A10 := A.x10
  obtain ⟨f11, g11, A11⟩ := A.x11
  have A12 := A.x12
  have A13 := A.x13
  obtain ⟨f14, g14, A14⟩ := A.x14
  have A15 := A.x15
  obtain ⟨f16, g16, A16⟩ := A.x16
  have A17 := A.x17
  refine F.ok scLaw (fun vs H Q E h => ?_) (fun cdv A' outer s H vs Q E' hr h => ?_)
  · obtain ⟨a, ns, rfl, _⟩ := h
    rfl
  · obtain ⟨a, ns, rfl, hS, hlen, k⟩ := h
    have hr1 : Room 1 _ := hr.mono (by decide)
    have hr2 : Room 2 _ := hr.mono (by decide)
    have hu : (A'.deeper (envOfC "law" (defScope sLaw) s.heap.objs.size f cdv)).units + 64 < cLine := by
      have z := hr.un
      omega
    refine ⟨_, (pss_cons (ps_set (i := 1) scLaw.nd rfl (Or.inl rfl) (pe_call GH hr1 rfl mH FH.kp bH .nil pass0 (pa_cons (pv 0) pa_nil)))
      (pss_cons (ps_set (i := 2) scLaw.nd rfl (Or.inl rfl) (pe_lst pa_nil))
      (pss_cons (ps_for PassesOwn.never rfl (pi_range1 rfl B.range (pa_cons pe_int pa_nil)) (pg_name (i := 3) scLaw.nd rfl (Or.inl rfl)) (pss_cons (ps_set (i := 4) scLaw.nd rfl (Or.inl rfl) (pe_call GD hr2 rfl mD FD.kp bD .nil pass0 (pa_cons (pv 1) (pa_cons (pe_op op_pow pe_int pe_int) pa_nil)))) (pss_one (ps_expr (pe_bm PySem.F.plainAttrs_list PySem.F.slot_list_append PySem.F.type_list_append mt_append (pv 2) (pa_cons (pe_ix ix_list (pe_lst (pa_cons (pv 4) (pa_cons (pe_op op_sub pe_int (pv 4)) (pa_cons (pe_callTy call_str_int (by rfl) B.str (by decide +kernel) (pa_cons (pv 4) pa_nil)) (pa_cons (pe_tup (pa_cons (pv 4) pa_nil)) (pa_cons pe_non (pa_cons (pe_lst (pa_cons (pv 4) pa_nil)) pa_nil))))))) (pe_call GD hr2 rfl mD FD.kp bD .nil pass0 (pa_cons (pv 1) (pa_cons pe_int pa_nil))) (fun _ _ => rfl)) pa_nil))))))
      (pss_cons (ps_set (i := 5) scLaw.nd rfl (Or.inl rfl) (pe_ix ix_list (pv 2) pe_int (fun _ _ => rfl)))
      (pss_cons (ps_set (i := 6) scLaw.nd rfl (Or.inl rfl) (pe_ix ix_list (pv 2) pe_int (fun _ _ => rfl)))
      (pss_cons (ps_set (i := 7) scLaw.nd rfl (Or.inl rfl) (pe_lst (pa_cons (pv 5) (pa_cons (pv 5) (pa_cons (pv 5) (pa_cons (pv 5) (pa_cons (pv 5) (pa_cons (pv 5) (pa_cons (pv 6) (pa_cons (pv 5) (pa_cons (pv 6) (pa_cons (pv 5) (pa_cons (pv 6) (pa_cons (pv 5) pa_nil))))))))))))))
      (pss_cons (ps_if (pw_or (pt_not (pt_val (pe_call GS hr (by rfl) mS FS.kp bS .nil pass0 (pa_cons (pe_call GF hr (by rfl) mF FF.kp bF .nil pass0 (pa_cons (pv 5) (pa_cons (pv 6) pa_nil))) (pa_cons (pv 7) pa_nil))))) (pw_or1 (pt_not (pt_val (pe_call GS hr (by rfl) mS FS.kp bS .nil pass0 (pa_cons (pe_call GN hr (by rfl) mN FN.kp bN .nil pass0 (pa_cons (pv 5) (pa_cons (pv 6) pa_nil))) (pa_cons (pv 7) pa_nil))))))).pt pss_never pss_nil)
      (pss_cons (ps_set (i := 8) scLaw.nd rfl (Or.inl rfl) (pe_lst (pa_cons (pe_x A0.M A0.F hr2 A0.b (by rfl) A0.g (pa_cons (pv 5) pa_nil)) (pa_cons (pe_x A1.M A1.F hr2 A1.b (by rfl) A1.g (pa_cons (pv 5) pa_nil)) (pa_cons (pe_x0 PySem.F.excBase_ValueError A2.1 A2.2.1 A2.2.2 (by rfl)) (pa_cons (pe_x0 PySem.F.excBase_ValueError A3.1 A3.2.1 A3.2.2 (by rfl)) (pa_cons (pe_x A4.M A4.F hr2 A4.b (by rfl) A4.g (pa_cons (pv 5) (pa_cons (pv 6) pa_nil))) (pa_cons (pe_x A5.M A5.F hr2 A5.b (by rfl) A5.g (pa_cons (pv 5) (pa_cons (pv 6) pa_nil))) (pa_cons (pe_x0 PySem.F.excBase_ValueError A6.1 A6.2.1 A6.2.2 (by rfl)) pa_nil)))))))))
      (pss_cons (ps_set (i := 8) scLaw.nd rfl (Or.inl rfl) (pe_op op_cat (pv 8) (pe_lst (pa_cons (pe_x A7.M A7.F hr2 A7.b (by rfl) A7.g (pa_cons (pv 5) pa_nil)) (pa_cons (pe_x0 PySem.F.excBase_ValueError A8.1 A8.2.1 A8.2.2 (by rfl)) (pa_cons (pe_x A9.M A9.F hr2 A9.b (by rfl) A9.g (pa_cons (pv 5) pa_nil)) (pa_cons (pe_x0 PySem.F.excBase_ValueError A10.1 A10.2.1 A10.2.2 (by rfl)) (pa_cons (pe_x A11.M A11.F hr2 A11.b (by rfl) A11.g (pa_cons (pv 5) (pa_cons (pv 6) pa_nil))) (pa_cons (pe_x0 PySem.F.excBase_ValueError A12.1 A12.2.1 A12.2.2 (by rfl)) (pa_cons (pe_x0 PySem.F.excBase_ValueError A13.1 A13.2.1 A13.2.2 (by rfl)) (pa_cons (pe_x A14.M A14.F hr2 A14.b (by rfl) A14.g (pa_cons (pv 5) pa_nil)) pa_nil)))))))))))
      (pss_cons (ps_set (i := 8) scLaw.nd rfl (Or.inl rfl) (pe_op op_cat (pv 8) (pe_lst (pa_cons (pe_x0 PySem.F.excBase_ValueError A15.1 A15.2.1 A15.2.2 (by rfl)) (pa_cons (pe_x A16.M A16.F hr2 A16.b (by rfl) A16.g (pa_cons (pv 5) pa_nil)) (pa_cons (pe_x0 PySem.F.excBase_ValueError A17.1 A17.2.1 A17.2.2 (by rfl)) pa_nil))))))
      (pss_cons (ps_for PassesOwn.never rfl (pi_range1 rfl B.range (pa_cons (pe_callB call_len_seq (by rfl) B.len PySem.boot_len (pa_cons (pv 8) pa_nil)) pa_nil)) (pg_name (i := 9) scLaw.nd rfl (Or.inr rfl)) (pss_cons (ps_if (pt_cmpR (op_neD hu) (pe_call GK hr1 rfl mK FK.kp bK .nil pass0 (pa_cons (pe_ix ix_list (pv 8) (pv 9) (fun _ _ => rfl)) pa_nil)) (pe_lc (own := [("_law_k", 10)]) (g := gName 10) (tt := tYes) (by rfl) scLaw.nd (pi_range1 rfl B.range (pa_cons (pe_callB call_len_seq (by rfl) B.len PySem.boot_len (pa_cons (pv 8) pa_nil)) pa_nil)) (blkOk_by (own := [("_law_k", 10)]) (N := ["_law_script", "_law_hand_here", "_law_values", "_law_turn", "_law_drawn", "_law_one", "_law_two", "_law_due", "_law_made", "_law_at", "_law_k"]) (sc := defScope sLaw) (by decide +kernel)) (fun _ _ _ _ _ => pg_name (i := 10) scLaw.nd rfl (Or.inl rfl)) (fun _ _ _ _ _ => pts_nil) (fun _ _ _ _ _ => pe_cmpR (r := rEq) op_eq (pv 10) (pv 9) (nomark _))) (nomark _)) pss_never pss_nil) (pss_one (ps_if (pw_or (pt_not (pt_val (pe_callB call_isX (by rfl) B.isi (by decide +kernel) (pa_cons (pe_ix ix_list (pv 8) (pv 9) (fun _ _ => rfl)) (pa_cons (pe_glob (v := .ref CB) (by rfl) mB rfl) pa_nil))))) (pw_or1 (pt_not (pt_val (pe_callB call_isX (by rfl) B.isi (by decide +kernel) (pa_cons (pe_ix ix_list (pv 8) (pv 9) (fun _ _ => rfl)) (pa_cons (pe_bltn (v := .ty "ValueError") (by rfl) mV (by decide +kernel) rfl) pa_nil))))))).pt pss_never pss_nil))))
      (pss_one (ps_ret pe_bl))))))))))))), ?_⟩
    -- hand = _law_hand(script); values = []
    refine ⟨_, rfl, a, ns, rfl, hS, hlen, fun p q H0 np nq hA s0 => ⟨Nat.zero_le _, fun l nl => ?_⟩⟩
    have npl := hA.np nl
    have hA1 := hA.upd (o := .lst []) npl.1 npl.2
    -- for turn in range(2)
    refine ⟨2, rfl, (by decide), (by decide), for_range (lo := 0) (n := 2) (fun i σ H2 => ∃ (xs : List V) (v3 v4 : Option V), σ = [some (.ref a), some (.ref p), some (.ref l), v3, v4, none, none, none, none, none, none] ∧ HandAt H2 p q ∧ H2 l = some (.lst xs) ∧ xs.length = i ∧ ∀ x ∈ xs, Gd H2 p l x)
      ⟨[], none, none, rfl, hA1, upd_same, rfl, fun x hx => by cases hx⟩ ?_ ?_⟩
    · rintro i σ H2 hi ⟨xs, v3, v4, rfl, hB, hl, hn, hg⟩
      refine ⟨_, rfl, _, _, rfl, rfl, ⟨by decide, by decide, by decide⟩, p, q, _, rfl, hB, by decide, by decide, fun r H3 r0 r1 hC e3 => ?_⟩
      have hl3 := e3 _ _ hl npl.1
      have hg3 : ∀ x ∈ xs, Gd H3 p l x := fun x hx => (hg x hx).keep fun b o z n1 _ => e3 b o z n1
      refine ⟨_, rfl, .inl ⟨rfl, _, SqL.of hl3⟩, _, rfl, _, rfl, _, _, rfl, rfl, _, rfl, _, rfl, ?_, _, rfl, (by show 1 ≤ sizeLine; decide), fun t nt => ⟨_, rfl, (by show 1 ≤ sizeLine; decide), fun u nu => ⟨(by show 6 ≤ sizeLine; decide), fun D nD => ?_⟩⟩⟩
      · have h2 : r.natAbs < 2 ^ 64 := Nat.lt_of_lt_of_le (show r.natAbs < 1073741824 by have r2 : r < 1073741824 := Int.lt_trans r1 (by decide); omega) (by decide)
        exact Nat.lt_trans (PySem.Flt.log2_lt_of (by decide) h2) (by decide)
      have sH : Same H3 (L2.upd (L2.upd (L2.upd H3 t (.tup [.int r])) u (.lst [.int r])) D (.lst [.int r, .int (0 - r), .str (toString r), .ref t, .non, .ref u])) := ((same_new nt).trans (same_new nu)).trans (same_new nD)
      have hC4 := hC.same sH
      have tp : t ≠ p := (hC.np nt).1
      have tl : t ≠ l := (ne_of_none hl3 nt).symm
      have nu3 : H3 u = none := (same_new nt).free nu
      have up : u ≠ p := (hC.np nu3).1
      have ul : u ≠ l := (ne_of_none hl3 nu3).symm
      have nD3 : H3 D = none := ((same_new (o := .tup [.int r]) nt).trans (same_new (o := .lst [.int r]) nu)).free nD
      have Dp : D ≠ p := (hC.np nD3).1
      refine ⟨_, rfl, p, q, _, rfl, hC4, by decide, by decide, fun j H4 j0 j1 hE e4 => ?_⟩
      have s4 : ∀ b o, H3 b = some o → b ≠ p → H4 b = some o := fun b o z n => e4 b o (sH b o z) n
      have ht4 : H4 t = some (.tup [.int r]) := e4 _ _ (by rw [upd_ne (ne_of_none ((same_new (o := .lst [.int r]) nu) _ _ upd_same) nD), upd_ne (ne_of_none upd_same nu), upd_same]) tp
      have hu4 : H4 u = some (.lst [.int r]) := e4 _ _ (by rw [upd_ne (ne_of_none upd_same nD), upd_same]) up
      have hD4 : H4 D = some (.lst [.int r, .int (0 - r), .str (toString r), .ref t, .non, .ref u]) := e4 _ _ upd_same Dp
      have hl4 := s4 _ _ hl3 npl.1
      obtain ⟨x, hx, gx⟩ : ∃ x, atI [V.int r, .int (0 - r), .str (toString r), .ref t, .non, .ref u] j = some x ∧ Gd H4 p l x := by
        have cs : j = 0 ∨ j = 1 ∨ j = 2 ∨ j = 3 ∨ j = 4 ∨ j = 5 := by omega
        rcases cs with rfl | rfl | rfl | rfl | rfl | rfl
        · exact ⟨_, at_of (j := 0) rfl rfl, .inl trivial⟩
        · exact ⟨_, at_of (j := 1) rfl rfl, .inl trivial⟩
        · exact ⟨_, at_of (j := 2) rfl rfl, .inl trivial⟩
        · exact ⟨_, at_of (j := 3) rfl rfl, .inr ⟨t, r, rfl, tp, tl, .inl ht4⟩⟩
        · exact ⟨_, at_of (j := 4) rfl rfl, .inl trivial⟩
        · exact ⟨_, at_of (j := 5) rfl rfl, .inr ⟨u, r, rfl, up, ul, .inr hu4⟩⟩
      refine ⟨D, _, _, x, rfl, rfl, SqL.of hD4, hx, l, xs, x, rfl, rfl, hl4, small1000 (by omega), ?_⟩
      refine ⟨xs ++ [x], _, _, rfl, hE.upd npl.1 npl.2, upd_same, by rw [List.length_append, hn]; rfl, fun y hy => ?_⟩
      have kp : ∀ b o, H4 b = some o → b ≠ p → b ≠ l → L2.upd H4 l (.lst (xs ++ [x])) b = some o := fun b o z _ n2 => by rw [upd_ne n2]; exact z
      rcases List.mem_append.mp hy with hy | hy
      · exact ((hg3 y hy).keep fun b o z n1 _ => s4 b o z n1).keep kp
      · rw [List.mem_singleton] at hy
        rw [hy]
        exact gx.keep kp
    · rintro σ H2 ⟨xs, v3, v4, rfl, hB, hl, hn, hg⟩
      obtain ⟨x, y, rfl⟩ : ∃ x y, xs = [x, y] := by
        match xs, hn with
        | [x, y], _ => exact ⟨x, y, rfl⟩
      have gx := hg x (by simp)
      have gy := hg y (by simp)
      -- one, two, due
      refine ⟨_, rfl, l, _, _, x, rfl, rfl, SqL.of hl, at_of (j := 0) rfl rfl, ?_⟩
      refine ⟨_, rfl, l, _, _, y, rfl, rfl, SqL.of hl, at_of (j := 1) rfl rfl, ?_⟩
      refine ⟨_, rfl, _, rfl, _, rfl, _, rfl, _, rfl, _, rfl, _, rfl, _, rfl, _, rfl, _, rfl, _, rfl, _, rfl, (by show 12 ≤ sizeLine; decide), fun u nu => ?_⟩
      have eq : ∀ (H' : Hp) (b : Addr), Same (L2.upd H2 u (.lst [x, x, x, x, x, x, y, x, y, x, y, x])) H' → H' b = some (.lst [x, x, x, x, x, x, y, x, y, x, y, x]) → Eqv H' 2 (.ref b) (.ref u) := fun H' b s' hb => by
        refine .inr ⟨b, u, _, _, rfl, rfl, .inl ⟨hb, s' _ _ upd_same⟩, rfl, (by show 12 ≤ 1000; decide), fun i v z hv hz => ?_⟩
        rw [hv] at hz
        obtain rfl := Option.some.inj hz
        have hm := List.mem_of_getElem? hv
        have s2 : Same H2 H' := (same_new nu).trans s'
        have hxy : v = x ∨ v = y := by
          simp only [List.mem_cons, List.mem_nil_iff, or_false] at hm
          rcases hm with h | h | h | h | h | h | h | h | h | h | h | h <;> first | exact .inl h | exact .inr h
        rcases hxy with h | h <;> rw [h]
        · exact gx.eqv.same s2
        · exact gy.eqv.same s2
      -- not same(fields(one, two), due)
      refine ⟨_, rfl, _, rfl, _, _, rfl, fun b H3 nb s3 hb => ⟨_, rfl, _, _, rfl, eq H3 b s3 hb, fun H4 s4 => ⟨_, rfl, iteF ?_⟩⟩⟩
      refine ⟨_, rfl, _, rfl, _, _, rfl, fun b' H5 nb' s5 hb' => ⟨_, rfl, _, _, rfl, eq H5 b' ((s3.trans s4).trans s5) hb', fun H6 s6 => ⟨_, rfl, iteF ?_⟩⟩⟩
      clear hb hb' eq s3 s4 s5 s6
      have W0 : AX C H6 0 [] := AX.nil
      refine ⟨_, rfl, (by show 1 ≤ 1000; decide), fun a0 n0 => ⟨a0, _, rfl, rfl, upd_same, fun d0 J0 p0 q0 z0 => ⟨rfl, ?_⟩⟩⟩
      have s0 := sm n0 z0
      have x0 : XAt J0 a0 (C 0) := .inr ⟨d0, _, p0, q0⟩
      have W0 : AX C J0 0 [.ref a0] := (W0.same s0).snoc x0
      refine ⟨_, rfl, (by show 1 ≤ 1000; decide), fun a1 n1 => ⟨a1, _, rfl, rfl, upd_same, fun d1 J1 p1 q1 z1 => ⟨rfl, ?_⟩⟩⟩
      have s1 := sm n1 z1
      have x1 : XAt J1 a1 (C 1) := .inr ⟨d1, _, p1, q1⟩
      have W0 : AX C J1 0 [.ref a0, .ref a1] := (W0.same s1).snoc x1
      refine fun a2 n2 => ?_
      have s2 := same_new (o := exo a2 (C 2) none) n2
      have x2 : XAt (L2.upd J1 a2 (exo a2 (C 2) none)) a2 (C 2) := .inl upd_same
      generalize hJ2 : L2.upd J1 a2 (exo a2 (C 2) none) = J2 at s2 x2 ⊢
      have W0 : AX C J2 0 [.ref a0, .ref a1, .ref a2] := (W0.same s2).snoc x2
      refine fun a3 n3 => ?_
      have s3 := same_new (o := exo a3 (C 3) none) n3
      have x3 : XAt (L2.upd J2 a3 (exo a3 (C 3) none)) a3 (C 3) := .inl upd_same
      generalize hJ3 : L2.upd J2 a3 (exo a3 (C 3) none) = J3 at s3 x3 ⊢
      have W0 : AX C J3 0 [.ref a0, .ref a1, .ref a2, .ref a3] := (W0.same s3).snoc x3
      refine ⟨_, rfl, _, rfl, (by show 2 ≤ 1000; decide), fun a4 n4 => ⟨a4, _, rfl, rfl, upd_same, fun d4 J4 p4 q4 z4 => ⟨rfl, ?_⟩⟩⟩
      have s4 := sm n4 z4
      have x4 : XAt J4 a4 (C 4) := .inr ⟨d4, _, p4, q4⟩
      have W0 : AX C J4 0 [.ref a0, .ref a1, .ref a2, .ref a3, .ref a4] := (W0.same s4).snoc x4
      refine ⟨_, rfl, _, rfl, (by show 2 ≤ 1000; decide), fun a5 n5 => ⟨a5, _, rfl, rfl, upd_same, fun d5 J5 p5 q5 z5 => ⟨rfl, ?_⟩⟩⟩
      have s5 := sm n5 z5
      have x5 : XAt J5 a5 (C 5) := .inr ⟨d5, _, p5, q5⟩
      have W0 : AX C J5 0 [.ref a0, .ref a1, .ref a2, .ref a3, .ref a4, .ref a5] := (W0.same s5).snoc x5
      refine fun a6 n6 => ?_
      have s6 := same_new (o := exo a6 (C 6) none) n6
      have x6 : XAt (L2.upd J5 a6 (exo a6 (C 6) none)) a6 (C 6) := .inl upd_same
      generalize hJ6 : L2.upd J5 a6 (exo a6 (C 6) none) = J6 at s6 x6 ⊢
      have W0 : AX C J6 0 [.ref a0, .ref a1, .ref a2, .ref a3, .ref a4, .ref a5, .ref a6] := (W0.same s6).snoc x6
      refine ⟨(by show 7 ≤ sizeLine; decide), fun l0 m0 => ?_⟩
      have W0 := W0.same (same_new (o := .lst [.ref a0, .ref a1, .ref a2, .ref a3, .ref a4, .ref a5, .ref a6]) m0)
      have Lz0 := upd_same (H := J6) (a := l0) (o := .lst [.ref a0, .ref a1, .ref a2, .ref a3, .ref a4, .ref a5, .ref a6])
      have V0 := W0
      have W1 : AX C (L2.upd J6 l0 (.lst [.ref a0, .ref a1, .ref a2, .ref a3, .ref a4, .ref a5, .ref a6])) 7 [] := AX.nil
      refine ⟨_, rfl, _, rfl, (by show 1 ≤ 1000; decide), fun a7 n7 => ⟨a7, _, rfl, rfl, upd_same, fun d7 J7 p7 q7 z7 => ⟨rfl, ?_⟩⟩⟩
      have s7 := sm n7 z7
      have x7 : XAt J7 a7 (C 7) := .inr ⟨d7, _, p7, q7⟩
      have Lz0 := s7 _ _ Lz0
      have V0 := V0.same s7
      have W1 : AX C J7 7 [.ref a7] := (W1.same s7).snoc x7
      refine fun a8 n8 => ?_
      have s8 := same_new (o := exo a8 (C 8) none) n8
      have x8 : XAt (L2.upd J7 a8 (exo a8 (C 8) none)) a8 (C 8) := .inl upd_same
      generalize hJ8 : L2.upd J7 a8 (exo a8 (C 8) none) = J8 at s8 x8 ⊢
      have Lz0 := s8 _ _ Lz0
      have V0 := V0.same s8
      have W1 : AX C J8 7 [.ref a7, .ref a8] := (W1.same s8).snoc x8
      refine ⟨_, rfl, (by show 1 ≤ 1000; decide), fun a9 n9 => ⟨a9, _, rfl, rfl, upd_same, fun d9 J9 p9 q9 z9 => ⟨rfl, ?_⟩⟩⟩
      have s9 := sm n9 z9
      have x9 : XAt J9 a9 (C 9) := .inr ⟨d9, _, p9, q9⟩
      have Lz0 := s9 _ _ Lz0
      have V0 := V0.same s9
      have W1 : AX C J9 7 [.ref a7, .ref a8, .ref a9] := (W1.same s9).snoc x9
      refine fun a10 n10 => ?_
      have s10 := same_new (o := exo a10 (C 10) none) n10
      have x10 : XAt (L2.upd J9 a10 (exo a10 (C 10) none)) a10 (C 10) := .inl upd_same
      generalize hJ10 : L2.upd J9 a10 (exo a10 (C 10) none) = J10 at s10 x10 ⊢
      have Lz0 := s10 _ _ Lz0
      have V0 := V0.same s10
      have W1 : AX C J10 7 [.ref a7, .ref a8, .ref a9, .ref a10] := (W1.same s10).snoc x10
      refine ⟨_, rfl, _, rfl, (by show 2 ≤ 1000; decide), fun a11 n11 => ⟨a11, _, rfl, rfl, upd_same, fun d11 J11 p11 q11 z11 => ⟨rfl, ?_⟩⟩⟩
      have s11 := sm n11 z11
      have x11 : XAt J11 a11 (C 11) := .inr ⟨d11, _, p11, q11⟩
      have Lz0 := s11 _ _ Lz0
      have V0 := V0.same s11
      have W1 : AX C J11 7 [.ref a7, .ref a8, .ref a9, .ref a10, .ref a11] := (W1.same s11).snoc x11
      refine fun a12 n12 => ?_
      have s12 := same_new (o := exo a12 (C 12) none) n12
      have x12 : XAt (L2.upd J11 a12 (exo a12 (C 12) none)) a12 (C 12) := .inl upd_same
      generalize hJ12 : L2.upd J11 a12 (exo a12 (C 12) none) = J12 at s12 x12 ⊢
      have Lz0 := s12 _ _ Lz0
      have V0 := V0.same s12
      have W1 : AX C J12 7 [.ref a7, .ref a8, .ref a9, .ref a10, .ref a11, .ref a12] := (W1.same s12).snoc x12
      refine fun a13 n13 => ?_
      have s13 := same_new (o := exo a13 (C 13) none) n13
      have x13 : XAt (L2.upd J12 a13 (exo a13 (C 13) none)) a13 (C 13) := .inl upd_same
      generalize hJ13 : L2.upd J12 a13 (exo a13 (C 13) none) = J13 at s13 x13 ⊢
      have Lz0 := s13 _ _ Lz0
      have V0 := V0.same s13
      have W1 : AX C J13 7 [.ref a7, .ref a8, .ref a9, .ref a10, .ref a11, .ref a12, .ref a13] := (W1.same s13).snoc x13
      refine ⟨_, rfl, (by show 1 ≤ 1000; decide), fun a14 n14 => ⟨a14, _, rfl, rfl, upd_same, fun d14 J14 p14 q14 z14 => ⟨rfl, ?_⟩⟩⟩
      have s14 := sm n14 z14
      have x14 : XAt J14 a14 (C 14) := .inr ⟨d14, _, p14, q14⟩
      have Lz0 := s14 _ _ Lz0
      have V0 := V0.same s14
      have W1 : AX C J14 7 [.ref a7, .ref a8, .ref a9, .ref a10, .ref a11, .ref a12, .ref a13, .ref a14] := (W1.same s14).snoc x14
      refine ⟨(by show 8 ≤ sizeLine; decide), fun l1 m1 => ?_⟩
      have W1 := W1.same (same_new (o := .lst [.ref a7, .ref a8, .ref a9, .ref a10, .ref a11, .ref a12, .ref a13, .ref a14]) m1)
      have Lz0 := same_new (o := .lst [.ref a7, .ref a8, .ref a9, .ref a10, .ref a11, .ref a12, .ref a13, .ref a14]) m1 _ _ Lz0
      have V0 := V0.same (same_new (o := .lst [.ref a7, .ref a8, .ref a9, .ref a10, .ref a11, .ref a12, .ref a13, .ref a14]) m1)
      refine ⟨l0, l1, _, _, rfl, rfl, Lz0, upd_same, (by show 15 ≤ sizeLine; decide), fun c1 e1 => ?_⟩
      have V1 : AX C (L2.upd (L2.upd J14 l1 (.lst [.ref a7, .ref a8, .ref a9, .ref a10, .ref a11, .ref a12, .ref a13, .ref a14])) c1 (.lst ([.ref a0, .ref a1, .ref a2, .ref a3, .ref a4, .ref a5, .ref a6] ++ [.ref a7, .ref a8, .ref a9, .ref a10, .ref a11, .ref a12, .ref a13, .ref a14]))) 0 [.ref a0, .ref a1, .ref a2, .ref a3, .ref a4, .ref a5, .ref a6, .ref a7, .ref a8, .ref a9, .ref a10, .ref a11, .ref a12, .ref a13, .ref a14] := (V0.app W1 rfl).same (same_new e1)
      have Lz1 : (L2.upd (L2.upd J14 l1 (.lst [.ref a7, .ref a8, .ref a9, .ref a10, .ref a11, .ref a12, .ref a13, .ref a14])) c1 (.lst ([.ref a0, .ref a1, .ref a2, .ref a3, .ref a4, .ref a5, .ref a6] ++ [.ref a7, .ref a8, .ref a9, .ref a10, .ref a11, .ref a12, .ref a13, .ref a14]))) c1 = some (.lst [.ref a0, .ref a1, .ref a2, .ref a3, .ref a4, .ref a5, .ref a6, .ref a7, .ref a8, .ref a9, .ref a10, .ref a11, .ref a12, .ref a13, .ref a14]) := upd_same
      have W2 : AX C (L2.upd (L2.upd J14 l1 (.lst [.ref a7, .ref a8, .ref a9, .ref a10, .ref a11, .ref a12, .ref a13, .ref a14])) c1 (.lst ([.ref a0, .ref a1, .ref a2, .ref a3, .ref a4, .ref a5, .ref a6] ++ [.ref a7, .ref a8, .ref a9, .ref a10, .ref a11, .ref a12, .ref a13, .ref a14]))) 15 [] := AX.nil
      refine ⟨_, rfl, fun a15 n15 => ?_⟩
      have s15 := same_new (o := exo a15 (C 15) none) n15
      have x15 : XAt (L2.upd (L2.upd (L2.upd J14 l1 (.lst [.ref a7, .ref a8, .ref a9, .ref a10, .ref a11, .ref a12, .ref a13, .ref a14])) c1 (.lst ([.ref a0, .ref a1, .ref a2, .ref a3, .ref a4, .ref a5, .ref a6] ++ [.ref a7, .ref a8, .ref a9, .ref a10, .ref a11, .ref a12, .ref a13, .ref a14]))) a15 (exo a15 (C 15) none)) a15 (C 15) := .inl upd_same
      generalize hJ15 : L2.upd (L2.upd (L2.upd J14 l1 (.lst [.ref a7, .ref a8, .ref a9, .ref a10, .ref a11, .ref a12, .ref a13, .ref a14])) c1 (.lst ([.ref a0, .ref a1, .ref a2, .ref a3, .ref a4, .ref a5, .ref a6] ++ [.ref a7, .ref a8, .ref a9, .ref a10, .ref a11, .ref a12, .ref a13, .ref a14]))) a15 (exo a15 (C 15) none) = J15 at s15 x15 ⊢
      have Lz1 := s15 _ _ Lz1
      have V1 := V1.same s15
      have W2 : AX C J15 15 [.ref a15] := (W2.same s15).snoc x15
      refine ⟨_, rfl, (by show 1 ≤ 1000; decide), fun a16 n16 => ⟨a16, _, rfl, rfl, upd_same, fun d16 J16 p16 q16 z16 => ⟨rfl, ?_⟩⟩⟩
      have s16 := sm n16 z16
      have x16 : XAt J16 a16 (C 16) := .inr ⟨d16, _, p16, q16⟩
      have Lz1 := s16 _ _ Lz1
      have V1 := V1.same s16
      have W2 : AX C J16 15 [.ref a15, .ref a16] := (W2.same s16).snoc x16
      refine fun a17 n17 => ?_
      have s17 := same_new (o := exo a17 (C 17) none) n17
      have x17 : XAt (L2.upd J16 a17 (exo a17 (C 17) none)) a17 (C 17) := .inl upd_same
      generalize hJ17 : L2.upd J16 a17 (exo a17 (C 17) none) = J17 at s17 x17 ⊢
      have Lz1 := s17 _ _ Lz1
      have V1 := V1.same s17
      have W2 : AX C J17 15 [.ref a15, .ref a16, .ref a17] := (W2.same s17).snoc x17
      refine ⟨(by show 3 ≤ sizeLine; decide), fun l2 m2 => ?_⟩
      have W2 := W2.same (same_new (o := .lst [.ref a15, .ref a16, .ref a17]) m2)
      have Lz1 := same_new (o := .lst [.ref a15, .ref a16, .ref a17]) m2 _ _ Lz1
      have V1 := V1.same (same_new (o := .lst [.ref a15, .ref a16, .ref a17]) m2)
      refine ⟨c1, l2, _, _, rfl, rfl, Lz1, upd_same, (by show 18 ≤ sizeLine; decide), fun c2 e2 => ?_⟩
      have V2 : AX C (L2.upd (L2.upd J17 l2 (.lst [.ref a15, .ref a16, .ref a17])) c2 (.lst ([.ref a0, .ref a1, .ref a2, .ref a3, .ref a4, .ref a5, .ref a6, .ref a7, .ref a8, .ref a9, .ref a10, .ref a11, .ref a12, .ref a13, .ref a14] ++ [.ref a15, .ref a16, .ref a17]))) 0 [.ref a0, .ref a1, .ref a2, .ref a3, .ref a4, .ref a5, .ref a6, .ref a7, .ref a8, .ref a9, .ref a10, .ref a11, .ref a12, .ref a13, .ref a14, .ref a15, .ref a16, .ref a17] := (V1.app W2 rfl).same (same_new e2)
      have Lz2 : (L2.upd (L2.upd J17 l2 (.lst [.ref a15, .ref a16, .ref a17])) c2 (.lst ([.ref a0, .ref a1, .ref a2, .ref a3, .ref a4, .ref a5, .ref a6, .ref a7, .ref a8, .ref a9, .ref a10, .ref a11, .ref a12, .ref a13, .ref a14] ++ [.ref a15, .ref a16, .ref a17]))) c2 = some (.lst [.ref a0, .ref a1, .ref a2, .ref a3, .ref a4, .ref a5, .ref a6, .ref a7, .ref a8, .ref a9, .ref a10, .ref a11, .ref a12, .ref a13, .ref a14, .ref a15, .ref a16, .ref a17]) := upd_same
      generalize (L2.upd (L2.upd J17 l2 (.lst [.ref a15, .ref a16, .ref a17])) c2 (.lst ([.ref a0, .ref a1, .ref a2, .ref a3, .ref a4, .ref a5, .ref a6, .ref a7, .ref a8, .ref a9, .ref a10, .ref a11, .ref a12, .ref a13, .ref a14] ++ [.ref a15, .ref a16, .ref a17]))) = Hm at V2 Lz2 ⊢
      -- for at in range(len(made))
      refine ⟨_, rfl, c2, _, rfl, .inl (SqL.of Lz2), 18, rfl, (by decide), (by decide), for_range (lo := 0) (n := 18) (fun i σ H7 => ∃ v9 : Option V, σ = [some (.ref a), some (.ref p), some (.ref l), v3, v4, some x, some y, some (.ref u), some (.ref c2), v9, none] ∧ Same Hm H7)
        ⟨none, rfl, Same.refl Hm⟩ ?_ ?_⟩
      · rintro i σ H7 hi ⟨v9, rfl, s7⟩
        have L7 := s7 _ _ Lz2
        obtain ⟨v, hv⟩ : ∃ v, ([.ref a0, .ref a1, .ref a2, .ref a3, .ref a4, .ref a5, .ref a6, .ref a7, .ref a8, .ref a9, .ref a10, .ref a11, .ref a12, .ref a13, .ref a14, .ref a15, .ref a16, .ref a17] : List V)[i]? = some v := ⟨_, List.getElem?_eq_getElem (show i < 18 from hi)⟩
        obtain ⟨b, rfl, hb⟩ := (V2.same s7) i v hv
        rw [Nat.zero_add] at hb
        refine ⟨_, rfl, _, rfl, c2, _, _, _, rfl, rfl, SqL.of L7, at_of (Int.zero_add _) hv, b, i, rfl, hi, hb, fun r H8 nr s8 hr8 => ⟨_, rfl, c2, _, rfl, .inl (SqL.of (s8 _ _ L7)), 18, rfl, (by decide), (by decide), fun D nD => ?_⟩⟩
        refine lc_range (lo := 0) (n := 18) (fun k H9 => Same H8 H9 ∧ H9 D = some (.lst ((List.range k).map fun z => V.bl (decide (z = i))))) ⟨same_new nD, upd_same⟩ ?_ ?_
        · rintro k' H9 hk ⟨s9, h9⟩
          refine ⟨rfl, ?_⟩
          refine ⟨_, rfl, _, rfl, rfl, _, h9, small1000 (by rw [List.length_map, List.length_range]; omega), ?_, ?_⟩
          · intro b' o' e'
            by_cases hbD : b' = D
            · rw [hbD, nD] at e'
              cases e'
            · rw [upd_ne hbD]
              exact s9 _ _ e'
          · rw [upd_same, List.range_succ, List.map_append]
            congr 3
            show [V.bl (decide (V.int (0 + (k' : Int)) = V.int (0 + (i : Int))))] = [V.bl (decide (k' = i))]
            congr 2
            rw [decide_eq_decide]
            constructor
            · intro e
              have := V.int.inj e
              omega
            · intro e
              rw [e]
        · rintro H9 ⟨s9, h9⟩
          refine ⟨pyd i, pyd i, .lst (SqL.of (s9 _ _ hr8)) (dp_bits _ _), .lst (SqL.of h9) (dp_bits _ _), pyd_shaped i hi, pyd_shaped i hi, _, rfl, ?_⟩
          rw [pyd_eq i hi]
          refine iteF ?_
          have L9 := s9 _ _ (s8 _ _ L7)
          have hb9 := (hb.same s8).same s9
          refine ⟨_, rfl, _, rfl, c2, _, _, _, rfl, rfl, SqL.of L9, at_of (Int.zero_add _) hv, b, C i, _, _, true, rfl, hb9, E i hi, .own _, kB i hi, _, rfl, iteF ?_⟩
          refine ⟨_, rfl, _, rfl, c2, _, _, _, rfl, rfl, SqL.of L9, at_of (Int.zero_add _) hv, b, C i, _, _, true, rfl, hb9, E i hi, .ty _, kV i hi, _, rfl, iteF ?_⟩
          exact ⟨_, rfl, (s7.trans s8).trans s9⟩
      · rintro σ H7 ⟨v9, rfl, s7⟩
        exact k H7
end
end L80

namespace L80
open PySem PySem.Spec PyProof.Rows L2 Lw Xv Lh
abbrev R : PySem.W.OpenRow := PySem.W.OpenLaw.row PySem.Challenge.rw_batchtests_k80_errors
def fn : List He.DefD := [dd ("_law_hand", none) "_law_hand" "_law_hand" sHand,
  dd ("_law_mixed", none) "_law_mixed" "_law_mixed" sMixed,
  dd ("_law_draw", none) "_law_draw" "_law_draw" sDraw,
  dd ("_law_same", none) "_law_same" "_law_same" sSame,
  dd ("_law_kinds", none) "_law_kinds" "_law_kinds" sKinds,
  dd ("_law_fields", none) "_law_fields" "_law_fields" sFields,
  dd ("_law_named_fields", none) "_law_named_fields" "_law_named_fields" sNamed,
  dd ("law", none) "law" "law" sLaw,
  dd ("BadColumns", some "__init__") "__init__" "BadColumns.__init__" sIBadColumns,
  dd ("BadCases", some "__init__") "__init__" "BadCases.__init__" sIBadCases,
  dd ("BadTable", some "__init__") "__init__" "BadTable.__init__" sIBadTable,
  dd ("BadWants", some "__init__") "__init__" "BadWants.__init__" sIBadWants,
  dd ("NoRow", some "__init__") "__init__" "NoRow.__init__" sINoRow,
  dd ("BadPart", some "__init__") "__init__" "BadPart.__init__" sIBadPart,
  dd ("BadPlan", some "__init__") "__init__" "BadPlan.__init__" sIBadPlan,
  dd ("Failed", some "__init__") "__init__" "Failed.__init__" sIFailed,
  dd ("TooMany", some "__init__") "__init__" "TooMany.__init__" sITooMany]
def clsNames : List Str := ["BadCases", "BadColumns", "BadLevel", "BadLimit", "BadPart", "BadPlan", "BadSize", "BadTable", "BadText", "BadWants", "Ended", "Failed", "NoFate", "NoPlace", "NoRow", "NoTruth", "TooMany", "Unlike"]
def fnNames : List Str := ["_law_hand", "_law_mixed", "_law_draw", "_law_same", "_law_kinds", "_law_fields", "_law_named_fields", "law"]
def mkB (K : PySem.W.Frag) (C : Addr) : Bool := match K.lookup C with
  | some ⟨.type t, _, .cls cd, sl⟩ => (match cd.mro, sl.toList with
    | .ref C' :: bm, [_, _, _, _, some (.builtin n), _] => decide (t = "type") && (decide (C' = C) && (decide (n = "ValueError.__new__") && (!cd.hasDel && (cd.hasDict && HandSPX.refsVE bm))))
    | _, _ => false)
  | _ => false
theorem mkB_ok {K : PySem.W.Frag} {C : Addr} (h : mkB K C = true) : ∃ nm q N bs bm sn sub ab col dd k0 k1 k2 k3 k5, K.lookup C = some (excClassObj nm q C N bs bm true sn sub ab col dd k0 k1 k2 k3 k5 "ValueError.__new__") ∧ PySem.HandSPX.refsVE bm = true := by
  unfold mkB at h
  split at h
  · rename_i t od cd sl ho
    split at h
    · rename_i C' bm k0 k1 k2 k3 n k5 hm hs
      obtain ⟨h1, h⟩ := He.ba h
      obtain ⟨h2, h⟩ := He.ba h
      obtain ⟨h3, h⟩ := He.ba h
      obtain ⟨h4, h⟩ := He.ba h
      obtain ⟨h5, h6⟩ := He.ba h
      have e1 := of_decide_eq_true h1
      have e2 := of_decide_eq_true h2
      have e3 := of_decide_eq_true h3
      have e4 : cd.hasDel = false := by
        cases z : cd.hasDel with
        | false => rfl
        | true =>
          rw [z] at h4
          cases h4
      obtain ⟨nm, bs, mro, ns, qn, hd, sn, sub, ab, col, del⟩ := cd
      dsimp only at hm e4 h5
      subst hm e1 e2 e3 e4 h5
      have es : sl = #[k0, k1, k2, k3, some (.builtin "ValueError.__new__"), k5] := by
        obtain ⟨l⟩ := sl
        dsimp only at hs
        rw [hs]
      subst es
      exact ⟨nm, qn, ns, bs, bm, sn, sub, ab, col, od, k0, k1, k2, k3, k5, ho, h6⟩
    · cases h
  · cases h
def xB (K : PySem.W.Frag) (C : Addr) : Bool := He.eqO (PySem.W.findIn K (.ref C) "__getattribute__") (some (some (.builtin "BaseException.__getattribute__"))) && (He.eqO (PySem.W.findIn K (.ref C) "__getattr__") (some none) &&
  (decide (PySem.W.subIn K (.ref C) (.type "BaseException") = some true) && (PySem.W.hasDictIn K C && (He.eqO (PySem.W.findIn K (.ref C) "__class__") (some (some (.builtin "object.__class__"))) &&
  (decide (PySem.W.mroIn K C (.type "object") = some true) && PySem.W.keepIn K (.ref C))))))
def gB (K : PySem.W.Frag) : Bool := He.eqO (PySem.W.specialIn K (.builtin "object.__class__") "__get__") (some (some (.builtin "getset_descriptor.__get__"))) && decide (PySem.W.takesIn K (.builtin "object.__class__") = some true)
structure XB (K : PySem.W.Frag) (C : Addr) : Prop where
  e : ExcC K C
  f : XfC K C
  k : PySem.W.keepIn K (.ref C) = true
theorem xB_ok {K : PySem.W.Frag} {C : Addr} (h : xB K C = true) (g : gB K = true) : XB K C := by
  obtain ⟨h1, h⟩ := He.ba h
  obtain ⟨h2, h⟩ := He.ba h
  obtain ⟨h3, h⟩ := He.ba h
  obtain ⟨h4, h⟩ := He.ba h
  obtain ⟨h5, h⟩ := He.ba h
  obtain ⟨h6, h7⟩ := He.ba h
  obtain ⟨g1, g2⟩ := He.ba g
  exact ⟨⟨He.eqO_ok h1, He.eqO_ok h2, of_decide_eq_true h3, h4, He.eqO_ok h5, He.eqO_ok g1, of_decide_eq_true g2, of_decide_eq_true h6⟩, ⟨He.eqO_ok h1, He.eqO_ok h2, of_decide_eq_true h3, h4⟩, h7⟩
def iB (K : PySem.W.Frag) (C : Addr) (fs : List Str) : Bool := mkB K C && (He.eqO (PySem.W.findIn K (.ref C) "__setattr__") (some (some (.builtin "object.__setattr__"))) && (decide (PySem.W.typeIn K (.ref C) = some (.type "type")) &&
  (He.eqO (PySem.W.findIn K (.ref C) "__init__") (some (some (.ref (He.ma K C "__init__")))) && (decide (PySem.W.typeIn K (.ref (He.ma K C "__init__")) = some (.type "function")) && fs.all fun f => He.eqO (PySem.W.findIn K (.ref C) f) (some none)))))
theorem iB_ok {K : PySem.W.Frag} {C : Addr} {fs : List Str} (h : iB K C fs = true) (x : XB K C) : XMk K C (He.ma K C "__init__") ∧ ∀ f ∈ fs, PySem.W.findIn K (.ref C) f = some none := by
  obtain ⟨h1, h⟩ := He.ba h
  obtain ⟨h2, h⟩ := He.ba h
  obtain ⟨h3, h⟩ := He.ba h
  obtain ⟨h4, h⟩ := He.ba h
  obtain ⟨h5, h6⟩ := He.ba h
  exact ⟨⟨⟨mkB_ok h1, He.eqO_ok h2, x.e.hs, of_decide_eq_true h3, x.k⟩, He.eqO_ok h4, of_decide_eq_true h5⟩, fun f hf => He.eqO_ok (List.all_eq_true.mp h6 f hf)⟩
/-- the i-th class -/
def Ci (K : PySem.W.Frag) (i : Nat) : Addr := He.ga K (clsNames.getD i "law")
def kitB2 (K : PySem.W.Frag) : Bool := (List.range 18).all fun i => (List.range 18).all fun j => decide (PySem.W.kitOne K (.ref (Ci K j)) (.ref (Ci K i)) = some (decide (i = j)))
def kitB3 (K : PySem.W.Frag) : Bool := (List.range 18).all fun j => decide (PySem.W.kitOne K (.ref (Ci K j)) (.ref (He.ga K "BatchError")) = some true) && decide (PySem.W.kitOne K (.ref (Ci K j)) (.type "ValueError") = some true)
def noIni : List Nat := [2, 3, 6, 8, 10, 12, 13, 15, 17]
def inis : List (Nat × List Str) := [(1, ["index"]), (0, ["index"]), (7, ["index"]), (9, ["index"]), (14, ["name"]), (4, ["place", "why"]), (5, ["place", "why"]), (11, ["index", "code"]), (16, ["limit"])]
def ex (K : PySem.W.Frag) : Bool := btNames.all (freeB K) && (freeB K "ValueError" && (gloB K "BatchError" && (fnNames.all (gloB K) && (clsNames.all (gloB K) && (gB K && ((List.range 18).all (fun i => xB K (Ci K i)) && (kitB2 K && (kitB3 K &&
  (noIni.all (fun i => PySem.W.excIn K (Ci K i) He.veBase "ValueError.__new__") && inis.all fun p => iB K (Ci K p.1) p.2)))))))))
abbrev hk : PySem.W.Hook := hookB 6 fn ex
def ob (s : PySem.W.SharedT) : AlB := obsB 6 fn ex (HandSHeadRun.getT s)
theorem ob_eq (s : PySem.W.SharedT) : ob s = hk.obs s.abs := obsB_eq (HandSHeadRun.getT_eq s)
theorem run (w : World) : HandSHeadRun.RunEq R (PySem.W.view R.prog [28]) hk ob 20000 ["BatchError", "BadColumns", "BadCases", "BadTable", "BadWants", "NoRow", "BadPart", "BadPlan", "Failed", "TooMany", "Unlike", "NoPlace", "NoTruth", "NoFate", "BadSize", "BadLimit", "BadLevel", "Ended", "BadText", "_law_hand", "_law_mixed", "_law_draw", "_law_same", "_law_kinds", "_law_fields", "_law_named_fields"] w := by
  intro os
  kernel_rfl
theorem fun_binds {K : PySem.W.Frag} {x q : Str} {st : Stmt} {f : Addr} {fd : FuncData} {ps : List Str} (F : Fun K x q st f fd)
    (h : ∀ (kV doc pm : Value) (an : Option Addr) (cdv ct : Value) (us : List Value), us.length = ps.length → bindArgs (PySem.W.fnOf x q (defArgs st) (defBody st) (defScope st) .none kV doc pm an cdv ct) ⟨us, []⟩ = pure (ps.zip us))
    (h2 : ∀ (kV doc pm : Value) (an : Option Addr) (cdv ct : Value) (y : Value) (ys : List Value), (y :: ys).length = ps.length → bindArgs (PySem.W.fnOf x q (defArgs st) (defBody st) (defScope st) .none kV doc pm an cdv ct) ⟨[y], (ps.drop 1).zip ys⟩ = pure (ps.zip (y :: ys)))
    (h3 : ∀ (kV doc pm : Value) (an : Option Addr) (cdv ct : Value) (y : Value) (ys : List Value), (y :: ys).length = ps.length → bindArgs (PySem.W.fnOf x q (defArgs st) (defBody st) (defScope st) .none kV doc pm an cdv ct) ⟨[y], ((ps.drop 1).zip ys).reverse⟩ = pure (ps.zip (y :: ys))) :
    L2.Binds K fd ps [] ∧ ∀ (s : Shared) (us : List Value), us.length = ps.length → ∀ ks : List (Str × Value), (∃ y ys, us = y :: ys ∧ (ks = (ps.drop 1).zip ys ∨ ks = ((ps.drop 1).zip ys).reverse)) → ∀ y, us.head? = some y → BindsTo s fd ⟨[y], ks⟩ (ps.zip us) := by
  refine ⟨F.binds h, ?_⟩
  obtain ⟨oc, od, kV, doc, pm, an, cdv, ct, osl, rfl, lk, hcd⟩ := F.ex
  rintro s us hl ks ⟨y, ys, rfl, e⟩ z hz
  obtain rfl : y = z := Option.some.inj hz
  rcases e with rfl | rfl
  · exact .of_eq (h2 kV doc pm an cdv ct y ys hl)
  · exact .of_eq (h3 kV doc pm an cdv ct y ys hl)
theorem facts {P : Program} {w : World} {K : PySem.W.Frag} {h : Heap} {mg : Str → Option Value} {f : Addr} (X : K.In h) (G : h.Ns mainGlobals mg) (hfa : mg ("law" : Str) = some (.ref f)) (c : He.SaysD [] fn K) (hx : ex K = true) :
    ∃ fd : FuncData, (∀ (s : Shared) (v : Value), BindsTo s fd ⟨[v], []⟩ [("_law_script", v)]) ∧ ∀ base : Heap, K.In base → base.Ns mainGlobals mg → FnOk P w K mg base CX0 4 f fd ["_law_script"] (spLaw K) := by
  obtain ⟨b1, hx⟩ := He.ba hx
  obtain ⟨b2, hx⟩ := He.ba hx
  obtain ⟨b3, hx⟩ := He.ba hx
  obtain ⟨b4, hx⟩ := He.ba hx
  obtain ⟨b5, hx⟩ := He.ba hx
  obtain ⟨b6, hx⟩ := He.ba hx
  obtain ⟨b7, hx⟩ := He.ba hx
  obtain ⟨b8, hx⟩ := He.ba hx
  obtain ⟨b9, hx⟩ := He.ba hx
  obtain ⟨b10, b11⟩ := He.ba hx
  have B := bt_of X G b1
  have gF : ∀ n ∈ fnNames, mg n = some (.ref (He.ga K n)) := fun n hn => mg_glo X G (List.all_eq_true.mp b4 n hn)
  have gC : ∀ n ∈ clsNames, mg n = some (.ref (He.ga K n)) := fun n hn => mg_glo X G (List.all_eq_true.mp b5 n hn)
  have xb : ∀ i, i < 18 → XB K (Ci K i) := fun i hi => xB_ok (List.all_eq_true.mp b7 i (List.mem_range.mpr hi)) b6
  have xi : ∀ p ∈ inis, p.1 < 18 → XMk K (Ci K p.1) (He.ma K (Ci K p.1) "__init__") ∧ ∀ f ∈ p.2, PySem.W.findIn K (.ref (Ci K p.1)) f = some none := fun p hp h => iB_ok (List.all_eq_true.mp b11 p hp) (xb p.1 h)
  have xn : ∀ i ∈ noIni, PySem.W.excIn K (Ci K i) He.veBase "ValueError.__new__" = true := fun i hi => List.all_eq_true.mp b10 i hi
  have kk : ∀ i j, i < 18 → j < 18 → PySem.W.kitOne K (.ref (Ci K j)) (.ref (Ci K i)) = some (decide (i = j)) := fun i j hi hj => of_decide_eq_true (List.all_eq_true.mp (List.all_eq_true.mp b8 i (List.mem_range.mpr hi)) j (List.mem_range.mpr hj))
  have kB : ∀ j, j < 18 → PySem.W.kitOne K (.ref (Ci K j)) (.ref (He.ga K "BatchError")) = some true ∧ PySem.W.kitOne K (.ref (Ci K j)) (.type "ValueError") = some true := fun j hj => by
    obtain ⟨z1, z2⟩ := He.ba (List.all_eq_true.mp b9 j (List.mem_range.mpr hj))
    exact ⟨of_decide_eq_true z1, of_decide_eq_true z2⟩
  obtain ⟨fd0, F0⟩ := c.def_ 0 (d := dd ("_law_hand", none) "_law_hand" "_law_hand" sHand) rfl
  have F0 : Fun K "_law_hand" "_law_hand" sHand (He.ga K "_law_hand") fd0 := fun_of (st := sHand) F0
  have B0 := F0.binds (ps := ["_law_script"]) fun _ _ _ _ _ _ us hl => match us, hl with | [_], _ => rfl
  obtain ⟨fd1, F1⟩ := c.def_ 1 (d := dd ("_law_mixed", none) "_law_mixed" "_law_mixed" sMixed) rfl
  have F1 : Fun K "_law_mixed" "_law_mixed" sMixed (He.ga K "_law_mixed") fd1 := fun_of (st := sMixed) F1
  have B1 := F1.binds (ps := ["_law_number", "_law_count"]) fun _ _ _ _ _ _ us hl => match us, hl with | [_, _], _ => rfl
  obtain ⟨fd2, F2⟩ := c.def_ 2 (d := dd ("_law_draw", none) "_law_draw" "_law_draw" sDraw) rfl
  have F2 : Fun K "_law_draw" "_law_draw" sDraw (He.ga K "_law_draw") fd2 := fun_of (st := sDraw) F2
  have B2 := F2.binds (ps := ["_law_hand_here", "_law_many"]) fun _ _ _ _ _ _ us hl => match us, hl with | [_, _], _ => rfl
  obtain ⟨fd3, F3⟩ := c.def_ 3 (d := dd ("_law_same", none) "_law_same" "_law_same" sSame) rfl
  have F3 : Fun K "_law_same" "_law_same" sSame (He.ga K "_law_same") fd3 := fun_of (st := sSame) F3
  have B3 := F3.binds (ps := ["_law_actual", "_law_expected"]) fun _ _ _ _ _ _ us hl => match us, hl with | [_, _], _ => rfl
  obtain ⟨fd4, F4⟩ := c.def_ 4 (d := dd ("_law_kinds", none) "_law_kinds" "_law_kinds" sKinds) rfl
  have F4 : Fun K "_law_kinds" "_law_kinds" sKinds (He.ga K "_law_kinds") fd4 := fun_of (st := sKinds) F4
  have B4 := F4.binds (ps := ["_law_e"]) fun _ _ _ _ _ _ us hl => match us, hl with | [_], _ => rfl
  obtain ⟨fd5, F5⟩ := c.def_ 5 (d := dd ("_law_fields", none) "_law_fields" "_law_fields" sFields) rfl
  have F5 : Fun K "_law_fields" "_law_fields" sFields (He.ga K "_law_fields") fd5 := fun_of (st := sFields) F5
  have B5 := F5.binds (ps := ["_law_one", "_law_two"]) fun _ _ _ _ _ _ us hl => match us, hl with | [_, _], _ => rfl
  obtain ⟨fd6, F6⟩ := c.def_ 6 (d := dd ("_law_named_fields", none) "_law_named_fields" "_law_named_fields" sNamed) rfl
  have F6 : Fun K "_law_named_fields" "_law_named_fields" sNamed (He.ga K "_law_named_fields") fd6 := fun_of (st := sNamed) F6
  have B6 := F6.binds (ps := ["_law_one", "_law_two"]) fun _ _ _ _ _ _ us hl => match us, hl with | [_, _], _ => rfl
  obtain ⟨fd7, F7⟩ := c.def_ 7 (d := dd ("law", none) "law" "law" sLaw) rfl
  have F7 : Fun K "law" "law" sLaw (He.ga K "law") fd7 := fun_of (st := sLaw) F7
  have B7 := F7.binds (ps := ["_law_script"]) fun _ _ _ _ _ _ us hl => match us, hl with | [_], _ => rfl
  obtain ⟨fd8, F8⟩ := c.def_ 8 (d := dd ("BadColumns", some "__init__") "__init__" "BadColumns.__init__" sIBadColumns) rfl
  have F8 : Fun K "__init__" "BadColumns.__init__" sIBadColumns (He.ma K (Ci K 1) "__init__") fd8 := fun_of (st := sIBadColumns) F8
  obtain ⟨B8, D8⟩ := fun_binds (ps := ["self", "index"]) F8 (fun _ _ _ _ _ _ us hl => match us, hl with | [_, _], _ => rfl) (fun _ _ _ _ _ _ y ys hl => match ys, hl with | [_], _ => rfl) (fun _ _ _ _ _ _ y ys hl => match ys, hl with | [_], _ => rfl)
  obtain ⟨M8, N8⟩ := xi (1, ["index"]) (by decide +kernel) (by decide)
  obtain ⟨fd9, F9⟩ := c.def_ 9 (d := dd ("BadCases", some "__init__") "__init__" "BadCases.__init__" sIBadCases) rfl
  have F9 : Fun K "__init__" "BadCases.__init__" sIBadCases (He.ma K (Ci K 0) "__init__") fd9 := fun_of (st := sIBadCases) F9
  obtain ⟨B9, D9⟩ := fun_binds (ps := ["self", "index"]) F9 (fun _ _ _ _ _ _ us hl => match us, hl with | [_, _], _ => rfl) (fun _ _ _ _ _ _ y ys hl => match ys, hl with | [_], _ => rfl) (fun _ _ _ _ _ _ y ys hl => match ys, hl with | [_], _ => rfl)
  obtain ⟨M9, N9⟩ := xi (0, ["index"]) (by decide +kernel) (by decide)
  obtain ⟨fd10, F10⟩ := c.def_ 10 (d := dd ("BadTable", some "__init__") "__init__" "BadTable.__init__" sIBadTable) rfl
  have F10 : Fun K "__init__" "BadTable.__init__" sIBadTable (He.ma K (Ci K 7) "__init__") fd10 := fun_of (st := sIBadTable) F10
  obtain ⟨B10, D10⟩ := fun_binds (ps := ["self", "index"]) F10 (fun _ _ _ _ _ _ us hl => match us, hl with | [_, _], _ => rfl) (fun _ _ _ _ _ _ y ys hl => match ys, hl with | [_], _ => rfl) (fun _ _ _ _ _ _ y ys hl => match ys, hl with | [_], _ => rfl)
  obtain ⟨M10, N10⟩ := xi (7, ["index"]) (by decide +kernel) (by decide)
  obtain ⟨fd11, F11⟩ := c.def_ 11 (d := dd ("BadWants", some "__init__") "__init__" "BadWants.__init__" sIBadWants) rfl
  have F11 : Fun K "__init__" "BadWants.__init__" sIBadWants (He.ma K (Ci K 9) "__init__") fd11 := fun_of (st := sIBadWants) F11
  obtain ⟨B11, D11⟩ := fun_binds (ps := ["self", "index"]) F11 (fun _ _ _ _ _ _ us hl => match us, hl with | [_, _], _ => rfl) (fun _ _ _ _ _ _ y ys hl => match ys, hl with | [_], _ => rfl) (fun _ _ _ _ _ _ y ys hl => match ys, hl with | [_], _ => rfl)
  obtain ⟨M11, N11⟩ := xi (9, ["index"]) (by decide +kernel) (by decide)
  obtain ⟨fd12, F12⟩ := c.def_ 12 (d := dd ("NoRow", some "__init__") "__init__" "NoRow.__init__" sINoRow) rfl
  have F12 : Fun K "__init__" "NoRow.__init__" sINoRow (He.ma K (Ci K 14) "__init__") fd12 := fun_of (st := sINoRow) F12
  obtain ⟨B12, D12⟩ := fun_binds (ps := ["self", "name"]) F12 (fun _ _ _ _ _ _ us hl => match us, hl with | [_, _], _ => rfl) (fun _ _ _ _ _ _ y ys hl => match ys, hl with | [_], _ => rfl) (fun _ _ _ _ _ _ y ys hl => match ys, hl with | [_], _ => rfl)
  obtain ⟨M12, N12⟩ := xi (14, ["name"]) (by decide +kernel) (by decide)
  obtain ⟨fd13, F13⟩ := c.def_ 13 (d := dd ("BadPart", some "__init__") "__init__" "BadPart.__init__" sIBadPart) rfl
  have F13 : Fun K "__init__" "BadPart.__init__" sIBadPart (He.ma K (Ci K 4) "__init__") fd13 := fun_of (st := sIBadPart) F13
  obtain ⟨B13, D13⟩ := fun_binds (ps := ["self", "place", "why"]) F13 (fun _ _ _ _ _ _ us hl => match us, hl with | [_, _, _], _ => rfl) (fun _ _ _ _ _ _ y ys hl => match ys, hl with | [_, _], _ => rfl) (fun _ _ _ _ _ _ y ys hl => match ys, hl with | [_, _], _ => rfl)
  obtain ⟨M13, N13⟩ := xi (4, ["place", "why"]) (by decide +kernel) (by decide)
  obtain ⟨fd14, F14⟩ := c.def_ 14 (d := dd ("BadPlan", some "__init__") "__init__" "BadPlan.__init__" sIBadPlan) rfl
  have F14 : Fun K "__init__" "BadPlan.__init__" sIBadPlan (He.ma K (Ci K 5) "__init__") fd14 := fun_of (st := sIBadPlan) F14
  obtain ⟨B14, D14⟩ := fun_binds (ps := ["self", "place", "why"]) F14 (fun _ _ _ _ _ _ us hl => match us, hl with | [_, _, _], _ => rfl) (fun _ _ _ _ _ _ y ys hl => match ys, hl with | [_, _], _ => rfl) (fun _ _ _ _ _ _ y ys hl => match ys, hl with | [_, _], _ => rfl)
  obtain ⟨M14, N14⟩ := xi (5, ["place", "why"]) (by decide +kernel) (by decide)
  obtain ⟨fd15, F15⟩ := c.def_ 15 (d := dd ("Failed", some "__init__") "__init__" "Failed.__init__" sIFailed) rfl
  have F15 : Fun K "__init__" "Failed.__init__" sIFailed (He.ma K (Ci K 11) "__init__") fd15 := fun_of (st := sIFailed) F15
  obtain ⟨B15, D15⟩ := fun_binds (ps := ["self", "index", "code"]) F15 (fun _ _ _ _ _ _ us hl => match us, hl with | [_, _, _], _ => rfl) (fun _ _ _ _ _ _ y ys hl => match ys, hl with | [_, _], _ => rfl) (fun _ _ _ _ _ _ y ys hl => match ys, hl with | [_, _], _ => rfl)
  obtain ⟨M15, N15⟩ := xi (11, ["index", "code"]) (by decide +kernel) (by decide)
  obtain ⟨fd16, F16⟩ := c.def_ 16 (d := dd ("TooMany", some "__init__") "__init__" "TooMany.__init__" sITooMany) rfl
  have F16 : Fun K "__init__" "TooMany.__init__" sITooMany (He.ma K (Ci K 16) "__init__") fd16 := fun_of (st := sITooMany) F16
  obtain ⟨B16, D16⟩ := fun_binds (ps := ["self", "limit"]) F16 (fun _ _ _ _ _ _ us hl => match us, hl with | [_, _], _ => rfl) (fun _ _ _ _ _ _ y ys hl => match ys, hl with | [_], _ => rfl) (fun _ _ _ _ _ _ y ys hl => match ys, hl with | [_], _ => rfl)
  obtain ⟨M16, N16⟩ := xi (16, ["limit"]) (by decide +kernel) (by decide)
  refine ⟨fd7, ?_, fun base _ _ => ?_⟩
  · obtain ⟨oc, od, kV, doc, pm, an, cdv, ct, osl, rfl, lk, hcd⟩ := F7.ex
    exact fun s v => .of_eq rfl
  have e := hfa.symm.trans (gF "law" (by decide +kernel))
  cases e
  have A : Cls80 P w K mg base (Ci K) := {
    x0 := ⟨_, fd9, M9, okBadCases F9 M9.T (N9 "index" (by decide +kernel)), B9, D9, gC "BadCases" (by decide +kernel), (xb 0 (by decide)).f, N9⟩
    x1 := ⟨_, fd8, M8, okBadColumns F8 M8.T (N8 "index" (by decide +kernel)), B8, D8, gC "BadColumns" (by decide +kernel), (xb 1 (by decide)).f, N8⟩
    x2 := ⟨xn 2 (by decide +kernel), gC "BadLevel" (by decide +kernel), (xb 2 (by decide)).k⟩
    x3 := ⟨xn 3 (by decide +kernel), gC "BadLimit" (by decide +kernel), (xb 3 (by decide)).k⟩
    x4 := ⟨_, fd13, M13, okBadPart F13 M13.T (N13 "place" (by decide +kernel)) (N13 "why" (by decide +kernel)), B13, D13, gC "BadPart" (by decide +kernel), (xb 4 (by decide)).f, N13⟩
    x5 := ⟨_, fd14, M14, okBadPlan F14 M14.T (N14 "place" (by decide +kernel)) (N14 "why" (by decide +kernel)), B14, D14, gC "BadPlan" (by decide +kernel), (xb 5 (by decide)).f, N14⟩
    x6 := ⟨xn 6 (by decide +kernel), gC "BadSize" (by decide +kernel), (xb 6 (by decide)).k⟩
    x7 := ⟨_, fd10, M10, okBadTable F10 M10.T (N10 "index" (by decide +kernel)), B10, D10, gC "BadTable" (by decide +kernel), (xb 7 (by decide)).f, N10⟩
    x8 := ⟨xn 8 (by decide +kernel), gC "BadText" (by decide +kernel), (xb 8 (by decide)).k⟩
    x9 := ⟨_, fd11, M11, okBadWants F11 M11.T (N11 "index" (by decide +kernel)), B11, D11, gC "BadWants" (by decide +kernel), (xb 9 (by decide)).f, N11⟩
    x10 := ⟨xn 10 (by decide +kernel), gC "Ended" (by decide +kernel), (xb 10 (by decide)).k⟩
    x11 := ⟨_, fd15, M15, okFailed F15 M15.T (N15 "index" (by decide +kernel)) (N15 "code" (by decide +kernel)), B15, D15, gC "Failed" (by decide +kernel), (xb 11 (by decide)).f, N15⟩
    x12 := ⟨xn 12 (by decide +kernel), gC "NoFate" (by decide +kernel), (xb 12 (by decide)).k⟩
    x13 := ⟨xn 13 (by decide +kernel), gC "NoPlace" (by decide +kernel), (xb 13 (by decide)).k⟩
    x14 := ⟨_, fd12, M12, okNoRow F12 M12.T (N12 "name" (by decide +kernel)), B12, D12, gC "NoRow" (by decide +kernel), (xb 14 (by decide)).f, N12⟩
    x15 := ⟨xn 15 (by decide +kernel), gC "NoTruth" (by decide +kernel), (xb 15 (by decide)).k⟩
    x16 := ⟨_, fd16, M16, okTooMany F16 M16.T (N16 "limit" (by decide +kernel)), B16, D16, gC "TooMany" (by decide +kernel), (xb 16 (by decide)).f, N16⟩
    x17 := ⟨xn 17 (by decide +kernel), gC "Unlike" (by decide +kernel), (xb 17 (by decide)).k⟩
    e := fun j hj => (xb j hj).e
    k := kk }
  exact okLaw F7 B A F0 B0 (gF "_law_hand" (by decide +kernel)) F1 B1 (gF "_law_mixed" (by decide +kernel)) F2 B2 (gF "_law_draw" (by decide +kernel)) F3 B3 (gF "_law_same" (by decide +kernel)) F4 B4 (gF "_law_kinds" (by decide +kernel)) F5 B5 (gF "_law_fields" (by decide +kernel)) F6 B6 (gF "_law_named_fields" (by decide +kernel)) (mg_glo X G b3) (mg_free X G b2) (fun j hj => (kB j hj).1) fun j hj => (kB j hj).2
end L80
open PySem PySem.W PySem.Calls PyProof.Rows
theorem PySem.Challenge.cw_batchtests_k80_errors_holds : PySem.Challenge.rw_batchtests_k80_errors.Holds := by
  w_on; o_law
  refine HandSHeadRun.head_any (r := OpenLaw.row PySem.Challenge.rw_batchtests_k80_errors) (q := view (OpenLaw.row PySem.Challenge.rw_batchtests_k80_errors).prog [28]) (H := L80.hk) (ob := L80.ob) (M := 20000) (loose := ["BatchError", "BadColumns", "BadCases", "BadTable", "BadWants", "NoRow", "BadPart", "BadPlan", "Failed", "TooMany", "Unlike", "NoPlace", "NoTruth", "NoFate", "BadSize", "BadLimit", "BadLevel", "Ended", "BadText", "_law_hand", "_law_mixed", "_law_draw", "_law_same", "_law_kinds", "_law_fields", "_law_named_fields"]) (d := HandSHeadRun.topDef (OpenLaw.row PySem.Challenge.rw_batchtests_k80_errors).prog 28) (kwd := []) L80.ob_eq
    (by kernel_rfl) (fun s => by kernel_rfl) L80.run (by kernel_rfl) (by kernel_rfl) (by kernel_rfl) (by rfl) (by first | assumption | decide +kernel) (by decide +kernel) ⟨rfl, rfl, rfl, rfl, rfl, by decide +kernel⟩ ?hw ?hc
  case hw => w_witness2
  case hc =>
    refine L2.walk_ofE (l := PySem.Challenge.rw_batchtests_k80_errors) (n := 63) (k := 4) (x := "_law_script") (CX := L2.CX0) rfl (by decide) (by kernel_rfl) ⟨rfl, by decide, by decide⟩ ?F (fun _ _ _ _ z => z)
    intro w mg fa h Y G hmg0
    obtain ⟨K, KX, c, hx⟩ := Y
    have hmg : mg ("law" : PySem.Str) = some (.ref fa) := by
      have e : (HandSHeadRun.topDef (OpenLaw.row PySem.Challenge.rw_batchtests_k80_errors).prog 28).name = ("law" : PySem.Str) := by kernel_rfl
      rw [← e]
      exact hmg0
    obtain ⟨fd, hb, hF⟩ := L80.facts (P := (PySem.Challenge.rw_batchtests_k80_errors).prog) (w := w) KX G hmg c hx
    exact ⟨K, fd, Lh.spLaw K, KX, hb, fun H a ns hl _ hS => ⟨a, ns, rfl, hS, hl, fun _ => rfl⟩, hF⟩
#print axioms PySem.Challenge.cw_batchtests_k80_errors_holds
