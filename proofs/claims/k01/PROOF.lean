import PyProof.Rows.All
import Wide.All
import OpenK.AllK
import Wide.FinOn
import HandS.ForMost
import HandS.IsInst
import KE.GoesEnum
import HandS.Exc
import HandS.ExcOwn
import HandS.ExcInit
import HandS.ExcField
import HandS.ExcIs
import HandS.ExcValue
import HandS.Defaults
import HandS.Head0
import HandS.Head1
import HandS.Head2
import HandS.HeadEnd
import HandS.HeadHook1
import HandS.HeadHook2
import KE.KExcIs
import KE.KStateDown
import HandS.WordsExc
import HandS.Star
import HandS.Walk
import HandS.Style
import HandS.Text
import HandS.Rev
import HandS.RevTup
import HandS.Deep
import HandS.BoundList
import PySem.Challenge.RW_batchtests_k01_columns
set_option Elab.async false
set_option maxRecDepth 100000
set_option maxHeartbeats 4000000
/-! what every law of this document shares: the hand of drawn numbers -/
namespace Lw
open PySem L2
def top (i : Nat) : Stmt := PySem.Challenge.pw_batchtests_k01_columns.main.body.getD i (.Pass ⟨0, 0, 0, 0⟩)
abbrev sHand : Stmt := top 13
abbrev sMixed : Stmt := top 14
abbrev sDraw : Stmt := top 15
/-- a hand at p with its cells at q -/
structure HandAt (H : Hp) (p q : Addr) : Prop where
  ob : ∃ (i : Nat) (b c s : Int), H p = some (.lst [.ref q, .int (i : Int), .int b, .int c, .int s])
  cs : ∃ ns : List Int, H q = some (.lst (ns.map V.int)) ∧ ns.length ≤ 63
theorem HandAt.ne {H : Hp} {p q : Addr} (h : HandAt H p q) : q ≠ p := by
  intro e
  obtain ⟨⟨i, b, c, s, h1⟩, ns, h2, _⟩ := h
  subst e
  rw [h1] at h2
  have h3 := HO.lst.inj (Option.some.inj h2)
  cases ns with
  | nil => cases h3
  | cons a r => exact V.noConfusion (List.cons.inj h3).1
theorem HandAt.keep {H H' : Hp} {p q : Addr} (h : HandAt H p q) (hp : ∀ o, H p = some o → H' p = some o) (hq : ∀ o, H q = some o → H' q = some o) : HandAt H' p q := by
  obtain ⟨⟨i, b, c, s, h1⟩, ns, h2, h3⟩ := h
  exact ⟨⟨i, b, c, s, hp _ h1⟩, ns, hq _ h2, h3⟩
theorem HandAt.same {H H' : Hp} {p q : Addr} (h : HandAt H p q) (e : Same H H') : HandAt H' p q := h.keep (fun o z => e p o z) (fun o z => e q o z)
theorem HandAt.np {H : Hp} {p q x : Addr} (h : HandAt H p q) (e : H x = none) : x ≠ p ∧ x ≠ q := by
  obtain ⟨⟨i, b, c, s, h1⟩, ns, h2, h3⟩ := h
  exact ⟨(ne_of_none h1 e).symm, (ne_of_none h2 e).symm⟩
theorem HandAt.upd {H : Hp} {p q x : Addr} {o : HO} (h : HandAt H p q) (hp : x ≠ p) (hq : x ≠ q) : HandAt (upd H x o) p q :=
  h.keep (fun z e => by rw [upd_ne hp.symm]; exact e) (fun z e => by rw [upd_ne hq.symm]; exact e)
/-- all but p is as it was -/
def Else (p : Addr) (H H' : Hp) : Prop := ∀ b o, H b = some o → b ≠ p → H' b = some o
theorem Else.refl (p : Addr) (H : Hp) : Else p H H := fun _ _ h _ => h
theorem Else.trans {p : Addr} {H H1 H2 : Hp} (a : Else p H H1) (b : Else p H1 H2) : Else p H H2 := fun c o h n => b c o (a c o h n) n
theorem Else.of {p : Addr} {H H' : Hp} (a : Same H H') : Else p H H' := fun c o h _ => a c o h
theorem Else.put {p : Addr} {H : Hp} {o : HO} : Else p H (L2.upd H p o) := fun c u h n => by rw [upd_ne n]; exact h
theorem Else.new {p a : Addr} {H H' : Hp} {o : HO} (e : Else p H H') (h : H' a = none) : Else p H (L2.upd H' a o) := fun c u z n => by
  have y := e c u z n
  rw [upd_ne (ne_of_none y h)]
  exact y
theorem Else.none {p a : Addr} {H H' : Hp} (e : Else p H H') (h : H' a = none) (n : a ≠ p) : H a = none := by
  cases q : H a with
  | none => rfl
  | some o =>
    rw [e a o q n] at h
    cases h
theorem same_new {H : Hp} {a : Addr} {o : HO} (h : H a = none) : Same H (L2.upd H a o) := fun b u e => by
  rw [upd_ne (ne_of_none e h)]
  exact e
/-- a part whose place no run comes to -/
theorem pe_never {X : Cx} {e : Expr} : PE X e (fun _ _ _ => False) := ⟨fun _ _ _ _ _ _ h => h.elim⟩
/-- the built-in names that no module's name hides -/
structure Bt (mg : Str → Option Value) : Prop where
  len : mg "len" = none
  int : mg "int" = none
  list : mg "list" = none
  range : mg "range" = none
  isi : mg "isinstance" = none
  str : mg "str" = none
  bool : mg "bool" = none
  tuple : mg "tuple" = none
  dict : mg "dict" = none
def spHand (K : PySem.W.Frag) : Sp := fun vs H Q _ => ∃ (a : Addr) (ns : List Int), vs = [.ref a] ∧ SqL K H a (ns.map V.int) ∧ ns.length ≤ 63 ∧
  ∀ (p q : Addr) (H' : Hp), H p = none → H q = none → HandAt H' p q → Same H H' → Q (.ref p) H'
def spMixed : Sp := fun vs H Q _ => ∃ x y : Int, vs = [.int x, .int y] ∧ ∀ r : Int, 0 ≤ r → Q (.int r) H
def spDraw : Sp := fun vs H Q _ => ∃ (p q : Addr) (m : Int), vs = [.ref p, .int m] ∧ HandAt H p q ∧ 0 < m ∧ m < 1073741824 ∧
  ∀ (r : Int) (H' : Hp), 0 ≤ r → r < m → HandAt H' p q → Else p H H' → Q (.int r) H'
section
variable {P : Program} {w : World} {K : PySem.W.Frag} {mg : Str → Option Value} {base : Heap}
theorem scMixed : FnScope ["_law_number", "_law_count", "_law_first", "_law_second"] ["_law_number", "_law_count"] (defScope sMixed) := ⟨rfl, rfl, rfl, by decide +kernel, rfl, by decide +kernel, by decide +kernel⟩
theorem ok_mixed {f : Addr} {fd : FuncData} (F : Fun K "_law_mixed" "_law_mixed" sMixed f fd) (B : Bt mg) : FnOk P w K mg base CX0 1 f fd ["_law_number", "_law_count"] spMixed := by
  refine F.ok scMixed (fun vs H Q E h => ?_) (fun cdv A outer s H vs Q E hr h => ?_)
  · obtain ⟨x, y, rfl, _⟩ := h
    rfl
  · obtain ⟨x, y, rfl, k⟩ := h
    refine ⟨_, pss_cons (ps_set (i := 2) scMixed.nd rfl (Or.inl rfl) (pe_op op_mod (pe_callTy call_int1 (by rfl) B.int (by decide +kernel) (pa_cons (pe_op op_add (pe_op op_add (pe_op op_mul (pv 0) pe_int) (pe_op op_mul (pv 1) pe_int)) pe_int) pa_nil)) pe_int))
      (pss_cons (ps_set (i := 3) scMixed.nd rfl (Or.inl rfl) (pe_op op_mod (pe_callTy call_int1 (by rfl) B.int (by decide +kernel) (pa_cons (pe_op op_mul (pv 2) (pe_op op_add (pe_op op_fdiv (pv 2) pe_int) pe_int)) pa_nil)) pe_int))
      (pss_one (ps_ret (pe_op op_mod (pe_callTy call_int1 (by rfl) B.int (by decide +kernel) (pa_cons (pe_op op_add (pe_op op_mul (pv 3) (pe_op op_add (pe_op op_fdiv (pv 3) pe_int) pe_int)) (pe_op op_mul (pv 1) pe_int)) pa_nil)) pe_int)))), ?_⟩
    refine ⟨_, rfl, _, _, rfl, rfl, .inr ⟨by decide, by decide⟩, _, rfl, _, _, rfl, rfl, .inr ⟨by decide, by decide⟩, _, _, rfl, rfl, _, _, rfl, rfl, .inl ⟨_, rfl, _, _, rfl, rfl, (by show (0 : Int) < 2147483647; decide), ?_⟩⟩
    generalize e1 : (x * 48271 + y * 7919 + 30103) % 2147483647 = u
    have u0 : 0 ≤ u := by omega
    have u1 : u < 2147483647 := by omega
    refine ⟨_, rfl, _, rfl, _, _, rfl, rfl, ⟨by decide, by decide⟩, _, _, rfl, rfl, _, _, rfl, rfl, .inl ⟨by omega, by omega⟩, .inl ⟨_, rfl, _, _, rfl, rfl, (by show (0 : Int) < 2147483647; decide), ?_⟩⟩
    generalize e2 : (u * (u / 1009 + 69621)) % 2147483647 = v
    have v0 : 0 ≤ v := by omega
    have v1 : v < 2147483647 := by omega
    refine ⟨_, rfl, _, rfl, _, _, rfl, rfl, ⟨by decide, by decide⟩, _, _, rfl, rfl, _, _, rfl, rfl, .inl ⟨by omega, by omega⟩, _, rfl, _, _, rfl, rfl, .inr ⟨by decide, by decide⟩, _, _, rfl, rfl, .inl ⟨_, rfl, _, _, rfl, rfl, (by show (0 : Int) < 2147483399; decide), ?_⟩⟩
    exact k _ (by omega)
theorem scHand : FnScope ["_law_script", "_law_cells", "_law_seed", "_law_cell"] ["_law_script"] (defScope sHand) := ⟨rfl, rfl, rfl, by decide +kernel, rfl, by decide +kernel, by decide +kernel⟩
theorem ok_hand {f : Addr} {fd : FuncData} (F : Fun K "_law_hand" "_law_hand" sHand f fd) (B : Bt mg) : FnOk P w K mg base CX0 1 f fd ["_law_script"] (spHand K) := by
  refine F.ok scHand (fun vs H Q E h => ?_) (fun cdv A outer s H vs Q E hr h => ?_)
  · obtain ⟨a, ns, rfl, _⟩ := h
    rfl
  · obtain ⟨a, ns, rfl, hS, hlen, k⟩ := h
    refine ⟨_, pss_cons (ps_set (i := 1) scHand.nd rfl (Or.inl rfl) (pe_callTy call_list_of (by rfl) B.list (by decide +kernel) (pa_cons (pe_slice sl_list (pv 0) po_none (po_some pe_int)) pa_nil)))
      (pss_cons (ps_set (i := 2) scHand.nd rfl (Or.inl rfl) pe_int)
      (pss_cons (ps_for PassesOwn.never rfl (pi_list (pv 1)) (pg_name (i := 3) scHand.nd rfl (Or.inl rfl))
        (pss_one (ps_set (i := 2) scHand.nd rfl (Or.inl rfl) (pe_op op_mod (pe_callTy call_int1 (by rfl) B.int (by decide +kernel) (pa_cons (pe_op op_add (pe_op op_add (pe_op op_mul (pv 2) pe_int) (pv 3)) pe_int) pa_nil)) pe_int))))
      (pss_one (ps_ret (pe_lst (pa_cons (pv 1) (pa_cons pe_int (pa_cons pe_int (pa_cons pe_int (pa_cons (pv 2) pa_nil)))))))))), ?_⟩
    -- list(script[:63])
    refine ⟨_, rfl, 63, rfl, a, _, rfl, hS, fun t ht => ⟨t, _, rfl, .inl (SqL.of upd_same), fun q hq => ?_⟩⟩
    have hq0 : H q = none := (same_new ht).free hq
    obtain ⟨ms, em, lm⟩ : ∃ ms : List Int, cutV (ns.map V.int) none (some 63) = ms.map V.int ∧ ms.length ≤ 63 := by
      refine ⟨(ns.drop (HT.sIx ns.length 0 none)).take (HT.sIx ns.length ns.length (some 63) - HT.sIx ns.length 0 none), ?_, ?_⟩
      · unfold cutV
        rw [List.length_map, List.map_take, List.map_drop]
      · rw [List.length_take, List.length_drop]
        omega
    rw [em] at hq ⊢
    have s0 : Same H (upd (upd H t (.lst (ms.map V.int))) q (.lst (ms.map V.int))) := (same_new ht).trans (same_new hq)
    refine ⟨_, rfl, q, rfl, ⟨_, SqL.of upd_same⟩, for_list (K := K) (a := q) (xs := ms.map V.int) (fun i σ H2 => ∃ (z : Int) (v : Option V), σ = [some (.ref a), some (.ref q), some (.int z), v] ∧ H2 = upd (upd H t (.lst (ms.map V.int))) q (.lst (ms.map V.int)))
      ⟨7, none, rfl, rfl⟩ (fun i σ H2 _ ⟨_, _, _, e⟩ => by rw [e]; exact SqL.of upd_same) ?_ ?_⟩
    · rintro i y σ H2 hi ⟨z, v, rfl, rfl⟩
      obtain ⟨n, rfl⟩ : ∃ n, y = V.int n := by
        rw [List.getElem?_map] at hi
        cases e : ms[i]? with
        | none =>
          rw [e] at hi
          cases hi
        | some n =>
          rw [e] at hi
          exact ⟨n, (Option.some.inj hi).symm⟩
      refine ⟨_, rfl, _, _, rfl, rfl, .inr ⟨by decide, by decide⟩, _, rfl, _, _, rfl, rfl, _, _, rfl, rfl, .inl ⟨_, rfl, _, _, rfl, rfl, (by show (0 : Int) < 2147483629; decide), ?_⟩⟩
      exact ⟨_, _, rfl, rfl⟩
    · rintro σ H2 ⟨z, v, rfl, rfl⟩
      refine ⟨_, rfl, _, rfl, (by show 5 ≤ sizeLine; decide), fun p hp => ?_⟩
      have hp0 : H p = none := s0.free hp
      have hqp : q ≠ p := ne_of_none (upd_same (H := upd H t (.lst (ms.map V.int))) (a := q) (o := .lst (ms.map V.int))) hp
      refine k p q _ hp0 hq0 ⟨⟨0, 0, 0, z, upd_same⟩, ms, by rw [upd_ne hqp, upd_same], lm⟩ (s0.trans (same_new hp))
end
end Lw
namespace Lw
open PySem L2
section
variable {P : Program} {w : World} {K : PySem.W.Frag} {mg : Str → Option Value} {base : Heap}
theorem scDraw : FnScope ["_law_hand_here", "_law_many", "_law_cell", "_law_digit"] ["_law_hand_here", "_law_many"] (defScope sDraw) := ⟨rfl, rfl, rfl, by decide +kernel, rfl, by decide +kernel, by decide +kernel⟩
/-- the hand's list -/
abbrev hl (q : Addr) (i : Nat) (b c s : Int) : HO := .lst [.ref q, .int (i : Int), .int b, .int c, .int s]
theorem ok_draw {f fM : Addr} {fd fdM : FuncData} (F : Fun K "_law_draw" "_law_draw" sDraw f fd) (B : Bt mg) (FM : Fun K "_law_mixed" "_law_mixed" sMixed fM fdM) (bM : Binds K fdM ["_law_number", "_law_count"] []) (mM : mg "_law_mixed" = some (.ref fM)) :
    FnOk P w K mg base CX0 2 f fd ["_law_hand_here", "_law_many"] spDraw := by
  have GM : FnOk P w K mg base CX0 1 fM fdM ["_law_number", "_law_count"] spMixed := ok_mixed FM B
  refine F.ok scDraw (fun vs H Q E h => ?_) (fun cdv A outer s H vs Q E hr h => ?_)
  · obtain ⟨p, q, m, rfl, _⟩ := h
    rfl
  · obtain ⟨p, q, m, rfl, hA, m0, m1, k⟩ := h
    have hqp : q ≠ p := hA.ne
    obtain ⟨⟨i, b, c, z, h1⟩, ns, h2, h3⟩ := hA
    -- behind the first if
    obtain ⟨t2, d2, k2⟩ : ∃ t, PSs (cxOf CX0 P w K mg base ["_law_hand_here", "_law_many", "_law_cell", "_law_digit"] "_law_draw" (defScope sDraw) f cdv A outer s H E).nox ((defBody sDraw).drop 2) t ∧
        ∀ (v : Option V) (i : Nat) (b c z : Int) (H' : Hp), H' p = some (hl q i b c z) → Else p H H' → t { nx := fun _ H' => Q .non H', rt := Q } [some (.ref p), some (.int m), v, none] H' := by
      refine ⟨_, pss_cons (ps_if (pt_cmpR op_gt (pe_ix ix_list (pv 0) pe_int (fun _ _ => rfl)) pe_int (nomark _))
          (pss_cons (ps_set (i := 3) scDraw.nd rfl (Or.inl rfl) (pe_op op_mod (pe_callTy call_int1 (by rfl) B.int (by decide +kernel) (pa_cons (pe_ix ix_list (pv 0) pe_int (fun _ _ => rfl)) pa_nil)) (pv 1)))
          (pss_cons (ps_asg (pe_op op_fdiv (pe_ix ix_list (pv 0) pe_int (fun _ _ => rfl)) (pv 1)) (pg_sub (pv 0) pe_int set_list))
          (pss_one (ps_ret (pv 3))))) pss_nil)
        (pss_one (ps_ret (pe_op op_mod (pe_callTy call_int1 (by rfl) B.int (by decide +kernel) (pa_cons (pe_op op_fdiv (pe_call GM hr rfl mM FM.kp bM .nil pass0 (pa_cons (pe_ix ix_list (pv 0) pe_int (fun _ _ => rfl)) (pa_cons (pe_ix ix_list (pv 0) pe_int (fun _ _ => rfl)) pa_nil))) pe_int) pa_nil)) (pv 1)))), ?_⟩
      intro v i b c z H' g1 e1
      have g2 := e1 q _ h2 hqp
      refine ⟨_, rfl, p, _, _, _, rfl, rfl, SqL.of g1, at_of (j := 2) rfl rfl, _, _, rfl, rfl, _, rfl, ?_⟩
      refine ite2 (fun hb => ?_) (fun hb => ?_)
      · refine ⟨_, rfl, p, _, _, _, rfl, rfl, SqL.of g1, at_of (j := 2) rfl rfl, .inl ⟨_, rfl, _, rfl, _, _, rfl, rfl, m0, ?_⟩⟩
        refine ⟨_, rfl, p, _, _, _, rfl, rfl, SqL.of g1, at_of (j := 2) rfl rfl, _, rfl, _, _, rfl, rfl, ⟨m0, m1⟩, _, rfl, p, _, _, 2, rfl, rfl, g1, rfl, ?_⟩
        refine ⟨_, rfl, k _ _ (Int.emod_nonneg _ (by omega)) (Int.emod_lt_of_pos _ m0) ⟨⟨i, _, c, z, upd_same⟩, ns, by rw [upd_ne hqp]; exact g2, h3⟩ (e1.trans Else.put)⟩
      · refine ⟨_, rfl, p, _, _, _, rfl, rfl, SqL.of g1, at_of (j := 4) rfl rfl, _, rfl, p, _, _, _, rfl, rfl, SqL.of g1, at_of (j := 3) rfl rfl, _, _, rfl, fun r hr0 => ⟨_, _, rfl, rfl, ⟨by decide, by decide⟩, .inl ⟨_, rfl, _, rfl, _, _, rfl, rfl, m0, ?_⟩⟩⟩
        exact k _ _ (Int.emod_nonneg _ (by omega)) (Int.emod_lt_of_pos _ m0) ⟨⟨i, b, c, z, g1⟩, ns, g2, h3⟩ e1
    refine ⟨_, pss_cons (ps_asg (pe_op op_add (pe_ix ix_list (pv 0) pe_int (fun _ _ => rfl)) pe_int) (pg_sub (pv 0) pe_int set_list))
      (pss_cons (ps_if (pw_and (pt_cmpR op_eq (pe_ix ix_list (pv 0) pe_int (fun _ _ => rfl)) pe_int (nomark _))
          (pw_and1 (pt_cmpR op_lt (pe_ix ix_list (pv 0) pe_int (fun _ _ => rfl)) (pe_callB call_len_seq (by rfl) B.len PySem.boot_len (pa_cons (pe_ix ix_list (pv 0) pe_int (fun _ _ => rfl)) pa_nil)) (nomark _)))).pt
        (pss_cons (ps_set (i := 2) scDraw.nd rfl (Or.inl rfl) (pe_ix ix_list (pe_ix ix_list (pv 0) pe_int (fun _ _ => rfl)) (pe_ix ix_list (pv 0) pe_int (fun _ _ => rfl)) (fun _ _ => rfl)))
        (pss_cons (ps_asg (pe_op op_add (pe_ix ix_list (pv 0) pe_int (fun _ _ => rfl)) pe_int) (pg_sub (pv 0) pe_int set_list))
        (pss_cons (ps_if (pt_cmpR op_lt (pv 2) (pe_op op_pow pe_int pe_int) (nomark _))
          (pss_one (ps_ret (pe_op op_mod (pe_callTy call_int1 (by rfl) B.int (by decide +kernel) (pa_cons (pe_op op_fdiv (pe_call GM hr rfl mM FM.kp bM .nil pass0 (pa_cons (pe_op op_add (pv 2) (pe_ix ix_list (pv 0) pe_int (fun _ _ => rfl))) (pa_cons (pe_ix ix_list (pv 0) pe_int (fun _ _ => rfl)) pa_nil))) pe_int) pa_nil)) (pv 1)))) pss_nil)
        (pss_one (ps_asg (pv 2) (pg_sub (pv 0) pe_int set_list)))))) pss_nil) d2), ?_⟩
    -- hand[3] = hand[3] + 1
    refine ⟨_, rfl, p, _, _, _, rfl, rfl, SqL.of h1, at_of (j := 3) rfl rfl, _, _, rfl, rfl, _, rfl, p, _, _, 3, rfl, rfl, h1, rfl, ?_⟩
    have g1 : upd H p (.lst (List.set [V.ref q, .int (i : Int), .int b, .int c, .int z] 3 (.int (c + 1)))) p = some (hl q i b (c + 1) z) := upd_same
    have g2 : upd H p (.lst (List.set [V.ref q, .int (i : Int), .int b, .int c, .int z] 3 (.int (c + 1)))) q = some (.lst (ns.map V.int)) := by rw [upd_ne hqp]; exact h2
    have e1 : Else p H (upd H p (.lst (List.set [V.ref q, .int (i : Int), .int b, .int c, .int z] 3 (.int (c + 1))))) := Else.put
    generalize upd H p (.lst (List.set [V.ref q, .int (i : Int), .int b, .int c, .int z] 3 (.int (c + 1)))) = H1 at g1 g2 e1
    -- hand[2] == 0
    refine ⟨_, rfl, p, _, _, _, rfl, rfl, SqL.of g1, at_of (j := 2) rfl rfl, rfl, _, rfl, ?_⟩
    refine ite2 (fun hb => ?_) (fun hb => iteF (k2 _ _ _ _ _ _ g1 e1))
    -- hand[1] < len(hand[0])
    refine ⟨_, rfl, p, _, _, _, rfl, rfl, SqL.of g1, at_of (j := 1) rfl rfl, _, rfl, p, _, _, _, rfl, rfl, SqL.of g1, at_of (j := 0) rfl rfl, q, _, rfl, .inl (SqL.of g2), _, _, rfl, rfl, _, rfl, ?_⟩
    refine ite2 (fun hi => ?_) (fun hi => k2 _ _ _ _ _ _ g1 e1)
    have hi' : (i : Int) < ((ns.map V.int).length : Int) := of_decide_eq_true hi
    rw [List.length_map] at hi'
    obtain ⟨n, hn⟩ : ∃ n, ns[i]? = some n := ⟨ns[i]'(by omega), List.getElem?_eq_getElem (by omega)⟩
    have hn' : (ns.map V.int)[i]? = some (V.int n) := by rw [List.getElem?_map, hn]; rfl
    -- cell = hand[0][hand[1]]; hand[1] = hand[1] + 1
    refine ⟨_, rfl, p, _, _, _, rfl, rfl, SqL.of g1, at_of (j := 0) rfl rfl, _, rfl, p, _, _, _, rfl, rfl, SqL.of g1, at_of (j := 1) rfl rfl, q, _, _, _, rfl, rfl, SqL.of g2, atI_nat hn', ?_⟩
    refine ⟨_, rfl, p, _, _, _, rfl, rfl, SqL.of g1, at_of (j := 1) rfl rfl, _, _, rfl, rfl, _, rfl, p, _, _, 1, rfl, rfl, g1, rfl, ?_⟩
    have f1 : upd H1 p (.lst (List.set [V.ref q, .int (i : Int), .int b, .int (c + 1), .int z] 1 (.int ((i : Int) + 1)))) p = some (hl q (i + 1) b (c + 1) z) := upd_same
    have f2 : upd H1 p (.lst (List.set [V.ref q, .int (i : Int), .int b, .int (c + 1), .int z] 1 (.int ((i : Int) + 1)))) q = some (.lst (ns.map V.int)) := by rw [upd_ne hqp]; exact g2
    have e2 : Else p H (upd H1 p (.lst (List.set [V.ref q, .int (i : Int), .int b, .int (c + 1), .int z] 1 (.int ((i : Int) + 1))))) := e1.trans Else.put
    generalize upd H1 p (.lst (List.set [V.ref q, .int (i : Int), .int b, .int (c + 1), .int z] 1 (.int ((i : Int) + 1)))) = H2 at f1 f2 e2
    -- cell < 10 ** 18
    refine ⟨_, rfl, _, _, rfl, rfl, ⟨by decide, by decide, by decide⟩, _, _, rfl, rfl, _, rfl, ?_⟩
    refine ite2 (fun hc => ?_) (fun hc => ?_)
    · refine ⟨_, rfl, _, rfl, p, _, _, _, rfl, rfl, SqL.of f1, at_of (j := 4) rfl rfl, _, _, rfl, rfl, _, rfl, p, _, _, _, rfl, rfl, SqL.of f1, at_of (j := 3) rfl rfl, _, _, rfl, fun r hr0 => ⟨_, _, rfl, rfl, ⟨by decide, by decide⟩, .inl ⟨_, rfl, _, rfl, _, _, rfl, rfl, m0, ?_⟩⟩⟩
      exact k _ _ (Int.emod_nonneg _ (by omega)) (Int.emod_lt_of_pos _ m0) ⟨⟨_, _, _, _, f1⟩, ns, f2, h3⟩ e2
    · refine ⟨_, rfl, _, rfl, p, _, _, 2, rfl, rfl, f1, rfl, ?_⟩
      exact k2 _ (i + 1) n (c + 1) z _ upd_same (e2.trans Else.put)
end
end Lw
namespace Lw
open PySem L2
abbrev sSame : Stmt := top 17
def Atom : V → Prop
  | .non => True
  | .bl _ => True
  | .int _ => True
  | .str _ => True
  | _ => False
/-- x and y hold the same data, n deep -/
def Eqv (H : Hp) : Nat → V → V → Prop
  | 0, x, y => x = y ∧ Atom x
  | n + 1, x, y => (x = y ∧ Atom x) ∨ ∃ (a b : Addr) (xs ys : List V), x = .ref a ∧ y = .ref b ∧ ((H a = some (.lst xs) ∧ H b = some (.lst ys)) ∨ (H a = some (.tup xs) ∧ H b = some (.tup ys))) ∧
      xs.length = ys.length ∧ xs.length ≤ 1000 ∧ ∀ (i : Nat) (u v : V), xs[i]? = some u → ys[i]? = some v → Eqv H n u v
theorem Eqv.atom {H : Hp} {x : V} (h : Atom x) : ∀ n, Eqv H n x x
  | 0 => ⟨rfl, h⟩
  | _ + 1 => .inl ⟨rfl, h⟩
theorem Eqv.same {H H' : Hp} (s : Same H H') : ∀ {n : Nat} {x y : V}, Eqv H n x y → Eqv H' n x y
  | 0, _, _, h => h
  | n + 1, x, y, h => by
    rcases h with h | ⟨a, b, xs, ys, e1, e2, h1, h2, h3, h4⟩
    · exact .inl h
    · refine .inr ⟨a, b, xs, ys, e1, e2, ?_, h2, h3, fun i u v p q => Eqv.same s (h4 i u v p q)⟩
      rcases h1 with ⟨p, q⟩ | ⟨p, q⟩
      · exact .inl ⟨s _ _ p, s _ _ q⟩
      · exact .inr ⟨s _ _ p, s _ _ q⟩
theorem Eqv.up {H : Hp} : ∀ {n : Nat} {x y : V}, Eqv H n x y → Eqv H (n + 1) x y
  | 0, _, _, h => .inl h
  | n + 1, x, y, h => by
    rcases h with h | ⟨a, b, xs, ys, e1, e2, h1, h2, h3, h4⟩
    · exact .inl h
    · exact .inr ⟨a, b, xs, ys, e1, e2, h1, h2, h3, fun i u v p q => (h4 i u v p q).up⟩
theorem isi_of {K : PySem.W.Frag} {H : Hp} {x : V} {n T : String} {b : Bool} {Q : VK} (ty : TyX K H x (.type n)) (h : kitB n T = some b) (q : Q (.bl b) H) : rIsi K [x, .ty T] H Q :=
  ⟨x, .ty T, .type n, .type T, b, rfl, .ty T, ty, kit_ty h, q⟩
def spSame (n : Nat) : Sp := fun vs H Q _ => ∃ x y : V, vs = [x, y] ∧ Eqv H n x y ∧ ∀ H', Same H H' → Q (.bl true) H'
section
variable {P : Program} {w : World} {K : PySem.W.Frag} {mg : Str → Option Value} {base : Heap}
theorem scSame : FnScope ["_law_actual", "_law_expected", "_law_key", "_law_k"] ["_law_actual", "_law_expected"] (defScope sSame) := ⟨rfl, rfl, rfl, by decide +kernel, rfl, by decide +kernel, by decide +kernel⟩
/-- one turn of _law_same's recursion -/
theorem ok_same_of {f : Addr} {fd : FuncData} (F : Fun K "_law_same" "_law_same" sSame f fd) (B : Bt mg) (b0 : Binds K fd ["_law_actual", "_law_expected"] []) (m0 : mg "_law_same" = some (.ref f)) (n : Nat)
    (G : ∀ m, n = m + 1 → FnOk P w K mg base CX0 n f fd ["_law_actual", "_law_expected"] (spSame m)) : FnOk P w K mg base CX0 (n + 1) f fd ["_law_actual", "_law_expected"] (spSame n) := by
  refine F.ok scSame (fun vs H Q E h => ?_) (fun cdv A outer s H vs Q E hr h => ?_)
  · obtain ⟨x, y, rfl, _⟩ := h
    rfl
  · obtain ⟨x, y, rfl, hE, k⟩ := h
    -- what is no atom
    obtain ⟨t5, d5, k5⟩ : ∃ t, PSs (cxOf CX0 P w K mg base ["_law_actual", "_law_expected", "_law_key", "_law_k"] "_law_same" (defScope sSame) f cdv A outer s H E).nox ((defBody sSame).drop 5) t ∧
        ∀ (m : Nat) (a b : Addr) (xs ys : List V), n = m + 1 → ((H a = some (.lst xs) ∧ H b = some (.lst ys)) ∨ (H a = some (.tup xs) ∧ H b = some (.tup ys))) →
          xs.length = ys.length → xs.length ≤ 1000 → (∀ (i : Nat) (u v : V), xs[i]? = some u → ys[i]? = some v → Eqv H m u v) → (x = .ref a ∧ y = .ref b) →
          t { nx := fun _ H' => Q .non H', rt := Q } [some (.ref a), some (.ref b), none, none] H := by
      cases n with
      | zero => exact ⟨_, pss_never, fun m _ _ _ _ e => nomatch e⟩
      | succ m =>
        have GS := G m rfl
        refine ⟨_, pss_cons (ps_if (pw_or (pt_cmpR op_ne (pe_callB call_isi (by rfl) B.isi (by decide +kernel) (pa_cons (pv 1) (pa_cons (pe_bltn (v := .ty "tuple") (by rfl) B.tuple (by decide +kernel) rfl) pa_nil)))
              (pe_callB call_isi (by rfl) B.isi (by decide +kernel) (pa_cons (pv 0) (pa_cons (pe_bltn (v := .ty "tuple") (by rfl) B.tuple (by decide +kernel) rfl) pa_nil))) (nomark _))
            (pw_or1 (pt_not (pt_val (pe_callB call_isiT (by rfl) B.isi (by decide +kernel) (pa_cons (pv 0) (pa_cons (pe_tup (pa_cons (pe_bltn (v := .ty "tuple") (by rfl) B.tuple (by decide +kernel) rfl) (pa_cons (pe_bltn (v := .ty "list") (by rfl) B.list (by decide +kernel) rfl) pa_nil))) pa_nil))))))).pt pss_never pss_nil)
          (pss_cons (ps_if (pt_cmpR op_ne (pe_callB call_len_seq (by rfl) B.len PySem.boot_len (pa_cons (pv 0) pa_nil)) (pe_callB call_len_seq (by rfl) B.len PySem.boot_len (pa_cons (pv 1) pa_nil)) (nomark _)) pss_never pss_nil)
          (pss_one (ps_ret (pe_cmpR op_eq (pe_callB call_len_seq (by rfl) B.len PySem.boot_len (pa_cons
            (pe_lc (own := [("_law_k", 3)]) (g := gName 3) (by rfl) scSame.nd (pi_range1 rfl B.range (pa_cons (pe_callB call_len_seq (by rfl) B.len PySem.boot_len (pa_cons (pv 1) pa_nil)) pa_nil))
              (blkOk_by (own := [("_law_k", 3)]) (N := ["_law_actual", "_law_expected", "_law_key", "_law_k"]) (sc := defScope sSame) (by decide +kernel)) (fun _ _ _ _ _ => pg_name (i := 3) scSame.nd rfl (Or.inl rfl))
              (fun _ _ _ _ _ => pts_one (pt_not (pt_val (pe_call GS hr rfl m0 F.kp b0 .nil pass0 (pa_cons (pe_ix (r := rIx K) ix_seq (pv 0) (pv 3) (fun _ _ => rfl)) (pa_cons (pe_ix (r := rIx K) ix_seq (pv 1) (pv 3) (fun _ _ => rfl)) pa_nil))))))
              (fun _ _ _ _ _ => pv 3)) pa_nil)) pe_int (nomark _))))), ?_⟩
        intro m' a b xs ys em hk hl hz hp hxy
        obtain rfl : m' = m := by omega
        -- both are of one kind
        obtain ⟨T, tx, ty, e1, e2⟩ : ∃ T : Bool, (∀ H', Same H H' → TyX K H' (.ref a) (.type (if T then "tuple" else "list"))) ∧ TyX K H (.ref b) (.type (if T then "tuple" else "list")) ∧ kitB (if T then "tuple" else "list") "tuple" = some T ∧
            ∀ H', Same H H' → (SqL K H' a xs ∧ SqL K H' b ys) ∨ (SqT K H' a xs ∧ SqT K H' b ys) := by
          rcases hk with ⟨p, q⟩ | ⟨p, q⟩
          · exact ⟨false, fun H' s => .base (.lst (s _ _ p)), .base (.lst q), by decide +kernel, fun H' s => .inl ⟨SqL.of (s _ _ p), SqL.of (s _ _ q)⟩⟩
          · exact ⟨true, fun H' s => .base (.tup (s _ _ p)), .base (.tup q), by decide +kernel, fun H' s => .inr ⟨SqT.of (s _ _ p), SqT.of (s _ _ q)⟩⟩
        have lenA : ∀ H', Same H H' → SqL K H' a xs ∨ SqT K H' a xs := fun H' s => (e2 H' s).elim (fun z => .inl z.1) fun z => .inr z.1
        have lenB : ∀ H', Same H H' → SqL K H' b ys ∨ SqT K H' b ys := fun H' s => (e2 H' s).elim (fun z => .inl z.2) fun z => .inr z.2
        have any : kitB (if T then "tuple" else "list") "list" = some (!T) := by cases T <;> decide +kernel
        refine ⟨_, rfl, _, _, _, _, T, rfl, .ty _, ty, kit_ty e1, _, rfl, _, _, _, _, T, rfl, .ty _, tx H (Same.refl H), kit_ty e1, rfl, _, rfl, ?_⟩
        rw [decide_eq_true (p := V.bl T = V.bl T) rfl]
        refine iteF ⟨_, rfl, (by show 2 ≤ sizeLine; decide), fun tp htp => ⟨_, tp, _, _, _, true, rfl, upd_same, .cons (.ty _) (.cons (.ty _) .nil), tx _ (same_new htp), kitAny_cons (kit_ty e1) (fun z => kitAny_cons (kit_ty any) (fun z' => by rw [z] at z'; cases z') (fun _ => rfl)) (fun _ => rfl), _, rfl, iteF ?_⟩⟩
        -- len(actual) != len(expected)
        refine ⟨_, rfl, a, xs, rfl, lenA _ (same_new htp), _, rfl, b, ys, rfl, lenB _ (same_new htp), rfl, _, rfl, iteNS (by rw [hl]) ?_⟩
        -- the comprehension's list stays empty
        refine ⟨_, rfl, b, ys, rfl, lenB _ (same_new htp), ys.length, rfl, (by omega), (by omega), fun D hD => ?_⟩
        have sD : Same H (upd (upd H tp (.tup [V.ty "tuple", V.ty "list"])) D (.lst [])) := (same_new htp).trans (same_new hD)
        refine lc_range (lo := 0) (n := ys.length) (fun i H' => Same (upd (upd H tp (.tup [V.ty "tuple", V.ty "list"])) D (.lst [])) H') (Same.refl _) ?_ ?_
        · intro i H' hi hs
          obtain ⟨u, hu⟩ : ∃ u, xs[i]? = some u := ⟨xs[i]'(by omega), List.getElem?_eq_getElem (by omega)⟩
          obtain ⟨v, hv⟩ : ∃ v, ys[i]? = some v := ⟨ys[i]'(by omega), List.getElem?_eq_getElem (by omega)⟩
          have s2 : Same H H' := sD.trans hs
          have ux : ∀ Q : VK, Q u H' → rIx K (.ref a) (.int (0 + (i : Int))) H' Q := fun Q q => by
            rcases e2 H' s2 with ⟨z, _⟩ | ⟨z, _⟩
            · exact .inl ⟨a, xs, _, u, rfl, rfl, z, at_of (Int.zero_add _) hu, q⟩
            · exact .inr (.inl ⟨a, xs, _, u, rfl, rfl, z, at_of (Int.zero_add _) hu, q⟩)
          have vx : ∀ Q : VK, Q v H' → rIx K (.ref b) (.int (0 + (i : Int))) H' Q := fun Q q => by
            rcases e2 H' s2 with ⟨_, z⟩ | ⟨_, z⟩
            · exact .inl ⟨b, ys, _, v, rfl, rfl, z, at_of (Int.zero_add _) hv, q⟩
            · exact .inr (.inl ⟨b, ys, _, v, rfl, rfl, z, at_of (Int.zero_add _) hv, q⟩)
          refine ⟨rfl, _, rfl, _, rfl, ux _ ⟨_, rfl, _, rfl, vx _ ⟨u, v, rfl, (hp i u v hu hv).same s2, fun H3 s3 => ⟨_, rfl, iteF (hs.trans s3)⟩⟩⟩⟩
        · intro H' hs
          refine ⟨D, [], rfl, .inl (SqL.of (hs _ _ upd_same)), rfl, ?_⟩
          exact k H' (sD.trans hs)
    refine ⟨_, pss_cons (ps_if (pt_cmp (pc_isN (pv 1))) (pss_one (ps_ret (pe_cmp (pc_isN (pv 0))))) pss_nil)
        (pss_cons (ps_if (pt_val (pe_callB call_isi (by rfl) B.isi (by decide +kernel) (pa_cons (pv 1) (pa_cons (pe_bltn (v := .ty "bool") (by rfl) B.bool (by decide +kernel) rfl) pa_nil))))
          (pss_one (ps_ret (pe_and (pe_callB call_isi (by rfl) B.isi (by decide +kernel) (pa_cons (pv 0) (pa_cons (pe_bltn (v := .ty "bool") (by rfl) B.bool (by decide +kernel) rfl) pa_nil))) (pe_one (pe_cmpR op_eq (pv 0) (pv 1) (nomark _)))))) pss_nil)
        (pss_cons (ps_if (pt_val (pe_callB call_isi (by rfl) B.isi (by decide +kernel) (pa_cons (pv 1) (pa_cons (pe_bltn (v := .ty "int") (by rfl) B.int (by decide +kernel) rfl) pa_nil))))
          (pss_one (ps_ret (pe_and (pe_callB call_isi (by rfl) B.isi (by decide +kernel) (pa_cons (pv 0) (pa_cons (pe_bltn (v := .ty "int") (by rfl) B.int (by decide +kernel) rfl) pa_nil)))
            (pe_and (pe_not (pe_callB call_isi (by rfl) B.isi (by decide +kernel) (pa_cons (pv 0) (pa_cons (pe_bltn (v := .ty "bool") (by rfl) B.bool (by decide +kernel) rfl) pa_nil)))) (pe_one (pe_cmpR op_eq (pv 0) (pv 1) (nomark _))))))) pss_nil)
        (pss_cons (ps_if (pt_val (pe_callB call_isi (by rfl) B.isi (by decide +kernel) (pa_cons (pv 1) (pa_cons (pe_bltn (v := .ty "str") (by rfl) B.str (by decide +kernel) rfl) pa_nil))))
          (pss_one (ps_ret (pe_and (pe_callB call_isi (by rfl) B.isi (by decide +kernel) (pa_cons (pv 0) (pa_cons (pe_bltn (v := .ty "str") (by rfl) B.str (by decide +kernel) rfl) pa_nil))) (pe_one (pe_cmpR op_eq (pv 0) (pv 1) (nomark _)))))) pss_nil)
        (pss_cons (ps_if (pt_val (pe_callB call_isi (by rfl) B.isi (by decide +kernel) (pa_cons (pv 1) (pa_cons (pe_bltn (v := .ty "dict") (by rfl) B.dict (by decide +kernel) rfl) pa_nil)))) pss_never pss_nil) d5)))), ?_⟩
    have cases : (x = y ∧ Atom x) ∨ ∃ (m : Nat) (a b : Addr) (xs ys : List V), n = m + 1 ∧ x = .ref a ∧ y = .ref b ∧ ((H a = some (.lst xs) ∧ H b = some (.lst ys)) ∨ (H a = some (.tup xs) ∧ H b = some (.tup ys))) ∧
          xs.length = ys.length ∧ xs.length ≤ 1000 ∧ ∀ (i : Nat) (u v : V), xs[i]? = some u → ys[i]? = some v → Eqv H m u v := by
      cases n with
      | zero => exact .inl hE
      | succ m =>
        rcases hE with z | ⟨a, b, xs, ys, z⟩
        · exact .inl z
        · exact .inr ⟨m, a, b, xs, ys, rfl, z⟩
    rcases cases with ⟨rfl, ha⟩ | ⟨m, a, b, xs, ys, em, rfl, rfl, hk, hl, hz, hp⟩
    · cases x with
      | non =>
        refine ⟨_, rfl, _, rfl, iteT ⟨_, rfl, ?_⟩⟩
        exact k H (Same.refl H)
      | bl c =>
        refine ⟨_, rfl, _, rfl, iteF ⟨_, rfl, _, _, _, _, true, rfl, .ty _, .base (.bl c), kit_ty (by decide +kernel), ⟨_, rfl, iteT ⟨_, rfl, _, _, _, _, true, rfl, .ty _, .base (.bl c), kit_ty (by decide +kernel), ⟨_, rfl, iteT ⟨_, rfl, _, rfl, rfl, ?_⟩⟩⟩⟩⟩⟩
        rw [decide_eq_true (p := V.bl c = V.bl c) rfl]
        exact k H (Same.refl H)
      | int c =>
        refine ⟨_, rfl, _, rfl, iteF ⟨_, rfl, _, _, _, _, false, rfl, .ty _, .base (.int c), kit_ty (by decide +kernel), ⟨_, rfl, iteF ⟨_, rfl, _, _, _, _, true, rfl, .ty _, .base (.int c), kit_ty (by decide +kernel), ⟨_, rfl, iteT ⟨_, rfl, _, _, _, _, true, rfl, .ty _, .base (.int c), kit_ty (by decide +kernel), ⟨_, rfl, iteT ⟨_, rfl, _, _, _, _, false, rfl, .ty _, .base (.int c), kit_ty (by decide +kernel), ⟨_, rfl, _, rfl, iteT ⟨_, rfl, _, rfl, rfl, ?_⟩⟩⟩⟩⟩⟩⟩⟩⟩⟩
        rw [decide_eq_true (p := V.int c = V.int c) rfl]
        exact k H (Same.refl H)
      | str c =>
        refine ⟨_, rfl, _, rfl, iteF ⟨_, rfl, _, _, _, _, false, rfl, .ty _, .base (.str c), kit_ty (by decide +kernel), ⟨_, rfl, iteF ⟨_, rfl, _, _, _, _, false, rfl, .ty _, .base (.str c), kit_ty (by decide +kernel), ⟨_, rfl, iteF ⟨_, rfl, _, _, _, _, true, rfl, .ty _, .base (.str c), kit_ty (by decide +kernel), ⟨_, rfl, iteT ⟨_, rfl, _, _, _, _, true, rfl, .ty _, .base (.str c), kit_ty (by decide +kernel), ⟨_, rfl, iteT ⟨_, rfl, _, rfl, rfl, ?_⟩⟩⟩⟩⟩⟩⟩⟩⟩⟩
        rw [decide_eq_true (p := V.str c = V.str c) rfl]
        exact k H (Same.refl H)
      | _ => exact ha.elim
    · have q := k5 m a b xs ys em hk hl hz hp ⟨rfl, rfl⟩
      rcases hk with ⟨p1, p2⟩ | ⟨p1, p2⟩
      · exact ⟨_, rfl, _, rfl, iteF ⟨_, rfl, _, _, _, _, false, rfl, .ty _, .base (.lst p2), kit_ty (by decide +kernel), _, rfl, iteF ⟨_, rfl, _, _, _, _, false, rfl, .ty _, .base (.lst p2), kit_ty (by decide +kernel), _, rfl, iteF ⟨_, rfl, _, _, _, _, false, rfl, .ty _, .base (.lst p2), kit_ty (by decide +kernel), _, rfl, iteF ⟨_, rfl, _, _, _, _, false, rfl, .ty _, .base (.lst p2), kit_ty (by decide +kernel), _, rfl, iteF q⟩⟩⟩⟩⟩
      · exact ⟨_, rfl, _, rfl, iteF ⟨_, rfl, _, _, _, _, false, rfl, .ty _, .base (.tup p2), kit_ty (by decide +kernel), _, rfl, iteF ⟨_, rfl, _, _, _, _, false, rfl, .ty _, .base (.tup p2), kit_ty (by decide +kernel), _, rfl, iteF ⟨_, rfl, _, _, _, _, false, rfl, .ty _, .base (.tup p2), kit_ty (by decide +kernel), _, rfl, iteF ⟨_, rfl, _, _, _, _, false, rfl, .ty _, .base (.tup p2), kit_ty (by decide +kernel), _, rfl, iteF q⟩⟩⟩⟩⟩
theorem ok_same {f : Addr} {fd : FuncData} (F : Fun K "_law_same" "_law_same" sSame f fd) (B : Bt mg) (b0 : Binds K fd ["_law_actual", "_law_expected"] []) (m0 : mg "_law_same" = some (.ref f)) :
    ∀ n : Nat, FnOk P w K mg base CX0 (n + 1) f fd ["_law_actual", "_law_expected"] (spSame n) := by
  intro n
  induction n with
  | zero => exact ok_same_of F B b0 m0 0 fun m e => nomatch e
  | succ n ih =>
    refine ok_same_of F B b0 m0 (n + 1) fun m e => ?_
    obtain rfl : n = m := by omega
    exact ih
end
end Lw
/-! exceptions of the program's own classes, held as values: made (by position, by keywords, without arguments), their attributes read, asked by isinstance -/
namespace Xv
open PySem PySem.Spec PySem.W PySem.Calls L2
section
open Builtin Builtin.ObjectAttr
variable {M : Model} {prog : Program} {w : World} {A : Around} {E : Value → Shared → Prop} {R : Result → Shared → Prop} {hp : Heap} {gs : Array GenState} {dr : Drawn} {tk : Nat} {os : OsState}
variable {nm q : Str} {C N : Addr} {bs bm bmB : List Value} {hdct : Bool} {sn : List Str} {sub : List Value} {ab : Bool} {col : Option Bool} {dd : Option Addr} {k0 k1 k2 k3 k5 : Option Value} {B newId initId : String}
theorem chk_new (F : ExcBaseFacts B newId initId bmB) (hT : ∀ Y : String, bm.contains (.type Y) = bmB.contains (.type Y)) {ar : List Value} {kw : List (Str × Value)} {Q : Unit → Shared → Prop}
    (hC : hp.get? C = some (excClassObj nm q C N bs bm hdct sn sub ab col dd k0 k1 k2 k3 k5 newId)) (z : Q () ⟨hp, gs, dr, tk, os⟩) :
    wpAny M A (checkBuiltinCall newId ⟨.ref C :: ar, kw⟩) Q E ⟨hp, gs, dr, tk, os⟩ := by
  have inB : (Value.ref C :: bm).contains (.type B) = true := by (rw [List.contains_cons, hT, F.hasB]; exact Bool.or_true _)
  have st := F.noStar
  simp only [F.newKind, F.newSplit, F.newRow, checkBuiltinCall]
  repeat (first | (refine wpAny_isSubtype_exc hC ?_; rw [inB]) | refine wpAny_loadPart_at hC ?_ | refine wpAny_madeBy_exc hC ?_ | refine wpAny_staticBase_exc hC ?_ | simp only [Bool.false_eq_true, bne_self_eq_false, if_false] | wp_step)
  exact z
theorem do_new (F : ExcBaseFacts B newId initId bmB) (hT : ∀ Y : String, bm.contains (.type Y) = bmB.contains (.type Y)) {ar : List Value} {kw : List (Str × Value)}
    (hC : hp.get? C = some (excClassObj nm q C N bs bm hdct sn sub ab col dd k0 k1 k2 k3 k5 newId)) (few : ar.length ≤ sizeLine)
    (z : R (.ok (.ret (.ref (hp.objs.size + 1)))) ⟨(hp.push (W.kdv_tup ar)).push (HandSPX.excO C hp.objs.size), gs, dr, tk, os⟩) :
    codeAny (model prog w) A (.builtin newId ⟨.ref C :: ar, kw⟩) R ⟨hp, gs, dr, tk, os⟩ := by
  have he := F.ends
  have inB : (Value.ref C :: bm).contains (.type B) = true := by (rw [List.contains_cons, hT, F.hasB]; exact Bool.or_true _)
  have inA : (Value.ref C :: bm).contains (.type "AttributeError") = false := by (rw [List.contains_cons, hT, F.noAttr]; exact rfl)
  have inN : (Value.ref C :: bm).contains (.type "NameError") = false := by (rw [List.contains_cons, hT, F.noName]; exact rfl)
  refine codeAny_builtinAt F.entry ?_
  unfold Builtin.«BaseException.__new__»
  refine wpAt_bind (show PySem.wpAt _ _ _ (stack >>= _) _ _ _ from wpAt_bind (wpAt_stack fun pp bb => wpAt_of_wpAny ?_))
  wp_walk
  refine wpAt_of_wpAny ?_
  rw [F.owner]
  repeat (first | (with_reducible refine wpAny_isSubtype_exc hC ?_; first | rw [inA] | rw [inN] | rw [inB]) | with_reducible refine wpAny_loadPart_at hC ?_ | with_reducible refine wpAny_madeHere_exc F.canon hC ?_ | wp_step)
  show R _ _
  rw [Heap.size_push]
  exact z
theorem do_type (F : ExcBaseFacts B newId initId bmB) (hT : ∀ Y : String, bm.contains (.type Y) = bmB.contains (.type Y)) {ar : List Value} {kw : List (Str × Value)} {fI : Addr} {Q : Fin → Shared → Prop}
    (hC : hp.get? C = some (excClassObj nm q C N bs bm hdct sn sub ab col dd k0 k1 k2 k3 k5 newId)) (few : ar.length ≤ sizeLine)
    (li : W.Looks (model prog w) hp (typeLookup (.ref C) "__init__") (some (.ref fI))) (lb : ∀ me, W.Looks (model prog w) hp (bindSpecial (.ref fI) me) (.ref fI, [me]))
    (z : codeAny (model prog w) A (.call (.ref fI) ⟨.ref (hp.objs.size + 1) :: ar, kw⟩)
      (fun r s' => match r with | .ok (.ret v) => v = .none ∧ Q (.done (.ret (.ref (hp.objs.size + 1)))) s' | .ok _ => False | .error e => E e s') ⟨(hp.push (W.kdv_tup ar)).push (HandSPX.excO C hp.objs.size), gs, dr, tk, os⟩) :
    wpAny (model prog w) A (Builtin.«type.__call__» ⟨.ref C :: ar, kw⟩) Q E ⟨hp, gs, dr, tk, os⟩ := by
  repeat (first | with_reducible refine wpAny_madeBy_exc hC ?_ | with_reducible refine wpAny_loadPart_at hC ?_ | wp_step)
  refine codeAny_call_builtin_code (Code.quiet_builtin _ F.quiet) (chk_new F hT hC (do_new F hT hC few ?_))
  show wpAny _ _ _ _ _ _
  have kp : ∀ b o, hp.get? b = some o → ((hp.push (W.kdv_tup ar)).push (HandSPX.excO C hp.objs.size)).get? b = some o := fun b o y => Heap.get?_push_of_some _ (Heap.get?_push_of_some _ y)
  have atC := kp _ _ hC
  have atE : ((hp.push (W.kdv_tup ar)).push (HandSPX.excO C hp.objs.size)).get? (hp.objs.size + 1) = some (HandSPX.excO C hp.objs.size) := by (heap_get)
  have own : (Value.ref C :: bm).contains (.ref C) = true := by (simp)
  have l1 := li.keeps kp
  have l2 := (lb (.ref (hp.objs.size + 1))).keeps kp
  unfold isInstance
  repeat (first | (with_reducible refine wpAny_isSubtype_exc atC ?_; rw [own]) | with_reducible refine wpAny_loadPart_at atE ?_ | wp_step)
  refine (show wpAny _ _ (typeLookup (.ref C) _) _ _ _ from l1.at (wpAny_holding (wpAny_bind (l2.at ?_))))
  refine wpAny_bind (wpAny_call (codeAny_mono z fun r s' y => ?_))
  cases r with
  | error e => exact y
  | ok fl =>
    cases fl with
    | ret v =>
      obtain ⟨rfl, y⟩ := y
      first
        | exact wpAny_pure (wpAny_pure y)
        | (wp_walk; exact y)
    | next => exact y.elim
    | brk => exact y.elim
    | cont => exact y.elim
theorem do_call (F : ExcBaseFacts B newId initId bmB) (hT : ∀ Y : String, bm.contains (.type Y) = bmB.contains (.type Y)) {ar : List Value} {kw : List (Str × Value)} {fI : Addr}
    (hC : hp.get? C = some (excClassObj nm q C N bs bm hdct sn sub ab col dd k0 k1 k2 k3 k5 newId)) (few : ar.length ≤ sizeLine)
    (li : W.Looks (model prog w) hp (typeLookup (.ref C) "__init__") (some (.ref fI))) (lb : ∀ me, W.Looks (model prog w) hp (bindSpecial (.ref fI) me) (.ref fI, [me]))
    (z : codeAny (model prog w) (A.under (.builtin "type.__call__" ⟨.ref C :: ar, kw⟩)) (.call (.ref fI) ⟨.ref (hp.objs.size + 1) :: ar, kw⟩) (W.InitBack (hp.objs.size + 1) R)
      ⟨(hp.push (W.kdv_tup ar)).push (HandSPX.excO C hp.objs.size), gs, dr, tk, os⟩) :
    codeAny (model prog w) A (.call (.ref C) ⟨ar, kw⟩) R ⟨hp, gs, dr, tk, os⟩ := by
  have e1 := tc_lookup
  have e2 := tc_bind (.ref C)
  have e3 := tc_sub
  have ty : (⟨hp, gs, dr, tk, os⟩ : Shared).TypeIs (.ref C) "type" := ⟨_, hC, rfl⟩
  refine codeAny_of_tree (show wpAny _ _ (callAny (.ref C) _) _ _ _ from ?_)
  repeat (any_goals (first | with_reducible refine wpAny_loadPart_at hC ?_ | assumption | wp_step))
  refine ⟨rfl, ?_⟩
  have chk : ∀ {Q : Unit → Shared → Prop} {A' : Around} {E' : Value → Shared → Prop}, Q () ⟨hp, gs, dr, tk, os⟩ → wpAny (model prog w) A' (checkBuiltinCall "type.__call__" ⟨.ref C :: ar, kw⟩) Q E' ⟨hp, gs, dr, tk, os⟩ := fun {Q A' E'} hq => by
    simp only [tc_split, tc_kind, checkBuiltinCall]
    repeat (any_goals (first | with_reducible refine wpAny_onRaise ?_ | with_reducible refine wpAny_map ?_ | with_reducible refine wpAny_loadPart_at hC ?_ | assumption | wp_step))
  refine codeAny_call_builtin_at (Code.quiet_builtin _ (by decide +kernel)) entry_typeCall (chk (do_type F hT hC few li lb ?_))
  refine codeAny_mono z fun r s' y => ?_
  rcases r with e | (v | _ | _ | _) <;> (exact y)
end
end Xv
namespace Xv
open PySem PySem.Spec PyProof.Rows L2
/-- an exception of the class at C stands at a, with its dict or without -/
def XAt (H : Hp) (a C : Addr) : Prop := H a = some (exo a C none) ∨ ∃ (d : Addr) (fs : List (Str × V)), H a = some (exo a C (some d)) ∧ H d = some (exd d fs)
theorem XAt.same {H H' : Hp} {a C : Addr} (h : XAt H a C) (s : Same H H') : XAt H' a C := by
  rcases h with h | ⟨d, fs, h1, h2⟩
  · exact .inl (s _ _ h)
  · exact .inr ⟨d, fs, s _ _ h1, s _ _ h2⟩
section
variable {X : Cx} {k : Nat} {fI C : Addr} {fd : FuncData} {ps ks : List Str} {sp : Sp} {x f : Str} {p pos : Pos} {e : Expr} {es : List Expr} {kws : List Keyword} {te : TE} {t tk : TA}
/-- what the class at C is asked for when it makes an exception -/
structure XMk (K : PySem.W.Frag) (C fI : Addr) : Prop where
  T : OexC K C
  iC : PySem.W.findIn K (.ref C) "__init__" = some (some (.ref fI))
  tI : PySem.W.typeIn K (.ref fI) = some (.type "function")
theorem run_x {pins : List (Addr × Obj)} {σ : L2.St} {H : Hp} {s : Shared} {Q : VK} {us bound : List Value} {kw : List (Str × Value)} {vs : List V} (M : XMk X.K C fI) (F : FnOk X.prog X.w X.K X.mg X.base CX0 k fI fd ps sp) (hr : Room (k + 1) X.A)
    (I : Inv X pins σ H s) (few : us.length ≤ sizeLine) (hb : ∀ (s' : Shared) (a : Addr), X.K.In s'.heap → BindsTo s' fd ⟨.ref a :: us, kw⟩ (ps.zip (.ref a :: bound))) (r : Vals vs bound)
    (h : ∀ a, H a = none → sp (.ref a :: vs) (upd H a (exo a C none)) (fun v H2 => v = .non ∧ Q (.ref a) H2) E0) : wpAny (model X.prog X.w) X.A (call (.ref C) us kw) (EP X pins σ Q) X.xe s := by
  obtain ⟨nm, q, N, bs, bm, sn, sub, ab, col, dd, k0, k1, k2, k3, k5, hC, hbm⟩ := M.T.cls
  obtain ⟨hp, gs, dr, tk, os⟩ := s
  have up : hp.objs.size ≤ hp.objs.size + 1 := Nat.le_succ _
  have new : H (hp.objs.size + 1) = none := I.hok.fresh up
  have hq := h (hp.objs.size + 1) new
  have kk : ∀ b o, hp.get? b = some o → ((hp.push (PySem.W.kdv_tup us)).push (PySem.HandSPX.excO C hp.objs.size)).get? b = some o := fun b o y => Heap.get?_push_of_some _ (Heap.get?_push_of_some _ y)
  have atE : ((hp.push (PySem.W.kdv_tup us)).push (PySem.HandSPX.excO C hp.objs.size)).get? (hp.objs.size + 1) = some (PySem.HandSPX.excO C hp.objs.size) := by (heap_get)
  have I2 : Inv X pins σ (upd H (hp.objs.size + 1) (exo (hp.objs.size + 1) C none)) ⟨(hp.push (PySem.W.kdv_tup us)).push (PySem.HandSPX.excO C hp.objs.size), gs, dr, tk, os⟩ :=
    I.laid (t' := tk) (a := hp.objs.size + 1) (o := exo (hp.objs.size + 1) C none) (h' := (hp.push (PySem.W.kdv_tup us)).push (PySem.HandSPX.excO C hp.objs.size)) kk up (exo_ok atE)
  have r2 : Vals (V.ref (hp.objs.size + 1) :: vs) (Value.ref (hp.objs.size + 1) :: bound) := .cons rfl r
  refine wpAny_call (do_call PySem.F.excBase_ValueError (fun Y => PySem.HandSPX.refsVE_contains Y bm hbm) (I.kIn _ _ hC) few (PySem.W.looks_findIn I.kIn M.iC) (fun me => PySem.W.bind_fn I.kIn me M.tI)
    (codeAny_mono (F.run _ X.stack _ _ ⟨Value.ref (hp.objs.size + 1) :: us, kw⟩ (Value.ref (hp.objs.size + 1) :: bound) _ _ E0 (hr.make C us kw) (I2.env0.make C us kw) (hb _ _ I2.kIn) r2 hq) fun r s' y => ?_))
  cases r with
  | error er => exact pass0 (X := X) pins σ _ _ er s' I2 y
  | ok fl =>
    cases fl with
    | ret u =>
      obtain ⟨v, H', I3, rv, ev, q3⟩ := I2.after y
      subst ev
      exact ⟨rv, ⟨V.ref (hp.objs.size + 1), H', I3, rfl, q3⟩⟩
    | next => exact y.elim
    | brk => exact y.elim
    | cont => exact y.elim
/-- C(e, ..) -/
def tX (C : Addr) (sp : Sp) (t : TA) : TE := fun σ H Q => t σ H fun vs H1 => vs.length ≤ 1000 ∧ ∀ a, H1 a = none → sp (.ref a :: vs) (upd H1 a (exo a C none)) (fun v H2 => v = .non ∧ Q (.ref a) H2) E0
theorem pe_x (M : XMk X.K C fI) (F : FnOk X.prog X.w X.K X.mg X.base CX0 k fI fd ps sp) (hr : Room (k + 1) X.A) (hb : Binds X.K fd ps []) (hg : Gl X x) (hm : X.mg x = some (.ref C)) (ha : PA X (e :: es) t)
    (hdb : (x == ("__debug__" : Str)) = false := by decide) (hs : starEach (e :: es) X.env = (false, eval e X.env) :: starEach es X.env := by rfl) (hp : (backTo pos (starEach es X.env)).any (·.1) = false := by rfl) :
    PE X (.Call (.Name x p) (e :: es) [] pos) (tX C sp t) := by
  refine ⟨fun pins s σ H Q I h => ?_⟩
  refine wpAny_Call_Name_kw (ld_glob I hg hm (PySem.W.callWith_K (h₀ := X.base) I.ok.mod.kin M.T.kC (thn (ha.run pos pins s σ H _ I h) fun us s1 ⟨vs, H1, I1, r1, hz, q1⟩ => ⟨I1.kIn, ?_⟩) hs hp) hdb)
  have lu := Paired.length r1
  refine run_x (us := us) (kw := []) M F hr I1 (by rw [← lu, sizeLine_eq]; omega) (fun s' a hk => ?_) r1 q1
  have n0 : H1 (s1.heap.objs.size + 1) = none := I1.hok.fresh (Nat.le_succ _)
  have l1 := F.len _ _ _ _ (q1 _ n0)
  have b := hb s' (.ref a :: us) hk (by rw [List.append_nil, List.length_cons, ← lu]; exact l1)
  rw [List.append_nil] at b
  exact b
/-- C(k = e, ..), g what the keywords' values are by place -/
def tXk (C : Addr) (n : Nat) (sp : Sp) (gV : List V → List V) (t : TA) : TE := fun σ H Q => t σ H fun vs H1 => vs.length = n ∧ ∀ a, H1 a = none → sp (.ref a :: gV vs) (upd H1 a (exo a C none)) (fun v H2 => v = .non ∧ Q (.ref a) H2) E0
theorem pe_xk {g : List Value → List Value} {gV : List V → List V} (M : XMk X.K C fI) (F : FnOk X.prog X.w X.K X.mg X.base CX0 k fI fd ps sp) (hr : Room (k + 1) X.A)
    (hb : ∀ (s' : Shared) (a : Addr) (ws : List Value), X.K.In s'.heap → ws.length = ks.length → BindsTo s' fd ⟨[.ref a], ks.zip ws⟩ (ps.zip (.ref a :: g ws))) (hrel : ∀ {zs : List V} {ws : List Value}, Vals zs ws → Vals (gV zs) (g ws))
    (hg : Gl X x) (hm : X.mg x = some (.ref C)) (hkw : PK X kws tk) (hall : (backToKw pos (keywordEach kws X.env)).all (·.1.isSome) = true := by rfl) (hks : (backToKw pos (keywordEach kws X.env)).filterMap (·.1) = ks := by rfl)
    (hdb : (x == ("__debug__" : Str)) = false := by decide) (hp : ((backTo pos (starEach [] X.env)).any (·.1) || (backToKw pos (keywordEach kws X.env)).any (·.1.isNone)) = false := by rfl) :
    PE X (.Call (.Name x p) [] kws pos) (tXk C ks.length sp gV tk) := by
  refine ⟨fun pins s σ H Q I h => ?_⟩
  refine wpAny_Call_Name_kw (ld_glob I hg hm (PySem.W.callWith_KW0 (h₀ := X.base) I.ok.mod.kin M.T.kC hall (thn (hkw.run pos pins s σ H _ I h) fun ws s1 ⟨zs, H1, I1, r1, hz, q1⟩ => ⟨I1.kIn, ?_⟩) hp) hdb)
  rw [hks]
  exact run_x (us := []) (kw := ks.zip ws) M F hr I1 (Nat.zero_le _) (fun s' a hk => hb s' a ws hk ((Paired.length r1).symm.trans hz)) (hrel r1) q1
/-- C(), C without an own __init__ -/
def tX0 (C : Addr) : TE := fun _ H Q => ∀ a, H a = none → Q (.ref a) (upd H a (exo a C none))
theorem pe_x0 {bmB : List Value} {B newId initId : String} (F : ExcBaseFacts B newId initId bmB) (q : PySem.W.excIn X.K C bmB newId = true) (gC : X.mg x = some (.ref C)) (kC : PySem.W.keepIn X.K (.ref C) = true) (hg : Gl X x)
    (hdb : (x == ("__debug__" : Str)) = false := by decide) : PE X (.Call (.Name x p) [] [] pos) (tX0 C) := by
  refine ⟨fun pins s σ H Q I h => ?_⟩
  refine wpAny_Call_Name_kw (ld_glob I hg gC (PySem.W.callWith_K0 I.kIn kC ?_) hdb)
  obtain ⟨bm, N, nm, qn, bs, hdct, sn, sub, ab, col, dd, k0, k1, k2, k3, k5, mN, hC, hN, hni, T⟩ := exc_obj I.kIn q
  refine wpAny_call_exc_subT F T hC hN hni (fun h' a m => ?_) (Nat.zero_le _)
  have hn : H a = none := I.hok.gone m.new
  obtain ⟨t, ht, _, _⟩ := m.there
  exact ⟨.ref a, upd H a (exo a C none), I.laidN m.keeps m.new hn (exo_ok ht), rfl, h a hn⟩
/-- e.f of such an exception -/
def tXf (C : Addr) (f : Str) (te : TE) : TE := fun σ H Q => te σ H fun x H1 => ∃ (a d : Addr) (fs : List (Str × V)) (v : V), x = .ref a ∧ H1 a = some (exo a C (some d)) ∧ H1 d = some (exd d fs) ∧ fs.lookup f = some v ∧ Q v H1
theorem pe_xfield (T : XfC X.K C) (hno : PySem.W.findIn X.K (.ref C) f = some none) (he : PE X e te) (hb : attributeBase e f X.env (eval e X.env) = eval e X.env := by rfl) : PE X (.Attribute e f pos) (tXf C f te) := by
  refine ⟨fun pins s σ H Q I h => attr_of hb (thn (he.run pins s σ H _ I h) fun u s1 hh => ?_)⟩
  obtain ⟨y, H1, I1, ry, a, d, fs, v, rfl, ea, ed, l, q⟩ := hh
  obtain rfl : u = Value.ref a := ry
  obtain ⟨t1, ha⟩ := exo_at I1.hok ea
  obtain ⟨mA, hns, rel⟩ := exd_at I1.hok ed
  obtain ⟨od, ho, hl⟩ := lookIn_ns hns
  obtain ⟨z, hz, rz⟩ := RelO.some_of (v := v) (o := mA f) (by (rw [← l]; exact rel f))
  have J : PySem.W.InstAt s1.heap a { cls := .ref C, dict := some d, data := .fields #[.ref t1, .none, .none, .none, .bool false, .none] } C (some od) := ⟨ha, rfl, rfl, ho⟩
  exact HandSPX.exc_get I1.kIn J T.ga T.gg T.exC (PySem.W.findObj_own T.hdC hno rfl (by (rw [hl, hz]))) (handed_of rz) ⟨v, H1, I1.tok _, rz, q⟩
/-- isinstance(e, c) of such an exception -/
def rIsX (K : PySem.W.Frag) : List V → Hp → VK → Prop := fun xs H Q => ∃ (a C : Addr) (c : V) (cv : Value) (b : Bool), xs = [.ref a, c] ∧ XAt H a C ∧ ExcC K C ∧ ClsV c cv ∧ PySem.W.kitOne K (.ref C) cv = some b ∧ Q (.bl b) H
theorem call_isX : CallR X (.builtin "isinstance") (rIsX X.K) := by
  intro pins s σ H xs us Q I r h
  obtain ⟨a, C, c, cv, b, rfl, hx, T, hc, e, q⟩ := h
  obtain ⟨u1, u2, rfl, r1, r2⟩ := vals2 r
  obtain rfl := hc.eq r2
  cases (show u1 = Value.ref a from r1)
  have hcl : (PySem.W.clsIn X.K C).isSome = true := by
    obtain ⟨cd, hcd, _⟩ := PySem.W.any_some T.hd
    rw [hcd]
    rfl
  rcases hx with ea | ⟨d, fs, ea, ed⟩
  · obtain ⟨t1, ha⟩ := exo_at I.hok ea
    have J : PySem.W.InstAt s.heap a { cls := .ref C, dict := none, data := .fields #[.ref t1, .none, .none, .none, .bool false, .none] } C none := ⟨ha, rfl, rfl, trivial⟩
    exact PySem.W.kia_one (PySem.W.kitx_exc hcl T.hg T.hk T.hs T.ha T.hn T.ht T.hm) I.kIn J e (fun z => nomatch z) fun tk => ⟨.bl b, H, I.kept (t' := tk) fun _ _ z => z, rfl, q⟩
  · obtain ⟨t1, ha⟩ := exo_at I.hok ea
    obtain ⟨mA, hns, rel⟩ := exd_at I.hok ed
    obtain ⟨od, ho, hl⟩ := lookIn_ns hns
    have J : PySem.W.InstAt s.heap a { cls := .ref C, dict := some d, data := .fields #[.ref t1, .none, .none, .none, .bool false, .none] } C (some od) := ⟨ha, rfl, rfl, ho⟩
    exact PySem.W.kia_one (PySem.W.kitx_exc hcl T.hg T.hk T.hs T.ha T.hn T.ht T.hm) I.kIn J e (fun z => nomatch z) fun tk => ⟨.bl b, H, I.kept (t' := tk) fun _ _ z => z, rfl, q⟩
end
end Xv
/-! the head: the defs by names, and one Bool of what else is asked of the written part -/
namespace Lh
open PySem PySem.Spec PyProof.Rows L2
abbrev AlB : Type := He.AlD × Bool
def obsB (n : Nat) (fn : List He.DefD) (ex : PySem.W.Frag → Bool) (g : Addr → Option Obj) : AlB := (He.obsD [] fn (He.frG g (He.asD g n)), ex (He.frG g (He.asD g n)))
def hookB (n : Nat) (fn : List He.DefD) (ex : PySem.W.Frag → Bool) : PySem.W.Hook where
  α := AlB
  obs := fun s => obsB n fn ex s.heap.get?
  val := fun _ => (He.valD fn, true)
  says := fun _ h => ∃ K : PySem.W.Frag, K.In h ∧ He.SaysD [] fn K ∧ ex K = true
  of := fun _ _ e => ⟨_, He.frG_in, congrArg Prod.fst e, congrArg Prod.snd e⟩
  keeps := fun _ _ _ ⟨K, hK, c⟩ k => ⟨K, PySem.W.Frag.In.keeps hK k, c⟩
theorem obsB_eq {n : Nat} {fn : List He.DefD} {ex : PySem.W.Frag → Bool} {g : Addr → Option Obj} {s : Shared} (h : ∀ a, g a = s.heap.get? a) : obsB n fn ex g = (hookB n fn ex).obs s := by
  have e : g = s.heap.get? := funext h
  rw [e]
  rfl
theorem fun_of {K : PySem.W.Frag} {x q : Str} {st : Stmt} {f : Addr} {fd : FuncData} (F : FunD K x q (defArgs st) (defBody st) (defScope st) [] [] f fd) : Fun K x q st f fd := by
  obtain ⟨oc, od, dV, kV, doc, pm, an, cdv, ct, osl, e, lk, hcd, hD, _⟩ := F.ex
  rcases hD with ⟨_, rfl⟩ | ⟨z, _⟩
  · exact ⟨⟨oc, od, kV, doc, pm, an, cdv, ct, osl, e, lk, hcd⟩, F.kp⟩
  · exact absurd rfl z
def gloB (K : PySem.W.Frag) (x : Str) : Bool := He.eqO (PySem.W.nsIn K mainGlobals x) (some (some (.ref (He.ga K x))))
def freeB (K : PySem.W.Frag) (x : Str) : Bool := He.eqO (PySem.W.nsIn K mainGlobals x) (some none)
theorem mg_glo {K : PySem.W.Frag} {h : Heap} {mg : Str → Option Value} (X : K.In h) (G : h.Ns mainGlobals mg) {x : Str} (c : gloB K x = true) : mg x = some (.ref (He.ga K x)) := PySem.W.mg_of X G (He.eqO_ok c)
theorem mg_free {K : PySem.W.Frag} {h : Heap} {mg : Str → Option Value} (X : K.In h) (G : h.Ns mainGlobals mg) {x : Str} (c : freeB K x = true) : mg x = none := PySem.W.mg_none_of X G (He.eqO_ok c)
def dd (at_ : Str × Option Str) (name qual : Str) (st : Stmt) : He.DefD := ⟨at_, name, qual, defArgs st, defBody st, defScope st, [], []⟩
/-- the promise of a law -/
def spLaw (K : PySem.W.Frag) : Sp := fun vs H Q _ => ∃ (a : Addr) (ns : List Int), vs = [.ref a] ∧ SqL K H a (ns.map V.int) ∧ ns.length ≤ 63 ∧ ∀ H', Q (.bl true) H'
def btNames : List Str := ["len", "int", "list", "range", "isinstance", "str", "bool", "tuple", "dict"]
theorem bt_of {K : PySem.W.Frag} {h : Heap} {mg : Str → Option Value} (X : K.In h) (G : h.Ns mainGlobals mg) (c : btNames.all (freeB K) = true) : Lw.Bt mg := by
  have q : ∀ x ∈ btNames, mg x = none := fun x hx => mg_free X G (List.all_eq_true.mp c x hx)
  exact ⟨q _ (by decide +kernel), q _ (by decide +kernel), q _ (by decide +kernel), q _ (by decide +kernel), q _ (by decide +kernel), q _ (by decide +kernel), q _ (by decide +kernel), q _ (by decide +kernel), q _ (by decide +kernel)⟩
end Lh
/-! operators that an own class defines (in, ==, len), enumerate over a tuple -/
namespace Ow
open PySem PySem.Spec PyProof.Rows L2
section
variable {X : Cx} {k : Nat} {f C : Addr} {fd : FuncData} {ps : List Str} {sp : Sp}
/-- a method that an operator looks up, and its promise -/
structure OM (X : Cx) (k : Nat) (C : Addr) (m : Str) (f : Addr) (fd : FuncData) (ps : List Str) (sp : Sp) : Prop where
  at_ : PySem.W.findIn X.K (.ref C) m = some (some (.ref f))
  fn : PySem.W.isFn X.K (.ref f) = true
  F : FnOk X.prog X.w X.K X.mg X.base CX0 k f fd ps sp
  b : Binds X.K fd ps []
theorem op_inO (M : OM X k C "__contains__" f fd ps sp) (hr : Room k X.A) :
    OpR X (compareOp .In) (fun x y H Q => ∃ (a dx : Addr) (fs : List (Str × V)), y = .ref a ∧ H a = some (.ins C dx fs) ∧ sp [.ref a, x] H (fun v H' => ∃ b, v = .bl b ∧ Q (.bl b) H') E0) := by
  intro pins s σ H x y v u Q I rx ry h
  obtain ⟨a, dx, fs, rfl, ha, q⟩ := h
  cases ry
  obtain ⟨mA, O, _⟩ := ins_get I.hok ha
  obtain ⟨od, J, _⟩ := O.look
  obtain ⟨m, hF⟩ := I.fr
  refine PySem.W.in_K hF I.ok.mod.kin J M.at_ M.fn (thn (run_fn (us := [.ref a, v]) (vs := [.ref a, x]) (dvs := []) (ds := []) M.F hr M.b .nil pass0 I (.cons rfl (.cons rx .nil)) q) fun r s' z => ?_)
  obtain ⟨z, H', I', rz, b, rfl, q'⟩ := z
  cases rz
  exact wpAny_truthy_bool ⟨.bl b, H', I', rfl, q'⟩
/-- x == y, x an instance of C, y of the same class or of a type that is known -/
theorem op_eqO (M : OM X k C "__eq__" f fd ps sp) (hr : Room k X.A) :
    OpR X (compareOp .Eq) (fun x y H Q => ∃ (a dx : Addr) (fs : List (Str × V)), x = .ref a ∧ H a = some (.ins C dx fs) ∧ ((∃ (a' dx' : Addr) (fs' : List (Str × V)), y = .ref a' ∧ H a' = some (.ins C dx' fs')) ∨ ∃ T, TyX X.K H y (.type T) ∧ PySem.W.notFirst X.K C (.type T) = true) ∧
      sp [.ref a, y] H (fun v H' => ∃ b, v = .bl b ∧ Q (.bl b) H') E0) := by
  intro pins s σ H x y v u Q I rx ry h
  obtain ⟨a, dx, fs, rfl, ha, hy, q⟩ := h
  cases rx
  obtain ⟨mA, O, _⟩ := ins_get I.hok ha
  obtain ⟨od, J, _⟩ := O.look
  obtain ⟨m, hF⟩ := I.fr
  have run := thn (run_fn (us := [.ref a, u]) (vs := [.ref a, y]) (dvs := []) (ds := []) M.F hr M.b .nil pass0 I (.cons rfl (.cons ry .nil)) q) (Q' := PySem.W.CmpBack (EP X pins σ Q)) fun r s' z => by
    obtain ⟨z, H', I', rz, b, rfl, q'⟩ := z
    cases rz
    exact ⟨.bl b, H', I', rfl, q'⟩
  have few : X.A.units < cLine := Nat.lt_of_succ_lt (hu_of hr)
  show wpAny _ _ (richCompare .Eq (.ref a) u) _ _ _
  rcases hy with ⟨a', dx', fs', rfl, ha'⟩ | ⟨T, ty, hn⟩
  · cases ry
    obtain ⟨mA', O', _⟩ := ins_get I.hok ha'
    obtain ⟨od', J', _⟩ := O'.look
    exact PySem.W.cmp_K (op := .Eq) (tb := .ref C) few hF I.ok.mod.kin J J'.type (by simp [PySem.W.notFirst]) M.at_ M.fn run
  · obtain ⟨Pk, Z, p, _⟩ := kit_of I ry ty
    exact PySem.W.cmp_K (op := .Eq) (tb := .type T) few hF I.ok.mod.kin J (Z.ty _ _ I.kIn p) hn M.at_ M.fn run
theorem call_lenO (M : OM X k C "__len__" f fd ps sp) (hr : Room (k + 1) X.A) :
    CallR X (.builtin "len") (fun xs H Q => ∃ (a dx : Addr) (fs : List (Str × V)), xs = [.ref a] ∧ H a = some (.ins C dx fs) ∧ sp [.ref a] H (fun v H' => ∃ n : Int, v = .int n ∧ 0 ≤ n ∧ n < 2 ^ 63 ∧ Q (.int n) H') E0) := by
  intro pins s σ H xs us Q I r h
  obtain ⟨a, dx, fs, rfl, ha, q⟩ := h
  obtain ⟨u, rfl, ru⟩ := vals1 r
  cases ru
  obtain ⟨mA, O, _⟩ := ins_get I.hok ha
  obtain ⟨od, J, _⟩ := O.look
  obtain ⟨m, hF⟩ := I.fr
  have e0 := I.env0
  have e1 : Env0 X.prog X.w X.K X.mg X.base X.A.in1 X.stack s H := ⟨e0.frames, e0.mod, e0.bs, e0.bsz, e0.funs, e0.frf, e0.hok, e0.bare⟩
  have bb := M.b s [.ref a] I.kIn (by have := M.F.len _ _ _ _ q; simpa using this)
  rw [List.append_nil] at bb
  refine PySem.W.len_K hF I.ok.mod.kin J M.at_ M.fn (wpAny_call (codeAny_mono (M.F.run X.A.in1 X.stack s H ⟨[.ref a], []⟩ [.ref a] [.ref a] _ E0 hr.in1 e1 bb (.cons rfl .nil) q) fun r s' z => ?_))
  cases r with
  | error e => exact z.elim
  | ok fl =>
    cases fl with
    | ret w =>
      obtain ⟨y, H', I', ry, n, rfl, h0, h1, q'⟩ := I.after z
      obtain ⟨t, rfl⟩ := ry
      exact ⟨⟨h0, h1⟩, ⟨.int n, H', I'.tok _, ⟨_, rfl⟩, q'⟩⟩
    | next => exact z.elim
    | brk => exact z.elim
    | cont => exact z.elim
end
/-! ### enumerate(t), t a tuple -/
theorem new_enumT (l : Addr) (items : Array Value) : Meets (Builtin.«enumerate.__new__» ⟨[.type "enumerate", .ref l], []⟩) (fun _ R s => s.heap.IsTuple l items ∧
    R (.ok (.ret (.ref (s.heap.push { cls := .type "tuple_iterator", data := .fields #[.ref l, .int 0 0] }).objs.size)))
      { s with heap := (s.heap.push { cls := .type "tuple_iterator", data := .fields #[.ref l, .int 0 0] }).push { cls := .type "enumerate", data := .fields #[.none, .bool false, .ref s.heap.objs.size, rawInt 0, .none, .none] } }) :=
  .of_wp fun prog w A R s h => by
    obtain ⟨hp, g, d, tk, os⟩ := s
    obtain ⟨ht, h⟩ := h
    have hsub := sub_enumerate
    have hT : Heap.IsTuple (Shared.heap ⟨hp, g, d, tk, os⟩) l items := ht
    (wp_walk)
    refine (wpAny_stack_any fun st => wpAny_pure ?_)
    split
    · rename_i c _ _ _ _ _
      cases (c == Value.type "enumerate") <;> (wp_walk using wpAny_pyIter_tuple hT; exact ⟨_, rfl, h⟩)
    · wp_walk using wpAny_pyIter_tuple hT
      exact ⟨_, rfl, h⟩
theorem call_enumT {prog : Program} {w : World} {A : Around} {E : Value → Shared → Prop} {s : Shared} {l : Addr} {items : Array Value} {Q : Value → Shared → Prop} (hL : s.heap.IsTuple l items)
    (h : ∀ h', IsEnum h' (s.heap.objs.size + 1) s.heap.objs.size 0 .none → h'.IsTupleIter s.heap.objs.size l 0 → (∀ b o, s.heap.get? b = some o → h'.get? b = some o) → Q (.ref (s.heap.objs.size + 1)) { s with heap := h' }) :
    wpAny (model prog w) A (call (.type "enumerate") [.ref l]) Q E s := by
  refine callType_new F.called_enumerate (by decide) (F.typeCall_enumerate_1 _) (F.newCall_enumerate_1 _) (fun obj => F.args_object_init_2 obj _) F.entry_enumerate_new (new_enumT l items) ⟨hL, ?_⟩
  have hz : (s.heap.push { cls := .type "tuple_iterator", data := .fields #[.ref l, .int 0 0] }).objs.size = s.heap.objs.size + 1 := Heap.size_push ..
  show _ ∧ _
  rw [hz]
  have he : IsEnum ((s.heap.push { cls := .type "tuple_iterator", data := .fields #[.ref l, .int 0 0] }).push { cls := .type "enumerate", data := .fields #[.none, .bool false, .ref s.heap.objs.size, rawInt 0, .none, .none] }) (s.heap.objs.size + 1) s.heap.objs.size 0 .none := by
    have z := Heap.get?_push_size (s.heap.push { cls := .type "tuple_iterator", data := .fields #[.ref l, .int 0 0] }) (o := { cls := .type "enumerate", data := .fields #[.none, .bool false, .ref s.heap.objs.size, rawInt 0, .none, .none] }) rfl
    rw [hz] at z
    exact z
  exact ⟨⟨_, he, rfl⟩, h _ he ⟨_, Heap.get?_push_of_some _ (Heap.get?_push_size _ rfl), rfl, rfl⟩ fun b o x => Heap.get?_push_of_some _ (Heap.get?_push_of_some _ x)⟩
/-- the tuple at a, each item in a new pair with its number -/
def IteT (K : PySem.W.Frag) (a : Addr) : It :=
  ⟨fun i H => ∃ (xs : List V) (x : V), SqT K H a xs ∧ xs[i]? = some x, fun i H v H' => ∃ T x, v = .ref T ∧ H T = none ∧ H' = upd H T (.tup [.int (i : Nat), x]) ∧ ∀ xs, SqT K H a xs → xs[i]? = some x, fun i H => ∃ xs : List V, SqT K H a xs ∧ xs.length = i⟩
theorem turn_enumT {P : Program} {w : World} {K : PySem.W.Frag} {elts : List Expr} {kk : Nat} {tpos : Pos} (a e it : Addr) :
    Turn P w K (.Tuple elts kk tpos) (IteT K a) [e, it] e (fun i h => (∃ old, IsEnum h e it ((i : Nat) : Int) old) ∧ h.IsTupleIter it a i ∧ e ≠ it ∧ a ≠ it ∧ e ≠ a) where
  mem := by simp
  obj := fun i h st b hb => by
    obtain ⟨⟨old, he⟩, ⟨o, ho, hc, hd⟩, _⟩ := st
    rcases (show b = e ∨ b = it by simpa using hb) with z | z <;> rw [z]
    · exact ⟨_, he, fun v q => nomatch q⟩
    · exact ⟨o, ho, fun v q => by rw [hd] at q; cases q⟩
  keep := fun i h h' st k => by
    obtain ⟨⟨old, he⟩, hi, r⟩ := st
    exact ⟨⟨old, k e (by simp) _ he⟩, hi.at (fun o q => k it (by simp) o q), r⟩
  item := by
    intro X hP hw hK hc i pins s σ H E I hf st hg
    subst hP hw hK
    obtain ⟨⟨old, he⟩, hit, hne, hai, hea⟩ := st
    obtain ⟨xs, x, hq, hx⟩ := hg
    obtain ⟨its, rv, p, hz⟩ := I.tuple hq
    obtain ⟨u, hu, ru⟩ := rv.get hx
    have hlt : i < its.toArray.size := by
      have z := (List.getElem?_eq_some_iff.mp hu).1
      simpa using z
    have lte : e < s.heap.objs.size := Heap.lt_size he
    have lti : it < s.heap.objs.size := by obtain ⟨_, q, _⟩ := hit; exact Heap.lt_size q
    refine wpAny_pyNext_enum_itemC (Draws.tuple (show X.A.in1.handled = none from I.ok.hd hc) it a hai its.toArray) he ⟨hit, show s.heap.IsTuple a its.toArray from p⟩ hlt hne (by simp [hne, hea]) fun y h' tk hy ho hst hT hsz hk => ?_
    have ey : y = u := by
      have z : its.toArray[i]? = some u := by simpa using hu
      exact Option.some.inj (hy.symm.trans z)
    subst ey
    refine ⟨_, rfl, wpAny_letOwnedTupleGo_enum (s := { s with heap := h', toks := tk + 1 }) ho fun h'' he' sb => ?_⟩
    have hT2 : h''.get? s.heap.objs.size = some { cls := .type "tuple", data := .seq #[.int i tk, y] } := (sb.2 _ (Nat.ne_of_gt lte)).trans hT
    have new : ObjOk X.prog X.w (upd H s.heap.objs.size (.tup [.int (i : Nat), x])) h'' s.heap.objs.size (.tup [.int (i : Nat), x]) :=
      ⟨by (show 2 ≤ sizeLine; decide), [.int i tk, y], .cons ⟨_, rfl⟩ (.cons ru .nil), ⟨_, hT2, rfl, _, rfl⟩⟩
    have I1 : Inv X pins σ (upd H s.heap.objs.size (.tup [.int (i : Nat), x])) { s with heap := h'', toks := tk + 1 } :=
      I.turnedNew (ch := [e, it]) (fun b ob hb q => (sb.2 b (fun z => hb (by simp [z]))).trans (hk b ob (fun z => hb (by simp [z])) (fun z => hb (by simp [z])) q)) hf (Nat.le_refl _) new
    refine ⟨.ref s.heap.objs.size, _, I1, rfl, ⟨_, x, rfl, I.hok.fresh (Nat.le_refl _), rfl, fun ys hy => by rw [I.tuple_inj hy hq]; exact hx⟩, ⟨⟨y, ?_⟩, hst.1.at (fun o q => (sb.2 it (Ne.symm hne)).trans q), hne, hai, hea⟩, fun b hb => ?_⟩
    · rw [show ((i + 1 : Nat) : Int) = (i : Int) + 1 by omega]
      exact he'
    · have hb' : b < s.heap.objs.size := by rcases (show b = e ∨ b = it by simpa using hb) with z | z <;> rw [z] <;> assumption
      rw [upd_ne (Nat.ne_of_lt hb')]
      exact (hf b hb).1
  done := by
    intro X hP hw hK hc i pins s σ H E I hf st hg
    subst hP hw hK
    obtain ⟨⟨old, he⟩, hit, hne, hai, hea⟩ := st
    obtain ⟨xs, hq, hx⟩ := hg
    obtain ⟨its, rv, p, hz⟩ := I.tuple hq
    obtain ⟨f0, f1, f2, f3, f4, f5⟩ := hf it (by simp)
    have hl := rv.length
    have en : its.toArray.size = i := by
      rw [List.size_toArray]
      omega
    exact wpAny_pyNext_enum_endD (Draws.tuple (show X.A.in1.handled = none from I.ok.hd hc) it a hai its.toArray) he ⟨by rw [en]; exact hit, show s.heap.IsTuple a its.toArray from p⟩ fun h' eb => ⟨rfl, I.turned (t' := s.toks) (fun b o hb e => eb b o hb e) f0 f1 f3 f4 f5⟩
  self := fun A i s Q E st h => by
    obtain ⟨⟨old, he⟩, _⟩ := st
    exact wpAny_pyIter_enum he h
def iEnumT (K : PySem.W.Frag) (ta : TA) : TI := fun σ H R => ta σ H fun vs H1 => ∃ a xs, vs = [.ref a] ∧ SqT K H1 a xs ∧ R (IteT K a) H1
theorem pi_enumT {X : Cx} {e : Expr} {ta : TA} {p pos tpos : Pos} {elts : List Expr} {kk : Nat} (hg : Gl X "enumerate") (hm : X.mg "enumerate" = none) (ha : PA X [e] ta) (hs : starEach [e] X.env = [(false, eval e X.env)] := by rfl) :
    PI X (.Tuple elts kk tpos) (.Call (.Name "enumerate" p) [e] [] pos) (iEnumT X.K ta) := by
  refine ⟨fun pins s σ H R I h => Call_ (ld_blt I hg hm boot_enumerate (PyProof.Rows.callWith_type1 (thn (ha.run pos pins s σ H _ I h) fun us s1 ⟨vs, H1, I1, r1, q1⟩ => ?_) hs rfl))⟩
  obtain ⟨a, xs, rfl, hq, q⟩ := q1
  obtain ⟨u, rfl, r⟩ := vals1 r1
  cases r
  obtain ⟨its, rv, p', hz⟩ := I1.tuple hq
  have lta : a < s1.heap.objs.size := by
    obtain ⟨o, ho, _⟩ := id p'
    exact Heap.lt_size ho
  refine call_enumT (show s1.heap.IsTuple a its.toArray from p') fun h' he hit hk => wpAny_pyIter_enum he ?_
  have I2 : Inv X pins σ H1 { s1 with heap := h' } := I1.kept (t' := s1.toks) hk
  refine ⟨s1.heap.objs.size + 1, [s1.heap.objs.size + 1, s1.heap.objs.size], _, _, H1, rfl, I2, turn_enumT a (s1.heap.objs.size + 1) s1.heap.objs.size, ⟨⟨.none, he⟩, hit, Nat.succ_ne_self _, Nat.ne_of_lt lta, Nat.ne_of_gt (Nat.lt_succ_of_lt lta)⟩, fun b hb => ?_, q⟩
  have hle : s1.heap.objs.size ≤ b := by
    rcases (show b = s1.heap.objs.size + 1 ∨ b = s1.heap.objs.size by simpa using hb) with z | z <;> rw [z]
    · exact Nat.le_succ _
    · exact Nat.le_refl _
  exact I1.fpOk hle (I1.hok.fresh hle)
theorem for_enumT {K : PySem.W.Frag} {a : Addr} {xs : List V} {g : TG} {tb : TS} {D : Ends} {σ : L2.St} {H : Hp} (Pv : Nat → L2.St → Hp → Prop) (h0 : Pv 0 σ H) (hl : ∀ i σ H, i ≤ xs.length → Pv i σ H → SqT K H a xs)
    (hs : ∀ (i : Nat) (x : V) (T : Addr) (σ : L2.St) (H : Hp), xs[i]? = some x → Pv i σ H → H T = none → g (.ref T) σ (upd H T (.tup [.int (i : Nat), x])) fun σ2 H2 => tb { D with nx := Pv (i + 1), ct := Pv (i + 1), bk := D.nx } σ2 H2) (hd : ∀ σ H, Pv xs.length σ H → D.nx σ H) :
    ∃ W : Nat → Nat → L2.St → Hp → Prop, (∃ m, W 0 m σ H) ∧ ∀ i m σ H, W i m σ H →
      ((IteT K a).stop i H ∧ D.nx σ H) ∨ ((IteT K a).go i H ∧ ∃ N : L2.St → Hp → Prop, (∀ σ' H', N σ' H' → ∃ m', m' < m ∧ W (i + 1) m' σ' H') ∧ ∀ v H', (IteT K a).yld i H v H' → g v σ H' fun σ2 H2 => tb { D with nx := N, ct := N, bk := D.nx } σ2 H2) := by
  refine ⟨fun i m σ H => m = xs.length - i ∧ i ≤ xs.length ∧ Pv i σ H, ⟨xs.length, rfl, Nat.zero_le _, h0⟩, ?_⟩
  rintro i m σ H ⟨rfl, hi, p⟩
  by_cases lt : i < xs.length
  · refine .inr ⟨⟨xs, xs[i], hl i σ H hi p, List.getElem?_eq_getElem lt⟩, Pv (i + 1), fun σ' H' p' => ⟨xs.length - (i + 1), by omega, rfl, lt, p'⟩, fun v H' y => ?_⟩
    obtain ⟨T, x, rfl, hT, rfl, hx⟩ := y
    exact hs i x T σ H (hx xs (hl i σ H hi p)) p hT
  · obtain rfl : i = xs.length := by omega
    exact .inl ⟨⟨xs, hl _ σ H hi p, rfl⟩, hd σ H p⟩
end Ow
/-! list(reversed(l)), l a list -/
namespace Ow
open PySem PySem.Spec PyProof.Rows L2 RT
section
variable {prog : Program} {w : World} {A : Around} {E : Value → Shared → Prop} {s : Shared}
theorem init_rev {R : Result → Shared → Prop} {it l S : Addr} {items : Array Value} (hd : A.handled = none) (hI : s.heap.IsRevIter it l ((items.size : Int) - 1)) (hL : s.heap.IsList l items) (ne : l ≠ it) (few : items.size ≤ sizeLine)
    (eS : s.heap.get? S = some { cls := .type "list", data := .seq #[] }) (Sne : S ∉ [it, l])
    (z : ∀ (h' : Heap) (tk : Nat) (acc : Array Value) (c : Nat), (∀ b o, b ≠ S → b ≠ it → s.heap.get? b = some o → h'.get? b = some o) → h'.get? S = some { cls := .type "list", dict := none, data := .seq acc c, slots := #[] } →
      ItemsOf (fun i v => items[items.size - 1 - i]? = some v) acc items.size → R (.ok (.ret .none)) { s with heap := h', toks := tk }) :
    wpAny (model prog w) A.in1 (Builtin.«list.__init__» ⟨[.ref S, .ref it], []⟩) (fun fin s' => match fin with | .done f => R (.ok f) s' | .again c' => c'.quiet = true ∧ codeAny (model prog w) A c' R s') (fun e s' => R (.error e) s') s := by
  have nS : S ≠ it ∧ S ≠ l := by simpa using Sne
  have lS : l ≠ S := fun e => nS.2 e.symm
  have iS : it ≠ S := fun e => nS.1 e.symm
  show wpAny _ _ (do let was ← Builtin.List.listItems (.ref S); Builtin.List.listUpdate (.ref S) (fun _ => #[]); letGo was.toList.reverse; Builtin.List.listExtendWith (.ref S) (.ref it) .none) _ _ s
  refine wpAny_bind ?_
  unfold Builtin.List.listItems
  refine wpAny_bind (wpAny_seqItems eS rfl (wpAny_pure ?_)) <;> skip
  show wpAny _ _ (updateSeq S (fun _ => #[]) >>= fun _ => letGo (#[] : Array Value).toList.reverse >>= fun _ => Builtin.List.listExtendWith (.ref S) (.ref it) .none) _ _ s
  refine wpAny_bind (wpAny_updateSeq eS rfl (wpAny_bind (wpAny_letGo ?_)))
  have eS2 := Heap.get?_update_self (Obj.mapSeq fun _ => (#[] : Array Value)) eS rfl
  have keep : ∀ b o, b ≠ S → s.heap.get? b = some o → (s.heap.update S (Obj.mapSeq fun _ => (#[] : Array Value))).get? b = some o := fun b o nb e => (Heap.get?_update_other _ _ nb.symm).trans e
  have hI2 : (s.heap.update S (Obj.mapSeq fun _ => (#[] : Array Value))).IsRevIter it l ((items.size : Int) - 1) := hI.at fun o e => keep it o iS e
  have hL2 : (s.heap.update S (Obj.mapSeq fun _ => (#[] : Array Value))).IsList l items := by
    obtain ⟨o, e1, e2⟩ := hL
    exact ⟨o, keep l o lS e1, e2⟩
  have Wk := (Walks.listRev (prog := prog) (w := w) (A := A.in1) hd it l ne items).toS
  have ty : ({ s with heap := s.heap.update S (Obj.mapSeq fun _ => (#[] : Array Value)) } : Shared).TypeIs (.ref it) "list_reverseiterator" := Heap.IsRevIter.typeIs (s := { s with heap := s.heap.update S (Obj.mapSeq fun _ => (#[] : Array Value)) }) hI2
  have same : Builtin.List.listSameRef (.ref S) (.ref it) = false := by simp [Builtin.List.listSameRef, nS.1]
  unfold Builtin.List.listExtendWith
  refine wpAny_bind (wpAny_typeOf ty (show wpAny _ _ _ _ _ _ from ?_))
  rw [if_neg (by rw [same]; exact by decide)]
  refine wpAny_bind (wpAny_pyIter_revIter (s := { s with heap := s.heap.update S (Obj.mapSeq fun _ => (#[] : Array Value)) }) hI2 (wpAny_bind (wpAny_holding ?_)))
  unfold Builtin.List.listLengthHint
  refine wpAny_bind (wpAny_specialOf ty RT.nolen_lri ?_)
  show wpAny _ _ (specialOf (Value.ref it) (Str.ofString "__length_hint__") >>= _) _ _ _
  refine wpAny_bind (wpAny_specialOf ty RT.hint_lri ?_)
  generalize gi : ("list_reverseiterator.__length_hint__" : String) = nm
  wp_delta
  rw [show splitId nm = some ("list_reverseiterator", "__length_hint__") from by rw [← gi]; decide +kernel]
  subst gi
  refine wpAny_bind (wpAny_isInstance (b := true) ty (by rw [isSubtype_type] <;> kernel_rfl) (wpAny_pure ?_))
  rw [if_neg (by decide)]
  have e0 : ((items.size : Nat) : Int) - 1 - ((0 : Nat) : Int) = (items.size : Int) - 1 := by omega
  refine wpAny_pure ⟨plainId_quiet F.plain_extend_loop _, codeAny_extend_loopS Wk few _ Sne _ items.size 0 _ _ _ rfl (Nat.zero_le _) ⟨Nat.zero_le _, by rw [e0]; exact hI2, hL2⟩ eS2 (ItemsOf.nil _) fun s' acc c mv eS' ha => ?_⟩
  rw [Moved.eq_with mv]
  refine z s'.heap s'.toks acc c (fun b o nb ni e => mv.heap b o (fun hm => ?_) (keep b o nb e)) eS' ha
  rcases List.mem_cons.mp hm with q | q
  · exact nb q
  · exact ni (List.mem_singleton.mp q)
theorem call_listRev {it l : Addr} {items : Array Value} {Q : Value → Shared → Prop} (hd : A.handled = none) (hI : s.heap.IsRevIter it l ((items.size : Int) - 1)) (hL : s.heap.IsList l items) (ne : l ≠ it) (few : items.size ≤ sizeLine)
    (z : ∀ (h' : Heap) (tk : Nat) (acc : Array Value) (c : Nat), (∀ b o, b ≠ it → s.heap.get? b = some o → h'.get? b = some o) → h'.get? s.heap.objs.size = some { cls := .type "list", dict := none, data := .seq acc c, slots := #[] } →
      ItemsOf (fun i v => items[items.size - 1 - i]? = some v) acc items.size → Q (.ref s.heap.objs.size) { s with heap := h', toks := tk }) :
    wpAny (model prog w) A (call (.type "list") [.ref it]) Q E s := by
  obtain ⟨oi, ei, _⟩ := id hI
  obtain ⟨ol, el, _⟩ := id hL
  have n1 : s.heap.objs.size ≠ it := Nat.ne_of_gt (Heap.lt_size ei)
  have n2 : s.heap.objs.size ≠ l := Nat.ne_of_gt (Heap.lt_size el)
  refine callType_codes (Q₁ := fun ob s₁ => ob = .ref s.heap.objs.size ∧ s₁ = { s with heap := s.heap.push { cls := .type "list", data := .seq #[] } }) F.called_list (F.typeCall_list_1 _) F.entry_list_init (code_list_new _ ⟨rfl, rfl⟩) fun ob s₁ h₁ => ?_
  obtain ⟨e1, e2⟩ := h₁
  subst e1 e2
  have eS : (s.heap.push { cls := .type "list", data := .seq #[] }).get? s.heap.objs.size = some { cls := .type "list", data := .seq #[] } := Heap.get?_push_size _ rfl
  refine ⟨⟨_, eS, rfl⟩, F.args_list_init_2 _ _, init_rev (A := A.in1) (s := { s with heap := s.heap.push { cls := .type "list", data := .seq #[] } }) hd (hI.at fun o e => Heap.get?_push_of_some _ e) (hL.push _) ne few eS (by simp [n1, n2]) fun h' tk acc c k eS' ha => ?_⟩
  exact ⟨rfl, z h' tk acc c (fun b o nb e => k b o (Nat.ne_of_lt (Heap.lt_size e)) nb (Heap.get?_push_of_some _ e)) eS' ha⟩
end
/-- list(reversed(x)), x a list -/
def tListRev (K : PySem.W.Frag) (te : TE) : TE := fun σ H Q => te σ H fun v H1 => ∃ (a : Addr) (xs : List V), v = .ref a ∧ SqL K H1 a xs ∧ ∀ q, H1 q = none → Q (.ref q) (upd H1 q (.lst xs.reverse))
theorem pe_listRev {X : Cx} {e : Expr} {te : TE} {p p2 pos pos2 : Pos} (hc : X.calm = true) (hg : Gl X "list") (hm : X.mg "list" = none) (hg2 : Gl X "reversed") (hm2 : X.mg "reversed" = none) (he : PE X e te)
    (hs : starEach [e] X.env = (false, eval e X.env) :: starEach [] X.env := by rfl)
    (hs2 : starEach [.Call (.Name "reversed" p2) [e] [] pos2] X.env = (false, eval (.Call (.Name "reversed" p2) [e] [] pos2) X.env) :: starEach [] X.env := by rfl) :
    PE X (.Call (.Name "list" p) [.Call (.Name "reversed" p2) [e] [] pos2] [] pos) (tListRev X.K te) := by
  refine ⟨fun pins s σ H Q I h => Call_ (ld_blt I hg hm boot_list (PyProof.Rows.callWith_type1 (args_cons (Call_ (ld_blt I hg2 hm2 PyProof.Rows.boot_reversed (PyProof.Rows.callWith_type1 (args_cons (thn (he.run pins s σ H _ I h) fun u s1 ⟨v, H1, I1, r1, q1⟩ => args_nil ?_) hs) hs rfl))) hs2) hs2 rfl))⟩
  obtain ⟨a, xs, ev, hq, q⟩ := q1
  subst ev
  cases (show u = Value.ref a from r1)
  obtain ⟨its, rv, pl, hz⟩ := I1.list hq
  refine call_reversed_list pl.isList (args_nil ?_)
  have I2 : Inv X pins σ H1 { s1 with heap := s1.heap.push (revObj a ((its.toArray.size : Int) - 1)) } := I1.kept (t' := s1.toks) fun b o e => Heap.get?_push_of_some _ e
  obtain ⟨f0, f1, f2, f3, f4, f5⟩ := I1.fpOk (H' := H1) (b := s1.heap.objs.size) (Nat.le_refl _) (I1.hok.fresh (Nat.le_refl _))
  obtain ⟨ol, el, _⟩ := id pl.isList
  have few : its.toArray.size ≤ sizeLine := by rw [List.size_toArray, ← rv.length]; exact hz
  refine call_listRev (s := { s1 with heap := s1.heap.push (revObj a ((its.toArray.size : Int) - 1)) }) (I1.ok.hd hc) ⟨_, Heap.get?_push_size _ rfl, rfl, rfl⟩ (pl.isList.push _) (Nat.ne_of_lt (Heap.lt_size el)) few fun h' tk acc c k eS ha => ?_
  have sz : (s1.heap.push (revObj a ((its.toArray.size : Int) - 1))).objs.size = s1.heap.objs.size + 1 := Heap.size_push ..
  have up : s1.heap.objs.size ≤ (s1.heap.push (revObj a ((its.toArray.size : Int) - 1))).objs.size := by rw [sz]; exact Nat.le_succ _
  have kk : ∀ b o, s1.heap.get? b = some o → h'.get? b = some o := fun b o e => k b o (Nat.ne_of_lt (Heap.lt_size e)) (Heap.get?_push_of_some _ e)
  have ok : ObjOk X.prog X.w (upd H1 (s1.heap.push (revObj a ((its.toArray.size : Int) - 1))).objs.size (.lst xs.reverse)) h' (s1.heap.push (revObj a ((its.toArray.size : Int) - 1))).objs.size (.lst xs.reverse) :=
    ⟨by rw [List.length_reverse]; exact hz, acc.toList, c, RT.vals_rev rv ha, by rw [Array.toArray_toList]; exact eS⟩
  exact ⟨.ref _, _, I1.laid (t' := tk) kk up ok, rfl, q _ (I1.hok.fresh up)⟩
end Ow
namespace L01
open PySem PySem.Spec PyProof.Rows L2 Lw Xv Lh Ow
abbrev sErr : Stmt := inClass (Lw.top 3) 0
abbrev sIsName : Stmt := Lw.top 8
abbrev sInit : Stmt := inClass (Lw.top 11) 0
abbrev sLen : Stmt := inClass (Lw.top 11) 2
abbrev sCon : Stmt := inClass (Lw.top 11) 3
abbrev sEq : Stmt := inClass (Lw.top 11) 4
def wordL : List V := [.str "and", .str "case", .str "else", .str "is", .str "missing", .str "must", .str "not", .str "or"]
def abc : Str := "abcdefghijklmnopqrstuvwxyz"
def lets (z : Str) : Bool := z.cps.toList.all fun c => decide (c ∈ abc.cps.toList)
/-- the text may be a name -/
def okS (z : Str) : Bool := !inV (.str z) wordL && (decide (1 ≤ z.length) && decide (z.length ≤ 8) && lets z)
def okV : V → Bool
  | .str z => okS z
  | _ => false
/-- what the law hands in: texts, None, True, 5, the tuple at ta, the list at la -/
def It1 (ta la : Addr) (x : V) : Prop := (∃ z, x = .str z ∧ z.length ≤ 9) ∨ x = .non ∨ x = .bl true ∨ x = .int 5 ∨ x = .ref ta ∨ x = .ref la
/-- the tuple and the list -/
def Fx (H : Hp) (ta la : Addr) : Prop := H ta = some (.tup [.str "a"]) ∧ H la = some (.lst [.str "a"])
theorem Fx.same {H H' : Hp} {ta la : Addr} (f : Fx H ta la) (s : Same H H') : Fx H' ta la := ⟨s _ _ f.1, s _ _ f.2⟩
theorem it_cases {K : PySem.W.Frag} {H : Hp} {ta la : Addr} {x : V} (f : Fx H ta la) (h : It1 ta la x) :
    (∃ z, x = .str z ∧ z.length ≤ 9) ∨ ∃ T : String, okV x = false ∧ kitB T "str" = some false ∧ ∀ H', Same H H' → TyX K H' x (.type T) := by
  rcases h with h | rfl | rfl | rfl | rfl | rfl
  · exact .inl h
  · exact .inr ⟨"NoneType", rfl, by decide +kernel, fun H' _ => .base .non⟩
  · exact .inr ⟨"bool", rfl, by decide +kernel, fun H' _ => .base (.bl true)⟩
  · exact .inr ⟨"int", rfl, by decide +kernel, fun H' _ => .base (.int 5)⟩
  · exact .inr ⟨"tuple", rfl, by decide +kernel, fun H' s => .base (.tup (s _ _ f.1))⟩
  · exact .inr ⟨"list", rfl, by decide +kernel, fun H' s => .base (.lst (s _ _ f.2))⟩
/-- x is no name, or stands ahead of k -/
def badV (xs : List V) (k : Nat) (x : V) : Bool := !okV x || inV x (xs.take k)
def badK (xs : List V) (k : Nat) : Bool := match xs[k]? with
  | some x => badV xs k x
  | none => false
/-- what is due of these arguments -/
def due (xs : List V) : Option Int := if xs.length = 0 ∨ 4 < xs.length then some (-1) else ((List.range xs.length).find? (badK xs)).map Int.ofNat
theorem due_m {xs : List V} (h : xs.length = 0 ∨ 4 < xs.length) : due xs = some (-1) := if_pos h
theorem due_k {xs : List V} {k : Nat} (h : ¬ (xs.length = 0 ∨ 4 < xs.length)) (hk : k < xs.length) (b : badK xs k = true) (l : ∀ j, j < k → badK xs j = false) : due xs = some (k : Int) := by
  unfold due
  rw [if_neg h]
  have e : (List.range xs.length).find? (badK xs) = some k := by
    rw [List.find?_range_eq_some]
    exact ⟨b, by simpa using hk, fun j hj => by rw [l j hj]; rfl⟩
  rw [e]
  rfl
theorem due_0 {xs : List V} (h : ¬ (xs.length = 0 ∨ 4 < xs.length)) (l : ∀ j, j < xs.length → badK xs j = false) : due xs = none := by
  unfold due
  rw [if_neg h]
  have e : (List.range xs.length).find? (badK xs) = none := by
    rw [List.find?_range_eq_none]
    exact fun j hj => by rw [l j hj]; rfl
  rw [e]
  rfl
theorem due_no {xs : List V} (h : due xs = none) : ¬ (xs.length = 0 ∨ 4 < xs.length) ∧ ∀ j, j < xs.length → badK xs j = false := by
  unfold due at h
  by_cases c : xs.length = 0 ∨ 4 < xs.length
  · rw [if_pos c] at h
    cases h
  · rw [if_neg c] at h
    refine ⟨c, fun j hj => ?_⟩
    have e : (List.range xs.length).find? (badK xs) = none := by
      cases q : (List.range xs.length).find? (badK xs) with
      | none => rfl
      | some k =>
        rw [q] at h
        cases h
    rw [List.find?_range_eq_none] at e
    have z := e j hj
    simpa using z
theorem okV_str {x : V} (h : okV x = true) : ∃ z, x = .str z ∧ okS z = true := by
  cases x with
  | str z => exact ⟨z, rfl, h⟩
  | _ => cases h
theorem flat_take {xs : List V} {k : Nat} (l : ∀ j, j < k → badK xs j = false) : (xs.take k).all flatV = true := by
  rw [List.all_eq_true]
  intro x hx
  obtain ⟨j, hj, e⟩ := List.getElem_of_mem hx
  rw [List.length_take] at hj
  have b := l j (by omega)
  have e2 : xs[j]? = some x := by
    rw [List.getElem_take] at e
    rw [← e]
    exact List.getElem?_eq_getElem (by omega)
  unfold badK at b
  rw [e2] at b
  have b2 : (!okV x || inV x (xs.take j)) = false := b
  rw [Bool.or_eq_false_iff] at b2
  obtain ⟨z, rfl, _⟩ := okV_str (x := x) (by simpa using b2.1)
  rfl
theorem all_ok {xs : List V} (l : ∀ j, j < xs.length → badK xs j = false) {j : Nat} {x : V} (e : xs[j]? = some x) : okV x = true := by
  have b := l j (List.getElem?_eq_some_iff.mp e).1
  unfold badK at b
  rw [e] at b
  have b2 : (!okV x || inV x (xs.take j)) = false := b
  rw [Bool.or_eq_false_iff] at b2
  simpa using b2.1
theorem badK_at {xs : List V} {k : Nat} {x : V} (e : xs[k]? = some x) : badK xs k = badV xs k x := by
  unfold badK
  rw [e]
theorem cut_take {xs : List V} {k : Nat} (h : k ≤ xs.length) : cutV xs none (some (k : Int)) = xs.take k := by
  have e0 : HT.sIx xs.length 0 none = 0 := rfl
  have e1 : HT.sIx xs.length xs.length (some (k : Int)) = k := by
    unfold HT.sIx
    show (if (k : Int) < 0 then _ else _) = k
    rw [if_neg (by omega)]
    show min (k : Int).toNat xs.length = k
    omega
  unfold cutV
  rw [e0, e1]
  simp
/-- names of kinds.py -/
structure Kd (K : PySem.W.Frag) (mg : Str → Option Value) : Prop where
  w : ∃ a, mg "WORDS" = some (.ref a) ∧ ∀ H, SqT K H a wordL
  l : ∃ t, mg "LETTERS" = some (.str abc t)
  m : ∃ t, mg "MOST_LETTERS" = some (.int 8 t)
  c : ∃ t, mg "MOST_COLUMNS" = some (.int 4 t)
  all : mg "all" = none
  enum : mg "enumerate" = none
theorem same_put {H H' : Hp} {D : Addr} {o : HO} (s : Same H H') (n : H D = none) : Same H (L2.upd H' D o) := fun b u e => by
  rw [upd_ne (ne_of_none e n)]
  exact s b u e
def spIsName (K : PySem.W.Frag) : Sp := fun vs H Q _ => ∃ x, vs = [x] ∧ ((∃ z, x = .str z ∧ z.length ≤ 9) ∨ ∃ T : String, okV x = false ∧ kitB T "str" = some false ∧ TyX K H x (.type T)) ∧ ∀ H', Same H H' → Q (.bl (okV x)) H'
section
variable {P : Program} {w : World} {K : PySem.W.Frag} {mg : Str → Option Value} {base : Heap}
theorem scIsName : FnScope ["value", "letter"] ["value"] (defScope sIsName) := ⟨rfl, rfl, rfl, by decide +kernel, rfl, by decide +kernel, by decide +kernel⟩
theorem okIsName {f : Addr} {fd : FuncData} (F : Fun K "is_name" "is_name" sIsName f fd) (B : Bt mg) (D : Kd K mg) : FnOk P w K mg base CX0 1 f fd ["value"] (spIsName K) := by
  obtain ⟨aw, mw, hw⟩ := D.w
  obtain ⟨tl, ml⟩ := D.l
  obtain ⟨tm, mm⟩ := D.m
  refine F.ok scIsName (fun vs H Q E h => ?_) (fun cdv A outer s H vs Q E hr h => ?_)
  · obtain ⟨x, rfl, _⟩ := h
    rfl
  · obtain ⟨x, rfl, hx, k⟩ := h
    refine ⟨_, pss_cons (ps_if (pw_or (pt_not (pt_val (pe_callB call_isi (by rfl) B.isi (by decide +kernel) (pa_cons (pv 0) (pa_cons (pe_bltn (v := .ty "str") (by rfl) B.str (by decide +kernel) rfl) pa_nil)))))
          (pw_or1 (pt_cmpR op_in_seq (pv 0) (pe_glob (v := .ref aw) (by rfl) mw rfl) (by rfl)))).pt (pss_one (ps_ret pe_bl)) pss_nil)
        (pss_one (ps_ret (pe_and (pe_chain op_le op_le pe_int (pe_callB call_len_str (by rfl) B.len PySem.boot_len (pa_cons (pv 0) pa_nil)) (pe_glob (v := .int 8) (by rfl) mm ⟨tm, rfl⟩))
          (pe_one (pe_callB (cr_all rfl) (by rfl) D.all (by decide +kernel) (pa_cons
            (pe_lc (own := [("letter", 1)]) (g := gName 1) (by rfl) scIsName.nd (pi_str (pv 0))
              (blkOk_by (own := [("letter", 1)]) (N := ["value", "letter"]) (sc := defScope sIsName) (by decide +kernel)) (fun _ _ _ _ _ => pg_name (i := 1) scIsName.nd rfl (Or.inl rfl))
              (fun _ _ _ _ _ => pts_nil)
              (fun _ _ _ _ _ => pe_cmpR op_in_sign (pv 1) (pe_glob (v := .str abc) (by rfl) ml ⟨tl, rfl⟩) (by rfl))) pa_nil)))))), ?_⟩
    rcases hx with ⟨z, rfl, hz⟩ | ⟨T, hf, hT, ty⟩
    · refine ⟨_, rfl, _, _, _, _, true, rfl, .ty _, .base (.str z), kit_ty (by decide +kernel), true, rfl, iteF ?_⟩
      refine ⟨_, rfl, aw, wordL, rfl, .inr (hw H), rfl, (by decide +kernel), _, rfl, ?_⟩
      refine ite2 (fun hw1 => ?_) (fun hw1 => ?_)
      · have e : okV (.str z) = false := by
          show (!inV (.str z) wordL && _) = false
          rw [show inV (.str z) wordL = true from hw1]
          rfl
        rw [← e]
        exact k H (Same.refl H)
      · have e : inV (.str z) wordL = false := by simpa using hw1
        have sl := sizeLine_eq
        have ev : okV (.str z) = (decide (1 ≤ z.length) && decide (z.length ≤ 8) && lets z) := by
          show (!inV (.str z) wordL && _) = _
          rw [e]
          rfl
        refine ⟨_, rfl, z, rfl, by omega, _, _, rfl, rfl, _, rfl, ?_⟩
        have i1 : (decide ((1 : Int) ≤ (z.length : Int))) = decide (1 ≤ z.length) := by
          apply decide_eq_decide.mpr
          omega
        have i2 : (decide ((z.length : Int) ≤ (8 : Int))) = decide (z.length ≤ 8) := by
          apply decide_eq_decide.mpr
          omega
        rw [i1]
        by_cases c1 : 1 ≤ z.length
        · rw [decide_eq_true c1]
          refine iteT ⟨_, _, rfl, rfl, _, rfl, ?_⟩
          rw [i2]
          by_cases c2 : z.length ≤ 8
          · rw [decide_eq_true c2]
            refine iteT ⟨_, rfl, z, rfl, fun D hD => ?_⟩
            rw [decide_eq_true c1, decide_eq_true c2] at ev
            have hl : z.cps.toList.length = z.length := by simp [Str.length]
            refine lc_it walk_str (fun i H' => ∃ bs : List Bool, bs.length = i ∧ bs.all id = (z.cps.toList.take i).all (fun c => decide (c ∈ abc.cps.toList)) ∧ Same H H' ∧ H' D = some (.lst (bs.map V.bl))) ?_ ?_ ?_ ?_
            · exact ⟨[], rfl, rfl, same_new hD, upd_same⟩
            · exact fun _ _ _ _ => trivial
            · rintro i x H1 H2 hi ⟨bs, h1, h2, h3, h4⟩ ⟨rfl, c, hc, rfl⟩
              refine ⟨rfl, _, rfl, c, abc, rfl, rfl, _, h4, ?_, bs ++ [decide (c ∈ abc.cps.toList)], ?_, ?_, same_put h3 hD, ?_⟩
              · rw [List.length_map, h1]
                have : z.cps.size = z.length := rfl
                omega
              · rw [List.length_append, h1]
                rfl
              · have e1 : z.cps.toList[i]? = some c := by simpa using hc
                rw [List.all_append, h2, List.take_add_one, e1]
                simp
              · rw [upd_same, List.map_append]
                rfl
            · rintro H' ⟨bs, h1, h2, h3, h4⟩
              refine ⟨D, bs, rfl, SqL.of h4, ?_⟩
              have e2 : bs.all id = lets z := by
                rw [h2]
                have : z.cps.size = z.length := rfl
                rw [List.take_of_length_le (by omega)]
                rfl
              rw [e2]
              rw [Bool.true_and, Bool.true_and] at ev
              rw [← ev]
              exact k H' h3
          · rw [decide_eq_false c2]
            rw [decide_eq_false c2, Bool.and_false, Bool.false_and] at ev
            refine iteF ?_
            have z2 := k H (Same.refl H)
            rw [ev] at z2
            exact z2
        · rw [decide_eq_false c1]
          rw [decide_eq_false c1, Bool.false_and, Bool.false_and] at ev
          refine iteF ⟨_, rfl, iteF ?_⟩
          have z2 := k H (Same.refl H)
          rw [ev] at z2
          exact z2
    · refine ⟨_, rfl, _, _, _, _, false, rfl, .ty _, ty, kit_ty hT, false, rfl, iteT ?_⟩
      rw [← hf]
      exact k H (Same.refl H)
end
end L01
namespace L01
open PySem PySem.Spec PyProof.Rows L2 Lw Xv Lh Ow
/-- the columns at o: these names, in the tuple at p -/
def CoAt (H : Hp) (C o p : Addr) (zs : List Str) : Prop := (∃ dx, H o = some (.ins C dx [("names", .ref p)])) ∧ H p = some (.tup (zs.map V.str))
theorem CoAt.same {H H' : Hp} {C o p : Addr} {zs : List Str} (h : CoAt H C o p zs) (s : Same H H') : CoAt H' C o p zs := by
  obtain ⟨⟨dx, e⟩, e2⟩ := h
  exact ⟨⟨dx, s _ _ e⟩, s _ _ e2⟩
theorem flat_strs (zs : List Str) : (zs.map V.str).all flatV = true := by
  rw [List.all_eq_true]
  intro x hx
  obtain ⟨z, _, rfl⟩ := List.mem_map.mp hx
  rfl
theorem inV_strs (z : Str) (zs : List Str) : inV (.str z) (zs.map V.str) = decide (z ∈ zs) := by
  induction zs with
  | nil => rfl
  | cons y ys ih =>
    show (eqV (.str y) (.str z) || inV (.str z) (ys.map V.str)) = _
    rw [ih]
    by_cases e : y = z
    · subst e
      simp [eqV]
    · have e2 : (y == z) = false := by simpa using e
      have e3 : ¬ z = y := fun q => e q.symm
      show ((y == z) || _) = _
      rw [e2]
      simp [e3]
theorem dp_strs {K : PySem.W.Frag} {H : Hp} : ∀ zs : List Str, DpAll K H (zs.map V.str) (zs.map PyData.str)
  | [] => .nil
  | z :: zs => .cons (.str z) (dp_strs zs)
theorem eqv_strs : ∀ zs ws : List Str, PyData.eqvAll (zs.map .str) (ws.map .str) = decide (zs = ws)
  | [], [] => by simp [PyData.eqvAll]
  | [], _ :: _ => by simp [PyData.eqvAll]
  | _ :: _, [] => by simp [PyData.eqvAll]
  | z :: zs, w :: ws => by
    show (PyData.eqv (.str z) (.str w) && PyData.eqvAll (zs.map .str) (ws.map .str)) = _
    rw [eqv_strs zs ws]
    have e : PyData.eqv (.str z) (.str w) = (z == w) := by simp [PyData.eqv]
    rw [e]
    by_cases h : z = w
    · subst h
      simp
    · have e2 : (z == w) = false := by simpa using h
      rw [e2]
      simp [h]
theorem strOk_of {z : Str} (h : okS z = true) : PyData.strOk z = true := by
  unfold okS at h
  rw [Bool.and_eq_true, Bool.and_eq_true] at h
  have l := h.2.2
  unfold lets at l
  unfold PyData.strOk
  rw [← Array.all_toList, List.all_eq_true]
  rw [List.all_eq_true] at l
  intro c hc
  have m := of_decide_eq_true (l c hc)
  have a : ∀ c ∈ abc.cps.toList, c < 0x110000 := by decide +kernel
  exact decide_eq_true (a c m)
theorem lay_strs : ∀ {zs : List Str}, (∀ z ∈ zs, okS z = true) → PyData.canLayAll0 (zs.map .str) = true
  | [], _ => rfl
  | z :: zs, h => by
    show (PyData.canLay0 (.str z) && PyData.canLayAll0 (zs.map .str)) = true
    rw [lay_strs fun y hy => h y (List.mem_cons_of_mem _ hy)]
    show (PyData.strOk z && true) = true
    rw [strOk_of (h z List.mem_cons_self)]
    rfl
theorem dep_strs : ∀ zs : List Str, PyData.depthAll (zs.map .str) = 0
  | [] => rfl
  | z :: zs => by
    show max (PyData.depth (.str z)) (PyData.depthAll (zs.map .str)) = 0
    rw [dep_strs zs]
    rfl
theorem shaped_strs {zs : List Str} (h : ∀ z ∈ zs, okS z = true) : SeqAt.shaped (.tuple (zs.map .str)) = true := by
  unfold SeqAt.shaped
  rw [show PyData.canLay0 (.tuple (zs.map .str)) = true from lay_strs h]
  rw [show PyData.depth (.tuple (zs.map .str)) = 1 from by show PyData.depthAll _ + 1 = 1; rw [dep_strs]]
  rfl
/-- what the class Columns must have -/
structure Cf (K : PySem.W.Frag) (mg : Str → Option Value) (C : Addr) : Prop where
  cl : Cls K C
  ha : PySem.W.findIn K (.ref C) "__class__" = some (some (.builtin "object.__class__"))
  hn : PySem.W.specialIn K (.builtin "object.__class__") "__get__" = some (some (.builtin "getset_descriptor.__get__"))
  ht : PySem.W.takesIn K (.builtin "object.__class__") = some true
  hm : PySem.W.mroIn K C (.type "object") = some true
  no : NoAttr K C "names"
  g : mg "Columns" = some (.ref C)
  kt : PySem.W.kitOne K (.type "tuple") (.ref C) = some false
def spLen (C : Addr) : Sp := fun vs H Q _ => ∃ o p zs, vs = [.ref o] ∧ CoAt H C o p zs ∧ Q (.int zs.length) H
def spCon (K : PySem.W.Frag) (C : Addr) : Sp := fun vs H Q _ => ∃ o p zs x, vs = [.ref o, x] ∧ CoAt H C o p zs ∧ ((∃ z, x = .str z ∧ Q (.bl (decide (z ∈ zs))) H) ∨ ∃ T : String, kitB T "str" = some false ∧ TyX K H x (.type T) ∧ Q (.bl false) H)
def spEq (C : Addr) : Sp := fun vs H Q _ => ∃ o p zs x, vs = [.ref o, x] ∧ CoAt H C o p zs ∧ (∀ z ∈ zs, okS z = true) ∧
  ((∃ o' p' ws, x = .ref o' ∧ CoAt H C o' p' ws ∧ (∀ z ∈ ws, okS z = true) ∧ Q (.bl (decide (zs = ws))) H) ∨ ∃ a xs, x = .ref a ∧ H a = some (.tup xs) ∧ Q (.bl false) H)
section
variable {P : Program} {w : World} {K : PySem.W.Frag} {mg : Str → Option Value} {base : Heap} {C : Addr}
theorem scLen : FnScope ["self"] ["self"] (defScope sLen) := ⟨rfl, rfl, rfl, by decide +kernel, rfl, by decide +kernel, by decide +kernel⟩
theorem okLen {f : Addr} {fd : FuncData} (F : Fun K "__len__" "Columns.__len__" sLen f fd) (B : Bt mg) (D : Cf K mg C) : FnOk P w K mg base CX0 1 f fd ["self"] (spLen C) := by
  refine F.ok scLen (fun vs H Q E h => ?_) (fun cdv A outer s H vs Q E hr h => ?_)
  · obtain ⟨o, p, zs, rfl, _⟩ := h
    rfl
  · obtain ⟨o, p, zs, rfl, ⟨⟨dx, ho⟩, hp⟩, k⟩ := h
    refine ⟨_, pss_one (ps_ret (pe_callB call_len_seq (by rfl) B.len PySem.boot_len (pa_cons (pe_fld (pv 0) (by rfl)) pa_nil))), ?_⟩
    refine ⟨_, rfl, o, C, dx, _, _, rfl, ho, D.cl, D.no, rfl, p, _, rfl, .inr (SqT.of hp), ?_⟩
    rw [List.length_map]
    exact k
theorem scCon : FnScope ["self", "name"] ["self", "name"] (defScope sCon) := ⟨rfl, rfl, rfl, by decide +kernel, rfl, by decide +kernel, by decide +kernel⟩
theorem okCon {f : Addr} {fd : FuncData} (F : Fun K "__contains__" "Columns.__contains__" sCon f fd) (B : Bt mg) (D : Cf K mg C) : FnOk P w K mg base CX0 1 f fd ["self", "name"] (spCon K C) := by
  refine F.ok scCon (fun vs H Q E h => ?_) (fun cdv A outer s H vs Q E hr h => ?_)
  · obtain ⟨o, p, zs, x, rfl, _⟩ := h
    rfl
  · obtain ⟨o, p, zs, x, rfl, ⟨⟨dx, ho⟩, hp⟩, k⟩ := h
    refine ⟨_, pss_one (ps_ret (pe_and (pe_callB call_isi (by rfl) B.isi (by decide +kernel) (pa_cons (pv 1) (pa_cons (pe_bltn (v := .ty "str") (by rfl) B.str (by decide +kernel) rfl) pa_nil)))
      (pe_one (pe_cmpR op_in_seq (pv 1) (pe_fld (pv 0) (by rfl)) (by rfl))))), ?_⟩
    rcases k with ⟨z, rfl, k⟩ | ⟨T, hT, ty, k⟩
    · refine ⟨_, rfl, _, _, _, _, true, rfl, .ty _, .base (.str z), kit_ty (by decide +kernel), _, rfl, iteT ⟨_, rfl, _, rfl, o, C, dx, _, _, rfl, ho, D.cl, D.no, rfl, p, _, rfl, .inr (SqT.of hp), rfl, flat_strs zs, ?_⟩⟩
      show Q (.bl (inV (.str z) (zs.map V.str))) H
      rw [inV_strs]
      exact k
    · exact ⟨_, rfl, _, _, _, _, false, rfl, .ty _, ty, kit_ty hT, _, rfl, iteF k⟩
theorem scEq : FnScope ["self", "other"] ["self", "other"] (defScope sEq) := ⟨rfl, rfl, rfl, by decide +kernel, rfl, by decide +kernel, by decide +kernel⟩
theorem okEq {f : Addr} {fd : FuncData} (F : Fun K "__eq__" "Columns.__eq__" sEq f fd) (B : Bt mg) (D : Cf K mg C) : FnOk P w K mg base CX0 1 f fd ["self", "other"] (spEq C) := by
  refine F.ok scEq (fun vs H Q E h => ?_) (fun cdv A outer s H vs Q E hr h => ?_)
  · obtain ⟨o, p, zs, x, rfl, _⟩ := h
    rfl
  · obtain ⟨o, p, zs, x, rfl, ⟨⟨dx, ho⟩, hp⟩, hz, k⟩ := h
    refine ⟨_, pss_one (ps_ret (pe_and (pe_callB call_isi (by rfl) B.isi (by decide +kernel) (pa_cons (pv 1) (pa_cons (pe_glob (v := .ref C) (by rfl) D.g rfl) pa_nil)))
      (pe_one (pe_cmpR (op_eqD hr.units) (pe_fld (pv 0) (by rfl)) (pe_fld (pv 1) (by rfl)) (by rfl))))), ?_⟩
    rcases k with ⟨o', p', ws, rfl, ⟨⟨dx', ho'⟩, hp'⟩, hw, k⟩ | ⟨a, xs, rfl, ha, k⟩
    · refine ⟨_, rfl, _, _, _, _, true, rfl, .own C, .base (.ins ho' D.cl D.ha D.hn D.ht D.hm), ?_, _, rfl, iteT ⟨_, rfl, o, C, dx, _, _, rfl, ho, D.cl, D.no, rfl, _, rfl, o', C, dx', _, _, rfl, ho', D.cl, D.no, rfl,
        _, _, .tup (SqT.of hp) (dp_strs zs), .tup (SqT.of hp') (dp_strs ws), shaped_strs hz, shaped_strs hw, ?_⟩⟩
      · unfold PySem.W.kitOne
        rw [if_pos (by simp)]
      · have e : PyData.eqv (.tuple (zs.map .str)) (.tuple (ws.map .str)) = decide (zs = ws) := by
          rw [← eqv_strs zs ws]
          simp [PyData.eqv]
        rw [e]
        exact k
    · exact ⟨_, rfl, _, _, _, _, false, rfl, .own C, .base (.tup ha), D.kt, _, rfl, iteF k⟩
end
end L01
namespace L01
open PySem PySem.Spec PyProof.Rows L2 Lw Xv Lh Ow
/-- what the class BadColumns must have -/
structure Ef (K : PySem.W.Frag) (mg : Str → Option Value) (CB fI : Addr) : Prop where
  T : OexC K CB
  iC : PySem.W.findIn K (.ref CB) "__init__" = some (some (.ref fI))
  tI : PySem.W.typeIn K (.ref fI) = some (.type "function")
  n1 : PySem.W.findIn K (.ref CB) "index" = some none
  g : mg "BadColumns" = some (.ref CB)
def spErr (CB : Addr) : Sp := fun vs H Q _ => ∃ (a : Addr) (y : V), vs = [.ref a, y] ∧ H a = some (exo a CB none) ∧ ∀ d, H d = none → d ≠ a → Q .non (upd (upd H d (exd d [("index", y)])) a (exo a CB (some d)))
/-- what Columns.__init__ promises, the arguments' tuple made -/
def spInit (C CB : Addr) : Sp := fun vs H Q E => ∃ o p dx xs ta la, vs = [.ref o, .ref p] ∧ H o = some (.ins C dx []) ∧ H p = some (.tup xs) ∧ xs.length ≤ 5 ∧ Fx H ta la ∧ (∀ x ∈ xs, It1 ta la x) ∧
  (due xs = none → ∀ H', Same H H' → Q .non (upd H' o (.ins C dx [("names", .ref p)]))) ∧
  ∀ i, due xs = some i → ∀ d H', Same H H' → H' d = some (.xd [("index", .int i)]) → E (.ref CB) (some d) H'
section
variable {P : Program} {w : World} {K : PySem.W.Frag} {mg : Str → Option Value} {base : Heap} {C CB : Addr}
theorem scErr : FnScope ["self", "index"] ["self", "index"] (defScope sErr) := ⟨rfl, rfl, rfl, by decide +kernel, rfl, by decide +kernel, by decide +kernel⟩
theorem okErr {f : Addr} {fd : FuncData} (F : Fun K "__init__" "BadColumns.__init__" sErr f fd) (D : Ef K mg CB f) : FnOk P w K mg base CX0 1 f fd ["self", "index"] (spErr CB) := by
  refine F.ok scErr (fun vs H Q E h => ?_) (fun cdv A outer s H vs Q E hr h => ?_)
  · obtain ⟨a, y, rfl, _⟩ := h
    rfl
  · obtain ⟨a, y, rfl, ha, k⟩ := h
    refine ⟨_, pss_one (ps_ost (pv 0) (pv 1)), ?_⟩
    exact ⟨_, rfl, _, rfl, a, CB, rfl, D.T, D.n1, .inl ⟨ha, fun dx hn ne => k dx hn ne⟩⟩
theorem scInit : FnScope ["self", "names", "index", "name"] ((["self"] : List Str) ++ (["names"] : List Str)) (defScope sInit) := ⟨rfl, rfl, rfl, by decide +kernel, rfl, by decide +kernel, by decide +kernel⟩
/-- the exception that is made and leaves -/
theorem raise_in {H : Hp} {y : V} {E : XK} (k : ∀ d H', Same H H' → H' d = some (.xd [("index", y)]) → E (.ref CB) (some d) H') {H1 : Hp} (s : Same H H1) {a : Addr} (ha : H1 a = none) :
    spErr CB (.ref a :: ([y] ++ [])) (upd H1 a (exo a CB none)) (fun v H2 => v = .non ∧ ∃ (d : Addr) (fs : List (Str × V)), H2 a = some (exo a CB (some d)) ∧ H2 d = some (exd d fs) ∧ H1 d = none ∧ E (.ref CB) (some d) (upd (del H2 a) d (.xd fs))) (fun _ _ _ => False) := by
  refine ⟨a, y, rfl, upd_same, fun d hd ne => ⟨rfl, d, _, upd_same, by rw [upd_ne ne, upd_same], ?_, k d _ ?_ upd_same⟩⟩
  · rw [upd_ne ne] at hd
    exact hd
  · rw [upd_ne ne] at hd
    intro b o e
    have e1 := s b o e
    have nb : b ≠ a := ne_of_none e1 ha
    have nd : b ≠ d := ne_of_none e1 hd
    rw [upd_ne nd, del_ne nb, upd_ne nb, upd_ne nd, upd_ne nb]
    exact e1
theorem okInit {f fE fN : Addr} {fd fdE fdN : FuncData} (F : Fun K "__init__" "Columns.__init__" sInit f fd) (B : Bt mg) (D : Kd K mg) (DC : Cf K mg C) (DE : Ef K mg CB fE)
    (FE : Fun K "__init__" "BadColumns.__init__" sErr fE fdE) (bE : Binds K fdE ["self", "index"] []) (FN : Fun K "is_name" "is_name" sIsName fN fdN) (bN : Binds K fdN ["value"] []) (mN : mg "is_name" = some (.ref fN)) :
    FnR P w K mg base (L2.CX P w) 3 f (fun vs H Q E => ∃ ws rest, vs = ws ++ rest ∧ ws.length = (["self"] : List Str).length ∧ rest.length ≤ sizeLine ∧ ∀ p, H p = none → spInit C CB (ws ++ [V.ref p]) (upd H p (.tup rest)) Q E) := by
  have GE : FnOk P w K mg base CX0 1 fE fdE ["self", "index"] (spErr CB) := okErr FE DE
  have GN : FnOk P w K mg base CX0 1 fN fdN ["value"] (spIsName K) := okIsName FN B D
  obtain ⟨tc, mc⟩ := D.c
  obtain ⟨oc, od, kV, doc, pm, an, cdv, ct, osl, rfl, lk, hcd⟩ := F.ex
  refine StX.fn_star lk hcd scInit StX.cxUp (StX.bind_star1 (B := fun l => bindArgs (PySem.W.fnOf "__init__" "Columns.__init__" (defArgs sInit) (defBody sInit) (defScope sInit) .none kV doc pm an cdv ct) ⟨l, []⟩) (p1 := "self") (pv := "names") (fun _ => rfl) (fun _ _ _ => rfl)) (fun A outer s H vs Q E hr h => ?_)
  obtain ⟨o, p, dx, xs, ta, la, rfl, ho, hp, hz, fx, hit, k0, k1⟩ := h
  refine ⟨_, pss_cons (ps_if (pw_or (pt_not (pt_truth (pv 1) (fun _ => rfl))) (pw_or1 (pt_cmpR op_gt (pe_callB call_len_seq (by rfl) B.len PySem.boot_len (pa_cons (pv 1) pa_nil)) (pe_glob (v := .int 4) (by rfl) mc ⟨tc, rfl⟩) (nomark _)))).pt
      (pss_one (ps_raise rfl (takes_of rfl rfl rfl rfl) (pmk_oex DE.T DE.iC DE.tI GE hr bE .nil pass0 (by rfl) DE.g (pa_cons (pe_un un_neg pe_int) pa_nil)))) pss_nil)
    (pss_cons (ps_for (passes_of rfl) rfl (pi_enumT (by rfl) D.enum (pa_cons (pv 1) pa_nil)) (pg_tup rfl (pgs_cons (pg_name (i := 2) scInit.nd rfl (Or.inl rfl)) (pgs_cons (pg_name (i := 3) scInit.nd rfl (Or.inl rfl)) pgs_nil)))
      (pss_one (ps_if (pw_or (pt_not (pt_val (pe_call GN (hr.mono (by decide)) (by rfl) mN FN.kp bN .nil pass0 (pa_cons (pv 3) pa_nil))))
          (pw_or1 (pt_cmpR op_in_seq (pv 3) (pe_slice sl_tup (pv 1) po_none (po_some (pv 2))) (by rfl)))).pt
        (pss_one (ps_raise rfl (takes_of rfl rfl rfl rfl) (pmk_oex DE.T DE.iC DE.tI GE hr bE .nil pass0 (by rfl) DE.g (pa_cons (pv 2) pa_nil)))) pss_nil)))
    (pss_one (ps_fld (pv 0) (pv 1) (by rfl)))), ?_⟩
  refine ⟨_, rfl, _, .inr (.inl ⟨xs, SqT.of hp, rfl⟩), ?_⟩
  have four : decide ((4 : Int) < (xs.length : Int)) = decide (4 < xs.length) := by
    apply decide_eq_decide.mpr
    omega
  cases e0 : xs.isEmpty with
  | true =>
    have l0 : xs.length = 0 := by simpa using e0
    exact iteT ⟨_, rfl, by decide, fun a ha => raise_in (k1 (-1) (due_m (.inl l0))) (Same.refl H) ha⟩
  | false =>
    have l0 : xs.length ≠ 0 := by
      intro z
      have : xs.isEmpty = true := by simpa using z
      rw [this] at e0
      cases e0
    refine iteF ⟨_, rfl, p, xs, rfl, .inr (SqT.of hp), _, _, rfl, rfl, _, rfl, ?_⟩
    refine ite2 (fun h4 => ?_) (fun h4 => ?_)
    · have l4 : 4 < xs.length := by
        have := of_decide_eq_true h4
        omega
      exact ⟨_, rfl, by decide, fun a ha => raise_in (k1 (-1) (due_m (.inr l4))) (Same.refl H) ha⟩
    · have n4 : ¬ (xs.length = 0 ∨ 4 < xs.length) := by
        rintro (z | z)
        · exact l0 z
        · exact h4 (decide_eq_true (by omega))
      refine ⟨_, rfl, p, xs, rfl, SqT.of hp, for_enumT (fun i σ H' => (∃ u v, σ = [some (.ref o), some (.ref p), u, v]) ∧ Same H H' ∧ ∀ j, j < i → badK xs j = false) ⟨⟨_, _, rfl⟩, Same.refl H, fun j hj => by omega⟩ (fun i σ H' _ hp' => SqT.of (hp'.2.1 _ _ hp)) ?_ ?_⟩
      · rintro i x T σ H' hx ⟨⟨u, v, rfl⟩, s1, hb⟩ hT
        have hi : i < xs.length := (List.getElem?_eq_some_iff.mp hx).1
        have s2 : Same H (upd H' T (.tup [.int (i : Nat), x])) := s1.trans (same_new hT)
        refine ⟨T, _, rfl, SqT.of upd_same, rfl, _, _, rfl, _, _, rfl, rfl, ?_⟩
        have hxm : It1 ta la x := hit x (List.mem_of_getElem? hx)
        refine ⟨_, rfl, x, rfl, ?_, fun H3 s3 => ⟨_, rfl, ?_⟩⟩
        · rcases it_cases (K := K) fx hxm with z | ⟨T', z1, z2, z3⟩
          · exact .inl z
          · exact .inr ⟨T', z1, z2, z3 _ s2⟩
        · have s4 := s2.trans s3
          have bk : badK xs i = badV xs i x := badK_at hx
          unfold badV at bk
          cases ok : okV x with
          | false =>
            rw [ok] at bk
            exact iteT ⟨_, rfl, (by show 1 ≤ 1000; decide), fun a ha => raise_in (k1 i (due_k n4 hi bk hb)) s4 ha⟩
          | true =>
            rw [ok] at bk
            obtain ⟨z, rfl, _⟩ := okV_str ok
            have nw : ¬ (HT.sIx xs.length 0 none = 0 ∧ HT.sIx xs.length xs.length (some (i : Int)) = xs.length) := by
              rintro ⟨_, q⟩
              rw [HT.sIx_nat] at q
              omega
            refine iteF ⟨_, rfl, _, rfl, _, rfl, i, rfl, p, xs, rfl, SqT.of (s4 _ _ hp), nw, fun q hq => ?_⟩
            rw [cut_take (by omega)]
            refine ⟨q, xs.take i, rfl, .inr (SqT.of upd_same), rfl, flat_take hb, _, rfl, ?_⟩
            have s5 := same_put (o := .tup (xs.take i)) s4 (s4.free hq)
            refine ite2 (fun c => ?_) (fun c => ?_)
            · refine ⟨_, rfl, (by show 1 ≤ 1000; decide), fun a ha => raise_in (k1 i (due_k n4 hi (by rw [bk, show inV (.str z) (xs.take i) = true from c]; rfl) hb)) s5 ha⟩
            · have c2 : inV (.str z) (xs.take i) = false := by
                have c' : ¬ inV (.str z) (xs.take i) = true := c
                simpa using c'
              refine ⟨⟨_, _, rfl⟩, s5, fun j hj => ?_⟩
              by_cases e : j = i
              · subst e
                rw [bk, c2]
                rfl
              · exact hb j (by omega)
      · rintro σ H' ⟨⟨u, v, rfl⟩, s1, hb⟩
        refine ⟨_, rfl, _, rfl, o, C, dx, [], rfl, s1 _ _ ho, DC.cl, DC.no, by decide, ?_⟩
        exact k0 (due_0 n4 hb) H' s1
end
end L01
namespace L01
open PySem PySem.Spec PyProof.Rows L2 Lw Xv Lh Ow
abbrev sCols : Stmt := Lw.top 18
abbrev sMade : Stmt := Lw.top 20
theorem strs_of : ∀ {xs : List V}, (∀ x ∈ xs, okV x = true) → ∃ zs : List Str, xs = zs.map V.str ∧ ∀ z ∈ zs, okS z = true
  | [], _ => ⟨[], rfl, fun _ h => by cases h⟩
  | x :: xs, h => by
    obtain ⟨zs, e, hz⟩ := strs_of (xs := xs) fun y hy => h y (List.mem_cons_of_mem _ hy)
    obtain ⟨z, rfl, ok⟩ := okV_str (h x List.mem_cons_self)
    refine ⟨z :: zs, by rw [e]; rfl, fun y hy => ?_⟩
    rcases List.mem_cons.mp hy with rfl | hy
    · exact ok
    · exact hz y hy
/-- what stands where Columns(*xs) was called: the columns, or the exception -/
structure Ends1 (C CB : Addr) (H : Hp) (xs : List V) (Q : VK) (E : XK) : Prop where
  q : due xs = none → ∀ (o p : Addr) (zs : List Str) (H' : Hp), xs = zs.map V.str → (∀ z ∈ zs, okS z = true) → Same H H' → CoAt H' C o p zs → Q (.ref o) H'
  e : ∀ i, due xs = some i → ∀ (d : Addr) (H' : Hp), Same H H' → H' d = some (.xd [("index", .int i)]) → E (.ref CB) (some d) H'
abbrev spNew (C CB : Addr) : Sp := fun vs H Q E => ∃ ws rest, vs = ws ++ rest ∧ ws.length = (["self"] : List Str).length ∧ rest.length ≤ sizeLine ∧ ∀ p, H p = none → spInit C CB (ws ++ [V.ref p]) (upd H p (.tup rest)) Q E
theorem mk_in {C CB : Addr} {H : Hp} {xs : List V} {Q : VK} {E : XK} {ta la : Addr} (fx : Fx H ta la) (hit : ∀ x ∈ xs, It1 ta la x) (hz : xs.length ≤ 5) (k : Ends1 C CB H xs Q E) :
    ∀ o dx, H o = none → H dx = none → dx ≠ o → spNew C CB (V.ref o :: xs) (upd (upd H dx (.own o)) o (.ins C dx [])) (fun v H2 => v = .non ∧ Q (.ref o) H2) E := by
  intro o dx ho hdx hne
  refine ⟨[.ref o], xs, rfl, rfl, by rw [sizeLine_eq]; omega, fun p hp => ?_⟩
  have po : p ≠ o := fun e => by
    rw [e, upd_same] at hp
    cases hp
  have s1 : Same H (upd (upd (upd H dx (.own o)) o (.ins C dx [])) p (.tup xs)) := by
    have a : Same H (upd (upd H dx (.own o)) o (.ins C dx [])) := same_put (same_new hdx) ho
    exact same_put a (a.free hp)
  refine ⟨o, p, dx, xs, ta, la, rfl, by rw [upd_ne po.symm, upd_same], upd_same, hz, fx.same s1, hit, fun hd H' s2 => ?_, fun i hd d H' s2 hx => k.e i hd d H' (s1.trans s2) hx⟩
  obtain ⟨zs, ez, ok⟩ := strs_of (xs := xs) fun x hx => by
    obtain ⟨j, hj, e⟩ := List.getElem_of_mem hx
    exact all_ok (due_no hd).2 (j := j) (by rw [← e]; exact List.getElem?_eq_getElem hj)
  refine ⟨rfl, k.q hd o p zs _ ez ok (same_put (s1.trans s2) ho) ⟨⟨dx, upd_same⟩, ?_⟩⟩
  rw [upd_ne po, ← ez]
  exact s2 _ _ upd_same
/-- C() by a promise of C's __init__ -/
theorem pe_makeR0 {X : Cx} {CX : CXT} {k : Nat} {f C : Addr} {sp : Sp} {E : XK} {x : Str} {p pos : Pos} (M : Mk X.K C f) (F : FnR X.prog X.w X.K X.mg X.base CX k f sp) (hr : Room (k + 1) X.A) (hg : Gl X x) (hm : X.mg x = some (.ref C)) (hx : Passes CX X E)
    (hdb : (x == ("__debug__" : Str)) = false := by decide) : PE X (.Call (.Name x p) [] [] pos) (StX.tMakeR C sp E tNil) := by
  refine ⟨fun pins s σ H Q I h => ?_⟩
  refine wpAny_Call_Name_kw (ld_glob I hg hm (PySem.W.callWith_K0 I.kIn M.kp ?_) hdb)
  exact StX.run_makeR (us := []) M F hr hx I .nil h
def spMade (C CB : Addr) (ok : Nat → Bool) : Sp := fun vs H Q E => ∃ l xs ta la, vs = [.ref l] ∧ H l = some (.lst xs) ∧ ok xs.length = true ∧ xs.length ≤ 5 ∧ Fx H ta la ∧ (∀ x ∈ xs, It1 ta la x) ∧ Ends1 C CB H xs Q E
section
variable {P : Program} {w : World} {K : PySem.W.Frag} {mg : Str → Option Value} {base : Heap} {C CB : Addr}
theorem scCols : FnScope ["_law_names"] ["_law_names"] (defScope sCols) := ⟨rfl, rfl, rfl, by decide +kernel, rfl, by decide +kernel, by decide +kernel⟩
theorem okCols {f fI : Addr} {fd : FuncData} (F : Fun K "_law_columns" "_law_columns" sCols f fd) (B : Bt mg) (DC : Cf K mg C) (M : Mk K C fI) (GI : FnR P w K mg base (L2.CX P w) 3 fI (spNew C CB)) :
    FnOk P w K mg base (L2.CX P w) 5 f fd ["_law_names"] (spMade C CB fun n => decide (1 ≤ n) && decide (n ≤ 4)) := by
  refine F.okX scCols (fun vs H Q E h => ?_) (fun cdv A outer s H vs Q E hr h => ?_)
  · obtain ⟨l, xs, ta, la, rfl, _⟩ := h
    rfl
  · obtain ⟨l, xs, ta, la, rfl, hl, hn, hz, fx, hit, k⟩ := h
    have px : Passes (L2.CX P w) (cxOf (L2.CX P w) P w K mg base ["_law_names"] "_law_columns" (defScope sCols) f cdv A outer s H E) E := passes_call (takes_of rfl rfl rfl rfl) fun _ _ _ _ h => h
    refine ⟨_, pss_cons (ps_if (pt_cmpR op_eq (pe_callB call_len_seq (by rfl) B.len PySem.boot_len (pa_cons (pv 0) pa_nil)) pe_int (nomark _)) (pss_one (ps_ret (StX.pe_makeR M GI hr (by rfl) DC.g px (pa_cons (pe_ix ix_list (pv 0) pe_int (fun _ _ => rfl)) pa_nil)))) pss_nil)
      (pss_cons (ps_if (pt_cmpR op_eq (pe_callB call_len_seq (by rfl) B.len PySem.boot_len (pa_cons (pv 0) pa_nil)) pe_int (nomark _)) (pss_one (ps_ret (StX.pe_makeR M GI hr (by rfl) DC.g px (pa_cons (pe_ix ix_list (pv 0) pe_int (fun _ _ => rfl)) (pa_cons (pe_ix ix_list (pv 0) pe_int (fun _ _ => rfl)) pa_nil))))) pss_nil)
      (pss_cons (ps_if (pt_cmpR op_eq (pe_callB call_len_seq (by rfl) B.len PySem.boot_len (pa_cons (pv 0) pa_nil)) pe_int (nomark _)) (pss_one (ps_ret (StX.pe_makeR M GI hr (by rfl) DC.g px (pa_cons (pe_ix ix_list (pv 0) pe_int (fun _ _ => rfl)) (pa_cons (pe_ix ix_list (pv 0) pe_int (fun _ _ => rfl)) (pa_cons (pe_ix ix_list (pv 0) pe_int (fun _ _ => rfl)) pa_nil)))))) pss_nil)
      (pss_one (ps_ret (StX.pe_makeR M GI hr (by rfl) DC.g px (pa_cons (pe_ix ix_list (pv 0) pe_int (fun _ _ => rfl)) (pa_cons (pe_ix ix_list (pv 0) pe_int (fun _ _ => rfl)) (pa_cons (pe_ix ix_list (pv 0) pe_int (fun _ _ => rfl)) (pa_cons (pe_ix ix_list (pv 0) pe_int (fun _ _ => rfl)) pa_nil))))))))), ?_⟩
    have mk := mk_in fx hit hz k
    have sl := SqL.of (K := K) hl
    match xs, hn with
    | [], hn => cases hn
    | [x0], _ =>
      exact ⟨_, rfl, l, _, rfl, .inl sl, rfl, _, rfl, iteT ⟨_, rfl, l, _, 0, _, rfl, rfl, sl, at_of (j := 0) rfl rfl, mk⟩⟩
    | [x0, x1], _ => exact ⟨_, rfl, l, _, rfl, .inl sl, rfl, _, rfl, iteF ⟨_, rfl, l, _, rfl, .inl sl, rfl, _, rfl, iteT ⟨_, rfl, l, _, 0, _, rfl, rfl, sl, at_of (j := 0) rfl rfl, _, rfl, l, _, 1, _, rfl, rfl, sl, at_of (j := 1) rfl rfl, mk⟩⟩⟩
    | [x0, x1, x2], _ => exact ⟨_, rfl, l, _, rfl, .inl sl, rfl, _, rfl, iteF ⟨_, rfl, l, _, rfl, .inl sl, rfl, _, rfl, iteF ⟨_, rfl, l, _, rfl, .inl sl, rfl, _, rfl, iteT ⟨_, rfl, l, _, 0, _, rfl, rfl, sl, at_of (j := 0) rfl rfl, _, rfl, l, _, 1, _, rfl, rfl, sl, at_of (j := 1) rfl rfl, _, rfl, l, _, 2, _, rfl, rfl, sl, at_of (j := 2) rfl rfl, mk⟩⟩⟩⟩
    | [x0, x1, x2, x3], _ => exact ⟨_, rfl, l, _, rfl, .inl sl, rfl, _, rfl, iteF ⟨_, rfl, l, _, rfl, .inl sl, rfl, _, rfl, iteF ⟨_, rfl, l, _, rfl, .inl sl, rfl, _, rfl, iteF ⟨_, rfl, l, _, 0, _, rfl, rfl, sl, at_of (j := 0) rfl rfl, _, rfl, l, _, 1, _, rfl, rfl, sl, at_of (j := 1) rfl rfl, _, rfl, l, _, 2, _, rfl, rfl, sl, at_of (j := 2) rfl rfl, _, rfl, l, _, 3, _, rfl, rfl, sl, at_of (j := 3) rfl rfl, mk⟩⟩⟩⟩
    | _ :: _ :: _ :: _ :: _ :: r, hn =>
      exfalso
      have hn' := of_decide_eq_true (Bool.and_eq_true_iff.mp hn).2
      simp only [List.length_cons] at hn'
      omega
theorem scMade : FnScope ["_law_items_here"] ["_law_items_here"] (defScope sMade) := ⟨rfl, rfl, rfl, by decide +kernel, rfl, by decide +kernel, by decide +kernel⟩
theorem okMade {f fI fK : Addr} {fd fdK : FuncData} (F : Fun K "_law_made" "_law_made" sMade f fd) (B : Bt mg) (DC : Cf K mg C) (M : Mk K C fI) (GI : FnR P w K mg base (L2.CX P w) 3 fI (spNew C CB))
    (FK : Fun K "_law_columns" "_law_columns" sCols fK fdK) (bK : Binds K fdK ["_law_names"] []) (mK : mg "_law_columns" = some (.ref fK)) :
    FnOk P w K mg base (L2.CX P w) 6 f fd ["_law_items_here"] (spMade C CB fun _ => true) := by
  have GK := okCols FK B DC M GI
  refine F.okX scMade (fun vs H Q E h => ?_) (fun cdv A outer s H vs Q E hr h => ?_)
  · obtain ⟨l, xs, ta, la, rfl, _⟩ := h
    rfl
  · obtain ⟨l, xs, ta, la, rfl, hl, hn, hz, fx, hit, k⟩ := h
    have px : Passes (L2.CX P w) (cxOf (L2.CX P w) P w K mg base ["_law_items_here"] "_law_made" (defScope sMade) f cdv A outer s H E) E := passes_call (takes_of rfl rfl rfl rfl) fun _ _ _ _ h => h
    refine ⟨_, pss_cons (ps_if (pt_cmpR op_eq (pe_callB call_len_seq (by rfl) B.len PySem.boot_len (pa_cons (pv 0) pa_nil)) pe_int (nomark _)) (pss_one (ps_ret (pe_makeR0 M GI (hr.mono (by decide)) (by rfl) DC.g px))) pss_nil)
      (pss_cons (ps_if (pt_cmpR op_eq (pe_callB call_len_seq (by rfl) B.len PySem.boot_len (pa_cons (pv 0) pa_nil)) pe_int (nomark _)) (pss_one (ps_ret (StX.pe_makeR M GI (hr.mono (by decide)) (by rfl) DC.g px (pa_cons (pe_ix ix_list (pv 0) pe_int (fun _ _ => rfl)) (pa_cons (pe_ix ix_list (pv 0) pe_int (fun _ _ => rfl)) (pa_cons (pe_ix ix_list (pv 0) pe_int (fun _ _ => rfl)) (pa_cons (pe_ix ix_list (pv 0) pe_int (fun _ _ => rfl)) (pa_cons (pe_ix ix_list (pv 0) pe_int (fun _ _ => rfl)) pa_nil)))))))) pss_nil)
      (pss_one (ps_ret (pe_call GK hr (by rfl) mK FK.kp bK .nil px (pa_cons (pv 0) pa_nil))))), ?_⟩
    have mk := mk_in fx hit hz k
    have sl := SqL.of (K := K) hl
    have oth : ∀ n : Nat, n = xs.length → 1 ≤ n → n ≤ 4 → spMade C CB (fun n => decide (1 ≤ n) && decide (n ≤ 4)) [.ref l] H Q E := fun n e h1 h4 => ⟨l, xs, ta, la, rfl, hl, by subst e; simp [h1, h4], hz, fx, hit, k⟩
    match xs, hz with
    | [], _ => exact ⟨_, rfl, l, _, rfl, .inl sl, rfl, _, rfl, iteT mk⟩
    | [x0, x1, x2, x3, x4], _ => exact ⟨_, rfl, l, _, rfl, .inl sl, rfl, _, rfl, iteF ⟨_, rfl, l, _, rfl, .inl sl, rfl, _, rfl, iteT ⟨_, rfl, l, _, 0, _, rfl, rfl, sl, at_of (j := 0) rfl rfl, _, rfl, l, _, 1, _, rfl, rfl, sl, at_of (j := 1) rfl rfl, _, rfl, l, _, 2, _, rfl, rfl, sl, at_of (j := 2) rfl rfl, _, rfl, l, _, 3, _, rfl, rfl, sl, at_of (j := 3) rfl rfl, _, rfl, l, _, 4, _, rfl, rfl, sl, at_of (j := 4) rfl rfl, mk⟩⟩⟩
    | [x0], _ => exact ⟨_, rfl, l, _, rfl, .inl sl, rfl, _, rfl, iteF ⟨_, rfl, l, _, rfl, .inl sl, rfl, _, rfl, iteF ⟨_, rfl, oth 1 rfl (by decide) (by decide)⟩⟩⟩
    | [x0, x1], _ => exact ⟨_, rfl, l, _, rfl, .inl sl, rfl, _, rfl, iteF ⟨_, rfl, l, _, rfl, .inl sl, rfl, _, rfl, iteF ⟨_, rfl, oth 2 rfl (by decide) (by decide)⟩⟩⟩
    | [x0, x1, x2], _ => exact ⟨_, rfl, l, _, rfl, .inl sl, rfl, _, rfl, iteF ⟨_, rfl, l, _, rfl, .inl sl, rfl, _, rfl, iteF ⟨_, rfl, oth 3 rfl (by decide) (by decide)⟩⟩⟩
    | [x0, x1, x2, x3], _ => exact ⟨_, rfl, l, _, rfl, .inl sl, rfl, _, rfl, iteF ⟨_, rfl, l, _, rfl, .inl sl, rfl, _, rfl, iteF ⟨_, rfl, oth 4 rfl (by decide) (by decide)⟩⟩⟩
    | _ :: _ :: _ :: _ :: _ :: _ :: r, hz =>
      exfalso
      simp only [List.length_cons] at hz
      omega
end
end L01
namespace L01
open PySem PySem.Spec PyProof.Rows L2 Lw Xv Lh Ow
abbrev sRes : Stmt := Lw.top 19
abbrev sName : Stmt := Lw.top 16
abbrev sGood : Stmt := Lw.top 21
/-- a number of a draw finds an item -/
theorem pick {xs : List V} {r : Int} (h0 : 0 ≤ r) (h1 : r < (xs.length : Int)) : ∃ x, atI xs r = some x ∧ x ∈ xs := by
  obtain ⟨j, rfl⟩ := Int.eq_ofNat_of_zero_le h0
  have hj : j < xs.length := by omega
  exact ⟨xs[j], atI_nat (List.getElem?_eq_getElem hj), List.getElem_mem hj⟩
def spareL : List V := [.str "ka", .str "kb", .str "kc", .str "kd", .str "ke", .str "kf"]
theorem spare_ok : ∀ x ∈ spareL, flatV x = true ∧ inV x wordL = false := by
  intro x hx
  unfold spareL at hx
  simp only [List.mem_cons, List.not_mem_nil, or_false] at hx
  rcases hx with rfl | rfl | rfl | rfl | rfl | rfl <;> exact ⟨rfl, by decide +kernel⟩
theorem else_put {p D : Addr} {H H' : Hp} {o : HO} (e : Else p H H') (n : H D = none) : Else p H (L2.upd H' D o) := fun b u h nb => by
  rw [upd_ne (ne_of_none h n)]
  exact e b u h nb
theorem else_at {p b : Addr} {H H' : Hp} {o : HO} (e : Else p H H') (h : H b = some o) (n : b ≠ p) : H' b = some o := e b o h n
def spRes : Sp := fun vs H Q _ => ∃ p q, vs = [.ref p] ∧ HandAt H p q ∧ ∀ z H', z.length ≤ 9 → HandAt H' p q → Else p H H' → Q (.str z) H'
def spName : Sp := fun vs H Q _ => ∃ p q t, vs = [.ref p, .ref t] ∧ HandAt H p q ∧ H t = some (.lst []) ∧ t ≠ p ∧ ∀ z H', okS z = true → HandAt H' p q → Else p H H' → Q (.str z) H'
theorem okS_len {z : Str} (h : okS z = true) : z.length ≤ 9 := by
  unfold okS at h
  rw [Bool.and_eq_true, Bool.and_eq_true, Bool.and_eq_true] at h
  have := of_decide_eq_true h.2.1.2
  omega
def Sign (y : Str) : Prop := ∃ c, y = ⟨#[c]⟩ ∧ c ∈ abc.cps.toList
theorem join_signs : ∀ {ys : List Str}, (∀ y ∈ ys, Sign y) → (TL.joinL [] (ys.map TL.tl)).length = ys.length ∧ ∀ c ∈ TL.joinL [] (ys.map TL.tl), c ∈ abc.cps.toList
  | [], _ => ⟨rfl, fun c h => by cases h⟩
  | [y], h => by
    obtain ⟨c, rfl, hc⟩ := h y List.mem_cons_self
    refine ⟨rfl, fun d hd => ?_⟩
    have e : d = c := List.mem_singleton.mp hd
    rw [e]
    exact hc
  | y :: z :: r, h => by
    obtain ⟨i1, i2⟩ := join_signs (ys := z :: r) fun x hx => h x (List.mem_cons_of_mem _ hx)
    obtain ⟨c, rfl, hc⟩ := h y List.mem_cons_self
    have e : TL.joinL [] ((⟨#[c]⟩ :: z :: r : List Str).map TL.tl) = c :: TL.joinL [] ((z :: r).map TL.tl) := rfl
    rw [e]
    refine ⟨by rw [List.length_cons, i1]; rfl, fun d hd => ?_⟩
    rcases List.mem_cons.mp hd with rfl | hd
    · exact hc
    · exact i2 d hd
theorem joined {ys : List Str} (h : ∀ y ∈ ys, Sign y) : (Txt.join "" ys).length = ys.length ∧ lets (Txt.join "" ys) = true := by
  have e : TL.tl (Txt.join "" ys) = TL.joinL [] (ys.map TL.tl) := by
    rw [TL.join_eq, TL.tl_join]
    rfl
  obtain ⟨i1, i2⟩ := join_signs h
  refine ⟨by rw [TL.len_tl, e, i1], ?_⟩
  unfold lets
  rw [show (Txt.join "" ys).cps.toList = TL.joinL [] (ys.map TL.tl) from e, List.all_eq_true]
  exact fun c hc => decide_eq_true (i2 c hc)
section
variable {P : Program} {w : World} {K : PySem.W.Frag} {mg : Str → Option Value} {base : Heap}
theorem scRes : FnScope ["_law_hand_here"] ["_law_hand_here"] (defScope sRes) := ⟨rfl, rfl, rfl, by decide +kernel, rfl, by decide +kernel, by decide +kernel⟩
theorem okRes {f fD : Addr} {fd fdD : FuncData} (F : Fun K "_law_reserved" "_law_reserved" sRes f fd) (GD : FnOk P w K mg base CX0 2 fD fdD ["_law_hand_here", "_law_many"] spDraw) (kD : PySem.W.keepIn K (.ref fD) = true) (bD : Binds K fdD ["_law_hand_here", "_law_many"] []) (mD : mg "_law_draw" = some (.ref fD)) :
    FnOk P w K mg base CX0 3 f fd ["_law_hand_here"] spRes := by
  refine F.ok scRes (fun vs H Q E h => ?_) (fun cdv A outer s H vs Q E hr h => ?_)
  · obtain ⟨p, q, rfl, _⟩ := h
    rfl
  · obtain ⟨p, q, rfl, hA, k⟩ := h
    refine ⟨_, pss_one (ps_ret (pe_ix ix_list (pe_lst (pa_cons pe_str (pa_cons pe_str (pa_cons pe_str (pa_cons pe_str (pa_cons pe_str (pa_cons pe_str (pa_cons pe_str (pa_cons pe_str pa_nil)))))))))
      (pe_call GD hr (by rfl) mD kD bD .nil pass0 (pa_cons (pv 0) (pa_cons pe_int pa_nil))) (fun _ _ => rfl))), ?_⟩
    refine ⟨(by show 8 ≤ sizeLine; decide), fun t ht => ?_⟩
    obtain ⟨np, nq⟩ := hA.np ht
    refine ⟨_, rfl, p, q, 8, rfl, hA.upd np nq, by decide, by decide, fun r H' r0 r1 hA' el => ?_⟩
    obtain ⟨x, hx, hm⟩ := pick (xs := wordL) r0 r1
    have ht' := else_at el (b := t) upd_same np
    have hs : ∃ z, x = V.str z ∧ z.length ≤ 9 := by
      unfold wordL at hm
      simp only [List.mem_cons, List.not_mem_nil, or_false] at hm
      rcases hm with rfl | rfl | rfl | rfl | rfl | rfl | rfl | rfl <;> exact ⟨_, rfl, by decide⟩
    obtain ⟨z, rfl, hz⟩ := hs
    exact ⟨t, _, _, _, rfl, rfl, SqL.of ht', hx, k z H' hz hA' ((Else.of (same_new ht)).trans el)⟩
abbrev nName : List Str := ["_law_hand_here", "_law_taken", "_law_letters", "_law_size", "_law_word", "_law_barred", "_law_spare", "_law_k", "_law_other"]
theorem scName : FnScope nName ["_law_hand_here", "_law_taken"] (defScope sName) := ⟨rfl, rfl, rfl, by decide +kernel, rfl, by decide +kernel, by decide +kernel⟩
theorem okName {f fD : Addr} {fd fdD : FuncData} (F : Fun K "_law_name" "_law_name" sName f fd) (B : Bt mg) (GD : FnOk P w K mg base CX0 2 fD fdD ["_law_hand_here", "_law_many"] spDraw) (kD : PySem.W.keepIn K (.ref fD) = true) (bD : Binds K fdD ["_law_hand_here", "_law_many"] []) (mD : mg "_law_draw" = some (.ref fD)) :
    FnOk P w K mg base CX0 3 f fd ["_law_hand_here", "_law_taken"] spName := by
  refine F.ok scName (fun vs H Q E h => ?_) (fun cdv A outer s H vs Q E hr h => ?_)
  · obtain ⟨p, q, t, rfl, _⟩ := h
    rfl
  · obtain ⟨p, q, t, rfl, hA, ht, tp, k⟩ := h
    refine ⟨_, pss_cons (ps_set (i := 2) scName.nd rfl (Or.inr rfl) pe_str)
      (pss_cons (ps_set (i := 3) scName.nd rfl (Or.inl rfl) (pe_ix ix_list (pe_lst (pa_cons pe_int (pa_cons pe_int (pa_cons pe_int (pa_cons pe_int pa_nil))))) (pe_call GD hr (by rfl) mD kD bD .nil pass0 (pa_cons (pv 0) (pa_cons pe_int pa_nil))) (fun _ _ => rfl)))
      (pss_cons (ps_set (i := 4) scName.nd rfl (Or.inl rfl) (pe_join pe_str
          (pe_lc (own := [("_law_k", 7)]) (g := gName 7) (by rfl) scName.nd (pi_range1 rfl B.range (pa_cons (pv 3) pa_nil))
              (blkOk_by (own := [("_law_k", 7)]) (N := nName) (sc := defScope sName) (by decide +kernel)) (fun _ _ _ _ _ => pg_name (i := 7) scName.nd rfl (Or.inl rfl))
              (fun _ _ _ _ _ => pts_nil)
              (fun _ _ _ _ _ => pe_ix ix_str (pv 2) (pe_call GD hr (by rfl) mD kD bD .nil pass0 (pa_cons (pv 0) (pa_cons pe_int pa_nil))) (fun _ _ => rfl)))))
      (pss_cons (ps_set (i := 5) scName.nd rfl (Or.inr rfl) (pe_op op_cat (pv 1) (pe_lst (pa_cons pe_str (pa_cons pe_str (pa_cons pe_str (pa_cons pe_str (pa_cons pe_str (pa_cons pe_str (pa_cons pe_str (pa_cons pe_str pa_nil)))))))))))
      (pss_cons (ps_if (pt_cmpR op_in_seq (pv 4) (pv 5) (by rfl))
        (pss_cons (ps_setLc (i := 6) (own := [("_law_other", 8)]) (g := gName 8) (by rfl) scName.nd rfl (by rfl) (by rfl) (pi_list (pe_lst (pa_cons pe_str (pa_cons pe_str (pa_cons pe_str (pa_cons pe_str (pa_cons pe_str (pa_cons pe_str pa_nil))))))))
              (blkOk_by (own := [("_law_other", 8)]) (N := nName) (sc := defScope sName) (by decide +kernel)) (fun _ _ _ _ _ => pg_name (i := 8) scName.nd rfl (Or.inl rfl))
              (fun _ _ _ _ _ => pts_one (pt_cmpR (r := rIn K true) op_notIn_seq (pv 8) (pv 5) (by rfl)))
              (fun _ _ _ _ _ => pv 8))
          (pss_one (ps_ret (pe_ix ix_list (pv 6) pe_int (fun _ _ => rfl))))) pss_nil)
      (pss_one (ps_ret (pv 4))))))), ?_⟩
    -- [1, 2, 3, 8][draw(hand, 4)]
    refine ⟨(by show 4 ≤ sizeLine; decide), fun b hb => ?_⟩
    obtain ⟨np, nq⟩ := hA.np hb
    refine ⟨_, rfl, p, q, 4, rfl, hA.upd np nq, by decide, by decide, fun r H1 r0 r1 hA1 e1 => ?_⟩
    obtain ⟨x, hx, hm⟩ := pick (xs := [V.int 1, .int 2, .int 3, .int 8]) r0 r1
    obtain ⟨n, rfl, n1, n8⟩ : ∃ n : Nat, x = V.int (n : Int) ∧ 1 ≤ n ∧ n ≤ 8 := by
      simp only [List.mem_cons, List.not_mem_nil, or_false] at hm
      rcases hm with rfl | rfl | rfl | rfl
      · exact ⟨1, rfl, by decide, by decide⟩
      · exact ⟨2, rfl, by decide, by decide⟩
      · exact ⟨3, rfl, by decide, by decide⟩
      · exact ⟨8, rfl, by decide, by decide⟩
    refine ⟨b, _, _, _, rfl, rfl, SqL.of (else_at e1 (b := b) upd_same np), hx, ?_⟩
    have E1 : Else p H H1 := (Else.of (same_new hb)).trans e1
    -- the word
    refine ⟨⟨_, rfl⟩, _, rfl, n, rfl, by omega, by omega, fun D hD => ?_⟩
    obtain ⟨hDp, hDq⟩ := hA1.np hD
    have hD0 : H D = none := E1.none hD hDp
    have sl := sizeLine_eq
    refine lc_range (lo := 0) (n := n) (fun i H' => ∃ ys : List Str, ys.length = i ∧ (∀ y ∈ ys, Sign y) ∧ HandAt H' p q ∧ Else p H H' ∧ H' D = some (.lst (ys.map V.str))) ⟨[], rfl, (fun y h => by cases h), hA1.upd hDp hDq, E1.new hD, upd_same⟩ ?_ ?_
    · rintro i H2 hi ⟨ys, hy, sg, hA2, E2, h2⟩
      refine ⟨rfl, _, rfl, _, rfl, p, q, 26, rfl, hA2, by decide, by decide, fun r H3 r0 r1 hA3 e3 => ?_⟩
      have hj : ∃ c, atI abc.cps.toList r = some c ∧ c ∈ abc.cps.toList := by
        obtain ⟨j, rfl⟩ := Int.eq_ofNat_of_zero_le r0
        have l26 : abc.cps.toList.length = 26 := by decide +kernel
        have hj : j < abc.cps.toList.length := by omega
        exact ⟨abc.cps.toList[j], atI_nat (List.getElem?_eq_getElem hj), List.getElem_mem hj⟩
      obtain ⟨c, hc, hcm⟩ := hj
      refine ⟨abc, r, c, rfl, rfl, (by show abc.length ≤ sizeLine; rw [sl]; decide +kernel), hc, _, else_at e3 h2 hDp, ?_, ys ++ [⟨#[c]⟩], ?_, ?_, ?_, ?_, ?_⟩
      · rw [List.length_map]
        omega
      · rw [List.length_append, hy]
        rfl
      · intro y hy'
        rcases List.mem_append.mp hy' with z | z
        · exact sg y z
        · rw [List.mem_singleton.mp z]
          exact ⟨c, rfl, hcm⟩
      · exact hA3.upd hDp hDq
      · exact else_put (E2.trans e3) hD0
      · rw [upd_same, List.map_append]
        rfl
    · rintro H2 ⟨ys, hy, sg, hA2, E2, h2⟩
      obtain ⟨jl, jt⟩ := joined sg
      rw [hy] at jl
      have sm : ∀ zs : List Str, (∀ y ∈ zs, Sign y) → (zs.map (·.length)).sum = zs.length := by
        intro zs
        induction zs with
        | nil => intro _; rfl
        | cons z zs ih =>
          intro hz
          obtain ⟨c, rfl, _⟩ := hz z List.mem_cons_self
          rw [List.map_cons, List.sum_cons, ih fun y hy => hz y (List.mem_cons_of_mem _ hy), List.length_cons]
          show 1 + zs.length = zs.length + 1
          omega
      refine ⟨"", D, ys, rfl, rfl, .inl (SqL.of h2), ?_, ?_⟩
      · rw [sm ys sg, hy]
        show n + n * 0 ≤ 16777216
        omega
      · -- barred
        have t2 := E2 t _ ht tp
        refine ⟨_, rfl, (by show 8 ≤ sizeLine; decide), fun g hg => ?_⟩
        refine ⟨t, g, [], wordL, rfl, rfl, same_new hg _ _ t2, upd_same, (by show 8 ≤ sizeLine; decide), fun g2 hg2 => ?_⟩
        have s3 : Same H2 (upd (upd H2 g (.lst wordL)) g2 (.lst ([] ++ wordL))) := (same_new hg).trans (same_new hg2)
        refine ⟨_, rfl, _, rfl, g2, wordL, rfl, .inl (SqL.of upd_same), rfl, (by decide +kernel), _, rfl, ?_⟩
        have A3 := hA2.same s3
        have E3 := E2.trans (Else.of (p := p) s3)
        have g2s : (upd (upd H2 g (.lst wordL)) g2 (.lst ([] ++ wordL))) g2 = some (.lst wordL) := upd_same
        refine ite2 (fun hw => ?_) (fun hw => ?_)
        · -- a spare one
          refine ⟨(by show 6 ≤ sizeLine; decide), fun t2 ht2 => ⟨t2, rfl, ⟨spareL, SqL.of upd_same⟩, fun D2 hD2 => ?_⟩⟩
          have n2 : t2 ≠ p := (A3.np ht2).1
          have A4 := A3.same (same_new (o := .lst spareL) ht2)
          refine lc_list (K := K) (a := t2) (xs := spareL) (fun i H' => Same (upd (upd (upd H2 g (.lst wordL)) g2 (.lst ([] ++ wordL))) t2 (.lst spareL)) H' ∧ H' D2 = some (.lst (spareL.take i))) ⟨same_new hD2, upd_same⟩ (fun i H' _ h => SqL.of (h.1 _ _ upd_same)) ?_ ?_
          · rintro i x H' hx ⟨s4, h4⟩
            obtain ⟨f1, f2⟩ := spare_ok x (List.mem_of_getElem? hx)
            refine ⟨rfl, _, rfl, _, rfl, g2, wordL, rfl, .inl (SqL.of (s4 _ _ (same_new ht2 _ _ g2s))), f1, (by decide +kernel), _, rfl, ?_⟩
            have g : (if true = true then !inV x wordL else inV x wordL) = true := by
              rw [if_pos rfl, f2]
              rfl
            rw [g]
            refine iteT ⟨_, rfl, _, h4, ?_, same_put s4 hD2, ?_⟩
            · rw [List.length_take]
              have : spareL.length = 6 := rfl
              omega
            · rw [upd_same, List.take_add_one, hx]
              rfl
          · rintro H' ⟨s4, h4⟩
            refine ⟨_, rfl, D2, _, _, _, rfl, rfl, SqL.of h4, at_of (j := 0) rfl rfl, ?_⟩
            refine k "ka" H' (by decide +kernel) (A4.same s4) (E3.trans ((Else.of (same_new ht2)).trans (Else.of s4)))
        · refine ⟨_, rfl, ?_⟩
          refine k _ _ ?_ A3 E3
          have hw' : inV (.str (Txt.join "" ys)) wordL = false := by
            have c : ¬ inV (.str (Txt.join "" ys)) wordL = true := hw
            simpa using c
          unfold okS
          rw [hw', jt, jl]
          simp
          omega
end
end L01
namespace L01
open PySem PySem.Spec PyProof.Rows L2 Lw Xv Lh Ow
abbrev sItems : Stmt := Lw.top 22
abbrev sDue : Stmt := Lw.top 23
def dueV (xs : List V) : V := match due xs with
  | none => .non
  | some i => .int i
def spDue : Sp := fun vs H Q _ => ∃ l xs ta la, vs = [.ref l] ∧ H l = some (.lst xs) ∧ xs.length ≤ 5 ∧ Fx H ta la ∧ (∀ x ∈ xs, It1 ta la x) ∧ ∀ H', Same H H' → Q (dueV xs) H'
def spItems : Sp := fun vs H Q _ => ∃ p q, vs = [.ref p] ∧ HandAt H p q ∧ ∀ l xs ta la H', H l = none → HandAt H' p q → Else p H H' → H' l = some (.lst xs) → l ≠ p → xs.length ≤ 5 → Fx H' ta la → ta ≠ p → la ≠ p → (∀ x ∈ xs, It1 ta la x) → Q (.ref l) H'
section
variable {P : Program} {w : World} {K : PySem.W.Frag} {mg : Str → Option Value} {base : Heap}
theorem scGood : FnScope ["_law_item", "_law_letter"] ["_law_item"] (defScope sGood) := ⟨rfl, rfl, rfl, by decide +kernel, rfl, by decide +kernel, by decide +kernel⟩
theorem okGood {f : Addr} {fd : FuncData} (F : Fun K "_law_good" "_law_good" sGood f fd) (B : Bt mg) : FnOk P w K mg base CX0 1 f fd ["_law_item"] (spIsName K) := by
  refine F.ok scGood (fun vs H Q E h => ?_) (fun cdv A outer s H vs Q E hr h => ?_)
  · obtain ⟨x, rfl, _⟩ := h
    rfl
  · obtain ⟨x, rfl, hx, k⟩ := h
    refine ⟨_, pss_cons (ps_if (pw_or (pt_not (pt_val (pe_callB call_isi (by rfl) B.isi (by decide +kernel) (pa_cons (pv 0) (pa_cons (pe_bltn (v := .ty "str") (by rfl) B.str (by decide +kernel) rfl) pa_nil)))))
          (pw_or (pt_cmpR op_lt (pe_callB call_len_str (by rfl) B.len PySem.boot_len (pa_cons (pv 0) pa_nil)) pe_int (nomark _))
          (pw_or1 (pt_cmpR op_gt (pe_callB call_len_str (by rfl) B.len PySem.boot_len (pa_cons (pv 0) pa_nil)) pe_int (nomark _))))).pt (pss_one (ps_ret pe_bl)) pss_nil)
        (pss_cons (ps_for PassesOwn.never rfl (pi_str (pv 0)) (pg_name (i := 1) scGood.nd rfl (Or.inl rfl))
          (pss_one (ps_if (pt_cmpR op_notIn_sign (pv 1) pe_str (by rfl)) (pss_one (ps_ret pe_bl)) pss_nil)))
        (pss_one (ps_ret (pe_cmpR op_notIn_seq (pv 0) (pe_lst (pa_cons pe_str (pa_cons pe_str (pa_cons pe_str (pa_cons pe_str (pa_cons pe_str (pa_cons pe_str (pa_cons pe_str (pa_cons pe_str pa_nil))))))))) (by rfl))))), ?_⟩
    rcases hx with ⟨z, rfl, hz⟩ | ⟨T, hf, hT, ty⟩
    · refine ⟨_, rfl, _, _, _, _, true, rfl, .ty _, .base (.str z), kit_ty (by decide +kernel), true, rfl, iteF ?_⟩
      have sl := sizeLine_eq
      have ev : okV (.str z) = (!inV (.str z) wordL && (decide (1 ≤ z.length) && decide (z.length ≤ 8) && lets z)) := rfl
      refine ⟨_, rfl, z, rfl, by omega, _, _, rfl, rfl, _, rfl, ?_⟩
      have i1 : (decide ((z.length : Int) < (1 : Int))) = !decide (1 ≤ z.length) := by
        by_cases c : 1 ≤ z.length
        · rw [decide_eq_true c, decide_eq_false (by omega)]
          rfl
        · rw [decide_eq_false c, decide_eq_true (by omega)]
          rfl
      have i2 : (decide ((8 : Int) < (z.length : Int))) = !decide (z.length ≤ 8) := by
        by_cases c : z.length ≤ 8
        · rw [decide_eq_true c, decide_eq_false (by omega)]
          rfl
        · rw [decide_eq_false c, decide_eq_true (by omega)]
          rfl
      rw [i1]
      by_cases c1 : 1 ≤ z.length
      · rw [decide_eq_true c1] at ev ⊢
        refine iteF ⟨_, rfl, z, rfl, by omega, _, _, rfl, rfl, _, rfl, ?_⟩
        show if (decide ((8 : Int) < (z.length : Int))) = true then _ else _
        rw [i2]
        by_cases c2 : z.length ≤ 8
        · rw [decide_eq_true c2] at ev ⊢
          rw [Bool.true_and, Bool.true_and] at ev
          refine iteF ⟨_, rfl, z, rfl, for_it walk_str (fun i σ H' => (∃ v, σ = [some (.str z), v]) ∧ H' = H ∧ (z.cps.toList.take i).all (fun c => decide (c ∈ abc.cps.toList)) = true) ⟨⟨_, rfl⟩, rfl, rfl⟩ (fun _ _ _ _ _ => trivial) ?_ ?_⟩
          · rintro i x σ H1 H2 hi ⟨⟨v, rfl⟩, rfl, ha⟩ ⟨rfl, c, hc, rfl⟩
            refine ⟨_, rfl, c, abc, rfl, rfl, _, rfl, ?_⟩
            have e1 : z.cps.toList[i]? = some c := by simpa using hc
            by_cases hm : c ∈ abc.cps.toList
            · rw [decide_eq_true hm]
              refine iteF ⟨⟨_, rfl⟩, rfl, ?_⟩
              rw [List.take_add_one, e1, List.all_append, ha]
              show (true && (decide (c ∈ abc.cps.toList) && true)) = true
              rw [decide_eq_true hm]
              rfl
            · rw [decide_eq_false hm]
              refine iteT ?_
              have nl : lets z = false := by
                cases q : lets z with
                | false => rfl
                | true =>
                  unfold lets at q
                  rw [List.all_eq_true] at q
                  exact absurd (of_decide_eq_true (q c (List.mem_of_getElem? e1))) hm
              rw [nl, Bool.and_false] at ev
              have z2 := k _ (Same.refl _)
              rw [ev] at z2
              exact z2
          · rintro σ H1 ⟨⟨v, rfl⟩, rfl, ha⟩
            have hl : lets z = true := by
              rw [List.take_of_length_le (by simp)] at ha
              exact ha
            rw [hl, Bool.and_true] at ev
            refine ⟨_, rfl, (by show 8 ≤ sizeLine; decide), fun t ht => ⟨t, wordL, rfl, .inl (SqL.of upd_same), rfl, (by decide +kernel), ?_⟩⟩
            have z2 := k _ (same_new (o := .lst wordL) ht)
            rw [ev] at z2
            exact z2
        · rw [decide_eq_false c2] at ev ⊢
          rw [Bool.and_false, Bool.false_and, Bool.and_false] at ev
          have z2 := k H (Same.refl H)
          rw [ev] at z2
          exact iteT z2
      · rw [decide_eq_false c1] at ev ⊢
        rw [Bool.false_and, Bool.false_and, Bool.and_false] at ev
        have z2 := k H (Same.refl H)
        rw [ev] at z2
        exact iteT z2
    · refine ⟨_, rfl, _, _, _, _, false, rfl, .ty _, ty, kit_ty hT, false, rfl, iteT ?_⟩
      have z2 := k H (Same.refl H)
      rw [hf] at z2
      exact z2
theorem scDue : FnScope ["_law_items_here", "_law_k"] ["_law_items_here"] (defScope sDue) := ⟨rfl, rfl, rfl, by decide +kernel, rfl, by decide +kernel, by decide +kernel⟩
theorem okDue {f fG : Addr} {fd fdG : FuncData} (F : Fun K "_law_due" "_law_due" sDue f fd) (B : Bt mg) (FG : Fun K "_law_good" "_law_good" sGood fG fdG) (bG : Binds K fdG ["_law_item"] []) (mG : mg "_law_good" = some (.ref fG)) :
    FnOk P w K mg base CX0 2 f fd ["_law_items_here"] spDue := by
  have GG : FnOk P w K mg base CX0 1 fG fdG ["_law_item"] (spIsName K) := okGood FG B
  refine F.ok scDue (fun vs H Q E h => ?_) (fun cdv A outer s H vs Q E hr h => ?_)
  · obtain ⟨l, xs, ta, la, rfl, _⟩ := h
    rfl
  · obtain ⟨l, xs, ta, la, rfl, hl, hz, fx, hit, k⟩ := h
    refine ⟨_, pss_cons (ps_if (pw_or (pt_cmpR op_eq (pe_callB call_len_seq (by rfl) B.len PySem.boot_len (pa_cons (pv 0) pa_nil)) pe_int (nomark _)) (pw_or1 (pt_cmpR op_gt (pe_callB call_len_seq (by rfl) B.len PySem.boot_len (pa_cons (pv 0) pa_nil)) pe_int (nomark _)))).pt
        (pss_one (ps_ret (pe_un un_neg pe_int))) pss_nil)
      (pss_cons (ps_for PassesOwn.never rfl (pi_range1 rfl B.range (pa_cons (pe_callB call_len_seq (by rfl) B.len PySem.boot_len (pa_cons (pv 0) pa_nil)) pa_nil)) (pg_name (i := 1) scDue.nd rfl (Or.inl rfl))
        (pss_one (ps_if (pw_or (pt_not (pt_val (pe_call GG hr (by rfl) mG FG.kp bG .nil pass0 (pa_cons (pe_ix ix_list (pv 0) (pv 1) (fun _ _ => rfl)) pa_nil))))
            (pw_or1 (pt_cmpR op_in_seq (pe_ix ix_list (pv 0) (pv 1) (fun _ _ => rfl)) (pe_slice sl_list (pv 0) po_none (po_some (pv 1))) (by rfl)))).pt
          (pss_one (ps_ret (pv 1))) pss_nil)))
      (pss_one (ps_ret pe_non))), ?_⟩
    have sl := SqL.of (K := K) hl
    refine ⟨_, rfl, l, xs, rfl, .inl sl, rfl, _, rfl, ?_⟩
    have dm : (xs.length = 0 ∨ 4 < xs.length) → Q (.int (-1)) H := fun c => by
      have z := k H (Same.refl H)
      unfold dueV at z
      rw [due_m c] at z
      exact z
    refine ite2 (fun c => iteT ⟨_, rfl, dm (.inl ?_)⟩) (fun c0 => ?_)
    · have c' := of_decide_eq_true c
      have c2 := V.int.inj c'
      omega
    · refine ⟨_, rfl, l, xs, rfl, .inl sl, _, _, rfl, rfl, _, rfl, ?_⟩
      refine ite2 (fun c => ⟨_, rfl, dm (.inr ?_)⟩) (fun c4 => ?_)
      · have c' := of_decide_eq_true c
        omega
      · have n4 : ¬ (xs.length = 0 ∨ 4 < xs.length) := by
          rintro (z | z)
          · exact c0 (decide_eq_true (by rw [z]; rfl))
          · exact c4 (decide_eq_true (by omega))
        refine ⟨_, rfl, l, xs, rfl, .inl sl, xs.length, rfl, by omega, by omega, for_range (lo := 0) (n := xs.length) (fun i σ H' => (∃ v, σ = [some (.ref l), v]) ∧ Same H H' ∧ ∀ j, j < i → badK xs j = false) ⟨⟨_, rfl⟩, Same.refl H, fun j hj => by omega⟩ ?_ ?_⟩
        · rintro i σ H' hi ⟨⟨v, rfl⟩, s1, hb⟩
          obtain ⟨x, hx⟩ : ∃ x, xs[i]? = some x := ⟨_, List.getElem?_eq_getElem hi⟩
          have hxm : It1 ta la x := hit x (List.mem_of_getElem? hx)
          have bk : badK xs i = badV xs i x := badK_at hx
          unfold badV at bk
          have fin : badK xs i = true → ∀ H2, Same H H2 → Q (.int (0 + (i : Int))) H2 := fun b H2 s2 => by
            have z := k H2 s2
            unfold dueV at z
            rw [due_k n4 hi b hb] at z
            rw [Int.zero_add]
            exact z
          refine ⟨_, rfl, _, rfl, l, xs, _, x, rfl, rfl, SqL.of (s1 _ _ hl), at_of (Int.zero_add _) hx, x, rfl, ?_, fun H3 s3 => ⟨_, rfl, ?_⟩⟩
          · rcases it_cases (K := K) fx hxm with z | ⟨T', z1, z2, z3⟩
            · exact .inl z
            · exact .inr ⟨T', z1, z2, z3 _ s1⟩
          · have s4 := s1.trans s3
            cases ok : okV x with
            | false =>
              rw [ok] at bk
              exact iteT ⟨_, rfl, fin bk _ s4⟩
            | true =>
              rw [ok] at bk
              obtain ⟨z, rfl, _⟩ := okV_str ok
              refine iteF ⟨_, rfl, _, rfl, l, xs, _, _, rfl, rfl, SqL.of (s4 _ _ hl), at_of (Int.zero_add _) hx, _, rfl, _, rfl, _, rfl, l, xs, rfl, SqL.of (s4 _ _ hl), fun q hq => ?_⟩
              rw [Int.zero_add, cut_take (by omega)]
              refine ⟨q, xs.take i, rfl, .inl (SqL.of upd_same), rfl, flat_take hb, _, rfl, ?_⟩
              have s5 := same_put (o := .lst (xs.take i)) s4 (s4.free hq)
              refine ite2 (fun c => ?_) (fun c => ?_)
              · have c' : inV (.str z) (xs.take i) = true := c
                rw [c'] at bk
                have f := fin bk _ s5
                rw [Int.zero_add] at f
                exact ⟨_, rfl, f⟩
              · have c2 : inV (.str z) (xs.take i) = false := by
                  have c' : ¬ inV (.str z) (xs.take i) = true := c
                  simpa using c'
                refine ⟨⟨_, rfl⟩, s5, fun j hj => ?_⟩
                by_cases e : j = i
                · subst e
                  rw [bk, c2]
                  rfl
                · exact hb j (by omega)
        · rintro σ H' ⟨⟨v, rfl⟩, s1, hb⟩
          have z := k H' s1
          unfold dueV at z
          rw [due_0 n4 hb] at z
          exact z
end
end L01
namespace L01
open PySem PySem.Spec PyProof.Rows L2 Lw Xv Lh Ow
section
variable {P : Program} {w : World} {K : PySem.W.Frag} {mg : Str → Option Value} {base : Heap}
/-- the objects that are no names -/
def wrongL (z : Str) (ta la : Addr) : List V := [.str "", .str "A", .str "abcdefghi", .str z, .str "missing", .int 5, .non, .bl true, .ref ta, .str "a b", .ref la, .str "x1", .str "a\n", .str "\na"]
theorem wrong_it {z : Str} {ta la : Addr} (hz : z.length ≤ 9) : ∀ x ∈ wrongL z ta la, It1 ta la x := by
  intro x hx
  unfold wrongL at hx
  simp only [List.mem_cons, List.not_mem_nil, or_false] at hx
  rcases hx with rfl | rfl | rfl | rfl | rfl | rfl | rfl | rfl | rfl | rfl | rfl | rfl | rfl | rfl
  · exact .inl ⟨_, rfl, by decide⟩
  · exact .inl ⟨_, rfl, by decide⟩
  · exact .inl ⟨_, rfl, by decide⟩
  · exact .inl ⟨_, rfl, hz⟩
  · exact .inl ⟨_, rfl, by decide⟩
  · exact .inr (.inr (.inr (.inl rfl)))
  · exact .inr (.inl rfl)
  · exact .inr (.inr (.inl rfl))
  · exact .inr (.inr (.inr (.inr (.inl rfl))))
  · exact .inl ⟨_, rfl, by decide⟩
  · exact .inr (.inr (.inr (.inr (.inr rfl))))
  · exact .inl ⟨_, rfl, by decide⟩
  · exact .inl ⟨_, rfl, by decide⟩
  · exact .inl ⟨_, rfl, by decide⟩
/-- where the parts stand -/
structure Ne1 (H : Hp) (p q wl l ta la : Addr) : Prop where
  tp : ta ≠ p
  lp : la ≠ p
  wp : wl ≠ p
  ip : l ≠ p
  iq : l ≠ q
  it : l ≠ ta
  il : l ≠ la
  iw : l ≠ wl
  new : H l = none
/-- the state of _law_items at H' -/
structure St1 (H : Hp) (p q wl l ta la : Addr) (wv : List V) (H' : Hp) (xs : List V) : Prop where
  hand : HandAt H' p q
  el : Else p H H'
  fx : Fx H' ta la
  w : H' wl = some (.lst wv)
  li : H' l = some (.lst xs)
  ok : ∀ x ∈ xs, It1 ta la x
theorem St1.step {H : Hp} {p q wl l ta la : Addr} {wv : List V} {H' H2 : Hp} {xs : List V} (n : Ne1 H p q wl l ta la) (s : St1 H p q wl l ta la wv H' xs) (h : HandAt H2 p q) (e : Else p H' H2) : St1 H p q wl l ta la wv H2 xs :=
  ⟨h, s.el.trans e, ⟨e _ _ s.fx.1 n.tp, e _ _ s.fx.2 n.lp⟩, e _ _ s.w n.wp, e _ _ s.li n.ip, s.ok⟩
theorem St1.app {H : Hp} {p q wl l ta la : Addr} {wv : List V} {H' : Hp} {xs : List V} {x : V} (n : Ne1 H p q wl l ta la) (s : St1 H p q wl l ta la wv H' xs) (i : It1 ta la x) : St1 H p q wl l ta la wv (L2.upd H' l (.lst (xs ++ [x]))) (xs ++ [x]) :=
  ⟨s.hand.upd n.ip n.iq, else_put s.el n.new, ⟨by rw [upd_ne n.it.symm]; exact s.fx.1, by rw [upd_ne n.il.symm]; exact s.fx.2⟩, by rw [upd_ne n.iw.symm]; exact s.w, upd_same, fun y hy => by
    rcases List.mem_append.mp hy with z | z
    · exact s.ok y z
    · rw [List.mem_singleton.mp z]
      exact i⟩
abbrev nItems : List Str := ["_law_hand_here", "_law_wrong", "_law_items_here", "_law_k", "_law_kind"]
theorem scItems : FnScope nItems ["_law_hand_here"] (defScope sItems) := ⟨rfl, rfl, rfl, by decide +kernel, rfl, by decide +kernel, by decide +kernel⟩
theorem okItems {f fD fR fN : Addr} {fd fdD fdR fdN : FuncData} (F : Fun K "_law_items" "_law_items" sItems f fd) (B : Bt mg)
    (GD : FnOk P w K mg base CX0 2 fD fdD ["_law_hand_here", "_law_many"] spDraw) (kD : PySem.W.keepIn K (.ref fD) = true) (bD : Binds K fdD ["_law_hand_here", "_law_many"] []) (mD : mg "_law_draw" = some (.ref fD))
    (GR : FnOk P w K mg base CX0 3 fR fdR ["_law_hand_here"] spRes) (kR : PySem.W.keepIn K (.ref fR) = true) (bR : Binds K fdR ["_law_hand_here"] []) (mR : mg "_law_reserved" = some (.ref fR))
    (GN : FnOk P w K mg base CX0 3 fN fdN ["_law_hand_here", "_law_taken"] spName) (kN : PySem.W.keepIn K (.ref fN) = true) (bN : Binds K fdN ["_law_hand_here", "_law_taken"] []) (mN : mg "_law_name" = some (.ref fN)) :
    FnOk P w K mg base CX0 4 f fd ["_law_hand_here"] spItems := by
  refine F.ok scItems (fun vs H Q E h => ?_) (fun cdv A outer s H vs Q E hr h => ?_)
  · obtain ⟨p, q, rfl, _⟩ := h
    rfl
  · obtain ⟨p, q, rfl, hA, k⟩ := h
    have hr2 := hr.mono (j := 2) (by decide)
    refine ⟨_, (pss_cons (ps_set (i := 1) scItems.nd rfl (Or.inl rfl) (pe_lst (pa_cons pe_str (pa_cons pe_str (pa_cons pe_str (pa_cons (pe_call GR hr (by rfl) mR kR bR .nil pass0 (pa_cons (pv 0) pa_nil)) (pa_cons pe_str (pa_cons pe_int (pa_cons pe_non (pa_cons pe_bl (pa_cons (pe_tup (pa_cons pe_str pa_nil)) (pa_cons pe_str (pa_cons (pe_lst (pa_cons pe_str pa_nil)) (pa_cons pe_str (pa_cons pe_str (pa_cons pe_str pa_nil))))))))))))))))
      (pss_cons (ps_set (i := 2) scItems.nd rfl (Or.inl rfl) (pe_lst pa_nil))
      (pss_cons (ps_for PassesOwn.never rfl (pi_range1 (by rfl) B.range (pa_cons (pe_call GD hr2 (by rfl) mD kD bD .nil pass0 (pa_cons (pv 0) (pa_cons pe_int pa_nil))) pa_nil)) (pg_name (i := 3) scItems.nd rfl (Or.inl rfl)) (pss_cons (ps_set (i := 4) scItems.nd rfl (Or.inl rfl) (pe_call GD hr2 (by rfl) mD kD bD .nil pass0 (pa_cons (pv 0) (pa_cons pe_int pa_nil))))
      (pss_one (ps_if (pw_and (pt_cmpR op_eq (pv 4) pe_int (nomark _)) (pw_and1 (pt_cmpR op_gt (pv 3) pe_int (nomark _)))).pt (pss_one (ps_expr (pe_bm PySem.F.plainAttrs_list PySem.F.slot_list_append PySem.F.type_list_append mt_append (pv 2) (pa_cons (pe_ix ix_list (pv 2) (pe_call GD hr2 (by rfl) mD kD bD .nil pass0 (pa_cons (pv 0) (pa_cons (pv 3) pa_nil))) (fun _ _ => rfl)) pa_nil)))) (pss_one (ps_if (pt_cmpR op_eq (pv 4) pe_int (nomark _)) (pss_one (ps_expr (pe_bm PySem.F.plainAttrs_list PySem.F.slot_list_append PySem.F.type_list_append mt_append (pv 2) (pa_cons (pe_ix ix_list (pv 1) (pe_call GD hr2 (by rfl) mD kD bD .nil pass0 (pa_cons (pv 0) (pa_cons pe_int pa_nil))) (fun _ _ => rfl)) pa_nil)))) (pss_one (ps_expr (pe_bm PySem.F.plainAttrs_list PySem.F.slot_list_append PySem.F.type_list_append mt_append (pv 2) (pa_cons (pe_call GN hr (by rfl) mN kN bN .nil pass0 (pa_cons (pv 0) (pa_cons (pe_lst pa_nil) pa_nil))) pa_nil))))))))))
      (pss_one (ps_ret (pv 2)))))), ?_⟩
    refine ⟨_, rfl, p, q, rfl, hA, fun z0 H1 hz0 hA1 e1 => ⟨(by show 1 ≤ sizeLine; decide), fun ta hta => ⟨(by show 1 ≤ sizeLine; decide), fun la hla => ⟨(by show 14 ≤ sizeLine; decide), fun wl hwl => ⟨Nat.zero_le _, fun l hl => ?_⟩⟩⟩⟩⟩
    have Sa := same_new (o := .tup [V.str "a"]) hta
    have Sb := same_new (o := .lst [V.str "a"]) hla
    have Sc := same_new (o := .lst (wrongL z0 ta la)) hwl
    have Sd := same_new (o := .lst []) hl
    have fa := upd_same (H := H1) (a := ta) (o := .tup [V.str "a"])
    have fb := upd_same (H := upd H1 ta (.tup [V.str "a"])) (a := la) (o := .lst [V.str "a"])
    have fc := upd_same (H := upd (upd H1 ta (.tup [V.str "a"])) la (.lst [V.str "a"])) (a := wl) (o := .lst (wrongL z0 ta la))
    have la1 : H1 la = none := Sa.free hla
    have wl1 : H1 wl = none := (Sa.trans Sb).free hwl
    have l1 : H1 l = none := ((Sa.trans Sb).trans Sc).free hl
    have S0 := ((Sa.trans Sb).trans Sc).trans Sd
    have ne : Ne1 H p q wl l ta la := ⟨(hA1.np hta).1, (hA1.np la1).1, (hA1.np wl1).1, (hA1.np l1).1, (hA1.np l1).2, fun e => (ne_of_none (Sc _ _ (Sb _ _ fa)) hl) e.symm, fun e => (ne_of_none (Sc _ _ fb) hl) e.symm, fun e => (ne_of_none fc hl) e.symm, e1.none l1 (hA1.np l1).1⟩
    have s0 : St1 H p q wl l ta la (wrongL z0 ta la) (upd (upd (upd (upd H1 ta (.tup [V.str "a"])) la (.lst [V.str "a"])) wl (.lst (wrongL z0 ta la))) l (.lst [])) [] :=
      ⟨hA1.same S0, e1.trans (Else.of S0), ⟨Sd _ _ (Sc _ _ (Sb _ _ fa)), Sd _ _ (Sc _ _ fb)⟩, Sd _ _ fc, upd_same, fun x hx => by cases hx⟩
    refine ⟨_, rfl, p, q, 6, rfl, s0.hand, by decide, by decide, fun n0 H2 h0 h1 hA2 e2 => ?_⟩
    obtain ⟨n, rfl⟩ := Int.eq_ofNat_of_zero_le h0
    refine ⟨n, rfl, by omega, by omega, for_range (lo := 0) (n := n) (fun i σ H' => (∃ v3 v4, σ = [some (.ref p), some (.ref wl), some (.ref l), v3, v4]) ∧ ∃ xs, xs.length = i ∧ St1 H p q wl l ta la (wrongL z0 ta la) H' xs) ⟨⟨_, _, rfl⟩, [], rfl, s0.step ne hA2 e2⟩ ?_ ?_⟩
    · rintro i σ H3 hi ⟨⟨v3, v4, rfl⟩, xs, hx, s3⟩
      have sl := sizeLine_eq
      have few : xs.length < sizeLine := by omega
      have put : ∀ (H4 : Hp) (x : V) (v4 : Option V), St1 H p q wl l ta la (wrongL z0 ta la) H4 xs → It1 ta la x → (∃ v3 v4', [some (V.ref p), some (.ref wl), some (.ref l), some (.int (0 + (i : Int))), v4] = [some (.ref p), some (.ref wl), some (.ref l), v3, v4']) ∧ ∃ ys, ys.length = i + 1 ∧ St1 H p q wl l ta la (wrongL z0 ta la) (upd H4 l (.lst (xs ++ [x]))) ys := fun H4 x v4 s4 hx4 =>
        ⟨⟨_, _, rfl⟩, xs ++ [x], by rw [List.length_append, hx]; rfl, s4.app ne hx4⟩
      refine ⟨_, rfl, p, q, 8, rfl, s3.hand, by decide, by decide, fun kd H4 k0 k1 hA4 e4 => ?_⟩
      have s4 := s3.step ne hA4 e4
      refine ⟨_, rfl, rfl, _, rfl, ite2 (fun c0 => ⟨_, rfl, _, _, rfl, rfl, _, rfl, ite2 (fun c2 => ?_) (fun c2 => ?_)⟩) (fun c0 => iteF ?_)⟩
      · have c3 := of_decide_eq_true c2
        refine ⟨_, rfl, .inl ⟨rfl, _, SqL.of s4.li⟩, _, rfl, _, rfl, _, rfl, p, q, _, rfl, s4.hand, c3, by omega, fun r H5 r0 r1 hA5 e5 => ?_⟩
        have s5 := s4.step ne hA5 e5
        obtain ⟨x, hx5, hm⟩ := pick (xs := xs) r0 (by omega)
        exact ⟨l, _, _, x, rfl, rfl, SqL.of s5.li, hx5, l, xs, _, rfl, rfl, s5.li, few, put H5 x _ s5 (s5.ok x hm)⟩
      · refine ⟨_, rfl, rfl, _, rfl, ite2 (fun c => ?_) (fun c => ?_)⟩
        · refine ⟨_, rfl, .inl ⟨rfl, _, SqL.of s4.li⟩, _, rfl, _, rfl, p, q, 14, rfl, s4.hand, by decide, by decide, fun r H5 r0 r1 hA5 e5 => ?_⟩
          have s5 := s4.step ne hA5 e5
          obtain ⟨x, hx5, hm⟩ := pick (xs := wrongL z0 ta la) r0 r1
          exact ⟨wl, _, _, x, rfl, rfl, SqL.of s5.w, hx5, l, xs, _, rfl, rfl, s5.li, few, put H5 x _ s5 (wrong_it hz0 x hm)⟩
        · refine ⟨_, rfl, .inl ⟨rfl, _, SqL.of s4.li⟩, _, rfl, Nat.zero_le _, fun t ht => ?_⟩
          refine ⟨p, q, t, rfl, s4.hand.same (same_new ht), upd_same, (s4.hand.np ht).1, fun z H5 ok hA5 e5 => ?_⟩
          have s5 := s4.step ne hA5 ((Else.of (same_new ht)).trans e5)
          exact ⟨l, xs, _, rfl, rfl, s5.li, few, put H5 _ _ s5 (.inl ⟨z, rfl, okS_len ok⟩)⟩
      · refine ⟨_, rfl, rfl, _, rfl, ite2 (fun c => ?_) (fun c => ?_)⟩
        · refine ⟨_, rfl, .inl ⟨rfl, _, SqL.of s4.li⟩, _, rfl, _, rfl, p, q, 14, rfl, s4.hand, by decide, by decide, fun r H5 r0 r1 hA5 e5 => ?_⟩
          have s5 := s4.step ne hA5 e5
          obtain ⟨x, hx5, hm⟩ := pick (xs := wrongL z0 ta la) r0 r1
          exact ⟨wl, _, _, x, rfl, rfl, SqL.of s5.w, hx5, l, xs, _, rfl, rfl, s5.li, few, put H5 x _ s5 (wrong_it hz0 x hm)⟩
        · refine ⟨_, rfl, .inl ⟨rfl, _, SqL.of s4.li⟩, _, rfl, Nat.zero_le _, fun t ht => ?_⟩
          refine ⟨p, q, t, rfl, s4.hand.same (same_new ht), upd_same, (s4.hand.np ht).1, fun z H5 ok hA5 e5 => ?_⟩
          have s5 := s4.step ne hA5 ((Else.of (same_new ht)).trans e5)
          exact ⟨l, xs, _, rfl, rfl, s5.li, few, put H5 _ _ s5 (.inl ⟨z, rfl, okS_len ok⟩)⟩
    · rintro σ H3 ⟨⟨v3, v4, rfl⟩, xs, hx, s3⟩
      exact ⟨_, rfl, k l xs ta la H3 ne.new s3.hand s3.el s3.li ne.ip (by omega) s3.fx ne.tp ne.lp s3.ok⟩
end
end L01
namespace L01
open PySem PySem.Spec PyProof.Rows L2 Lw Xv Lh Ow
/-- isinstance(e, c), e the exception that the suite holds, with its fields -/
def rIsF (K : PySem.W.Frag) (CB a : Addr) (cls : Value) (d : Option Addr) : List V → Hp → VK → Prop := fun xs H Q => ∃ (dd : Addr) (fs : List (Str × V)) (c : V) (cv : Value) (b : Bool), cls = .ref CB ∧ d = some dd ∧ H dd = some (.xd fs) ∧ xs = [.ref a, c] ∧ ClsV c cv ∧ PySem.W.kitOne K (.ref CB) cv = some b ∧ Q (.bl b) H
theorem call_isF {X : Cx} {a CB : Addr} {oe : Obj} {cls : Value} {d : Option Addr} {pn : List (Addr × Obj)} (T : ExcC X.K CB) (hz : Zc cls d oe) (hf : ∃ vs, oe.data = .fields vs) : CallR (X.suite a ((a, oe) :: pn)) (.builtin "isinstance") (rIsF X.K CB a cls d) := by
  intro pins s σ H xs us Q I r h
  obtain ⟨dd, fs, c, cv, b, e1, e2, hx, rfl, hc, ek, q⟩ := h
  subst e1 e2
  obtain ⟨u1, u2, rfl, r1, r2⟩ := vals2 r
  obtain rfl := hc.eq r2
  cases (show u1 = Value.ref a from r1)
  obtain ⟨ha, _⟩ := I.pin (a, oe) (List.mem_append_left _ List.mem_cons_self)
  obtain ⟨vs, hd⟩ := hf
  have ox : ObjOk X.prog X.w H s.heap dd (.xd fs) := I.hok dd _ hx
  obtain ⟨mA, hns, _⟩ := ox
  obtain ⟨od, ho, _⟩ := lookIn_ns hns
  have J : PySem.W.InstAt s.heap a oe CB (some od) := ⟨ha, hz.1, by unfold PySem.W.notCls; rw [hd] <;> rfl, by rw [hz.2]; exact ho⟩
  have hcl : (PySem.W.clsIn X.K CB).isSome = true := by
    obtain ⟨cd, e, _⟩ := PySem.W.any_some T.hd
    rw [e]
    rfl
  exact PySem.W.kia_one (PySem.W.kitx_exc hcl T.hg T.hk T.hs T.ha T.hn T.ht T.hm) I.kIn J ek (fun z => nomatch z) fun tk => ⟨.bl b, H, I.kept (t' := tk) fun _ _ z => z, rfl, q⟩
theorem map_inj : ∀ {zs ws : List Str}, zs.map V.str = ws.map V.str → zs = ws
  | [], [], _ => rfl
  | [], _ :: _, h => by cases h
  | _ :: _, [], h => by cases h
  | z :: zs, w :: ws, h => by
    rw [List.map_cons, List.map_cons] at h
    obtain ⟨h1, h2⟩ := List.cons.inj h
    rw [V.str.inj h1, map_inj h2]
theorem take_bad {zs : List Str} {j : Nat} {z : Str} (e : zs[j]? = some z) (ok : okS z = true) : badK (zs.map V.str) j = decide (z ∈ zs.take j) := by
  have e2 : (zs.map V.str)[j]? = some (.str z) := by rw [List.getElem?_map, e]; rfl
  rw [badK_at e2]
  unfold badV
  rw [show okV (.str z) = true from ok, ← List.map_take, inV_strs]
  rfl
/-- the names may stand together -/
def Fine (zs : List Str) : Prop := (∀ z ∈ zs, okS z = true) ∧ zs.Nodup ∧ ¬ (zs.length = 0 ∨ 4 < zs.length)
theorem nodup_take {zs : List Str} : zs.Nodup ↔ ∀ j z, zs[j]? = some z → z ∉ zs.take j := by
  constructor
  · intro n j z e m
    obtain ⟨i, hi, ei⟩ := List.getElem_of_mem m
    rw [List.length_take] at hi
    rw [List.getElem_take] at ei
    obtain ⟨hj, ej⟩ := List.getElem?_eq_some_iff.mp e
    have p := List.pairwise_iff_getElem.mp n i j (by omega) hj (by omega)
    exact p (ei.trans ej.symm)
  · intro h
    refine List.pairwise_iff_getElem.mpr fun i j hi hj hij e => ?_
    refine h j zs[j] (List.getElem?_eq_getElem hj) ?_
    rw [← e]
    refine List.mem_iff_getElem.mpr ⟨i, by rw [List.length_take]; omega, ?_⟩
    rw [List.getElem_take]
theorem fine_due {zs : List Str} (f : Fine zs) : due (zs.map V.str) = none := by
  obtain ⟨h1, h2, h3⟩ := f
  refine due_0 (by rw [List.length_map]; exact h3) fun j hj => ?_
  rw [List.length_map] at hj
  have e := List.getElem?_eq_getElem hj
  rw [take_bad e (h1 _ (List.getElem_mem hj))]
  exact decide_eq_false (nodup_take.mp h2 j _ e)
theorem due_fine {xs : List V} (h : due xs = none) : ∃ zs, xs = zs.map V.str ∧ Fine zs := by
  obtain ⟨h3, h4⟩ := due_no h
  obtain ⟨zs, rfl, ok⟩ := strs_of (xs := xs) fun x hx => by
    obtain ⟨j, hj, e⟩ := List.getElem_of_mem hx
    exact all_ok h4 (j := j) (by rw [← e]; exact List.getElem?_eq_getElem hj)
  refine ⟨zs, rfl, ok, nodup_take.mpr fun j z e => ?_, by rw [List.length_map] at h3; exact h3⟩
  have hj := (List.getElem?_eq_some_iff.mp e).1
  have b := h4 j (by rw [List.length_map]; exact hj)
  rw [take_bad e (ok z (List.mem_of_getElem? e))] at b
  exact of_decide_eq_false b
theorem Fine.rev {zs : List Str} (f : Fine zs) : Fine zs.reverse := ⟨fun z h => f.1 z (List.mem_reverse.mp h), List.pairwise_reverse.mpr (f.2.1.imp fun h e => h e.symm), by rw [List.length_reverse]; exact f.2.2⟩
theorem Fine.pal {zs : List Str} (f : Fine zs) : decide (zs = zs.reverse) = decide (zs.length = 1) := by
  obtain ⟨_, n, l⟩ := f
  by_cases h : zs.length = 1
  · obtain ⟨z, rfl⟩ := List.length_eq_one_iff.mp h
    simp
  · rw [decide_eq_false h]
    refine decide_eq_false fun e => ?_
    have h0 : 0 < zs.length := by omega
    have hr : 0 < zs.reverse.length := by rw [List.length_reverse]; exact h0
    have e1 : zs[0] = zs.reverse[0] := by
      have a : zs[0]? = zs.reverse[0]? := by rw [← e]
      rw [List.getElem?_eq_getElem h0, List.getElem?_eq_getElem hr] at a
      exact Option.some.inj a
    rw [List.getElem_reverse] at e1
    have p := List.pairwise_iff_getElem.mp n 0 (zs.length - 1 - 0) h0 (by omega) (by omega)
    exact p e1
theorem no_line (z : Str) : okS (z ++ "\n") = false := by
  have e : (z ++ "\n" : Str).cps.toList = z.cps.toList ++ [10] := TL.tl_append z "\n"
  unfold okS lets
  rw [e, List.all_append]
  have n : ([10].all fun c => decide (c ∈ abc.cps.toList)) = false := by decide +kernel
  rw [n, Bool.and_false, Bool.and_false, Bool.and_false]
end L01
set_option pp.maxSteps 400
set_option pp.deepTerms false
namespace L01
open PySem PySem.Spec PyProof.Rows L2 Lw Xv Lh Ow
abbrev sLaw : Stmt := Lw.top 24
abbrev nLaw : List Str := ["_law_script", "_law_hand_here", "_law_items_here", "_law_due_here", "_law_columns_here", "_law_raised", "e", "_law_item", "_law_other", "_law_backward"]
/-- what isinstance and the fields ask of BadColumns -/
structure Te (K : PySem.W.Frag) (CB BEa : Addr) : Prop where
  e : ExcC K CB
  f : XfC K CB
  x : PySem.W.exmOne K (.ref CB) (.ref CB) = some true
  b : PySem.W.kitOne K (.ref CB) (.ref BEa) = some true
  v : PySem.W.kitOne K (.ref CB) (.type "ValueError") = some true
/-- list(x) -/
abbrev rLo (K : PySem.W.Frag) : List V → Hp → VK → Prop := fun xs H Q => ∃ p ys, xs = [V.ref p] ∧ (SqL K H p ys ∨ SqT K H p ys) ∧ ∀ l, H l = none → Q (.ref l) (upd H l (.lst ys))
theorem eqv_l {H : Hp} {a b : Addr} {xs : List V} (at_ : ∀ x ∈ xs, Atom x) (h : (H a = some (.lst xs) ∧ H b = some (.lst xs)) ∨ (H a = some (.tup xs) ∧ H b = some (.tup xs))) (few : xs.length ≤ 1000) : Eqv H 1 (.ref a) (.ref b) :=
  .inr ⟨a, b, xs, xs, rfl, rfl, h, rfl, few, fun i u v p q => by
    have e : u = v := Option.some.inj (p.symm.trans q)
    subst e
    exact ⟨rfl, at_ u (List.mem_of_getElem? p)⟩⟩
/-- what stands once the columns are made -/
structure Sx (C p q l o pn ta la : Addr) (zs : List Str) (H : Hp) : Prop where
  f : Fx H ta la
  l : H l = some (.lst (zs.map V.str))
  a : HandAt H p q
  c : CoAt H C o pn zs
theorem Sx.same {C p q l o pn ta la : Addr} {zs : List Str} {H H' : Hp} (x : Sx C p q l o pn ta la zs H) (s : Same H H') : Sx C p q l o pn ta la zs H' := ⟨x.f.same s, s _ _ x.l, x.a.same s, x.c.same s⟩
theorem Sx.step {C p q l o pn ta la : Addr} {zs : List Str} {H H' : Hp} (x : Sx C p q l o pn ta la zs H) (n : l ≠ p) (n1 : ta ≠ p) (n2 : la ≠ p) (h : HandAt H' p q) (e : Else p H H') : Sx C p q l o pn ta la zs H' := by
  obtain ⟨⟨dx, c1⟩, c2⟩ := x.c
  obtain ⟨⟨i, b, c, z, hp⟩, _⟩ := x.a
  have no : o ≠ p := fun e => by
    rw [e, hp] at c1
    cases c1
  have np : pn ≠ p := fun e => by
    rw [e, hp] at c2
    cases c2
  exact ⟨⟨e _ _ x.f.1 n1, e _ _ x.f.2 n2⟩, e _ _ x.l n, h, ⟨dx, e _ _ c1 no⟩, e _ _ c2 np⟩
section
variable {P : Program} {w : World} {K : PySem.W.Frag} {mg : Str → Option Value} {base : Heap} {C CB BEa : Addr}
theorem scLaw : FnScope nLaw ["_law_script"] (defScope sLaw) := ⟨rfl, rfl, rfl, by decide +kernel, rfl, by decide +kernel, by decide +kernel⟩
theorem okLaw {f fH fI fDu fM fS fN fE fL fC fQ : Addr} {fd fdH fdI fdDu fdM fdS fdN fdL fdC fdQ : FuncData} (F : Fun K "law" "law" sLaw f fd) (B : Bt mg) (DC : Cf K mg C) (DE : Ef K mg CB fE) (TE : Te K CB BEa)
    (gB : mg "BatchError" = some (.ref BEa)) (gV : mg "ValueError" = none) (gR : mg "reversed" = none) (nf : PySem.W.notFirst K C (.type "tuple") = true)
    (GH : FnOk P w K mg base CX0 1 fH fdH ["_law_script"] (spHand K)) (kH : PySem.W.keepIn K (.ref fH) = true) (bH : Binds K fdH ["_law_script"] []) (mH : mg "_law_hand" = some (.ref fH))
    (GI : FnOk P w K mg base CX0 4 fI fdI ["_law_hand_here"] spItems) (kI : PySem.W.keepIn K (.ref fI) = true) (bI : Binds K fdI ["_law_hand_here"] []) (mI : mg "_law_items" = some (.ref fI))
    (GDu : FnOk P w K mg base CX0 2 fDu fdDu ["_law_items_here"] spDue) (kDu : PySem.W.keepIn K (.ref fDu) = true) (bDu : Binds K fdDu ["_law_items_here"] []) (mDu : mg "_law_due" = some (.ref fDu))
    (GM : FnOk P w K mg base (L2.CX P w) 6 fM fdM ["_law_items_here"] (spMade C CB fun _ => true)) (kM : PySem.W.keepIn K (.ref fM) = true) (bM : Binds K fdM ["_law_items_here"] []) (mM : mg "_law_made" = some (.ref fM))
    (GS0 : FnOk P w K mg base CX0 1 fS fdS ["_law_actual", "_law_expected"] (spSame 0)) (GS1 : FnOk P w K mg base CX0 2 fS fdS ["_law_actual", "_law_expected"] (spSame 1)) (kS : PySem.W.keepIn K (.ref fS) = true) (bS : Binds K fdS ["_law_actual", "_law_expected"] []) (mS : mg "_law_same" = some (.ref fS))
    (GN : FnOk P w K mg base CX0 3 fN fdN ["_law_hand_here", "_law_taken"] spName) (kN : PySem.W.keepIn K (.ref fN) = true) (bN : Binds K fdN ["_law_hand_here", "_law_taken"] []) (mN : mg "_law_name" = some (.ref fN))
    (atL : PySem.W.findIn K (.ref C) "__len__" = some (some (.ref fL))) (ifL : PySem.W.isFn K (.ref fL) = true) (GL : FnOk P w K mg base CX0 1 fL fdL ["self"] (spLen C)) (bL : Binds K fdL ["self"] [])
    (atC : PySem.W.findIn K (.ref C) "__contains__" = some (some (.ref fC))) (ifC : PySem.W.isFn K (.ref fC) = true) (GC : FnOk P w K mg base CX0 1 fC fdC ["self", "name"] (spCon K C)) (bC : Binds K fdC ["self", "name"] [])
    (atQ : PySem.W.findIn K (.ref C) "__eq__" = some (some (.ref fQ))) (ifQ : PySem.W.isFn K (.ref fQ) = true) (GQ : FnOk P w K mg base CX0 1 fQ fdQ ["self", "other"] (spEq C)) (bQ : Binds K fdQ ["self", "other"] []) :
    FnOk P w K mg base CX0 7 f fd ["_law_script"] (spLaw K) := by
  refine F.ok scLaw (fun vs H Q E h => ?_) (fun cdv A outer s H vs Q E hr h => ?_)
  · obtain ⟨a, ns, rfl, _⟩ := h
    rfl
  · obtain ⟨a0, ns, rfl, hS, hlen, k⟩ := h
    have OL : OM (cxOf CX0 P w K mg base nLaw "law" (defScope sLaw) f cdv A outer s H E).nox 1 C "__len__" fL fdL ["self"] (spLen C) := ⟨atL, ifL, GL, bL⟩
    have OC : OM (cxOf CX0 P w K mg base nLaw "law" (defScope sLaw) f cdv A outer s H E).nox 1 C "__contains__" fC fdC ["self", "name"] (spCon K C) := ⟨atC, ifC, GC, bC⟩
    have OE : OM (cxOf CX0 P w K mg base nLaw "law" (defScope sLaw) f cdv A outer s H E).nox 1 C "__eq__" fQ fdQ ["self", "other"] (spEq C) := ⟨atQ, ifQ, GQ, bQ⟩
    refine ⟨_, (pss_cons (ps_set (i := 1) scLaw.nd rfl (Or.inl rfl) (pe_call GH (hr.mono (by decide)) (by rfl) mH kH bH .nil pass0 (pa_cons (pv 0) pa_nil)))
      (pss_cons (ps_set (i := 2) scLaw.nd rfl (Or.inl rfl) (pe_call GI (hr.mono (by decide)) (by rfl) mI kI bI .nil pass0 (pa_cons (pv 1) pa_nil)))
      (pss_cons (ps_set (i := 3) scLaw.nd rfl (Or.inl rfl) (pe_call GDu (hr.mono (by decide)) (by rfl) mDu kDu bDu .nil pass0 (pa_cons (pv 2) pa_nil)))
      (pss_cons (ps_set (i := 4) scLaw.nd rfl (Or.inl rfl) pe_non)
      (pss_cons (ps_set (i := 5) scLaw.nd rfl (Or.inl rfl) (pe_lst pa_nil))
      (pss_cons (ps_try_as (i := 6) (n := "e") rfl rfl scLaw.nd rfl rfl ⟨rfl, by decide, .inl DE.g⟩ takes0 (fun W pn xe tk _ => (pss_one (ps_set (i := 4) scLaw.nd rfl (Or.inl rfl) (pe_callS GM hr (by rfl) mM kM bM (fun σ => passAt tk σ) (pa_cons (pe_callTy (T := "list") (r := rLo K) call_list_of (by rfl) B.list (by decide +kernel) (pa_cons (pv 2) pa_nil)) pa_nil))))) (fun a oe cls d pn hz hf => (pss_one (ps_set (i := 5) scLaw.nd rfl (Or.inl rfl) (pe_lst (pa_cons (pe_xf TE.f DE.n1 hz hf (pv 6)) (pa_cons (pe_callB (call_isF TE.e hz hf) (by rfl) B.isi (by decide +kernel) (pa_cons (pv 6) (pa_cons (pe_glob (v := .ref BEa) (by rfl) gB rfl) pa_nil))) (pa_cons (pe_callB (call_isF TE.e hz hf) (by rfl) B.isi (by decide +kernel) (pa_cons (pv 6) (pa_cons (pe_bltn (v := .ty "ValueError") (by rfl) gV (by decide +kernel) rfl) pa_nil))) pa_nil))))))))
      (pss_cons (ps_if (pt_cmp (pc_notN (pv 3))) (pss_one (ps_ret (pe_call GS1 (hr.mono (by decide)) (by rfl) mS kS bS .nil pass0 (pa_cons (pv 5) (pa_cons (pe_lst (pa_cons (pv 3) (pa_cons pe_bl (pa_cons pe_bl pa_nil)))) pa_nil))))) pss_nil)
      (pss_cons (ps_if (pw_or (pt_cmpR (op_neD hr.units) (pv 5) (pe_lst pa_nil) (by rfl)) (pw_or (pt_not (pt_val (pe_call GS1 (hr.mono (by decide)) (by rfl) mS kS bS .nil pass0 (pa_cons (pe_fld (pv 4) (by rfl)) (pa_cons (pe_callTy call_tuple_of (by rfl) B.tuple (by decide +kernel) (pa_cons (pv 2) pa_nil)) pa_nil))))) (pw_or1 (pt_not (pt_val (pe_call GS0 (hr.mono (by decide)) (by rfl) mS kS bS .nil pass0 (pa_cons (pe_callB (call_lenO OL (hr.mono (by decide))) (by rfl) B.len PySem.boot_len (pa_cons (pv 4) pa_nil)) (pa_cons (pe_callB call_len_seq (by rfl) B.len PySem.boot_len (pa_cons (pv 2) pa_nil)) pa_nil)))))))).pt (pss_one (ps_ret pe_bl)) pss_nil)
      (pss_cons (ps_for PassesOwn.never rfl (pi_list (pe_lst (pa_cons pe_str (pa_cons pe_str (pa_cons (pe_op op_add_str (pe_ix ix_list (pv 2) pe_int (fun _ _ => rfl)) pe_str) (pa_cons pe_int (pa_cons pe_non (pa_cons pe_bl (pa_cons (pe_tup (pa_cons pe_str pa_nil)) (pa_cons pe_str (pa_cons (pe_lst (pa_cons pe_str pa_nil)) pa_nil))))))))))) (pg_name (i := 7) scLaw.nd rfl (Or.inl rfl)) (pss_one (ps_if (pt_cmpR op_notBl (pe_cmpR (op_inO OC (hr.mono (by decide))) (pv 7) (pv 4) (by rfl)) pe_bl (nomark _)) (pss_one (ps_ret pe_bl)) pss_nil)))
      (pss_cons (ps_set (i := 8) scLaw.nd rfl (Or.inl rfl) (pe_call GN (hr.mono (by decide)) (by rfl) mN kN bN .nil pass0 (pa_cons (pv 1) (pa_cons (pe_lst pa_nil) pa_nil))))
      (pss_cons (ps_if (pt_cmpR op_ne (pe_cmpR (op_inO OC (hr.mono (by decide))) (pv 8) (pv 4) (by rfl)) (pe_cmpR op_in_seq (pv 8) (pv 2) (by rfl)) (nomark _)) (pss_one (ps_ret pe_bl)) pss_nil)
      (pss_cons (ps_for PassesOwn.never rfl (pi_list (pv 2)) (pg_name (i := 7) scLaw.nd rfl (Or.inl rfl)) (pss_one (ps_if (pt_cmpR op_notBl (pe_cmpR (op_inO OC (hr.mono (by decide))) (pv 7) (pv 4) (by rfl)) pe_bl (nomark _)) (pss_one (ps_ret pe_bl)) pss_nil)))
      (pss_cons (ps_set (i := 9) scLaw.nd rfl (Or.inl rfl) (pe_listRev rfl (by rfl) B.list (by rfl) gR (pe_callTy call_list_of (by rfl) B.list (by decide +kernel) (pa_cons (pv 2) pa_nil))))
      (pss_cons (ps_if (pw_or (pt_cmpR op_notBl (pe_cmpR (op_eqO OE (hr.mono (by decide))) (pv 4) (pe_call GM hr (by rfl) mM kM bM .nil passL (pa_cons (pe_callTy call_list_of (by rfl) B.list (by decide +kernel) (pa_cons (pv 2) pa_nil)) pa_nil)) (by rfl)) pe_bl (nomark _)) (pw_or1 (pt_cmpR op_notBl (pe_cmpR (op_eqO OE (hr.mono (by decide))) (pv 4) (pe_callTy call_tuple_of (by rfl) B.tuple (by decide +kernel) (pa_cons (pv 2) pa_nil)) (by rfl)) pe_bl (nomark _)))).pt (pss_one (ps_ret pe_bl)) pss_nil)
      (pss_one (ps_ret (pe_cmpR op_eq (pe_cmpR (op_eqO OE (hr.mono (by decide))) (pv 4) (pe_call GM hr (by rfl) mM kM bM .nil passL (pa_cons (pv 9) pa_nil)) (by rfl)) (pe_cmpR op_eq (pe_callB call_len_seq (by rfl) B.len PySem.boot_len (pa_cons (pv 2) pa_nil)) pe_int (nomark _)) (nomark _)))))))))))))))))), ?_⟩
    have sl := sizeLine_eq
    refine ⟨_, rfl, a0, ns, rfl, hS, hlen, fun p q H1 hp1 hq1 hA1 s1 => ?_⟩
    refine ⟨_, rfl, p, q, rfl, hA1, fun l xs ta la H2 l1 hA2 e2 hl lp hz fx tp lap hit => ?_⟩
    refine ⟨_, rfl, l, xs, ta, la, rfl, hl, hz, fx, hit, fun H3 s3 => ?_⟩
    refine ⟨Nat.zero_le _, fun r hr0 => ?_⟩
    have sr := same_new (o := .lst []) hr0
    have s4 := s3.trans sr
    have hl4 := s4 _ _ hl
    refine ⟨_, rfl, l, xs, rfl, .inl (SqL.of hl4), fun t ht => ?_⟩
    have st := same_new (o := .lst xs) ht
    refine ⟨t, xs, ta, la, rfl, upd_same, rfl, hz, (fx.same s4).same st, hit, ⟨fun dn o pn zs H5 ez ok s5 hC => ?_, fun i di d H5 s5 hx => ?_⟩⟩
    · have dv : dueV xs = .non := by
        unfold dueV
        rw [dn]
      have e : (!decide (dueV xs = V.non)) = false := by
        rw [dv]
        rfl
      have s6 := (s4.trans st).trans s5
      have hl6 := s6 _ _ hl
      have hA6 := hA2.same s6
      have hr6 := s5 _ _ (st _ _ (upd_same (H := H3) (a := r) (o := .lst [])))
      refine ⟨_, rfl, _, rfl, ?_⟩
      rw [e]
      subst ez
      have x6 : Sx C p q l o pn ta la zs H5 := ⟨fx.same s6, hl6, hA6, hC⟩
      have ee : PyData.eqv (.list []) (.list []) = true := by simp [PyData.eqv, PyData.eqvAll]
      refine iteF ⟨_, rfl, Nat.zero_le _, fun r2 hr2 => ⟨.list [], .list [], .lst (SqL.of (same_new hr2 _ _ hr6)) .nil, .lst (SqL.of upd_same) .nil, by decide +kernel, by decide +kernel, ?_⟩⟩
      rw [ee]
      have x7 := x6.same (same_new (o := .lst []) hr2)
      obtain ⟨⟨dx, ho7⟩, hp7⟩ := id x7.c
      have few : (zs.map V.str).length ≤ 1000 := by omega
      have atoms : ∀ x ∈ zs.map V.str, Atom x := fun x hx => by
        obtain ⟨z, _, rfl⟩ := List.mem_map.mp hx
        trivial
      refine ⟨_, rfl, iteF ⟨_, rfl, o, C, dx, _, _, rfl, ho7, DC.cl, DC.no, rfl, _, rfl, l, _, rfl, .inl ⟨SqL.of x7.l, fun t2 ht2 => ⟨.ref pn, .ref t2, rfl, eqv_l atoms (.inr ⟨same_new ht2 _ _ hp7, upd_same⟩) few, fun H8 s8 => ⟨true, rfl, iteF ?_⟩⟩⟩⟩⟩
      have x8 := (x7.same (same_new (o := .tup (zs.map V.str)) ht2)).same s8
      obtain ⟨⟨dx8, ho8⟩, hp8⟩ := id x8.c
      have lz : (zs.map V.str).length = zs.length := List.length_map ..
      refine ⟨_, rfl, o, dx8, _, rfl, ho8, ⟨o, pn, zs, rfl, x8.c, _, rfl, by omega, by omega, _, rfl, l, _, rfl, .inl (SqL.of x8.l), _, _, rfl, ⟨by rw [lz], trivial⟩, fun H9 s9 => ⟨true, rfl, ?_⟩⟩⟩
      have x9 := x8.same s9
      obtain ⟨zs', ez', fz⟩ := due_fine dn
      have ezz := map_inj ez'
      subst ezz
      obtain ⟨z0, hz0⟩ : ∃ z0, zs[0]? = some z0 := by
        cases zs with
        | nil => exact absurd (Or.inl rfl) fz.2.2
        | cons z0 zr => exact ⟨z0, rfl⟩
      have hz0m := List.mem_of_getElem? hz0
      have hz0V : (zs.map V.str)[0]? = some (.str z0) := by rw [List.getElem?_map, hz0]; rfl
      have z0l := okS_len (fz.1 z0 hz0m)
      have notin : ∀ z, okS z = false → z ∉ zs := fun z hz hm => by
        rw [fz.1 z hm] at hz
        cases hz
      refine iteF ⟨_, rfl, l, _, _, _, rfl, rfl, SqL.of x9.l, at_of (j := 0) rfl hz0V, _, _, rfl, rfl, ?_, (by show 1 ≤ sizeLine; decide), fun t3 ht3 => ⟨(by show 1 ≤ sizeLine; decide), fun u3 hu3 => ⟨(by show 9 ≤ sizeLine; decide), fun w3 hw3 => ?_⟩⟩⟩
      · show z0.length + 1 ≤ sizeLine
        omega
      have S1 := same_new (o := .tup [V.str "a"]) ht3
      have S2 := same_new (o := .lst [V.str "a"]) hu3
      have S3 := same_new (o := .lst [.str "", .str "A", .str (z0 ++ "\n"), .int 5, .non, .bl true, .ref t3, .str "and", .ref u3]) hw3
      have x10 := ((x9.same S1).same S2).same S3
      have ft := S3 _ _ (S2 _ _ (upd_same (H := H9) (a := t3) (o := .tup [V.str "a"])))
      have fu := S3 _ _ (upd_same (H := upd H9 t3 (.tup [V.str "a"])) (a := u3) (o := .lst [V.str "a"]))
      have fw := upd_same (H := upd (upd H9 t3 (.tup [V.str "a"])) u3 (.lst [V.str "a"])) (a := w3) (o := .lst [.str "", .str "A", .str (z0 ++ "\n"), .int 5, .non, .bl true, .ref t3, .str "and", .ref u3])
      generalize upd (upd (upd H9 t3 (.tup [V.str "a"])) u3 (.lst [V.str "a"])) w3 (.lst [.str "", .str "A", .str (z0 ++ "\n"), .int 5, .non, .bl true, .ref t3, .str "and", .ref u3]) = H10 at x10 ft fu fw
      obtain ⟨⟨dx10, ho10⟩, hp10⟩ := id x10.c
      refine ⟨w3, rfl, ⟨_, SqL.of fw⟩, for_list (K := K) (a := w3) (xs := [.str "", .str "A", .str (z0 ++ "\n"), .int 5, .non, .bl true, .ref t3, .str "and", .ref u3])
        (fun i σ H' => (∃ v, σ = [some (.ref a0), some (.ref p), some (.ref l), some (dueV (zs.map V.str)), some (.ref o), some (.ref r), none, v, none, none]) ∧ H' = H10) ⟨⟨_, rfl⟩, rfl⟩ (fun i σ H' _ h => by rw [h.2]; exact SqL.of fw) ?_ ?_⟩
      · rintro i x σ H' hi ⟨⟨v, rfl⟩, rfl⟩
        have el : (∃ z, x = .str z ∧ z ∉ zs) ∨ ∃ T : String, kitB T "str" = some false ∧ TyX K H' x (.type T) := by
          have hm := List.mem_of_getElem? hi
          simp only [List.mem_cons, List.not_mem_nil, or_false] at hm
          rcases hm with rfl | rfl | rfl | rfl | rfl | rfl | rfl | rfl | rfl
          · exact .inl ⟨_, rfl, notin _ (by decide +kernel)⟩
          · exact .inl ⟨_, rfl, notin _ (by decide +kernel)⟩
          · exact .inl ⟨_, rfl, notin _ (no_line z0)⟩
          · exact .inr ⟨"int", by decide +kernel, .base (.int 5)⟩
          · exact .inr ⟨"NoneType", by decide +kernel, .base .non⟩
          · exact .inr ⟨"bool", by decide +kernel, .base (.bl true)⟩
          · exact .inr ⟨"tuple", by decide +kernel, .base (.tup ft)⟩
          · exact .inl ⟨_, rfl, notin _ (by decide +kernel)⟩
          · exact .inr ⟨"list", by decide +kernel, .base (.lst fu)⟩
        rcases el with ⟨z, rfl, hn⟩ | ⟨T, hT, ty⟩
        · refine ⟨_, rfl, _, rfl, o, dx10, _, rfl, ho10, ⟨o, pn, zs, _, rfl, x10.c, .inl ⟨z, rfl, _, rfl, ?_⟩⟩⟩
          rw [decide_eq_false hn]
          exact ⟨_, _, rfl, rfl, _, rfl, iteF ⟨⟨_, rfl⟩, rfl⟩⟩
        · exact ⟨_, rfl, _, rfl, o, dx10, _, rfl, ho10, ⟨o, pn, zs, _, rfl, x10.c, .inr ⟨T, hT, ty, _, rfl, _, _, rfl, rfl, _, rfl, iteF ⟨⟨_, rfl⟩, rfl⟩⟩⟩⟩
      · rintro σ H' ⟨⟨v, rfl⟩, rfl⟩
        refine ⟨_, rfl, Nat.zero_le _, fun t4 ht4 => ?_⟩
        have x10' := x10.same (same_new (o := .lst []) ht4)
        refine ⟨p, q, t4, rfl, x10'.a, upd_same, (x10.a.np ht4).1, fun z H11 okz hA11 e11 => ?_⟩
        have x11 := x10'.step lp tp lap hA11 e11
        obtain ⟨⟨dx11, ho11⟩, hp11⟩ := id x11.c
        refine ⟨_, rfl, _, rfl, o, dx11, _, rfl, ho11, ⟨o, pn, zs, _, rfl, x11.c, .inl ⟨z, rfl, _, rfl, _, rfl, _, rfl, l, _, rfl, .inl (SqL.of x11.l), rfl, flat_strs zs, rfl, _, rfl, ?_⟩⟩⟩
        have iv : (if false = true then !inV (.str z) (zs.map V.str) else inV (.str z) (zs.map V.str)) = decide (z ∈ zs) := inV_strs z zs
        rw [iv, decide_eq_true (p := V.bl (decide (z ∈ zs)) = V.bl (decide (z ∈ zs))) rfl]
        refine iteF ⟨_, rfl, l, rfl, ⟨_, SqL.of x11.l⟩, for_list (K := K) (a := l) (xs := zs.map V.str)
          (fun i σ H' => (∃ v, σ = [some (.ref a0), some (.ref p), some (.ref l), some (dueV (zs.map V.str)), some (.ref o), some (.ref r), none, v, some (.str z), none]) ∧ H' = H11) ⟨⟨_, rfl⟩, rfl⟩ (fun i σ H' _ h => by rw [h.2]; exact SqL.of x11.l) ?_ ?_⟩
        · rintro i x σ H12 hi ⟨⟨v, rfl⟩, rfl⟩
          obtain ⟨y, hy, rfl⟩ := List.mem_map.mp (List.mem_of_getElem? hi)
          refine ⟨_, rfl, _, rfl, o, dx11, _, rfl, ho11, ⟨o, pn, zs, _, rfl, x11.c, .inl ⟨y, rfl, _, rfl, ?_⟩⟩⟩
          rw [decide_eq_true hy]
          exact ⟨_, _, rfl, rfl, _, rfl, iteF ⟨⟨_, rfl⟩, rfl⟩⟩
        · rintro σ H12 ⟨⟨v, rfl⟩, rfl⟩
          refine ⟨_, rfl, l, _, rfl, .inl (SqL.of x11.l), fun t5 ht5 => ⟨t5, _, rfl, SqL.of upd_same, fun bk hbk => ?_⟩⟩
          have x12 := (x11.same (same_new (o := .lst (zs.map V.str)) ht5)).same (same_new (o := .lst (zs.map V.str).reverse) hbk)
          have fb := upd_same (H := upd H12 t5 (.lst (zs.map V.str))) (a := bk) (o := .lst (zs.map V.str).reverse)
          generalize upd (upd H12 t5 (.lst (zs.map V.str))) bk (.lst (zs.map V.str).reverse) = H13 at x12 fb
          refine ⟨_, rfl, _, rfl, l, _, rfl, .inl (SqL.of x12.l), fun t6 ht6 => ?_⟩
          have x13 := x12.same (same_new (o := .lst (zs.map V.str)) ht6)
          have fb13 := same_new (o := .lst (zs.map V.str)) ht6 _ _ fb
          refine ⟨t6, _, ta, la, rfl, upd_same, rfl, hz, x13.f, hit, ⟨fun _ o2 p2 zs2 H14 ez2 ok2 s14 c2 => ?_, fun i di => by rw [dn] at di; cases di⟩⟩
          have ezz2 := map_inj ez2
          subst ezz2
          have x14 := x13.same s14
          have fb14 := s14 _ _ fb13
          obtain ⟨⟨dx14, ho14⟩, hp14⟩ := id x14.c
          obtain ⟨⟨dy14, ho2⟩, hp2⟩ := id c2
          refine ⟨o, dx14, _, rfl, ho14, .inl ⟨o2, dy14, _, rfl, ho2⟩, ⟨o, pn, zs, _, rfl, x14.c, fz.1, .inl ⟨o2, p2, zs, rfl, c2, ok2, _, rfl, ?_⟩⟩⟩
          rw [decide_eq_true (p := zs = zs) rfl]
          refine ⟨_, _, rfl, rfl, _, rfl, iteF ⟨_, rfl, _, rfl, l, _, rfl, .inl ⟨SqL.of x14.l, fun t7 ht7 => ?_⟩⟩⟩
          have x15 := x14.same (same_new (o := .tup (zs.map V.str)) ht7)
          have fb15 := same_new (o := .tup (zs.map V.str)) ht7 _ _ fb14
          have f7 := upd_same (H := H14) (a := t7) (o := .tup (zs.map V.str))
          generalize upd H14 t7 (.tup (zs.map V.str)) = H15 at x15 fb15 f7
          obtain ⟨⟨dx15, ho15⟩, hp15⟩ := id x15.c
          refine ⟨o, dx15, _, rfl, ho15, .inr ⟨"tuple", .base (.tup f7), nf⟩, ⟨o, pn, zs, _, rfl, x15.c, fz.1, .inr ⟨t7, _, rfl, f7, _, rfl, _, _, rfl, rfl, _, rfl, iteF ?_⟩⟩⟩
          have er : (zs.map V.str).reverse = zs.reverse.map V.str := List.map_reverse.symm
          have dr : due (zs.map V.str).reverse = none := by
            rw [er]
            exact fine_due fz.rev
          refine ⟨_, rfl, _, rfl, bk, _, ta, la, rfl, fb15, rfl, by rw [List.length_reverse]; exact hz, x15.f, fun x hx => hit x (List.mem_reverse.mp hx), ⟨fun _ o3 p3 zs3 H16 ez3 ok3 s16 c3 => ?_, fun i di => by rw [dr] at di; cases di⟩⟩
          rw [er] at ez3
          have ezz3 := map_inj ez3
          subst ezz3
          have x16 := x15.same s16
          obtain ⟨⟨dx16, ho16⟩, hp16⟩ := id x16.c
          obtain ⟨⟨dy16, ho3⟩, hp3⟩ := id c3
          refine ⟨o, dx16, _, rfl, ho16, .inl ⟨o3, dy16, _, rfl, ho3⟩, ⟨o, pn, zs, _, rfl, x16.c, fz.1, .inl ⟨o3, p3, _, rfl, c3, ok3, _, rfl, _, rfl, l, _, rfl, .inl (SqL.of x16.l), rfl, rfl, ?_⟩⟩⟩
          have e1 : decide (V.int ((zs.map V.str).length : Int) = V.int 1) = decide (zs.length = 1) := by
            rw [lz]
            apply decide_eq_decide.mpr
            constructor
            · intro h
              have := V.int.inj h
              omega
            · intro h
              rw [h]
              rfl
          rw [e1, fz.pal, decide_eq_true (p := V.bl (decide (zs.length = 1)) = V.bl (decide (zs.length = 1))) rfl]
          exact k _
    · refine ⟨true, TE.x, fun _ e he => ?_, fun z => nomatch z⟩
      have dv : dueV xs = .int i := by
        unfold dueV
        rw [di]
      have e : (!decide (dueV xs = V.non)) = true := by
        rw [dv]
        rfl
      refine ⟨_, rfl, rfl, rfl, d, _, _, rfl, hx, rfl, _, rfl, d, _, _, _, true, rfl, rfl, hx, rfl, .own BEa, TE.b, _, rfl, d, _, _, _, true, rfl, rfl, hx, rfl, .ty _, TE.v, (by show 3 ≤ sizeLine; decide), fun r1 hr1 => ⟨_, rfl, _, rfl, ?_⟩⟩
      rw [e]
      refine iteT ⟨_, rfl, _, rfl, (by show 3 ≤ sizeLine; decide), fun r2 hr2 => ⟨_, _, rfl, ?_, fun H' _ => k H'⟩⟩
      have e1 := same_new (o := .lst [dueV xs, .bl true, .bl true]) hr2 _ _ (upd_same (H := H5) (a := r1) (o := .lst [.int i, .bl true, .bl true]))
      refine eqv_l (xs := [.int i, .bl true, .bl true]) ?_ (.inl ⟨e1, ?_⟩) (by show 3 ≤ 1000; decide)
      · intro x hx
        simp only [List.mem_cons, List.not_mem_nil, or_false] at hx
        rcases hx with rfl | rfl | rfl <;> trivial
      · rw [← dv]
        exact upd_same

end
end L01
/-! what an own exception class with an own __init__ is asked for, by Bools over the written part -/
namespace Lx
open PySem PySem.Spec PyProof.Rows L2 Lw Xv Lh
def mkB (K : PySem.W.Frag) (C : Addr) : Bool := match K.lookup C with
  | some ⟨.type t, _, .cls cd, sl⟩ => (match cd.mro, sl.toList with
    | .ref C' :: bm, [_, _, _, _, some (.builtin n), _] => decide (t = "type") && (decide (C' = C) && (decide (n = "ValueError.__new__") && (!cd.hasDel && (cd.hasDict && HandSPX.refsVE bm))))
    | _, _ => false)
  | _ => false
theorem mkB_ok {K : PySem.W.Frag} {C : Addr} (h : mkB K C = true) : ∃ nm q N bs bm sn sub ab col dd k0 k1 k2 k3 k5, K.lookup C = some (excClassObj nm q C N bs bm true sn sub ab col dd k0 k1 k2 k3 k5 "ValueError.__new__") ∧ PySem.HandSPX.refsVE bm = true := by
  unfold mkB at h
  split at h
  · rename_i t od cd sl ho
    split at h
    · rename_i C' bm k0 k1 k2 k3 n k5 hm hs
      obtain ⟨h1, h⟩ := He.ba h
      obtain ⟨h2, h⟩ := He.ba h
      obtain ⟨h3, h⟩ := He.ba h
      obtain ⟨h4, h⟩ := He.ba h
      obtain ⟨h5, h6⟩ := He.ba h
      have e1 := of_decide_eq_true h1
      have e2 := of_decide_eq_true h2
      have e3 := of_decide_eq_true h3
      have e4 : cd.hasDel = false := by
        cases z : cd.hasDel with
        | false => rfl
        | true =>
          rw [z] at h4
          cases h4
      obtain ⟨nm, bs, mro, ns, qn, hd, sn, sub, ab, col, del⟩ := cd
      dsimp only at hm e4 h5
      subst hm e1 e2 e3 e4 h5
      have es : sl = #[k0, k1, k2, k3, some (.builtin "ValueError.__new__"), k5] := by
        obtain ⟨l⟩ := sl
        dsimp only at hs
        rw [hs]
      subst es
      exact ⟨nm, qn, ns, bs, bm, sn, sub, ab, col, od, k0, k1, k2, k3, k5, ho, h6⟩
    · cases h
  · cases h
def xB (K : PySem.W.Frag) (C : Addr) : Bool := He.eqO (PySem.W.findIn K (.ref C) "__getattribute__") (some (some (.builtin "BaseException.__getattribute__"))) && (He.eqO (PySem.W.findIn K (.ref C) "__getattr__") (some none) &&
  (decide (PySem.W.subIn K (.ref C) (.type "BaseException") = some true) && (PySem.W.hasDictIn K C && (He.eqO (PySem.W.findIn K (.ref C) "__class__") (some (some (.builtin "object.__class__"))) &&
  (decide (PySem.W.mroIn K C (.type "object") = some true) && PySem.W.keepIn K (.ref C))))))
def gB (K : PySem.W.Frag) : Bool := He.eqO (PySem.W.specialIn K (.builtin "object.__class__") "__get__") (some (some (.builtin "getset_descriptor.__get__"))) && decide (PySem.W.takesIn K (.builtin "object.__class__") = some true)
structure XB (K : PySem.W.Frag) (C : Addr) : Prop where
  e : ExcC K C
  f : XfC K C
  k : PySem.W.keepIn K (.ref C) = true
theorem xB_ok {K : PySem.W.Frag} {C : Addr} (h : xB K C = true) (g : gB K = true) : XB K C := by
  obtain ⟨h1, h⟩ := He.ba h
  obtain ⟨h2, h⟩ := He.ba h
  obtain ⟨h3, h⟩ := He.ba h
  obtain ⟨h4, h⟩ := He.ba h
  obtain ⟨h5, h⟩ := He.ba h
  obtain ⟨h6, h7⟩ := He.ba h
  obtain ⟨g1, g2⟩ := He.ba g
  exact ⟨⟨He.eqO_ok h1, He.eqO_ok h2, of_decide_eq_true h3, h4, He.eqO_ok h5, He.eqO_ok g1, of_decide_eq_true g2, of_decide_eq_true h6⟩, ⟨He.eqO_ok h1, He.eqO_ok h2, of_decide_eq_true h3, h4⟩, h7⟩
def iB (K : PySem.W.Frag) (C : Addr) (fs : List Str) : Bool := mkB K C && (He.eqO (PySem.W.findIn K (.ref C) "__setattr__") (some (some (.builtin "object.__setattr__"))) && (decide (PySem.W.typeIn K (.ref C) = some (.type "type")) &&
  (He.eqO (PySem.W.findIn K (.ref C) "__init__") (some (some (.ref (He.ma K C "__init__")))) && (decide (PySem.W.typeIn K (.ref (He.ma K C "__init__")) = some (.type "function")) && fs.all fun f => He.eqO (PySem.W.findIn K (.ref C) f) (some none)))))
theorem iB_ok {K : PySem.W.Frag} {C : Addr} {fs : List Str} (h : iB K C fs = true) (x : XB K C) : XMk K C (He.ma K C "__init__") ∧ ∀ f ∈ fs, PySem.W.findIn K (.ref C) f = some none := by
  obtain ⟨h1, h⟩ := He.ba h
  obtain ⟨h2, h⟩ := He.ba h
  obtain ⟨h3, h⟩ := He.ba h
  obtain ⟨h4, h⟩ := He.ba h
  obtain ⟨h5, h6⟩ := He.ba h
  exact ⟨⟨⟨mkB_ok h1, He.eqO_ok h2, x.e.hs, of_decide_eq_true h3, x.k⟩, He.eqO_ok h4, of_decide_eq_true h5⟩, fun f hf => He.eqO_ok (List.all_eq_true.mp h6 f hf)⟩
end Lx
namespace L01
open PySem PySem.Spec PyProof.Rows L2 Lw Xv Lh Ow Lx
abbrev R : PySem.W.OpenRow := PySem.W.OpenLaw.row PySem.Challenge.rw_batchtests_k01_columns
def fn : List He.DefD := [dd ("_law_hand", none) "_law_hand" "_law_hand" sHand,
  dd ("_law_mixed", none) "_law_mixed" "_law_mixed" sMixed,
  dd ("_law_draw", none) "_law_draw" "_law_draw" sDraw,
  dd ("_law_same", none) "_law_same" "_law_same" sSame,
  dd ("_law_name", none) "_law_name" "_law_name" sName,
  dd ("_law_columns", none) "_law_columns" "_law_columns" sCols,
  dd ("_law_reserved", none) "_law_reserved" "_law_reserved" sRes,
  dd ("_law_made", none) "_law_made" "_law_made" sMade,
  dd ("_law_good", none) "_law_good" "_law_good" sGood,
  dd ("_law_items", none) "_law_items" "_law_items" sItems,
  dd ("_law_due", none) "_law_due" "_law_due" sDue,
  dd ("law", none) "law" "law" sLaw,
  dd ("is_name", none) "is_name" "is_name" sIsName,
  dd ("BadColumns", some "__init__") "__init__" "BadColumns.__init__" sErr,
  dd ("Columns", some "__init__") "__init__" "Columns.__init__" sInit,
  dd ("Columns", some "__len__") "__len__" "Columns.__len__" sLen,
  dd ("Columns", some "__contains__") "__contains__" "Columns.__contains__" sCon,
  dd ("Columns", some "__eq__") "__eq__" "Columns.__eq__" sEq]
def fnNames : List Str := ["_law_hand", "_law_mixed", "_law_draw", "_law_same", "_law_name", "_law_columns", "_law_reserved", "_law_made", "_law_good", "_law_items", "_law_due", "law", "is_name"]
abbrev aC (K : PySem.W.Frag) : Addr := He.ga K "Columns"
abbrev aB (K : PySem.W.Frag) : Addr := He.ga K "BadColumns"
abbrev aE (K : PySem.W.Frag) : Addr := He.ga K "BatchError"
abbrev aM (K : PySem.W.Frag) (m : Str) : Addr := He.ma K (aC K) m
/-- the module's name holds this value -/
def valB (K : PySem.W.Frag) (x : Str) (v : V) : Bool := match PySem.W.nsIn K mainGlobals x with
  | some (some u) => He.relB v u
  | _ => false
theorem valB_ok {K : PySem.W.Frag} {h : Heap} {mg : Str → Option Value} (X : K.In h) (G : h.Ns mainGlobals mg) {x : Str} {v : V} (c : valB K x v = true) : ∃ u, mg x = some u ∧ RelV v u := by
  unfold valB at c
  split at c
  · rename_i u e
    exact ⟨u, PySem.W.mg_of X G e, He.relB_ok c⟩
  · cases c
def wordDv : List He.Dv := [.str "and", .str "case", .str "else", .str "is", .str "missing", .str "must", .str "not", .str "or"]
def free2 : List Str := ["all", "enumerate", "ValueError", "reversed"]
def glo2 : List Str := ["WORDS", "Columns", "BadColumns", "BatchError"]
def coB (K : PySem.W.Frag) : Bool := PySem.W.plainGet K (aC K) Str.empty && (PySem.W.hasDictIn K (aC K) && (PySem.W.plainOver K (aC K) && (He.eqO (PySem.W.findIn K (.ref (aC K)) "__setattr__") (some (some (.builtin "object.__setattr__"))) &&
  (He.eqO (PySem.W.findIn K (.ref (aC K)) "__class__") (some (some (.builtin "object.__class__"))) && (decide (PySem.W.mroIn K (aC K) (.type "object") = some true) && (He.eqO (PySem.W.findIn K (.ref (aC K)) "names") (some none) &&
  (decide (PySem.W.kitOne K (.type "tuple") (.ref (aC K)) = some false) && (PySem.W.makesIn K (aC K) && (PySem.W.keepIn K (.ref (aC K)) && PySem.W.notFirst K (aC K) (.type "tuple"))))))))))
def metB (K : PySem.W.Frag) (m : Str) : Bool := He.eqO (PySem.W.findIn K (.ref (aC K)) m) (some (some (.ref (aM K m)))) && PySem.W.isFn K (.ref (aM K m))
def teB (K : PySem.W.Frag) : Bool := decide (PySem.W.exmOne K (.ref (aB K)) (.ref (aB K)) = some true) && (decide (PySem.W.kitOne K (.ref (aB K)) (.ref (aE K)) = some true) && decide (PySem.W.kitOne K (.ref (aB K)) (.type "ValueError") = some true))
def ex (K : PySem.W.Frag) : Bool := btNames.all (freeB K) && (free2.all (freeB K) && (fnNames.all (gloB K) && (glo2.all (gloB K) && (He.tupB K "WORDS" wordDv && (valB K "LETTERS" (.str abc) && (valB K "MOST_LETTERS" (.int 8) && (valB K "MOST_COLUMNS" (.int 4) &&
  (gB K && (xB K (aB K) && (iB K (aB K) ["index"] && (coB K && (metB K "__init__" && (metB K "__len__" && (metB K "__contains__" && (metB K "__eq__" && teB K)))))))))))))))
abbrev hk : PySem.W.Hook := hookB 6 fn ex
def ob (s : PySem.W.SharedT) : AlB := obsB 6 fn ex (HandSHeadRun.getT s)
theorem ob_eq (s : PySem.W.SharedT) : ob s = hk.obs s.abs := obsB_eq (HandSHeadRun.getT_eq s)
theorem run (w : World) : HandSHeadRun.RunEq R (PySem.W.view R.prog [24]) hk ob 20000 ["_wall", "BatchError", "BadColumns", "LETTERS", "MOST_LETTERS", "WORDS", "is_name", "MOST_COLUMNS", "Columns", "_law_hand", "_law_mixed", "_law_draw", "_law_name", "_law_same", "_law_columns", "_law_reserved", "_law_made", "_law_good", "_law_items", "_law_due"] w := by
  intro os
  kernel_rfl
theorem facts {P : Program} {w : World} {K : PySem.W.Frag} {h : Heap} {mg : Str → Option Value} {f : Addr} (X : K.In h) (G : h.Ns mainGlobals mg) (hfa : mg ("law" : Str) = some (.ref f)) (c : He.SaysD [] fn K) (hx : ex K = true) :
    ∃ fd : FuncData, (∀ (s : Shared) (v : Value), BindsTo s fd ⟨[v], []⟩ [("_law_script", v)]) ∧ ∀ base : Heap, K.In base → base.Ns mainGlobals mg → FnOk P w K mg base CX0 7 f fd ["_law_script"] (spLaw K) := by
  obtain ⟨b1, hx⟩ := He.ba hx
  obtain ⟨b2, hx⟩ := He.ba hx
  obtain ⟨b3, hx⟩ := He.ba hx
  obtain ⟨b4, hx⟩ := He.ba hx
  obtain ⟨b5, hx⟩ := He.ba hx
  obtain ⟨b6, hx⟩ := He.ba hx
  obtain ⟨b7, hx⟩ := He.ba hx
  obtain ⟨b8, hx⟩ := He.ba hx
  obtain ⟨b9, hx⟩ := He.ba hx
  obtain ⟨b10, hx⟩ := He.ba hx
  obtain ⟨b11, hx⟩ := He.ba hx
  obtain ⟨b12, hx⟩ := He.ba hx
  obtain ⟨b13, hx⟩ := He.ba hx
  obtain ⟨b14, hx⟩ := He.ba hx
  obtain ⟨b15, hx⟩ := He.ba hx
  obtain ⟨b16, b17⟩ := He.ba hx
  have B := bt_of X G b1
  have fr : ∀ n ∈ free2, mg n = none := fun n hn => mg_free X G (List.all_eq_true.mp b2 n hn)
  have gF : ∀ n ∈ fnNames, mg n = some (.ref (He.ga K n)) := fun n hn => mg_glo X G (List.all_eq_true.mp b3 n hn)
  have g2 : ∀ n ∈ glo2, mg n = some (.ref (He.ga K n)) := fun n hn => mg_glo X G (List.all_eq_true.mp b4 n hn)
  have xb := xB_ok b10 b9
  obtain ⟨MB, NB⟩ := iB_ok b11 xb
  obtain ⟨gg1, gg2⟩ := He.ba b9
  obtain ⟨c1, cx⟩ := He.ba b12
  obtain ⟨c2, cx⟩ := He.ba cx
  obtain ⟨c3, cx⟩ := He.ba cx
  obtain ⟨c4, cx⟩ := He.ba cx
  obtain ⟨c5, cx⟩ := He.ba cx
  obtain ⟨c6, cx⟩ := He.ba cx
  obtain ⟨c7, cx⟩ := He.ba cx
  obtain ⟨c8, cx⟩ := He.ba cx
  obtain ⟨c9, cx⟩ := He.ba cx
  obtain ⟨c10, c11⟩ := He.ba cx
  obtain ⟨i1, i2⟩ := He.ba b13
  obtain ⟨l1, l2⟩ := He.ba b14
  obtain ⟨n1, n2⟩ := He.ba b15
  obtain ⟨q1, q2⟩ := He.ba b16
  obtain ⟨t1, tx⟩ := He.ba b17
  obtain ⟨t2, t3⟩ := He.ba tx
  have DC : Cf K mg (aC K) := ⟨⟨c1, c2, c3, He.eqO_ok c4⟩, He.eqO_ok c5, He.eqO_ok gg1, of_decide_eq_true gg2, of_decide_eq_true c6, He.eqO_ok c7, g2 "Columns" (by decide +kernel), of_decide_eq_true c8⟩
  have MC : Mk K (aC K) (aM K "__init__") := ⟨c9, He.eqO_ok i1, i2, c10⟩
  have DE : Ef K mg (aB K) (He.ma K (aB K) "__init__") := ⟨MB.T, MB.iC, MB.tI, NB "index" (by decide +kernel), g2 "BadColumns" (by decide +kernel)⟩
  have TE : Te K (aB K) (aE K) := ⟨xb.e, xb.f, of_decide_eq_true t1, of_decide_eq_true t2, of_decide_eq_true t3⟩
  have D : Kd K mg := by
    obtain ⟨u1, e1, r1⟩ := valB_ok X G b6
    obtain ⟨u2, e2, r2⟩ := valB_ok X G b7
    obtain ⟨u3, e3, r3⟩ := valB_ok X G b8
    obtain ⟨k1, rfl⟩ := r1
    obtain ⟨k2, rfl⟩ := r2
    obtain ⟨k3, rfl⟩ := r3
    exact ⟨⟨_, g2 "WORDS" (by decide +kernel), fun H => He.tupB_ok b5 H⟩, ⟨k1, e1⟩, ⟨k2, e2⟩, ⟨k3, e3⟩, fr "all" (by decide +kernel), fr "enumerate" (by decide +kernel)⟩
  obtain ⟨fd0, F0⟩ := c.def_ 0 (d := dd ("_law_hand", none) "_law_hand" "_law_hand" sHand) rfl
  have F0 : Fun K "_law_hand" "_law_hand" sHand (He.ga K "_law_hand") fd0 := fun_of (st := sHand) F0
  have B0 := F0.binds (ps := ["_law_script"]) fun _ _ _ _ _ _ us hl => match us, hl with | [_], _ => rfl
  obtain ⟨fd1, F1⟩ := c.def_ 1 (d := dd ("_law_mixed", none) "_law_mixed" "_law_mixed" sMixed) rfl
  have F1 : Fun K "_law_mixed" "_law_mixed" sMixed (He.ga K "_law_mixed") fd1 := fun_of (st := sMixed) F1
  have B1 := F1.binds (ps := ["_law_number", "_law_count"]) fun _ _ _ _ _ _ us hl => match us, hl with | [_, _], _ => rfl
  obtain ⟨fd2, F2⟩ := c.def_ 2 (d := dd ("_law_draw", none) "_law_draw" "_law_draw" sDraw) rfl
  have F2 : Fun K "_law_draw" "_law_draw" sDraw (He.ga K "_law_draw") fd2 := fun_of (st := sDraw) F2
  have B2 := F2.binds (ps := ["_law_hand_here", "_law_many"]) fun _ _ _ _ _ _ us hl => match us, hl with | [_, _], _ => rfl
  obtain ⟨fd3, F3⟩ := c.def_ 3 (d := dd ("_law_same", none) "_law_same" "_law_same" sSame) rfl
  have F3 : Fun K "_law_same" "_law_same" sSame (He.ga K "_law_same") fd3 := fun_of (st := sSame) F3
  have B3 := F3.binds (ps := ["_law_actual", "_law_expected"]) fun _ _ _ _ _ _ us hl => match us, hl with | [_, _], _ => rfl
  obtain ⟨fd4, F4⟩ := c.def_ 4 (d := dd ("_law_name", none) "_law_name" "_law_name" sName) rfl
  have F4 : Fun K "_law_name" "_law_name" sName (He.ga K "_law_name") fd4 := fun_of (st := sName) F4
  have B4 := F4.binds (ps := ["_law_hand_here", "_law_taken"]) fun _ _ _ _ _ _ us hl => match us, hl with | [_, _], _ => rfl
  obtain ⟨fd5, F5⟩ := c.def_ 5 (d := dd ("_law_columns", none) "_law_columns" "_law_columns" sCols) rfl
  have F5 : Fun K "_law_columns" "_law_columns" sCols (He.ga K "_law_columns") fd5 := fun_of (st := sCols) F5
  have B5 := F5.binds (ps := ["_law_names"]) fun _ _ _ _ _ _ us hl => match us, hl with | [_], _ => rfl
  obtain ⟨fd6, F6⟩ := c.def_ 6 (d := dd ("_law_reserved", none) "_law_reserved" "_law_reserved" sRes) rfl
  have F6 : Fun K "_law_reserved" "_law_reserved" sRes (He.ga K "_law_reserved") fd6 := fun_of (st := sRes) F6
  have B6 := F6.binds (ps := ["_law_hand_here"]) fun _ _ _ _ _ _ us hl => match us, hl with | [_], _ => rfl
  obtain ⟨fd7, F7⟩ := c.def_ 7 (d := dd ("_law_made", none) "_law_made" "_law_made" sMade) rfl
  have F7 : Fun K "_law_made" "_law_made" sMade (He.ga K "_law_made") fd7 := fun_of (st := sMade) F7
  have B7 := F7.binds (ps := ["_law_items_here"]) fun _ _ _ _ _ _ us hl => match us, hl with | [_], _ => rfl
  obtain ⟨fd8, F8⟩ := c.def_ 8 (d := dd ("_law_good", none) "_law_good" "_law_good" sGood) rfl
  have F8 : Fun K "_law_good" "_law_good" sGood (He.ga K "_law_good") fd8 := fun_of (st := sGood) F8
  have B8 := F8.binds (ps := ["_law_item"]) fun _ _ _ _ _ _ us hl => match us, hl with | [_], _ => rfl
  obtain ⟨fd9, F9⟩ := c.def_ 9 (d := dd ("_law_items", none) "_law_items" "_law_items" sItems) rfl
  have F9 : Fun K "_law_items" "_law_items" sItems (He.ga K "_law_items") fd9 := fun_of (st := sItems) F9
  have B9 := F9.binds (ps := ["_law_hand_here"]) fun _ _ _ _ _ _ us hl => match us, hl with | [_], _ => rfl
  obtain ⟨fd10, F10⟩ := c.def_ 10 (d := dd ("_law_due", none) "_law_due" "_law_due" sDue) rfl
  have F10 : Fun K "_law_due" "_law_due" sDue (He.ga K "_law_due") fd10 := fun_of (st := sDue) F10
  have B10 := F10.binds (ps := ["_law_items_here"]) fun _ _ _ _ _ _ us hl => match us, hl with | [_], _ => rfl
  obtain ⟨fd11, F11⟩ := c.def_ 11 (d := dd ("law", none) "law" "law" sLaw) rfl
  have F11 : Fun K "law" "law" sLaw (He.ga K "law") fd11 := fun_of (st := sLaw) F11
  have B11 := F11.binds (ps := ["_law_script"]) fun _ _ _ _ _ _ us hl => match us, hl with | [_], _ => rfl
  obtain ⟨fd12, F12⟩ := c.def_ 12 (d := dd ("is_name", none) "is_name" "is_name" sIsName) rfl
  have F12 : Fun K "is_name" "is_name" sIsName (He.ga K "is_name") fd12 := fun_of (st := sIsName) F12
  have B12 := F12.binds (ps := ["value"]) fun _ _ _ _ _ _ us hl => match us, hl with | [_], _ => rfl
  obtain ⟨fd13, F13⟩ := c.def_ 13 (d := dd ("BadColumns", some "__init__") "__init__" "BadColumns.__init__" sErr) rfl
  have F13 : Fun K "__init__" "BadColumns.__init__" sErr (He.ma K (aB K) "__init__") fd13 := fun_of (st := sErr) F13
  have B13 := F13.binds (ps := ["self", "index"]) fun _ _ _ _ _ _ us hl => match us, hl with | [_, _], _ => rfl
  obtain ⟨fd14, F14⟩ := c.def_ 14 (d := dd ("Columns", some "__init__") "__init__" "Columns.__init__" sInit) rfl
  have F14 : Fun K "__init__" "Columns.__init__" sInit (He.ma K (aC K) "__init__") fd14 := fun_of (st := sInit) F14
  obtain ⟨fd15, F15⟩ := c.def_ 15 (d := dd ("Columns", some "__len__") "__len__" "Columns.__len__" sLen) rfl
  have F15 : Fun K "__len__" "Columns.__len__" sLen (He.ma K (aC K) "__len__") fd15 := fun_of (st := sLen) F15
  have B15 := F15.binds (ps := ["self"]) fun _ _ _ _ _ _ us hl => match us, hl with | [_], _ => rfl
  obtain ⟨fd16, F16⟩ := c.def_ 16 (d := dd ("Columns", some "__contains__") "__contains__" "Columns.__contains__" sCon) rfl
  have F16 : Fun K "__contains__" "Columns.__contains__" sCon (He.ma K (aC K) "__contains__") fd16 := fun_of (st := sCon) F16
  have B16 := F16.binds (ps := ["self", "name"]) fun _ _ _ _ _ _ us hl => match us, hl with | [_, _], _ => rfl
  obtain ⟨fd17, F17⟩ := c.def_ 17 (d := dd ("Columns", some "__eq__") "__eq__" "Columns.__eq__" sEq) rfl
  have F17 : Fun K "__eq__" "Columns.__eq__" sEq (He.ma K (aC K) "__eq__") fd17 := fun_of (st := sEq) F17
  have B17 := F17.binds (ps := ["self", "other"]) fun _ _ _ _ _ _ us hl => match us, hl with | [_, _], _ => rfl
  refine ⟨fd11, ?_, fun base _ _ => ?_⟩
  · obtain ⟨oc, od, kV, doc, pm, an, cdv, ct, osl, rfl, lk, hcd⟩ := F11.ex
    exact fun s v => .of_eq rfl
  have e := hfa.symm.trans (gF "law" (by decide +kernel))
  cases e
  have GD : FnOk P w K mg base CX0 2 _ fd2 ["_law_hand_here", "_law_many"] spDraw := ok_draw F2 B F1 B1 (gF "_law_mixed" (by decide +kernel))
  have GR : FnOk P w K mg base CX0 3 _ fd6 ["_law_hand_here"] spRes := okRes F6 GD F2.kp B2 (gF "_law_draw" (by decide +kernel))
  have GN : FnOk P w K mg base CX0 3 _ fd4 ["_law_hand_here", "_law_taken"] spName := okName F4 B GD F2.kp B2 (gF "_law_draw" (by decide +kernel))
  have GI : FnOk P w K mg base CX0 4 _ fd9 ["_law_hand_here"] spItems := okItems F9 B GD F2.kp B2 (gF "_law_draw" (by decide +kernel)) GR F6.kp B6 (gF "_law_reserved" (by decide +kernel)) GN F4.kp B4 (gF "_law_name" (by decide +kernel))
  have GT : FnR P w K mg base (L2.CX P w) 3 _ (spNew (aC K) (aB K)) := okInit F14 B D DC DE F13 B13 F12 B12 (gF "is_name" (by decide +kernel))
  have GM : FnOk P w K mg base (L2.CX P w) 6 _ fd7 ["_law_items_here"] (spMade (aC K) (aB K) fun _ => true) := okMade F7 B DC MC GT F5 B5 (gF "_law_columns" (by decide +kernel))
  exact okLaw F11 B DC DE TE (g2 "BatchError" (by decide +kernel)) (fr "ValueError" (by decide +kernel)) (fr "reversed" (by decide +kernel)) c11 (ok_hand F0 B) F0.kp B0 (gF "_law_hand" (by decide +kernel)) GI F9.kp B9 (gF "_law_items" (by decide +kernel))
    (okDue F10 B F8 B8 (gF "_law_good" (by decide +kernel))) F10.kp B10 (gF "_law_due" (by decide +kernel)) GM F7.kp B7 (gF "_law_made" (by decide +kernel)) (ok_same F3 B B3 (gF "_law_same" (by decide +kernel)) 0) (ok_same F3 B B3 (gF "_law_same" (by decide +kernel)) 1) F3.kp B3 (gF "_law_same" (by decide +kernel))
    GN F4.kp B4 (gF "_law_name" (by decide +kernel)) (He.eqO_ok l1) l2 (okLen F15 B DC) B15 (He.eqO_ok n1) n2 (okCon F16 B DC) B16 (He.eqO_ok q1) q2 (okEq F17 B DC) B17
end L01
open PySem PySem.W PySem.Calls PyProof.Rows
theorem PySem.Challenge.cw_batchtests_k01_columns_holds : PySem.Challenge.rw_batchtests_k01_columns.Holds := by
  w_on; o_law
  refine HandSHeadRun.head_any (r := OpenLaw.row PySem.Challenge.rw_batchtests_k01_columns) (q := view (OpenLaw.row PySem.Challenge.rw_batchtests_k01_columns).prog [24]) (H := L01.hk) (ob := L01.ob) (M := 20000) (loose := ["_wall", "BatchError", "BadColumns", "LETTERS", "MOST_LETTERS", "WORDS", "is_name", "MOST_COLUMNS", "Columns", "_law_hand", "_law_mixed", "_law_draw", "_law_name", "_law_same", "_law_columns", "_law_reserved", "_law_made", "_law_good", "_law_items", "_law_due"]) (d := HandSHeadRun.topDef (OpenLaw.row PySem.Challenge.rw_batchtests_k01_columns).prog 24) (kwd := []) L01.ob_eq
    (by kernel_rfl) (fun s => by kernel_rfl) L01.run (by kernel_rfl) (by kernel_rfl) (by kernel_rfl) (by rfl) (by first | assumption | decide +kernel) (by decide +kernel) ⟨rfl, rfl, rfl, rfl, rfl, by decide +kernel⟩ ?hw ?hc
  case hw => w_witness2
  case hc =>
    refine L2.walk_ofE (l := PySem.Challenge.rw_batchtests_k01_columns) (n := 63) (k := 7) (x := "_law_script") (CX := L2.CX0) rfl (by decide) (by kernel_rfl) ⟨rfl, by decide, by decide⟩ ?F (fun _ _ _ _ z => z)
    intro w mg fa h Y G hmg0
    obtain ⟨K, KX, c, hx⟩ := Y
    have hmg : mg ("law" : PySem.Str) = some (.ref fa) := by
      have e : (HandSHeadRun.topDef (OpenLaw.row PySem.Challenge.rw_batchtests_k01_columns).prog 24).name = ("law" : PySem.Str) := by kernel_rfl
      rw [← e]
      exact hmg0
    obtain ⟨fd, hb, hF⟩ := L01.facts (P := (PySem.Challenge.rw_batchtests_k01_columns).prog) (w := w) KX G hmg c hx
    exact ⟨K, fd, Lh.spLaw K, KX, hb, fun H a ns hl _ hS => ⟨a, ns, rfl, hS, hl, fun _ => rfl⟩, hF⟩
#print axioms PySem.Challenge.cw_batchtests_k01_columns_holds
