import PyProof.Rows.All
import Wide.All
import OpenK.AllK
import Wide.FinOn
import HandS.ForMost
import HandS.IsInst
import KE.GoesEnum
import HandS.Exc
import HandS.ExcOwn
import HandS.ExcInit
import HandS.ExcField
import HandS.ExcIs
import HandS.ExcValue
import HandS.Defaults
import HandS.Head0
import HandS.Head1
import HandS.Head2
import HandS.HeadEnd
import HandS.HeadHook1
import HandS.HeadHook2
import KE.KExcIs
import KE.KStateDown
import HandS.WordsExc
import HandS.Star
import HandS.Walk
import HandS.Style
import HandS.Text
import HandS.Rev
import HandS.RevTup
import HandS.Deep
import HandS.BoundList
import HandS.NoneIn
import HandS.Dict
import KE.KDictOf
import HandS.DictComp
import HandS.Conv
import PySem.Challenge.RW_batchtests_k02_rows_checked
set_option Elab.async false
set_option maxRecDepth 100000
set_option maxHeartbeats 4000000
/-! what every law of this document shares: the hand of drawn numbers -/
namespace Lw
open PySem L2
def top (i : Nat) : Stmt := PySem.Challenge.pw_batchtests_k02_rows_checked.main.body.getD i (.Pass ⟨0, 0, 0, 0⟩)
abbrev sHand : Stmt := top 15
abbrev sMixed : Stmt := top 16
abbrev sDraw : Stmt := top 17
/-- a hand at p with its cells at q -/
structure HandAt (H : Hp) (p q : Addr) : Prop where
  ob : ∃ (i : Nat) (b c s : Int), H p = some (.lst [.ref q, .int (i : Int), .int b, .int c, .int s])
  cs : ∃ ns : List Int, H q = some (.lst (ns.map V.int)) ∧ ns.length ≤ 63
theorem HandAt.ne {H : Hp} {p q : Addr} (h : HandAt H p q) : q ≠ p := by
  intro e
  obtain ⟨⟨i, b, c, s, h1⟩, ns, h2, _⟩ := h
  subst e
  rw [h1] at h2
  have h3 := HO.lst.inj (Option.some.inj h2)
  cases ns with
  | nil => cases h3
  | cons a r => exact V.noConfusion (List.cons.inj h3).1
theorem HandAt.keep {H H' : Hp} {p q : Addr} (h : HandAt H p q) (hp : ∀ o, H p = some o → H' p = some o) (hq : ∀ o, H q = some o → H' q = some o) : HandAt H' p q := by
  obtain ⟨⟨i, b, c, s, h1⟩, ns, h2, h3⟩ := h
  exact ⟨⟨i, b, c, s, hp _ h1⟩, ns, hq _ h2, h3⟩
theorem HandAt.same {H H' : Hp} {p q : Addr} (h : HandAt H p q) (e : Same H H') : HandAt H' p q := h.keep (fun o z => e p o z) (fun o z => e q o z)
theorem HandAt.np {H : Hp} {p q x : Addr} (h : HandAt H p q) (e : H x = none) : x ≠ p ∧ x ≠ q := by
  obtain ⟨⟨i, b, c, s, h1⟩, ns, h2, h3⟩ := h
  exact ⟨(ne_of_none h1 e).symm, (ne_of_none h2 e).symm⟩
theorem HandAt.upd {H : Hp} {p q x : Addr} {o : HO} (h : HandAt H p q) (hp : x ≠ p) (hq : x ≠ q) : HandAt (upd H x o) p q :=
  h.keep (fun z e => by rw [upd_ne hp.symm]; exact e) (fun z e => by rw [upd_ne hq.symm]; exact e)
/-- all but p is as it was -/
def Else (p : Addr) (H H' : Hp) : Prop := ∀ b o, H b = some o → b ≠ p → H' b = some o
theorem Else.refl (p : Addr) (H : Hp) : Else p H H := fun _ _ h _ => h
theorem Else.trans {p : Addr} {H H1 H2 : Hp} (a : Else p H H1) (b : Else p H1 H2) : Else p H H2 := fun c o h n => b c o (a c o h n) n
theorem Else.of {p : Addr} {H H' : Hp} (a : Same H H') : Else p H H' := fun c o h _ => a c o h
theorem Else.put {p : Addr} {H : Hp} {o : HO} : Else p H (L2.upd H p o) := fun c u h n => by rw [upd_ne n]; exact h
theorem Else.new {p a : Addr} {H H' : Hp} {o : HO} (e : Else p H H') (h : H' a = none) : Else p H (L2.upd H' a o) := fun c u z n => by
  have y := e c u z n
  rw [upd_ne (ne_of_none y h)]
  exact y
theorem Else.none {p a : Addr} {H H' : Hp} (e : Else p H H') (h : H' a = none) (n : a ≠ p) : H a = none := by
  cases q : H a with
  | none => rfl
  | some o =>
    rw [e a o q n] at h
    cases h
theorem same_new {H : Hp} {a : Addr} {o : HO} (h : H a = none) : Same H (L2.upd H a o) := fun b u e => by
  rw [upd_ne (ne_of_none e h)]
  exact e
/-- a part whose place no run comes to -/
theorem pe_never {X : Cx} {e : Expr} : PE X e (fun _ _ _ => False) := ⟨fun _ _ _ _ _ _ h => h.elim⟩
/-- the built-in names that no module's name hides -/
structure Bt (mg : Str → Option Value) : Prop where
  len : mg "len" = none
  int : mg "int" = none
  list : mg "list" = none
  range : mg "range" = none
  isi : mg "isinstance" = none
  str : mg "str" = none
  bool : mg "bool" = none
  tuple : mg "tuple" = none
  dict : mg "dict" = none
def spHand (K : PySem.W.Frag) : Sp := fun vs H Q _ => ∃ (a : Addr) (ns : List Int), vs = [.ref a] ∧ SqL K H a (ns.map V.int) ∧ ns.length ≤ 63 ∧
  ∀ (p q : Addr) (H' : Hp), H p = none → H q = none → HandAt H' p q → Same H H' → Q (.ref p) H'
def spMixed : Sp := fun vs H Q _ => ∃ x y : Int, vs = [.int x, .int y] ∧ ∀ r : Int, 0 ≤ r → Q (.int r) H
def spDraw : Sp := fun vs H Q _ => ∃ (p q : Addr) (m : Int), vs = [.ref p, .int m] ∧ HandAt H p q ∧ 0 < m ∧ m < 1073741824 ∧
  ∀ (r : Int) (H' : Hp), 0 ≤ r → r < m → HandAt H' p q → Else p H H' → Q (.int r) H'
section
variable {P : Program} {w : World} {K : PySem.W.Frag} {mg : Str → Option Value} {base : Heap}
theorem scMixed : FnScope ["_law_number", "_law_count", "_law_first", "_law_second"] ["_law_number", "_law_count"] (defScope sMixed) := ⟨rfl, rfl, rfl, by decide +kernel, rfl, by decide +kernel, by decide +kernel⟩
theorem ok_mixed {f : Addr} {fd : FuncData} (F : Fun K "_law_mixed" "_law_mixed" sMixed f fd) (B : Bt mg) : FnOk P w K mg base CX0 1 f fd ["_law_number", "_law_count"] spMixed := by
  refine F.ok scMixed (fun vs H Q E h => ?_) (fun cdv A outer s H vs Q E hr h => ?_)
  · obtain ⟨x, y, rfl, _⟩ := h
    rfl
  · obtain ⟨x, y, rfl, k⟩ := h
    refine ⟨_, pss_cons (ps_set (i := 2) scMixed.nd rfl (Or.inl rfl) (pe_op op_mod (pe_callTy call_int1 (by rfl) B.int (by decide +kernel) (pa_cons (pe_op op_add (pe_op op_add (pe_op op_mul (pv 0) pe_int) (pe_op op_mul (pv 1) pe_int)) pe_int) pa_nil)) pe_int))
      (pss_cons (ps_set (i := 3) scMixed.nd rfl (Or.inl rfl) (pe_op op_mod (pe_callTy call_int1 (by rfl) B.int (by decide +kernel) (pa_cons (pe_op op_mul (pv 2) (pe_op op_add (pe_op op_fdiv (pv 2) pe_int) pe_int)) pa_nil)) pe_int))
      (pss_one (ps_ret (pe_op op_mod (pe_callTy call_int1 (by rfl) B.int (by decide +kernel) (pa_cons (pe_op op_add (pe_op op_mul (pv 3) (pe_op op_add (pe_op op_fdiv (pv 3) pe_int) pe_int)) (pe_op op_mul (pv 1) pe_int)) pa_nil)) pe_int)))), ?_⟩
    refine ⟨_, rfl, _, _, rfl, rfl, .inr ⟨by decide, by decide⟩, _, rfl, _, _, rfl, rfl, .inr ⟨by decide, by decide⟩, _, _, rfl, rfl, _, _, rfl, rfl, .inl ⟨_, rfl, _, _, rfl, rfl, (by show (0 : Int) < 2147483647; decide), ?_⟩⟩
    generalize e1 : (x * 48271 + y * 7919 + 30103) % 2147483647 = u
    have u0 : 0 ≤ u := by omega
    have u1 : u < 2147483647 := by omega
    refine ⟨_, rfl, _, rfl, _, _, rfl, rfl, ⟨by decide, by decide⟩, _, _, rfl, rfl, _, _, rfl, rfl, .inl ⟨by omega, by omega⟩, .inl ⟨_, rfl, _, _, rfl, rfl, (by show (0 : Int) < 2147483647; decide), ?_⟩⟩
    generalize e2 : (u * (u / 1009 + 69621)) % 2147483647 = v
    have v0 : 0 ≤ v := by omega
    have v1 : v < 2147483647 := by omega
    refine ⟨_, rfl, _, rfl, _, _, rfl, rfl, ⟨by decide, by decide⟩, _, _, rfl, rfl, _, _, rfl, rfl, .inl ⟨by omega, by omega⟩, _, rfl, _, _, rfl, rfl, .inr ⟨by decide, by decide⟩, _, _, rfl, rfl, .inl ⟨_, rfl, _, _, rfl, rfl, (by show (0 : Int) < 2147483399; decide), ?_⟩⟩
    exact k _ (by omega)
theorem scHand : FnScope ["_law_script", "_law_cells", "_law_seed", "_law_cell"] ["_law_script"] (defScope sHand) := ⟨rfl, rfl, rfl, by decide +kernel, rfl, by decide +kernel, by decide +kernel⟩
theorem ok_hand {f : Addr} {fd : FuncData} (F : Fun K "_law_hand" "_law_hand" sHand f fd) (B : Bt mg) : FnOk P w K mg base CX0 1 f fd ["_law_script"] (spHand K) := by
  refine F.ok scHand (fun vs H Q E h => ?_) (fun cdv A outer s H vs Q E hr h => ?_)
  · obtain ⟨a, ns, rfl, _⟩ := h
    rfl
  · obtain ⟨a, ns, rfl, hS, hlen, k⟩ := h
    refine ⟨_, pss_cons (ps_set (i := 1) scHand.nd rfl (Or.inl rfl) (pe_callTy call_list_of (by rfl) B.list (by decide +kernel) (pa_cons (pe_slice sl_list (pv 0) po_none (po_some pe_int)) pa_nil)))
      (pss_cons (ps_set (i := 2) scHand.nd rfl (Or.inl rfl) pe_int)
      (pss_cons (ps_for PassesOwn.never rfl (pi_list (pv 1)) (pg_name (i := 3) scHand.nd rfl (Or.inl rfl))
        (pss_one (ps_set (i := 2) scHand.nd rfl (Or.inl rfl) (pe_op op_mod (pe_callTy call_int1 (by rfl) B.int (by decide +kernel) (pa_cons (pe_op op_add (pe_op op_add (pe_op op_mul (pv 2) pe_int) (pv 3)) pe_int) pa_nil)) pe_int))))
      (pss_one (ps_ret (pe_lst (pa_cons (pv 1) (pa_cons pe_int (pa_cons pe_int (pa_cons pe_int (pa_cons (pv 2) pa_nil)))))))))), ?_⟩
    -- list(script[:63])
    refine ⟨_, rfl, 63, rfl, a, _, rfl, hS, fun t ht => ⟨t, _, rfl, .inl (SqL.of upd_same), fun q hq => ?_⟩⟩
    have hq0 : H q = none := (same_new ht).free hq
    obtain ⟨ms, em, lm⟩ : ∃ ms : List Int, cutV (ns.map V.int) none (some 63) = ms.map V.int ∧ ms.length ≤ 63 := by
      refine ⟨(ns.drop (HT.sIx ns.length 0 none)).take (HT.sIx ns.length ns.length (some 63) - HT.sIx ns.length 0 none), ?_, ?_⟩
      · unfold cutV
        rw [List.length_map, List.map_take, List.map_drop]
      · rw [List.length_take, List.length_drop]
        omega
    rw [em] at hq ⊢
    have s0 : Same H (upd (upd H t (.lst (ms.map V.int))) q (.lst (ms.map V.int))) := (same_new ht).trans (same_new hq)
    refine ⟨_, rfl, q, rfl, ⟨_, SqL.of upd_same⟩, for_list (K := K) (a := q) (xs := ms.map V.int) (fun i σ H2 => ∃ (z : Int) (v : Option V), σ = [some (.ref a), some (.ref q), some (.int z), v] ∧ H2 = upd (upd H t (.lst (ms.map V.int))) q (.lst (ms.map V.int)))
      ⟨7, none, rfl, rfl⟩ (fun i σ H2 _ ⟨_, _, _, e⟩ => by rw [e]; exact SqL.of upd_same) ?_ ?_⟩
    · rintro i y σ H2 hi ⟨z, v, rfl, rfl⟩
      obtain ⟨n, rfl⟩ : ∃ n, y = V.int n := by
        rw [List.getElem?_map] at hi
        cases e : ms[i]? with
        | none =>
          rw [e] at hi
          cases hi
        | some n =>
          rw [e] at hi
          exact ⟨n, (Option.some.inj hi).symm⟩
      refine ⟨_, rfl, _, _, rfl, rfl, .inr ⟨by decide, by decide⟩, _, rfl, _, _, rfl, rfl, _, _, rfl, rfl, .inl ⟨_, rfl, _, _, rfl, rfl, (by show (0 : Int) < 2147483629; decide), ?_⟩⟩
      exact ⟨_, _, rfl, rfl⟩
    · rintro σ H2 ⟨z, v, rfl, rfl⟩
      refine ⟨_, rfl, _, rfl, (by show 5 ≤ sizeLine; decide), fun p hp => ?_⟩
      have hp0 : H p = none := s0.free hp
      have hqp : q ≠ p := ne_of_none (upd_same (H := upd H t (.lst (ms.map V.int))) (a := q) (o := .lst (ms.map V.int))) hp
      refine k p q _ hp0 hq0 ⟨⟨0, 0, 0, z, upd_same⟩, ms, by rw [upd_ne hqp, upd_same], lm⟩ (s0.trans (same_new hp))
end
end Lw
namespace Lw
open PySem L2
section
variable {P : Program} {w : World} {K : PySem.W.Frag} {mg : Str → Option Value} {base : Heap}
theorem scDraw : FnScope ["_law_hand_here", "_law_many", "_law_cell", "_law_digit"] ["_law_hand_here", "_law_many"] (defScope sDraw) := ⟨rfl, rfl, rfl, by decide +kernel, rfl, by decide +kernel, by decide +kernel⟩
/-- the hand's list -/
abbrev hl (q : Addr) (i : Nat) (b c s : Int) : HO := .lst [.ref q, .int (i : Int), .int b, .int c, .int s]
theorem ok_draw {f fM : Addr} {fd fdM : FuncData} (F : Fun K "_law_draw" "_law_draw" sDraw f fd) (B : Bt mg) (FM : Fun K "_law_mixed" "_law_mixed" sMixed fM fdM) (bM : Binds K fdM ["_law_number", "_law_count"] []) (mM : mg "_law_mixed" = some (.ref fM)) :
    FnOk P w K mg base CX0 2 f fd ["_law_hand_here", "_law_many"] spDraw := by
  have GM : FnOk P w K mg base CX0 1 fM fdM ["_law_number", "_law_count"] spMixed := ok_mixed FM B
  refine F.ok scDraw (fun vs H Q E h => ?_) (fun cdv A outer s H vs Q E hr h => ?_)
  · obtain ⟨p, q, m, rfl, _⟩ := h
    rfl
  · obtain ⟨p, q, m, rfl, hA, m0, m1, k⟩ := h
    have hqp : q ≠ p := hA.ne
    obtain ⟨⟨i, b, c, z, h1⟩, ns, h2, h3⟩ := hA
    -- behind the first if
    obtain ⟨t2, d2, k2⟩ : ∃ t, PSs (cxOf CX0 P w K mg base ["_law_hand_here", "_law_many", "_law_cell", "_law_digit"] "_law_draw" (defScope sDraw) f cdv A outer s H E).nox ((defBody sDraw).drop 2) t ∧
        ∀ (v : Option V) (i : Nat) (b c z : Int) (H' : Hp), H' p = some (hl q i b c z) → Else p H H' → t { nx := fun _ H' => Q .non H', rt := Q } [some (.ref p), some (.int m), v, none] H' := by
      refine ⟨_, pss_cons (ps_if (pt_cmpR op_gt (pe_ix ix_list (pv 0) pe_int (fun _ _ => rfl)) pe_int (nomark _))
          (pss_cons (ps_set (i := 3) scDraw.nd rfl (Or.inl rfl) (pe_op op_mod (pe_callTy call_int1 (by rfl) B.int (by decide +kernel) (pa_cons (pe_ix ix_list (pv 0) pe_int (fun _ _ => rfl)) pa_nil)) (pv 1)))
          (pss_cons (ps_asg (pe_op op_fdiv (pe_ix ix_list (pv 0) pe_int (fun _ _ => rfl)) (pv 1)) (pg_sub (pv 0) pe_int set_list))
          (pss_one (ps_ret (pv 3))))) pss_nil)
        (pss_one (ps_ret (pe_op op_mod (pe_callTy call_int1 (by rfl) B.int (by decide +kernel) (pa_cons (pe_op op_fdiv (pe_call GM hr rfl mM FM.kp bM .nil pass0 (pa_cons (pe_ix ix_list (pv 0) pe_int (fun _ _ => rfl)) (pa_cons (pe_ix ix_list (pv 0) pe_int (fun _ _ => rfl)) pa_nil))) pe_int) pa_nil)) (pv 1)))), ?_⟩
      intro v i b c z H' g1 e1
      have g2 := e1 q _ h2 hqp
      refine ⟨_, rfl, p, _, _, _, rfl, rfl, SqL.of g1, at_of (j := 2) rfl rfl, _, _, rfl, rfl, _, rfl, ?_⟩
      refine ite2 (fun hb => ?_) (fun hb => ?_)
      · refine ⟨_, rfl, p, _, _, _, rfl, rfl, SqL.of g1, at_of (j := 2) rfl rfl, .inl ⟨_, rfl, _, rfl, _, _, rfl, rfl, m0, ?_⟩⟩
        refine ⟨_, rfl, p, _, _, _, rfl, rfl, SqL.of g1, at_of (j := 2) rfl rfl, _, rfl, _, _, rfl, rfl, ⟨m0, m1⟩, _, rfl, p, _, _, 2, rfl, rfl, g1, rfl, ?_⟩
        refine ⟨_, rfl, k _ _ (Int.emod_nonneg _ (by omega)) (Int.emod_lt_of_pos _ m0) ⟨⟨i, _, c, z, upd_same⟩, ns, by rw [upd_ne hqp]; exact g2, h3⟩ (e1.trans Else.put)⟩
      · refine ⟨_, rfl, p, _, _, _, rfl, rfl, SqL.of g1, at_of (j := 4) rfl rfl, _, rfl, p, _, _, _, rfl, rfl, SqL.of g1, at_of (j := 3) rfl rfl, _, _, rfl, fun r hr0 => ⟨_, _, rfl, rfl, ⟨by decide, by decide⟩, .inl ⟨_, rfl, _, rfl, _, _, rfl, rfl, m0, ?_⟩⟩⟩
        exact k _ _ (Int.emod_nonneg _ (by omega)) (Int.emod_lt_of_pos _ m0) ⟨⟨i, b, c, z, g1⟩, ns, g2, h3⟩ e1
    refine ⟨_, pss_cons (ps_asg (pe_op op_add (pe_ix ix_list (pv 0) pe_int (fun _ _ => rfl)) pe_int) (pg_sub (pv 0) pe_int set_list))
      (pss_cons (ps_if (pw_and (pt_cmpR op_eq (pe_ix ix_list (pv 0) pe_int (fun _ _ => rfl)) pe_int (nomark _))
          (pw_and1 (pt_cmpR op_lt (pe_ix ix_list (pv 0) pe_int (fun _ _ => rfl)) (pe_callB call_len_seq (by rfl) B.len PySem.boot_len (pa_cons (pe_ix ix_list (pv 0) pe_int (fun _ _ => rfl)) pa_nil)) (nomark _)))).pt
        (pss_cons (ps_set (i := 2) scDraw.nd rfl (Or.inl rfl) (pe_ix ix_list (pe_ix ix_list (pv 0) pe_int (fun _ _ => rfl)) (pe_ix ix_list (pv 0) pe_int (fun _ _ => rfl)) (fun _ _ => rfl)))
        (pss_cons (ps_asg (pe_op op_add (pe_ix ix_list (pv 0) pe_int (fun _ _ => rfl)) pe_int) (pg_sub (pv 0) pe_int set_list))
        (pss_cons (ps_if (pt_cmpR op_lt (pv 2) (pe_op op_pow pe_int pe_int) (nomark _))
          (pss_one (ps_ret (pe_op op_mod (pe_callTy call_int1 (by rfl) B.int (by decide +kernel) (pa_cons (pe_op op_fdiv (pe_call GM hr rfl mM FM.kp bM .nil pass0 (pa_cons (pe_op op_add (pv 2) (pe_ix ix_list (pv 0) pe_int (fun _ _ => rfl))) (pa_cons (pe_ix ix_list (pv 0) pe_int (fun _ _ => rfl)) pa_nil))) pe_int) pa_nil)) (pv 1)))) pss_nil)
        (pss_one (ps_asg (pv 2) (pg_sub (pv 0) pe_int set_list)))))) pss_nil) d2), ?_⟩
    -- hand[3] = hand[3] + 1
    refine ⟨_, rfl, p, _, _, _, rfl, rfl, SqL.of h1, at_of (j := 3) rfl rfl, _, _, rfl, rfl, _, rfl, p, _, _, 3, rfl, rfl, h1, rfl, ?_⟩
    have g1 : upd H p (.lst (List.set [V.ref q, .int (i : Int), .int b, .int c, .int z] 3 (.int (c + 1)))) p = some (hl q i b (c + 1) z) := upd_same
    have g2 : upd H p (.lst (List.set [V.ref q, .int (i : Int), .int b, .int c, .int z] 3 (.int (c + 1)))) q = some (.lst (ns.map V.int)) := by rw [upd_ne hqp]; exact h2
    have e1 : Else p H (upd H p (.lst (List.set [V.ref q, .int (i : Int), .int b, .int c, .int z] 3 (.int (c + 1))))) := Else.put
    generalize upd H p (.lst (List.set [V.ref q, .int (i : Int), .int b, .int c, .int z] 3 (.int (c + 1)))) = H1 at g1 g2 e1
    -- hand[2] == 0
    refine ⟨_, rfl, p, _, _, _, rfl, rfl, SqL.of g1, at_of (j := 2) rfl rfl, rfl, _, rfl, ?_⟩
    refine ite2 (fun hb => ?_) (fun hb => iteF (k2 _ _ _ _ _ _ g1 e1))
    -- hand[1] < len(hand[0])
    refine ⟨_, rfl, p, _, _, _, rfl, rfl, SqL.of g1, at_of (j := 1) rfl rfl, _, rfl, p, _, _, _, rfl, rfl, SqL.of g1, at_of (j := 0) rfl rfl, q, _, rfl, .inl (SqL.of g2), _, _, rfl, rfl, _, rfl, ?_⟩
    refine ite2 (fun hi => ?_) (fun hi => k2 _ _ _ _ _ _ g1 e1)
    have hi' : (i : Int) < ((ns.map V.int).length : Int) := of_decide_eq_true hi
    rw [List.length_map] at hi'
    obtain ⟨n, hn⟩ : ∃ n, ns[i]? = some n := ⟨ns[i]'(by omega), List.getElem?_eq_getElem (by omega)⟩
    have hn' : (ns.map V.int)[i]? = some (V.int n) := by rw [List.getElem?_map, hn]; rfl
    -- cell = hand[0][hand[1]]; hand[1] = hand[1] + 1
    refine ⟨_, rfl, p, _, _, _, rfl, rfl, SqL.of g1, at_of (j := 0) rfl rfl, _, rfl, p, _, _, _, rfl, rfl, SqL.of g1, at_of (j := 1) rfl rfl, q, _, _, _, rfl, rfl, SqL.of g2, atI_nat hn', ?_⟩
    refine ⟨_, rfl, p, _, _, _, rfl, rfl, SqL.of g1, at_of (j := 1) rfl rfl, _, _, rfl, rfl, _, rfl, p, _, _, 1, rfl, rfl, g1, rfl, ?_⟩
    have f1 : upd H1 p (.lst (List.set [V.ref q, .int (i : Int), .int b, .int (c + 1), .int z] 1 (.int ((i : Int) + 1)))) p = some (hl q (i + 1) b (c + 1) z) := upd_same
    have f2 : upd H1 p (.lst (List.set [V.ref q, .int (i : Int), .int b, .int (c + 1), .int z] 1 (.int ((i : Int) + 1)))) q = some (.lst (ns.map V.int)) := by rw [upd_ne hqp]; exact g2
    have e2 : Else p H (upd H1 p (.lst (List.set [V.ref q, .int (i : Int), .int b, .int (c + 1), .int z] 1 (.int ((i : Int) + 1))))) := e1.trans Else.put
    generalize upd H1 p (.lst (List.set [V.ref q, .int (i : Int), .int b, .int (c + 1), .int z] 1 (.int ((i : Int) + 1)))) = H2 at f1 f2 e2
    -- cell < 10 ** 18
    refine ⟨_, rfl, _, _, rfl, rfl, ⟨by decide, by decide, by decide⟩, _, _, rfl, rfl, _, rfl, ?_⟩
    refine ite2 (fun hc => ?_) (fun hc => ?_)
    · refine ⟨_, rfl, _, rfl, p, _, _, _, rfl, rfl, SqL.of f1, at_of (j := 4) rfl rfl, _, _, rfl, rfl, _, rfl, p, _, _, _, rfl, rfl, SqL.of f1, at_of (j := 3) rfl rfl, _, _, rfl, fun r hr0 => ⟨_, _, rfl, rfl, ⟨by decide, by decide⟩, .inl ⟨_, rfl, _, rfl, _, _, rfl, rfl, m0, ?_⟩⟩⟩
      exact k _ _ (Int.emod_nonneg _ (by omega)) (Int.emod_lt_of_pos _ m0) ⟨⟨_, _, _, _, f1⟩, ns, f2, h3⟩ e2
    · refine ⟨_, rfl, _, rfl, p, _, _, 2, rfl, rfl, f1, rfl, ?_⟩
      exact k2 _ (i + 1) n (c + 1) z _ upd_same (e2.trans Else.put)
end
end Lw
namespace Lw
open PySem L2
abbrev sSame : Stmt := top 23
def Atom : V → Prop
  | .non => True
  | .bl _ => True
  | .int _ => True
  | .str _ => True
  | _ => False
/-- x and y hold the same data, n deep -/
def Eqv (H : Hp) : Nat → V → V → Prop
  | 0, x, y => x = y ∧ Atom x
  | n + 1, x, y => (x = y ∧ Atom x) ∨ ∃ (a b : Addr) (xs ys : List V), x = .ref a ∧ y = .ref b ∧ ((H a = some (.lst xs) ∧ H b = some (.lst ys)) ∨ (H a = some (.tup xs) ∧ H b = some (.tup ys))) ∧
      xs.length = ys.length ∧ xs.length ≤ 1000 ∧ ∀ (i : Nat) (u v : V), xs[i]? = some u → ys[i]? = some v → Eqv H n u v
theorem Eqv.atom {H : Hp} {x : V} (h : Atom x) : ∀ n, Eqv H n x x
  | 0 => ⟨rfl, h⟩
  | _ + 1 => .inl ⟨rfl, h⟩
theorem Eqv.same {H H' : Hp} (s : Same H H') : ∀ {n : Nat} {x y : V}, Eqv H n x y → Eqv H' n x y
  | 0, _, _, h => h
  | n + 1, x, y, h => by
    rcases h with h | ⟨a, b, xs, ys, e1, e2, h1, h2, h3, h4⟩
    · exact .inl h
    · refine .inr ⟨a, b, xs, ys, e1, e2, ?_, h2, h3, fun i u v p q => Eqv.same s (h4 i u v p q)⟩
      rcases h1 with ⟨p, q⟩ | ⟨p, q⟩
      · exact .inl ⟨s _ _ p, s _ _ q⟩
      · exact .inr ⟨s _ _ p, s _ _ q⟩
theorem Eqv.up {H : Hp} : ∀ {n : Nat} {x y : V}, Eqv H n x y → Eqv H (n + 1) x y
  | 0, _, _, h => .inl h
  | n + 1, x, y, h => by
    rcases h with h | ⟨a, b, xs, ys, e1, e2, h1, h2, h3, h4⟩
    · exact .inl h
    · exact .inr ⟨a, b, xs, ys, e1, e2, h1, h2, h3, fun i u v p q => (h4 i u v p q).up⟩
theorem isi_of {K : PySem.W.Frag} {H : Hp} {x : V} {n T : String} {b : Bool} {Q : VK} (ty : TyX K H x (.type n)) (h : kitB n T = some b) (q : Q (.bl b) H) : rIsi K [x, .ty T] H Q :=
  ⟨x, .ty T, .type n, .type T, b, rfl, .ty T, ty, kit_ty h, q⟩
def spSame (n : Nat) : Sp := fun vs H Q _ => ∃ x y : V, vs = [x, y] ∧ Eqv H n x y ∧ ∀ H', Same H H' → Q (.bl true) H'
section
variable {P : Program} {w : World} {K : PySem.W.Frag} {mg : Str → Option Value} {base : Heap}
theorem scSame : FnScope ["_law_actual", "_law_expected", "_law_key", "_law_k"] ["_law_actual", "_law_expected"] (defScope sSame) := ⟨rfl, rfl, rfl, by decide +kernel, rfl, by decide +kernel, by decide +kernel⟩
/-- one turn of _law_same's recursion -/
theorem ok_same_of {f : Addr} {fd : FuncData} (F : Fun K "_law_same" "_law_same" sSame f fd) (B : Bt mg) (b0 : Binds K fd ["_law_actual", "_law_expected"] []) (m0 : mg "_law_same" = some (.ref f)) (n : Nat)
    (G : ∀ m, n = m + 1 → FnOk P w K mg base CX0 n f fd ["_law_actual", "_law_expected"] (spSame m)) : FnOk P w K mg base CX0 (n + 1) f fd ["_law_actual", "_law_expected"] (spSame n) := by
  refine F.ok scSame (fun vs H Q E h => ?_) (fun cdv A outer s H vs Q E hr h => ?_)
  · obtain ⟨x, y, rfl, _⟩ := h
    rfl
  · obtain ⟨x, y, rfl, hE, k⟩ := h
    -- what is no atom
    obtain ⟨t5, d5, k5⟩ : ∃ t, PSs (cxOf CX0 P w K mg base ["_law_actual", "_law_expected", "_law_key", "_law_k"] "_law_same" (defScope sSame) f cdv A outer s H E).nox ((defBody sSame).drop 5) t ∧
        ∀ (m : Nat) (a b : Addr) (xs ys : List V), n = m + 1 → ((H a = some (.lst xs) ∧ H b = some (.lst ys)) ∨ (H a = some (.tup xs) ∧ H b = some (.tup ys))) →
          xs.length = ys.length → xs.length ≤ 1000 → (∀ (i : Nat) (u v : V), xs[i]? = some u → ys[i]? = some v → Eqv H m u v) → (x = .ref a ∧ y = .ref b) →
          t { nx := fun _ H' => Q .non H', rt := Q } [some (.ref a), some (.ref b), none, none] H := by
      cases n with
      | zero => exact ⟨_, pss_never, fun m _ _ _ _ e => nomatch e⟩
      | succ m =>
        have GS := G m rfl
        refine ⟨_, pss_cons (ps_if (pw_or (pt_cmpR op_ne (pe_callB call_isi (by rfl) B.isi (by decide +kernel) (pa_cons (pv 1) (pa_cons (pe_bltn (v := .ty "tuple") (by rfl) B.tuple (by decide +kernel) rfl) pa_nil)))
              (pe_callB call_isi (by rfl) B.isi (by decide +kernel) (pa_cons (pv 0) (pa_cons (pe_bltn (v := .ty "tuple") (by rfl) B.tuple (by decide +kernel) rfl) pa_nil))) (nomark _))
            (pw_or1 (pt_not (pt_val (pe_callB call_isiT (by rfl) B.isi (by decide +kernel) (pa_cons (pv 0) (pa_cons (pe_tup (pa_cons (pe_bltn (v := .ty "tuple") (by rfl) B.tuple (by decide +kernel) rfl) (pa_cons (pe_bltn (v := .ty "list") (by rfl) B.list (by decide +kernel) rfl) pa_nil))) pa_nil))))))).pt pss_never pss_nil)
          (pss_cons (ps_if (pt_cmpR op_ne (pe_callB call_len_seq (by rfl) B.len PySem.boot_len (pa_cons (pv 0) pa_nil)) (pe_callB call_len_seq (by rfl) B.len PySem.boot_len (pa_cons (pv 1) pa_nil)) (nomark _)) pss_never pss_nil)
          (pss_one (ps_ret (pe_cmpR op_eq (pe_callB call_len_seq (by rfl) B.len PySem.boot_len (pa_cons
            (pe_lc (own := [("_law_k", 3)]) (g := gName 3) (by rfl) scSame.nd (pi_range1 rfl B.range (pa_cons (pe_callB call_len_seq (by rfl) B.len PySem.boot_len (pa_cons (pv 1) pa_nil)) pa_nil))
              (blkOk_by (own := [("_law_k", 3)]) (N := ["_law_actual", "_law_expected", "_law_key", "_law_k"]) (sc := defScope sSame) (by decide +kernel)) (fun _ _ _ _ _ => pg_name (i := 3) scSame.nd rfl (Or.inl rfl))
              (fun _ _ _ _ _ => pts_one (pt_not (pt_val (pe_call GS hr rfl m0 F.kp b0 .nil pass0 (pa_cons (pe_ix (r := rIx K) ix_seq (pv 0) (pv 3) (fun _ _ => rfl)) (pa_cons (pe_ix (r := rIx K) ix_seq (pv 1) (pv 3) (fun _ _ => rfl)) pa_nil))))))
              (fun _ _ _ _ _ => pv 3)) pa_nil)) pe_int (nomark _))))), ?_⟩
        intro m' a b xs ys em hk hl hz hp hxy
        obtain rfl : m' = m := by omega
        -- both are of one kind
        obtain ⟨T, tx, ty, e1, e2⟩ : ∃ T : Bool, (∀ H', Same H H' → TyX K H' (.ref a) (.type (if T then "tuple" else "list"))) ∧ TyX K H (.ref b) (.type (if T then "tuple" else "list")) ∧ kitB (if T then "tuple" else "list") "tuple" = some T ∧
            ∀ H', Same H H' → (SqL K H' a xs ∧ SqL K H' b ys) ∨ (SqT K H' a xs ∧ SqT K H' b ys) := by
          rcases hk with ⟨p, q⟩ | ⟨p, q⟩
          · exact ⟨false, fun H' s => .base (.lst (s _ _ p)), .base (.lst q), by decide +kernel, fun H' s => .inl ⟨SqL.of (s _ _ p), SqL.of (s _ _ q)⟩⟩
          · exact ⟨true, fun H' s => .base (.tup (s _ _ p)), .base (.tup q), by decide +kernel, fun H' s => .inr ⟨SqT.of (s _ _ p), SqT.of (s _ _ q)⟩⟩
        have lenA : ∀ H', Same H H' → SqL K H' a xs ∨ SqT K H' a xs := fun H' s => (e2 H' s).elim (fun z => .inl z.1) fun z => .inr z.1
        have lenB : ∀ H', Same H H' → SqL K H' b ys ∨ SqT K H' b ys := fun H' s => (e2 H' s).elim (fun z => .inl z.2) fun z => .inr z.2
        have any : kitB (if T then "tuple" else "list") "list" = some (!T) := by cases T <;> decide +kernel
        refine ⟨_, rfl, _, _, _, _, T, rfl, .ty _, ty, kit_ty e1, _, rfl, _, _, _, _, T, rfl, .ty _, tx H (Same.refl H), kit_ty e1, rfl, _, rfl, ?_⟩
        rw [decide_eq_true (p := V.bl T = V.bl T) rfl]
        refine iteF ⟨_, rfl, (by show 2 ≤ sizeLine; decide), fun tp htp => ⟨_, tp, _, _, _, true, rfl, upd_same, .cons (.ty _) (.cons (.ty _) .nil), tx _ (same_new htp), kitAny_cons (kit_ty e1) (fun z => kitAny_cons (kit_ty any) (fun z' => by rw [z] at z'; cases z') (fun _ => rfl)) (fun _ => rfl), _, rfl, iteF ?_⟩⟩
        -- len(actual) != len(expected)
        refine ⟨_, rfl, a, xs, rfl, lenA _ (same_new htp), _, rfl, b, ys, rfl, lenB _ (same_new htp), rfl, _, rfl, iteNS (by rw [hl]) ?_⟩
        -- the comprehension's list stays empty
        refine ⟨_, rfl, b, ys, rfl, lenB _ (same_new htp), ys.length, rfl, (by omega), (by omega), fun D hD => ?_⟩
        have sD : Same H (upd (upd H tp (.tup [V.ty "tuple", V.ty "list"])) D (.lst [])) := (same_new htp).trans (same_new hD)
        refine lc_range (lo := 0) (n := ys.length) (fun i H' => Same (upd (upd H tp (.tup [V.ty "tuple", V.ty "list"])) D (.lst [])) H') (Same.refl _) ?_ ?_
        · intro i H' hi hs
          obtain ⟨u, hu⟩ : ∃ u, xs[i]? = some u := ⟨xs[i]'(by omega), List.getElem?_eq_getElem (by omega)⟩
          obtain ⟨v, hv⟩ : ∃ v, ys[i]? = some v := ⟨ys[i]'(by omega), List.getElem?_eq_getElem (by omega)⟩
          have s2 : Same H H' := sD.trans hs
          have ux : ∀ Q : VK, Q u H' → rIx K (.ref a) (.int (0 + (i : Int))) H' Q := fun Q q => by
            rcases e2 H' s2 with ⟨z, _⟩ | ⟨z, _⟩
            · exact .inl ⟨a, xs, _, u, rfl, rfl, z, at_of (Int.zero_add _) hu, q⟩
            · exact .inr (.inl ⟨a, xs, _, u, rfl, rfl, z, at_of (Int.zero_add _) hu, q⟩)
          have vx : ∀ Q : VK, Q v H' → rIx K (.ref b) (.int (0 + (i : Int))) H' Q := fun Q q => by
            rcases e2 H' s2 with ⟨_, z⟩ | ⟨_, z⟩
            · exact .inl ⟨b, ys, _, v, rfl, rfl, z, at_of (Int.zero_add _) hv, q⟩
            · exact .inr (.inl ⟨b, ys, _, v, rfl, rfl, z, at_of (Int.zero_add _) hv, q⟩)
          refine ⟨rfl, _, rfl, _, rfl, ux _ ⟨_, rfl, _, rfl, vx _ ⟨u, v, rfl, (hp i u v hu hv).same s2, fun H3 s3 => ⟨_, rfl, iteF (hs.trans s3)⟩⟩⟩⟩
        · intro H' hs
          refine ⟨D, [], rfl, .inl (SqL.of (hs _ _ upd_same)), rfl, ?_⟩
          exact k H' (sD.trans hs)
    refine ⟨_, pss_cons (ps_if (pt_cmp (pc_isN (pv 1))) (pss_one (ps_ret (pe_cmp (pc_isN (pv 0))))) pss_nil)
        (pss_cons (ps_if (pt_val (pe_callB call_isi (by rfl) B.isi (by decide +kernel) (pa_cons (pv 1) (pa_cons (pe_bltn (v := .ty "bool") (by rfl) B.bool (by decide +kernel) rfl) pa_nil))))
          (pss_one (ps_ret (pe_and (pe_callB call_isi (by rfl) B.isi (by decide +kernel) (pa_cons (pv 0) (pa_cons (pe_bltn (v := .ty "bool") (by rfl) B.bool (by decide +kernel) rfl) pa_nil))) (pe_one (pe_cmpR op_eq (pv 0) (pv 1) (nomark _)))))) pss_nil)
        (pss_cons (ps_if (pt_val (pe_callB call_isi (by rfl) B.isi (by decide +kernel) (pa_cons (pv 1) (pa_cons (pe_bltn (v := .ty "int") (by rfl) B.int (by decide +kernel) rfl) pa_nil))))
          (pss_one (ps_ret (pe_and (pe_callB call_isi (by rfl) B.isi (by decide +kernel) (pa_cons (pv 0) (pa_cons (pe_bltn (v := .ty "int") (by rfl) B.int (by decide +kernel) rfl) pa_nil)))
            (pe_and (pe_not (pe_callB call_isi (by rfl) B.isi (by decide +kernel) (pa_cons (pv 0) (pa_cons (pe_bltn (v := .ty "bool") (by rfl) B.bool (by decide +kernel) rfl) pa_nil)))) (pe_one (pe_cmpR op_eq (pv 0) (pv 1) (nomark _))))))) pss_nil)
        (pss_cons (ps_if (pt_val (pe_callB call_isi (by rfl) B.isi (by decide +kernel) (pa_cons (pv 1) (pa_cons (pe_bltn (v := .ty "str") (by rfl) B.str (by decide +kernel) rfl) pa_nil))))
          (pss_one (ps_ret (pe_and (pe_callB call_isi (by rfl) B.isi (by decide +kernel) (pa_cons (pv 0) (pa_cons (pe_bltn (v := .ty "str") (by rfl) B.str (by decide +kernel) rfl) pa_nil))) (pe_one (pe_cmpR op_eq (pv 0) (pv 1) (nomark _)))))) pss_nil)
        (pss_cons (ps_if (pt_val (pe_callB call_isi (by rfl) B.isi (by decide +kernel) (pa_cons (pv 1) (pa_cons (pe_bltn (v := .ty "dict") (by rfl) B.dict (by decide +kernel) rfl) pa_nil)))) pss_never pss_nil) d5)))), ?_⟩
    have cases : (x = y ∧ Atom x) ∨ ∃ (m : Nat) (a b : Addr) (xs ys : List V), n = m + 1 ∧ x = .ref a ∧ y = .ref b ∧ ((H a = some (.lst xs) ∧ H b = some (.lst ys)) ∨ (H a = some (.tup xs) ∧ H b = some (.tup ys))) ∧
          xs.length = ys.length ∧ xs.length ≤ 1000 ∧ ∀ (i : Nat) (u v : V), xs[i]? = some u → ys[i]? = some v → Eqv H m u v := by
      cases n with
      | zero => exact .inl hE
      | succ m =>
        rcases hE with z | ⟨a, b, xs, ys, z⟩
        · exact .inl z
        · exact .inr ⟨m, a, b, xs, ys, rfl, z⟩
    rcases cases with ⟨rfl, ha⟩ | ⟨m, a, b, xs, ys, em, rfl, rfl, hk, hl, hz, hp⟩
    · cases x with
      | non =>
        refine ⟨_, rfl, _, rfl, iteT ⟨_, rfl, ?_⟩⟩
        exact k H (Same.refl H)
      | bl c =>
        refine ⟨_, rfl, _, rfl, iteF ⟨_, rfl, _, _, _, _, true, rfl, .ty _, .base (.bl c), kit_ty (by decide +kernel), ⟨_, rfl, iteT ⟨_, rfl, _, _, _, _, true, rfl, .ty _, .base (.bl c), kit_ty (by decide +kernel), ⟨_, rfl, iteT ⟨_, rfl, _, rfl, rfl, ?_⟩⟩⟩⟩⟩⟩
        rw [decide_eq_true (p := V.bl c = V.bl c) rfl]
        exact k H (Same.refl H)
      | int c =>
        refine ⟨_, rfl, _, rfl, iteF ⟨_, rfl, _, _, _, _, false, rfl, .ty _, .base (.int c), kit_ty (by decide +kernel), ⟨_, rfl, iteF ⟨_, rfl, _, _, _, _, true, rfl, .ty _, .base (.int c), kit_ty (by decide +kernel), ⟨_, rfl, iteT ⟨_, rfl, _, _, _, _, true, rfl, .ty _, .base (.int c), kit_ty (by decide +kernel), ⟨_, rfl, iteT ⟨_, rfl, _, _, _, _, false, rfl, .ty _, .base (.int c), kit_ty (by decide +kernel), ⟨_, rfl, _, rfl, iteT ⟨_, rfl, _, rfl, rfl, ?_⟩⟩⟩⟩⟩⟩⟩⟩⟩⟩
        rw [decide_eq_true (p := V.int c = V.int c) rfl]
        exact k H (Same.refl H)
      | str c =>
        refine ⟨_, rfl, _, rfl, iteF ⟨_, rfl, _, _, _, _, false, rfl, .ty _, .base (.str c), kit_ty (by decide +kernel), ⟨_, rfl, iteF ⟨_, rfl, _, _, _, _, false, rfl, .ty _, .base (.str c), kit_ty (by decide +kernel), ⟨_, rfl, iteF ⟨_, rfl, _, _, _, _, true, rfl, .ty _, .base (.str c), kit_ty (by decide +kernel), ⟨_, rfl, iteT ⟨_, rfl, _, _, _, _, true, rfl, .ty _, .base (.str c), kit_ty (by decide +kernel), ⟨_, rfl, iteT ⟨_, rfl, _, rfl, rfl, ?_⟩⟩⟩⟩⟩⟩⟩⟩⟩⟩
        rw [decide_eq_true (p := V.str c = V.str c) rfl]
        exact k H (Same.refl H)
      | _ => exact ha.elim
    · have q := k5 m a b xs ys em hk hl hz hp ⟨rfl, rfl⟩
      rcases hk with ⟨p1, p2⟩ | ⟨p1, p2⟩
      · exact ⟨_, rfl, _, rfl, iteF ⟨_, rfl, _, _, _, _, false, rfl, .ty _, .base (.lst p2), kit_ty (by decide +kernel), _, rfl, iteF ⟨_, rfl, _, _, _, _, false, rfl, .ty _, .base (.lst p2), kit_ty (by decide +kernel), _, rfl, iteF ⟨_, rfl, _, _, _, _, false, rfl, .ty _, .base (.lst p2), kit_ty (by decide +kernel), _, rfl, iteF ⟨_, rfl, _, _, _, _, false, rfl, .ty _, .base (.lst p2), kit_ty (by decide +kernel), _, rfl, iteF q⟩⟩⟩⟩⟩
      · exact ⟨_, rfl, _, rfl, iteF ⟨_, rfl, _, _, _, _, false, rfl, .ty _, .base (.tup p2), kit_ty (by decide +kernel), _, rfl, iteF ⟨_, rfl, _, _, _, _, false, rfl, .ty _, .base (.tup p2), kit_ty (by decide +kernel), _, rfl, iteF ⟨_, rfl, _, _, _, _, false, rfl, .ty _, .base (.tup p2), kit_ty (by decide +kernel), _, rfl, iteF ⟨_, rfl, _, _, _, _, false, rfl, .ty _, .base (.tup p2), kit_ty (by decide +kernel), _, rfl, iteF q⟩⟩⟩⟩⟩
theorem ok_same {f : Addr} {fd : FuncData} (F : Fun K "_law_same" "_law_same" sSame f fd) (B : Bt mg) (b0 : Binds K fd ["_law_actual", "_law_expected"] []) (m0 : mg "_law_same" = some (.ref f)) :
    ∀ n : Nat, FnOk P w K mg base CX0 (n + 1) f fd ["_law_actual", "_law_expected"] (spSame n) := by
  intro n
  induction n with
  | zero => exact ok_same_of F B b0 m0 0 fun m e => nomatch e
  | succ n ih =>
    refine ok_same_of F B b0 m0 (n + 1) fun m e => ?_
    obtain rfl : n = m := by omega
    exact ih
end
end Lw
/-! exceptions of the program's own classes, held as values: made (by position, by keywords, without arguments), their attributes read, asked by isinstance -/
namespace Xv
open PySem PySem.Spec PySem.W PySem.Calls L2
section
open Builtin Builtin.ObjectAttr
variable {M : Model} {prog : Program} {w : World} {A : Around} {E : Value → Shared → Prop} {R : Result → Shared → Prop} {hp : Heap} {gs : Array GenState} {dr : Drawn} {tk : Nat} {os : OsState}
variable {nm q : Str} {C N : Addr} {bs bm bmB : List Value} {hdct : Bool} {sn : List Str} {sub : List Value} {ab : Bool} {col : Option Bool} {dd : Option Addr} {k0 k1 k2 k3 k5 : Option Value} {B newId initId : String}
theorem chk_new (F : ExcBaseFacts B newId initId bmB) (hT : ∀ Y : String, bm.contains (.type Y) = bmB.contains (.type Y)) {ar : List Value} {kw : List (Str × Value)} {Q : Unit → Shared → Prop}
    (hC : hp.get? C = some (excClassObj nm q C N bs bm hdct sn sub ab col dd k0 k1 k2 k3 k5 newId)) (z : Q () ⟨hp, gs, dr, tk, os⟩) :
    wpAny M A (checkBuiltinCall newId ⟨.ref C :: ar, kw⟩) Q E ⟨hp, gs, dr, tk, os⟩ := by
  have inB : (Value.ref C :: bm).contains (.type B) = true := by (rw [List.contains_cons, hT, F.hasB]; exact Bool.or_true _)
  have st := F.noStar
  simp only [F.newKind, F.newSplit, F.newRow, checkBuiltinCall]
  repeat (first | (refine wpAny_isSubtype_exc hC ?_; rw [inB]) | refine wpAny_loadPart_at hC ?_ | refine wpAny_madeBy_exc hC ?_ | refine wpAny_staticBase_exc hC ?_ | simp only [Bool.false_eq_true, bne_self_eq_false, if_false] | wp_step)
  exact z
theorem do_new (F : ExcBaseFacts B newId initId bmB) (hT : ∀ Y : String, bm.contains (.type Y) = bmB.contains (.type Y)) {ar : List Value} {kw : List (Str × Value)}
    (hC : hp.get? C = some (excClassObj nm q C N bs bm hdct sn sub ab col dd k0 k1 k2 k3 k5 newId)) (few : ar.length ≤ sizeLine)
    (z : R (.ok (.ret (.ref (hp.objs.size + 1)))) ⟨(hp.push (W.kdv_tup ar)).push (HandSPX.excO C hp.objs.size), gs, dr, tk, os⟩) :
    codeAny (model prog w) A (.builtin newId ⟨.ref C :: ar, kw⟩) R ⟨hp, gs, dr, tk, os⟩ := by
  have he := F.ends
  have inB : (Value.ref C :: bm).contains (.type B) = true := by (rw [List.contains_cons, hT, F.hasB]; exact Bool.or_true _)
  have inA : (Value.ref C :: bm).contains (.type "AttributeError") = false := by (rw [List.contains_cons, hT, F.noAttr]; exact rfl)
  have inN : (Value.ref C :: bm).contains (.type "NameError") = false := by (rw [List.contains_cons, hT, F.noName]; exact rfl)
  refine codeAny_builtinAt F.entry ?_
  unfold Builtin.«BaseException.__new__»
  refine wpAt_bind (show PySem.wpAt _ _ _ (stack >>= _) _ _ _ from wpAt_bind (wpAt_stack fun pp bb => wpAt_of_wpAny ?_))
  wp_walk
  refine wpAt_of_wpAny ?_
  rw [F.owner]
  repeat (first | (with_reducible refine wpAny_isSubtype_exc hC ?_; first | rw [inA] | rw [inN] | rw [inB]) | with_reducible refine wpAny_loadPart_at hC ?_ | with_reducible refine wpAny_madeHere_exc F.canon hC ?_ | wp_step)
  show R _ _
  rw [Heap.size_push]
  exact z
theorem do_type (F : ExcBaseFacts B newId initId bmB) (hT : ∀ Y : String, bm.contains (.type Y) = bmB.contains (.type Y)) {ar : List Value} {kw : List (Str × Value)} {fI : Addr} {Q : Fin → Shared → Prop}
    (hC : hp.get? C = some (excClassObj nm q C N bs bm hdct sn sub ab col dd k0 k1 k2 k3 k5 newId)) (few : ar.length ≤ sizeLine)
    (li : W.Looks (model prog w) hp (typeLookup (.ref C) "__init__") (some (.ref fI))) (lb : ∀ me, W.Looks (model prog w) hp (bindSpecial (.ref fI) me) (.ref fI, [me]))
    (z : codeAny (model prog w) A (.call (.ref fI) ⟨.ref (hp.objs.size + 1) :: ar, kw⟩)
      (fun r s' => match r with | .ok (.ret v) => v = .none ∧ Q (.done (.ret (.ref (hp.objs.size + 1)))) s' | .ok _ => False | .error e => E e s') ⟨(hp.push (W.kdv_tup ar)).push (HandSPX.excO C hp.objs.size), gs, dr, tk, os⟩) :
    wpAny (model prog w) A (Builtin.«type.__call__» ⟨.ref C :: ar, kw⟩) Q E ⟨hp, gs, dr, tk, os⟩ := by
  repeat (first | with_reducible refine wpAny_madeBy_exc hC ?_ | with_reducible refine wpAny_loadPart_at hC ?_ | wp_step)
  refine codeAny_call_builtin_code (Code.quiet_builtin _ F.quiet) (chk_new F hT hC (do_new F hT hC few ?_))
  show wpAny _ _ _ _ _ _
  have kp : ∀ b o, hp.get? b = some o → ((hp.push (W.kdv_tup ar)).push (HandSPX.excO C hp.objs.size)).get? b = some o := fun b o y => Heap.get?_push_of_some _ (Heap.get?_push_of_some _ y)
  have atC := kp _ _ hC
  have atE : ((hp.push (W.kdv_tup ar)).push (HandSPX.excO C hp.objs.size)).get? (hp.objs.size + 1) = some (HandSPX.excO C hp.objs.size) := by (heap_get)
  have own : (Value.ref C :: bm).contains (.ref C) = true := by (simp)
  have l1 := li.keeps kp
  have l2 := (lb (.ref (hp.objs.size + 1))).keeps kp
  unfold isInstance
  repeat (first | (with_reducible refine wpAny_isSubtype_exc atC ?_; rw [own]) | with_reducible refine wpAny_loadPart_at atE ?_ | wp_step)
  refine (show wpAny _ _ (typeLookup (.ref C) _) _ _ _ from l1.at (wpAny_holding (wpAny_bind (l2.at ?_))))
  refine wpAny_bind (wpAny_call (codeAny_mono z fun r s' y => ?_))
  cases r with
  | error e => exact y
  | ok fl =>
    cases fl with
    | ret v =>
      obtain ⟨rfl, y⟩ := y
      first
        | exact wpAny_pure (wpAny_pure y)
        | (wp_walk; exact y)
    | next => exact y.elim
    | brk => exact y.elim
    | cont => exact y.elim
theorem do_call (F : ExcBaseFacts B newId initId bmB) (hT : ∀ Y : String, bm.contains (.type Y) = bmB.contains (.type Y)) {ar : List Value} {kw : List (Str × Value)} {fI : Addr}
    (hC : hp.get? C = some (excClassObj nm q C N bs bm hdct sn sub ab col dd k0 k1 k2 k3 k5 newId)) (few : ar.length ≤ sizeLine)
    (li : W.Looks (model prog w) hp (typeLookup (.ref C) "__init__") (some (.ref fI))) (lb : ∀ me, W.Looks (model prog w) hp (bindSpecial (.ref fI) me) (.ref fI, [me]))
    (z : codeAny (model prog w) (A.under (.builtin "type.__call__" ⟨.ref C :: ar, kw⟩)) (.call (.ref fI) ⟨.ref (hp.objs.size + 1) :: ar, kw⟩) (W.InitBack (hp.objs.size + 1) R)
      ⟨(hp.push (W.kdv_tup ar)).push (HandSPX.excO C hp.objs.size), gs, dr, tk, os⟩) :
    codeAny (model prog w) A (.call (.ref C) ⟨ar, kw⟩) R ⟨hp, gs, dr, tk, os⟩ := by
  have e1 := tc_lookup
  have e2 := tc_bind (.ref C)
  have e3 := tc_sub
  have ty : (⟨hp, gs, dr, tk, os⟩ : Shared).TypeIs (.ref C) "type" := ⟨_, hC, rfl⟩
  refine codeAny_of_tree (show wpAny _ _ (callAny (.ref C) _) _ _ _ from ?_)
  repeat (any_goals (first | with_reducible refine wpAny_loadPart_at hC ?_ | assumption | wp_step))
  refine ⟨rfl, ?_⟩
  have chk : ∀ {Q : Unit → Shared → Prop} {A' : Around} {E' : Value → Shared → Prop}, Q () ⟨hp, gs, dr, tk, os⟩ → wpAny (model prog w) A' (checkBuiltinCall "type.__call__" ⟨.ref C :: ar, kw⟩) Q E' ⟨hp, gs, dr, tk, os⟩ := fun {Q A' E'} hq => by
    simp only [tc_split, tc_kind, checkBuiltinCall]
    repeat (any_goals (first | with_reducible refine wpAny_onRaise ?_ | with_reducible refine wpAny_map ?_ | with_reducible refine wpAny_loadPart_at hC ?_ | assumption | wp_step))
  refine codeAny_call_builtin_at (Code.quiet_builtin _ (by decide +kernel)) entry_typeCall (chk (do_type F hT hC few li lb ?_))
  refine codeAny_mono z fun r s' y => ?_
  rcases r with e | (v | _ | _ | _) <;> (exact y)
end
end Xv
namespace Xv
open PySem PySem.Spec PyProof.Rows L2
/-- an exception of the class at C stands at a, with its dict or without -/
def XAt (H : Hp) (a C : Addr) : Prop := H a = some (exo a C none) ∨ ∃ (d : Addr) (fs : List (Str × V)), H a = some (exo a C (some d)) ∧ H d = some (exd d fs)
theorem XAt.same {H H' : Hp} {a C : Addr} (h : XAt H a C) (s : Same H H') : XAt H' a C := by
  rcases h with h | ⟨d, fs, h1, h2⟩
  · exact .inl (s _ _ h)
  · exact .inr ⟨d, fs, s _ _ h1, s _ _ h2⟩
section
variable {X : Cx} {k : Nat} {fI C : Addr} {fd : FuncData} {ps ks : List Str} {sp : Sp} {x f : Str} {p pos : Pos} {e : Expr} {es : List Expr} {kws : List Keyword} {te : TE} {t tk : TA}
/-- what the class at C is asked for when it makes an exception -/
structure XMk (K : PySem.W.Frag) (C fI : Addr) : Prop where
  T : OexC K C
  iC : PySem.W.findIn K (.ref C) "__init__" = some (some (.ref fI))
  tI : PySem.W.typeIn K (.ref fI) = some (.type "function")
theorem run_x {pins : List (Addr × Obj)} {σ : L2.St} {H : Hp} {s : Shared} {Q : VK} {us bound : List Value} {kw : List (Str × Value)} {vs : List V} (M : XMk X.K C fI) (F : FnOk X.prog X.w X.K X.mg X.base CX0 k fI fd ps sp) (hr : Room (k + 1) X.A)
    (I : Inv X pins σ H s) (few : us.length ≤ sizeLine) (hb : ∀ (s' : Shared) (a : Addr), X.K.In s'.heap → BindsTo s' fd ⟨.ref a :: us, kw⟩ (ps.zip (.ref a :: bound))) (r : Vals vs bound)
    (h : ∀ a, H a = none → sp (.ref a :: vs) (upd H a (exo a C none)) (fun v H2 => v = .non ∧ Q (.ref a) H2) E0) : wpAny (model X.prog X.w) X.A (call (.ref C) us kw) (EP X pins σ Q) X.xe s := by
  obtain ⟨nm, q, N, bs, bm, sn, sub, ab, col, dd, k0, k1, k2, k3, k5, hC, hbm⟩ := M.T.cls
  obtain ⟨hp, gs, dr, tk, os⟩ := s
  have up : hp.objs.size ≤ hp.objs.size + 1 := Nat.le_succ _
  have new : H (hp.objs.size + 1) = none := I.hok.fresh up
  have hq := h (hp.objs.size + 1) new
  have kk : ∀ b o, hp.get? b = some o → ((hp.push (PySem.W.kdv_tup us)).push (PySem.HandSPX.excO C hp.objs.size)).get? b = some o := fun b o y => Heap.get?_push_of_some _ (Heap.get?_push_of_some _ y)
  have atE : ((hp.push (PySem.W.kdv_tup us)).push (PySem.HandSPX.excO C hp.objs.size)).get? (hp.objs.size + 1) = some (PySem.HandSPX.excO C hp.objs.size) := by (heap_get)
  have I2 : Inv X pins σ (upd H (hp.objs.size + 1) (exo (hp.objs.size + 1) C none)) ⟨(hp.push (PySem.W.kdv_tup us)).push (PySem.HandSPX.excO C hp.objs.size), gs, dr, tk, os⟩ :=
    I.laid (t' := tk) (a := hp.objs.size + 1) (o := exo (hp.objs.size + 1) C none) (h' := (hp.push (PySem.W.kdv_tup us)).push (PySem.HandSPX.excO C hp.objs.size)) kk up (exo_ok atE)
  have r2 : Vals (V.ref (hp.objs.size + 1) :: vs) (Value.ref (hp.objs.size + 1) :: bound) := .cons rfl r
  refine wpAny_call (do_call PySem.F.excBase_ValueError (fun Y => PySem.HandSPX.refsVE_contains Y bm hbm) (I.kIn _ _ hC) few (PySem.W.looks_findIn I.kIn M.iC) (fun me => PySem.W.bind_fn I.kIn me M.tI)
    (codeAny_mono (F.run _ X.stack _ _ ⟨Value.ref (hp.objs.size + 1) :: us, kw⟩ (Value.ref (hp.objs.size + 1) :: bound) _ _ E0 (hr.make C us kw) (I2.env0.make C us kw) (hb _ _ I2.kIn) r2 hq) fun r s' y => ?_))
  cases r with
  | error er => exact pass0 (X := X) pins σ _ _ er s' I2 y
  | ok fl =>
    cases fl with
    | ret u =>
      obtain ⟨v, H', I3, rv, ev, q3⟩ := I2.after y
      subst ev
      exact ⟨rv, ⟨V.ref (hp.objs.size + 1), H', I3, rfl, q3⟩⟩
    | next => exact y.elim
    | brk => exact y.elim
    | cont => exact y.elim
/-- C(e, ..) -/
def tX (C : Addr) (sp : Sp) (t : TA) : TE := fun σ H Q => t σ H fun vs H1 => vs.length ≤ 1000 ∧ ∀ a, H1 a = none → sp (.ref a :: vs) (upd H1 a (exo a C none)) (fun v H2 => v = .non ∧ Q (.ref a) H2) E0
theorem pe_x (M : XMk X.K C fI) (F : FnOk X.prog X.w X.K X.mg X.base CX0 k fI fd ps sp) (hr : Room (k + 1) X.A) (hb : Binds X.K fd ps []) (hg : Gl X x) (hm : X.mg x = some (.ref C)) (ha : PA X (e :: es) t)
    (hdb : (x == ("__debug__" : Str)) = false := by decide) (hs : starEach (e :: es) X.env = (false, eval e X.env) :: starEach es X.env := by rfl) (hp : (backTo pos (starEach es X.env)).any (·.1) = false := by rfl) :
    PE X (.Call (.Name x p) (e :: es) [] pos) (tX C sp t) := by
  refine ⟨fun pins s σ H Q I h => ?_⟩
  refine wpAny_Call_Name_kw (ld_glob I hg hm (PySem.W.callWith_K (h₀ := X.base) I.ok.mod.kin M.T.kC (thn (ha.run pos pins s σ H _ I h) fun us s1 ⟨vs, H1, I1, r1, hz, q1⟩ => ⟨I1.kIn, ?_⟩) hs hp) hdb)
  have lu := Paired.length r1
  refine run_x (us := us) (kw := []) M F hr I1 (by rw [← lu, sizeLine_eq]; omega) (fun s' a hk => ?_) r1 q1
  have n0 : H1 (s1.heap.objs.size + 1) = none := I1.hok.fresh (Nat.le_succ _)
  have l1 := F.len _ _ _ _ (q1 _ n0)
  have b := hb s' (.ref a :: us) hk (by rw [List.append_nil, List.length_cons, ← lu]; exact l1)
  rw [List.append_nil] at b
  exact b
/-- C(k = e, ..), g what the keywords' values are by place -/
def tXk (C : Addr) (n : Nat) (sp : Sp) (gV : List V → List V) (t : TA) : TE := fun σ H Q => t σ H fun vs H1 => vs.length = n ∧ ∀ a, H1 a = none → sp (.ref a :: gV vs) (upd H1 a (exo a C none)) (fun v H2 => v = .non ∧ Q (.ref a) H2) E0
theorem pe_xk {g : List Value → List Value} {gV : List V → List V} (M : XMk X.K C fI) (F : FnOk X.prog X.w X.K X.mg X.base CX0 k fI fd ps sp) (hr : Room (k + 1) X.A)
    (hb : ∀ (s' : Shared) (a : Addr) (ws : List Value), X.K.In s'.heap → ws.length = ks.length → BindsTo s' fd ⟨[.ref a], ks.zip ws⟩ (ps.zip (.ref a :: g ws))) (hrel : ∀ {zs : List V} {ws : List Value}, Vals zs ws → Vals (gV zs) (g ws))
    (hg : Gl X x) (hm : X.mg x = some (.ref C)) (hkw : PK X kws tk) (hall : (backToKw pos (keywordEach kws X.env)).all (·.1.isSome) = true := by rfl) (hks : (backToKw pos (keywordEach kws X.env)).filterMap (·.1) = ks := by rfl)
    (hdb : (x == ("__debug__" : Str)) = false := by decide) (hp : ((backTo pos (starEach [] X.env)).any (·.1) || (backToKw pos (keywordEach kws X.env)).any (·.1.isNone)) = false := by rfl) :
    PE X (.Call (.Name x p) [] kws pos) (tXk C ks.length sp gV tk) := by
  refine ⟨fun pins s σ H Q I h => ?_⟩
  refine wpAny_Call_Name_kw (ld_glob I hg hm (PySem.W.callWith_KW0 (h₀ := X.base) I.ok.mod.kin M.T.kC hall (thn (hkw.run pos pins s σ H _ I h) fun ws s1 ⟨zs, H1, I1, r1, hz, q1⟩ => ⟨I1.kIn, ?_⟩) hp) hdb)
  rw [hks]
  exact run_x (us := []) (kw := ks.zip ws) M F hr I1 (Nat.zero_le _) (fun s' a hk => hb s' a ws hk ((Paired.length r1).symm.trans hz)) (hrel r1) q1
/-- C(), C without an own __init__ -/
def tX0 (C : Addr) : TE := fun _ H Q => ∀ a, H a = none → Q (.ref a) (upd H a (exo a C none))
theorem pe_x0 {bmB : List Value} {B newId initId : String} (F : ExcBaseFacts B newId initId bmB) (q : PySem.W.excIn X.K C bmB newId = true) (gC : X.mg x = some (.ref C)) (kC : PySem.W.keepIn X.K (.ref C) = true) (hg : Gl X x)
    (hdb : (x == ("__debug__" : Str)) = false := by decide) : PE X (.Call (.Name x p) [] [] pos) (tX0 C) := by
  refine ⟨fun pins s σ H Q I h => ?_⟩
  refine wpAny_Call_Name_kw (ld_glob I hg gC (PySem.W.callWith_K0 I.kIn kC ?_) hdb)
  obtain ⟨bm, N, nm, qn, bs, hdct, sn, sub, ab, col, dd, k0, k1, k2, k3, k5, mN, hC, hN, hni, T⟩ := exc_obj I.kIn q
  refine wpAny_call_exc_subT F T hC hN hni (fun h' a m => ?_) (Nat.zero_le _)
  have hn : H a = none := I.hok.gone m.new
  obtain ⟨t, ht, _, _⟩ := m.there
  exact ⟨.ref a, upd H a (exo a C none), I.laidN m.keeps m.new hn (exo_ok ht), rfl, h a hn⟩
/-- e.f of such an exception -/
def tXf (C : Addr) (f : Str) (te : TE) : TE := fun σ H Q => te σ H fun x H1 => ∃ (a d : Addr) (fs : List (Str × V)) (v : V), x = .ref a ∧ H1 a = some (exo a C (some d)) ∧ H1 d = some (exd d fs) ∧ fs.lookup f = some v ∧ Q v H1
theorem pe_xfield (T : XfC X.K C) (hno : PySem.W.findIn X.K (.ref C) f = some none) (he : PE X e te) (hb : attributeBase e f X.env (eval e X.env) = eval e X.env := by rfl) : PE X (.Attribute e f pos) (tXf C f te) := by
  refine ⟨fun pins s σ H Q I h => attr_of hb (thn (he.run pins s σ H _ I h) fun u s1 hh => ?_)⟩
  obtain ⟨y, H1, I1, ry, a, d, fs, v, rfl, ea, ed, l, q⟩ := hh
  obtain rfl : u = Value.ref a := ry
  obtain ⟨t1, ha⟩ := exo_at I1.hok ea
  obtain ⟨mA, hns, rel⟩ := exd_at I1.hok ed
  obtain ⟨od, ho, hl⟩ := lookIn_ns hns
  obtain ⟨z, hz, rz⟩ := RelO.some_of (v := v) (o := mA f) (by (rw [← l]; exact rel f))
  have J : PySem.W.InstAt s1.heap a { cls := .ref C, dict := some d, data := .fields #[.ref t1, .none, .none, .none, .bool false, .none] } C (some od) := ⟨ha, rfl, rfl, ho⟩
  exact HandSPX.exc_get I1.kIn J T.ga T.gg T.exC (PySem.W.findObj_own T.hdC hno rfl (by (rw [hl, hz]))) (handed_of rz) ⟨v, H1, I1.tok _, rz, q⟩
/-- isinstance(e, c) of such an exception -/
def rIsX (K : PySem.W.Frag) : List V → Hp → VK → Prop := fun xs H Q => ∃ (a C : Addr) (c : V) (cv : Value) (b : Bool), xs = [.ref a, c] ∧ XAt H a C ∧ ExcC K C ∧ ClsV c cv ∧ PySem.W.kitOne K (.ref C) cv = some b ∧ Q (.bl b) H
theorem call_isX : CallR X (.builtin "isinstance") (rIsX X.K) := by
  intro pins s σ H xs us Q I r h
  obtain ⟨a, C, c, cv, b, rfl, hx, T, hc, e, q⟩ := h
  obtain ⟨u1, u2, rfl, r1, r2⟩ := vals2 r
  obtain rfl := hc.eq r2
  cases (show u1 = Value.ref a from r1)
  have hcl : (PySem.W.clsIn X.K C).isSome = true := by
    obtain ⟨cd, hcd, _⟩ := PySem.W.any_some T.hd
    rw [hcd]
    rfl
  rcases hx with ea | ⟨d, fs, ea, ed⟩
  · obtain ⟨t1, ha⟩ := exo_at I.hok ea
    have J : PySem.W.InstAt s.heap a { cls := .ref C, dict := none, data := .fields #[.ref t1, .none, .none, .none, .bool false, .none] } C none := ⟨ha, rfl, rfl, trivial⟩
    exact PySem.W.kia_one (PySem.W.kitx_exc hcl T.hg T.hk T.hs T.ha T.hn T.ht T.hm) I.kIn J e (fun z => nomatch z) fun tk => ⟨.bl b, H, I.kept (t' := tk) fun _ _ z => z, rfl, q⟩
  · obtain ⟨t1, ha⟩ := exo_at I.hok ea
    obtain ⟨mA, hns, rel⟩ := exd_at I.hok ed
    obtain ⟨od, ho, hl⟩ := lookIn_ns hns
    have J : PySem.W.InstAt s.heap a { cls := .ref C, dict := some d, data := .fields #[.ref t1, .none, .none, .none, .bool false, .none] } C (some od) := ⟨ha, rfl, rfl, ho⟩
    exact PySem.W.kia_one (PySem.W.kitx_exc hcl T.hg T.hk T.hs T.ha T.hn T.ht T.hm) I.kIn J e (fun z => nomatch z) fun tk => ⟨.bl b, H, I.kept (t' := tk) fun _ _ z => z, rfl, q⟩
end
end Xv
/-! the head: the defs by names, and one Bool of what else is asked of the written part -/
namespace Lh
open PySem PySem.Spec PyProof.Rows L2
abbrev AlB : Type := He.AlD × Bool
def obsB (n : Nat) (fn : List He.DefD) (ex : PySem.W.Frag → Bool) (g : Addr → Option Obj) : AlB := (He.obsD [] fn (He.frG g (He.asD g n)), ex (He.frG g (He.asD g n)))
def hookB (n : Nat) (fn : List He.DefD) (ex : PySem.W.Frag → Bool) : PySem.W.Hook where
  α := AlB
  obs := fun s => obsB n fn ex s.heap.get?
  val := fun _ => (He.valD fn, true)
  says := fun _ h => ∃ K : PySem.W.Frag, K.In h ∧ He.SaysD [] fn K ∧ ex K = true
  of := fun _ _ e => ⟨_, He.frG_in, congrArg Prod.fst e, congrArg Prod.snd e⟩
  keeps := fun _ _ _ ⟨K, hK, c⟩ k => ⟨K, PySem.W.Frag.In.keeps hK k, c⟩
theorem obsB_eq {n : Nat} {fn : List He.DefD} {ex : PySem.W.Frag → Bool} {g : Addr → Option Obj} {s : Shared} (h : ∀ a, g a = s.heap.get? a) : obsB n fn ex g = (hookB n fn ex).obs s := by
  have e : g = s.heap.get? := funext h
  rw [e]
  rfl
theorem fun_of {K : PySem.W.Frag} {x q : Str} {st : Stmt} {f : Addr} {fd : FuncData} (F : FunD K x q (defArgs st) (defBody st) (defScope st) [] [] f fd) : Fun K x q st f fd := by
  obtain ⟨oc, od, dV, kV, doc, pm, an, cdv, ct, osl, e, lk, hcd, hD, _⟩ := F.ex
  rcases hD with ⟨_, rfl⟩ | ⟨z, _⟩
  · exact ⟨⟨oc, od, kV, doc, pm, an, cdv, ct, osl, e, lk, hcd⟩, F.kp⟩
  · exact absurd rfl z
def gloB (K : PySem.W.Frag) (x : Str) : Bool := He.eqO (PySem.W.nsIn K mainGlobals x) (some (some (.ref (He.ga K x))))
def freeB (K : PySem.W.Frag) (x : Str) : Bool := He.eqO (PySem.W.nsIn K mainGlobals x) (some none)
theorem mg_glo {K : PySem.W.Frag} {h : Heap} {mg : Str → Option Value} (X : K.In h) (G : h.Ns mainGlobals mg) {x : Str} (c : gloB K x = true) : mg x = some (.ref (He.ga K x)) := PySem.W.mg_of X G (He.eqO_ok c)
theorem mg_free {K : PySem.W.Frag} {h : Heap} {mg : Str → Option Value} (X : K.In h) (G : h.Ns mainGlobals mg) {x : Str} (c : freeB K x = true) : mg x = none := PySem.W.mg_none_of X G (He.eqO_ok c)
def dd (at_ : Str × Option Str) (name qual : Str) (st : Stmt) : He.DefD := ⟨at_, name, qual, defArgs st, defBody st, defScope st, [], []⟩
/-- the promise of a law -/
def spLaw (K : PySem.W.Frag) : Sp := fun vs H Q _ => ∃ (a : Addr) (ns : List Int), vs = [.ref a] ∧ SqL K H a (ns.map V.int) ∧ ns.length ≤ 63 ∧ ∀ H', Q (.bl true) H'
def btNames : List Str := ["len", "int", "list", "range", "isinstance", "str", "bool", "tuple", "dict"]
theorem bt_of {K : PySem.W.Frag} {h : Heap} {mg : Str → Option Value} (X : K.In h) (G : h.Ns mainGlobals mg) (c : btNames.all (freeB K) = true) : Lw.Bt mg := by
  have q : ∀ x ∈ btNames, mg x = none := fun x hx => mg_free X G (List.all_eq_true.mp c x hx)
  exact ⟨q _ (by decide +kernel), q _ (by decide +kernel), q _ (by decide +kernel), q _ (by decide +kernel), q _ (by decide +kernel), q _ (by decide +kernel), q _ (by decide +kernel), q _ (by decide +kernel), q _ (by decide +kernel)⟩
end Lh
/-! operators that an own class defines (in, ==, len), enumerate over a tuple -/
namespace Ow
open PySem PySem.Spec PyProof.Rows L2
section
variable {X : Cx} {k : Nat} {f C : Addr} {fd : FuncData} {ps : List Str} {sp : Sp}
/-- a method that an operator looks up, and its promise -/
structure OM (X : Cx) (k : Nat) (C : Addr) (m : Str) (f : Addr) (fd : FuncData) (ps : List Str) (sp : Sp) : Prop where
  at_ : PySem.W.findIn X.K (.ref C) m = some (some (.ref f))
  fn : PySem.W.isFn X.K (.ref f) = true
  F : FnOk X.prog X.w X.K X.mg X.base CX0 k f fd ps sp
  b : Binds X.K fd ps []
theorem op_inO (M : OM X k C "__contains__" f fd ps sp) (hr : Room k X.A) :
    OpR X (compareOp .In) (fun x y H Q => ∃ (a dx : Addr) (fs : List (Str × V)), y = .ref a ∧ H a = some (.ins C dx fs) ∧ sp [.ref a, x] H (fun v H' => ∃ b, v = .bl b ∧ Q (.bl b) H') E0) := by
  intro pins s σ H x y v u Q I rx ry h
  obtain ⟨a, dx, fs, rfl, ha, q⟩ := h
  cases ry
  obtain ⟨mA, O, _⟩ := ins_get I.hok ha
  obtain ⟨od, J, _⟩ := O.look
  obtain ⟨m, hF⟩ := I.fr
  refine PySem.W.in_K hF I.ok.mod.kin J M.at_ M.fn (thn (run_fn (us := [.ref a, v]) (vs := [.ref a, x]) (dvs := []) (ds := []) M.F hr M.b .nil pass0 I (.cons rfl (.cons rx .nil)) q) fun r s' z => ?_)
  obtain ⟨z, H', I', rz, b, rfl, q'⟩ := z
  cases rz
  exact wpAny_truthy_bool ⟨.bl b, H', I', rfl, q'⟩
/-- x == y, x an instance of C, y of the same class or of a type that is known -/
theorem op_eqO (M : OM X k C "__eq__" f fd ps sp) (hr : Room k X.A) :
    OpR X (compareOp .Eq) (fun x y H Q => ∃ (a dx : Addr) (fs : List (Str × V)), x = .ref a ∧ H a = some (.ins C dx fs) ∧ ((∃ (a' dx' : Addr) (fs' : List (Str × V)), y = .ref a' ∧ H a' = some (.ins C dx' fs')) ∨ ∃ T, TyX X.K H y (.type T) ∧ PySem.W.notFirst X.K C (.type T) = true) ∧
      sp [.ref a, y] H (fun v H' => ∃ b, v = .bl b ∧ Q (.bl b) H') E0) := by
  intro pins s σ H x y v u Q I rx ry h
  obtain ⟨a, dx, fs, rfl, ha, hy, q⟩ := h
  cases rx
  obtain ⟨mA, O, _⟩ := ins_get I.hok ha
  obtain ⟨od, J, _⟩ := O.look
  obtain ⟨m, hF⟩ := I.fr
  have run := thn (run_fn (us := [.ref a, u]) (vs := [.ref a, y]) (dvs := []) (ds := []) M.F hr M.b .nil pass0 I (.cons rfl (.cons ry .nil)) q) (Q' := PySem.W.CmpBack (EP X pins σ Q)) fun r s' z => by
    obtain ⟨z, H', I', rz, b, rfl, q'⟩ := z
    cases rz
    exact ⟨.bl b, H', I', rfl, q'⟩
  have few : X.A.units < cLine := Nat.lt_of_succ_lt (hu_of hr)
  show wpAny _ _ (richCompare .Eq (.ref a) u) _ _ _
  rcases hy with ⟨a', dx', fs', rfl, ha'⟩ | ⟨T, ty, hn⟩
  · cases ry
    obtain ⟨mA', O', _⟩ := ins_get I.hok ha'
    obtain ⟨od', J', _⟩ := O'.look
    exact PySem.W.cmp_K (op := .Eq) (tb := .ref C) few hF I.ok.mod.kin J J'.type (by simp [PySem.W.notFirst]) M.at_ M.fn run
  · obtain ⟨Pk, Z, p, _⟩ := kit_of I ry ty
    exact PySem.W.cmp_K (op := .Eq) (tb := .type T) few hF I.ok.mod.kin J (Z.ty _ _ I.kIn p) hn M.at_ M.fn run
theorem call_lenO (M : OM X k C "__len__" f fd ps sp) (hr : Room (k + 1) X.A) :
    CallR X (.builtin "len") (fun xs H Q => ∃ (a dx : Addr) (fs : List (Str × V)), xs = [.ref a] ∧ H a = some (.ins C dx fs) ∧ sp [.ref a] H (fun v H' => ∃ n : Int, v = .int n ∧ 0 ≤ n ∧ n < 2 ^ 63 ∧ Q (.int n) H') E0) := by
  intro pins s σ H xs us Q I r h
  obtain ⟨a, dx, fs, rfl, ha, q⟩ := h
  obtain ⟨u, rfl, ru⟩ := vals1 r
  cases ru
  obtain ⟨mA, O, _⟩ := ins_get I.hok ha
  obtain ⟨od, J, _⟩ := O.look
  obtain ⟨m, hF⟩ := I.fr
  have e0 := I.env0
  have e1 : Env0 X.prog X.w X.K X.mg X.base X.A.in1 X.stack s H := ⟨e0.frames, e0.mod, e0.bs, e0.bsz, e0.funs, e0.frf, e0.hok, e0.bare⟩
  have bb := M.b s [.ref a] I.kIn (by have := M.F.len _ _ _ _ q; simpa using this)
  rw [List.append_nil] at bb
  refine PySem.W.len_K hF I.ok.mod.kin J M.at_ M.fn (wpAny_call (codeAny_mono (M.F.run X.A.in1 X.stack s H ⟨[.ref a], []⟩ [.ref a] [.ref a] _ E0 hr.in1 e1 bb (.cons rfl .nil) q) fun r s' z => ?_))
  cases r with
  | error e => exact z.elim
  | ok fl =>
    cases fl with
    | ret w =>
      obtain ⟨y, H', I', ry, n, rfl, h0, h1, q'⟩ := I.after z
      obtain ⟨t, rfl⟩ := ry
      exact ⟨⟨h0, h1⟩, ⟨.int n, H', I'.tok _, ⟨_, rfl⟩, q'⟩⟩
    | next => exact z.elim
    | brk => exact z.elim
    | cont => exact z.elim
end
/-! ### enumerate(t), t a tuple -/
theorem new_enumT (l : Addr) (items : Array Value) : Meets (Builtin.«enumerate.__new__» ⟨[.type "enumerate", .ref l], []⟩) (fun _ R s => s.heap.IsTuple l items ∧
    R (.ok (.ret (.ref (s.heap.push { cls := .type "tuple_iterator", data := .fields #[.ref l, .int 0 0] }).objs.size)))
      { s with heap := (s.heap.push { cls := .type "tuple_iterator", data := .fields #[.ref l, .int 0 0] }).push { cls := .type "enumerate", data := .fields #[.none, .bool false, .ref s.heap.objs.size, rawInt 0, .none, .none] } }) :=
  .of_wp fun prog w A R s h => by
    obtain ⟨hp, g, d, tk, os⟩ := s
    obtain ⟨ht, h⟩ := h
    have hsub := sub_enumerate
    have hT : Heap.IsTuple (Shared.heap ⟨hp, g, d, tk, os⟩) l items := ht
    (wp_walk)
    refine (wpAny_stack_any fun st => wpAny_pure ?_)
    split
    · rename_i c _ _ _ _ _
      cases (c == Value.type "enumerate") <;> (wp_walk using wpAny_pyIter_tuple hT; exact ⟨_, rfl, h⟩)
    · wp_walk using wpAny_pyIter_tuple hT
      exact ⟨_, rfl, h⟩
theorem call_enumT {prog : Program} {w : World} {A : Around} {E : Value → Shared → Prop} {s : Shared} {l : Addr} {items : Array Value} {Q : Value → Shared → Prop} (hL : s.heap.IsTuple l items)
    (h : ∀ h', IsEnum h' (s.heap.objs.size + 1) s.heap.objs.size 0 .none → h'.IsTupleIter s.heap.objs.size l 0 → (∀ b o, s.heap.get? b = some o → h'.get? b = some o) → Q (.ref (s.heap.objs.size + 1)) { s with heap := h' }) :
    wpAny (model prog w) A (call (.type "enumerate") [.ref l]) Q E s := by
  refine callType_new F.called_enumerate (by decide) (F.typeCall_enumerate_1 _) (F.newCall_enumerate_1 _) (fun obj => F.args_object_init_2 obj _) F.entry_enumerate_new (new_enumT l items) ⟨hL, ?_⟩
  have hz : (s.heap.push { cls := .type "tuple_iterator", data := .fields #[.ref l, .int 0 0] }).objs.size = s.heap.objs.size + 1 := Heap.size_push ..
  show _ ∧ _
  rw [hz]
  have he : IsEnum ((s.heap.push { cls := .type "tuple_iterator", data := .fields #[.ref l, .int 0 0] }).push { cls := .type "enumerate", data := .fields #[.none, .bool false, .ref s.heap.objs.size, rawInt 0, .none, .none] }) (s.heap.objs.size + 1) s.heap.objs.size 0 .none := by
    have z := Heap.get?_push_size (s.heap.push { cls := .type "tuple_iterator", data := .fields #[.ref l, .int 0 0] }) (o := { cls := .type "enumerate", data := .fields #[.none, .bool false, .ref s.heap.objs.size, rawInt 0, .none, .none] }) rfl
    rw [hz] at z
    exact z
  exact ⟨⟨_, he, rfl⟩, h _ he ⟨_, Heap.get?_push_of_some _ (Heap.get?_push_size _ rfl), rfl, rfl⟩ fun b o x => Heap.get?_push_of_some _ (Heap.get?_push_of_some _ x)⟩
/-- the tuple at a, each item in a new pair with its number -/
def IteT (K : PySem.W.Frag) (a : Addr) : It :=
  ⟨fun i H => ∃ (xs : List V) (x : V), SqT K H a xs ∧ xs[i]? = some x, fun i H v H' => ∃ T x, v = .ref T ∧ H T = none ∧ H' = upd H T (.tup [.int (i : Nat), x]) ∧ ∀ xs, SqT K H a xs → xs[i]? = some x, fun i H => ∃ xs : List V, SqT K H a xs ∧ xs.length = i⟩
theorem turn_enumT {P : Program} {w : World} {K : PySem.W.Frag} {elts : List Expr} {kk : Nat} {tpos : Pos} (a e it : Addr) :
    Turn P w K (.Tuple elts kk tpos) (IteT K a) [e, it] e (fun i h => (∃ old, IsEnum h e it ((i : Nat) : Int) old) ∧ h.IsTupleIter it a i ∧ e ≠ it ∧ a ≠ it ∧ e ≠ a) where
  mem := by simp
  obj := fun i h st b hb => by
    obtain ⟨⟨old, he⟩, ⟨o, ho, hc, hd⟩, _⟩ := st
    rcases (show b = e ∨ b = it by simpa using hb) with z | z <;> rw [z]
    · exact ⟨_, he, fun v q => nomatch q⟩
    · exact ⟨o, ho, fun v q => by rw [hd] at q; cases q⟩
  keep := fun i h h' st k => by
    obtain ⟨⟨old, he⟩, hi, r⟩ := st
    exact ⟨⟨old, k e (by simp) _ he⟩, hi.at (fun o q => k it (by simp) o q), r⟩
  item := by
    intro X hP hw hK hc i pins s σ H E I hf st hg
    subst hP hw hK
    obtain ⟨⟨old, he⟩, hit, hne, hai, hea⟩ := st
    obtain ⟨xs, x, hq, hx⟩ := hg
    obtain ⟨its, rv, p, hz⟩ := I.tuple hq
    obtain ⟨u, hu, ru⟩ := rv.get hx
    have hlt : i < its.toArray.size := by
      have z := (List.getElem?_eq_some_iff.mp hu).1
      simpa using z
    have lte : e < s.heap.objs.size := Heap.lt_size he
    have lti : it < s.heap.objs.size := by obtain ⟨_, q, _⟩ := hit; exact Heap.lt_size q
    refine wpAny_pyNext_enum_itemC (Draws.tuple (show X.A.in1.handled = none from I.ok.hd hc) it a hai its.toArray) he ⟨hit, show s.heap.IsTuple a its.toArray from p⟩ hlt hne (by simp [hne, hea]) fun y h' tk hy ho hst hT hsz hk => ?_
    have ey : y = u := by
      have z : its.toArray[i]? = some u := by simpa using hu
      exact Option.some.inj (hy.symm.trans z)
    subst ey
    refine ⟨_, rfl, wpAny_letOwnedTupleGo_enum (s := { s with heap := h', toks := tk + 1 }) ho fun h'' he' sb => ?_⟩
    have hT2 : h''.get? s.heap.objs.size = some { cls := .type "tuple", data := .seq #[.int i tk, y] } := (sb.2 _ (Nat.ne_of_gt lte)).trans hT
    have new : ObjOk X.prog X.w (upd H s.heap.objs.size (.tup [.int (i : Nat), x])) h'' s.heap.objs.size (.tup [.int (i : Nat), x]) :=
      ⟨by (show 2 ≤ sizeLine; decide), [.int i tk, y], .cons ⟨_, rfl⟩ (.cons ru .nil), ⟨_, hT2, rfl, _, rfl⟩⟩
    have I1 : Inv X pins σ (upd H s.heap.objs.size (.tup [.int (i : Nat), x])) { s with heap := h'', toks := tk + 1 } :=
      I.turnedNew (ch := [e, it]) (fun b ob hb q => (sb.2 b (fun z => hb (by simp [z]))).trans (hk b ob (fun z => hb (by simp [z])) (fun z => hb (by simp [z])) q)) hf (Nat.le_refl _) new
    refine ⟨.ref s.heap.objs.size, _, I1, rfl, ⟨_, x, rfl, I.hok.fresh (Nat.le_refl _), rfl, fun ys hy => by rw [I.tuple_inj hy hq]; exact hx⟩, ⟨⟨y, ?_⟩, hst.1.at (fun o q => (sb.2 it (Ne.symm hne)).trans q), hne, hai, hea⟩, fun b hb => ?_⟩
    · rw [show ((i + 1 : Nat) : Int) = (i : Int) + 1 by omega]
      exact he'
    · have hb' : b < s.heap.objs.size := by rcases (show b = e ∨ b = it by simpa using hb) with z | z <;> rw [z] <;> assumption
      rw [upd_ne (Nat.ne_of_lt hb')]
      exact (hf b hb).1
  done := by
    intro X hP hw hK hc i pins s σ H E I hf st hg
    subst hP hw hK
    obtain ⟨⟨old, he⟩, hit, hne, hai, hea⟩ := st
    obtain ⟨xs, hq, hx⟩ := hg
    obtain ⟨its, rv, p, hz⟩ := I.tuple hq
    obtain ⟨f0, f1, f2, f3, f4, f5⟩ := hf it (by simp)
    have hl := rv.length
    have en : its.toArray.size = i := by
      rw [List.size_toArray]
      omega
    exact wpAny_pyNext_enum_endD (Draws.tuple (show X.A.in1.handled = none from I.ok.hd hc) it a hai its.toArray) he ⟨by rw [en]; exact hit, show s.heap.IsTuple a its.toArray from p⟩ fun h' eb => ⟨rfl, I.turned (t' := s.toks) (fun b o hb e => eb b o hb e) f0 f1 f3 f4 f5⟩
  self := fun A i s Q E st h => by
    obtain ⟨⟨old, he⟩, _⟩ := st
    exact wpAny_pyIter_enum he h
def iEnumT (K : PySem.W.Frag) (ta : TA) : TI := fun σ H R => ta σ H fun vs H1 => ∃ a xs, vs = [.ref a] ∧ SqT K H1 a xs ∧ R (IteT K a) H1
theorem pi_enumT {X : Cx} {e : Expr} {ta : TA} {p pos tpos : Pos} {elts : List Expr} {kk : Nat} (hg : Gl X "enumerate") (hm : X.mg "enumerate" = none) (ha : PA X [e] ta) (hs : starEach [e] X.env = [(false, eval e X.env)] := by rfl) :
    PI X (.Tuple elts kk tpos) (.Call (.Name "enumerate" p) [e] [] pos) (iEnumT X.K ta) := by
  refine ⟨fun pins s σ H R I h => Call_ (ld_blt I hg hm boot_enumerate (PyProof.Rows.callWith_type1 (thn (ha.run pos pins s σ H _ I h) fun us s1 ⟨vs, H1, I1, r1, q1⟩ => ?_) hs rfl))⟩
  obtain ⟨a, xs, rfl, hq, q⟩ := q1
  obtain ⟨u, rfl, r⟩ := vals1 r1
  cases r
  obtain ⟨its, rv, p', hz⟩ := I1.tuple hq
  have lta : a < s1.heap.objs.size := by
    obtain ⟨o, ho, _⟩ := id p'
    exact Heap.lt_size ho
  refine call_enumT (show s1.heap.IsTuple a its.toArray from p') fun h' he hit hk => wpAny_pyIter_enum he ?_
  have I2 : Inv X pins σ H1 { s1 with heap := h' } := I1.kept (t' := s1.toks) hk
  refine ⟨s1.heap.objs.size + 1, [s1.heap.objs.size + 1, s1.heap.objs.size], _, _, H1, rfl, I2, turn_enumT a (s1.heap.objs.size + 1) s1.heap.objs.size, ⟨⟨.none, he⟩, hit, Nat.succ_ne_self _, Nat.ne_of_lt lta, Nat.ne_of_gt (Nat.lt_succ_of_lt lta)⟩, fun b hb => ?_, q⟩
  have hle : s1.heap.objs.size ≤ b := by
    rcases (show b = s1.heap.objs.size + 1 ∨ b = s1.heap.objs.size by simpa using hb) with z | z <;> rw [z]
    · exact Nat.le_succ _
    · exact Nat.le_refl _
  exact I1.fpOk hle (I1.hok.fresh hle)
theorem for_enumT {K : PySem.W.Frag} {a : Addr} {xs : List V} {g : TG} {tb : TS} {D : Ends} {σ : L2.St} {H : Hp} (Pv : Nat → L2.St → Hp → Prop) (h0 : Pv 0 σ H) (hl : ∀ i σ H, i ≤ xs.length → Pv i σ H → SqT K H a xs)
    (hs : ∀ (i : Nat) (x : V) (T : Addr) (σ : L2.St) (H : Hp), xs[i]? = some x → Pv i σ H → H T = none → g (.ref T) σ (upd H T (.tup [.int (i : Nat), x])) fun σ2 H2 => tb { D with nx := Pv (i + 1), ct := Pv (i + 1), bk := D.nx } σ2 H2) (hd : ∀ σ H, Pv xs.length σ H → D.nx σ H) :
    ∃ W : Nat → Nat → L2.St → Hp → Prop, (∃ m, W 0 m σ H) ∧ ∀ i m σ H, W i m σ H →
      ((IteT K a).stop i H ∧ D.nx σ H) ∨ ((IteT K a).go i H ∧ ∃ N : L2.St → Hp → Prop, (∀ σ' H', N σ' H' → ∃ m', m' < m ∧ W (i + 1) m' σ' H') ∧ ∀ v H', (IteT K a).yld i H v H' → g v σ H' fun σ2 H2 => tb { D with nx := N, ct := N, bk := D.nx } σ2 H2) := by
  refine ⟨fun i m σ H => m = xs.length - i ∧ i ≤ xs.length ∧ Pv i σ H, ⟨xs.length, rfl, Nat.zero_le _, h0⟩, ?_⟩
  rintro i m σ H ⟨rfl, hi, p⟩
  by_cases lt : i < xs.length
  · refine .inr ⟨⟨xs, xs[i], hl i σ H hi p, List.getElem?_eq_getElem lt⟩, Pv (i + 1), fun σ' H' p' => ⟨xs.length - (i + 1), by omega, rfl, lt, p'⟩, fun v H' y => ?_⟩
    obtain ⟨T, x, rfl, hT, rfl, hx⟩ := y
    exact hs i x T σ H (hx xs (hl i σ H hi p)) p hT
  · obtain rfl : i = xs.length := by omega
    exact .inl ⟨⟨xs, hl _ σ H hi p, rfl⟩, hd σ H p⟩
end Ow
/-! list(reversed(l)), l a list -/
namespace Ow
open PySem PySem.Spec PyProof.Rows L2 RT
section
variable {prog : Program} {w : World} {A : Around} {E : Value → Shared → Prop} {s : Shared}
theorem init_rev {R : Result → Shared → Prop} {it l S : Addr} {items : Array Value} (hd : A.handled = none) (hI : s.heap.IsRevIter it l ((items.size : Int) - 1)) (hL : s.heap.IsList l items) (ne : l ≠ it) (few : items.size ≤ sizeLine)
    (eS : s.heap.get? S = some { cls := .type "list", data := .seq #[] }) (Sne : S ∉ [it, l])
    (z : ∀ (h' : Heap) (tk : Nat) (acc : Array Value) (c : Nat), (∀ b o, b ≠ S → b ≠ it → s.heap.get? b = some o → h'.get? b = some o) → h'.get? S = some { cls := .type "list", dict := none, data := .seq acc c, slots := #[] } →
      ItemsOf (fun i v => items[items.size - 1 - i]? = some v) acc items.size → R (.ok (.ret .none)) { s with heap := h', toks := tk }) :
    wpAny (model prog w) A.in1 (Builtin.«list.__init__» ⟨[.ref S, .ref it], []⟩) (fun fin s' => match fin with | .done f => R (.ok f) s' | .again c' => c'.quiet = true ∧ codeAny (model prog w) A c' R s') (fun e s' => R (.error e) s') s := by
  have nS : S ≠ it ∧ S ≠ l := by simpa using Sne
  have lS : l ≠ S := fun e => nS.2 e.symm
  have iS : it ≠ S := fun e => nS.1 e.symm
  show wpAny _ _ (do let was ← Builtin.List.listItems (.ref S); Builtin.List.listUpdate (.ref S) (fun _ => #[]); letGo was.toList.reverse; Builtin.List.listExtendWith (.ref S) (.ref it) .none) _ _ s
  refine wpAny_bind ?_
  unfold Builtin.List.listItems
  refine wpAny_bind (wpAny_seqItems eS rfl (wpAny_pure ?_)) <;> skip
  show wpAny _ _ (updateSeq S (fun _ => #[]) >>= fun _ => letGo (#[] : Array Value).toList.reverse >>= fun _ => Builtin.List.listExtendWith (.ref S) (.ref it) .none) _ _ s
  refine wpAny_bind (wpAny_updateSeq eS rfl (wpAny_bind (wpAny_letGo ?_)))
  have eS2 := Heap.get?_update_self (Obj.mapSeq fun _ => (#[] : Array Value)) eS rfl
  have keep : ∀ b o, b ≠ S → s.heap.get? b = some o → (s.heap.update S (Obj.mapSeq fun _ => (#[] : Array Value))).get? b = some o := fun b o nb e => (Heap.get?_update_other _ _ nb.symm).trans e
  have hI2 : (s.heap.update S (Obj.mapSeq fun _ => (#[] : Array Value))).IsRevIter it l ((items.size : Int) - 1) := hI.at fun o e => keep it o iS e
  have hL2 : (s.heap.update S (Obj.mapSeq fun _ => (#[] : Array Value))).IsList l items := by
    obtain ⟨o, e1, e2⟩ := hL
    exact ⟨o, keep l o lS e1, e2⟩
  have Wk := (Walks.listRev (prog := prog) (w := w) (A := A.in1) hd it l ne items).toS
  have ty : ({ s with heap := s.heap.update S (Obj.mapSeq fun _ => (#[] : Array Value)) } : Shared).TypeIs (.ref it) "list_reverseiterator" := Heap.IsRevIter.typeIs (s := { s with heap := s.heap.update S (Obj.mapSeq fun _ => (#[] : Array Value)) }) hI2
  have same : Builtin.List.listSameRef (.ref S) (.ref it) = false := by simp [Builtin.List.listSameRef, nS.1]
  unfold Builtin.List.listExtendWith
  refine wpAny_bind (wpAny_typeOf ty (show wpAny _ _ _ _ _ _ from ?_))
  rw [if_neg (by rw [same]; exact by decide)]
  refine wpAny_bind (wpAny_pyIter_revIter (s := { s with heap := s.heap.update S (Obj.mapSeq fun _ => (#[] : Array Value)) }) hI2 (wpAny_bind (wpAny_holding ?_)))
  unfold Builtin.List.listLengthHint
  refine wpAny_bind (wpAny_specialOf ty RT.nolen_lri ?_)
  show wpAny _ _ (specialOf (Value.ref it) (Str.ofString "__length_hint__") >>= _) _ _ _
  refine wpAny_bind (wpAny_specialOf ty RT.hint_lri ?_)
  generalize gi : ("list_reverseiterator.__length_hint__" : String) = nm
  wp_delta
  rw [show splitId nm = some ("list_reverseiterator", "__length_hint__") from by rw [← gi]; decide +kernel]
  subst gi
  refine wpAny_bind (wpAny_isInstance (b := true) ty (by rw [isSubtype_type] <;> kernel_rfl) (wpAny_pure ?_))
  rw [if_neg (by decide)]
  have e0 : ((items.size : Nat) : Int) - 1 - ((0 : Nat) : Int) = (items.size : Int) - 1 := by omega
  refine wpAny_pure ⟨plainId_quiet F.plain_extend_loop _, codeAny_extend_loopS Wk few _ Sne _ items.size 0 _ _ _ rfl (Nat.zero_le _) ⟨Nat.zero_le _, by rw [e0]; exact hI2, hL2⟩ eS2 (ItemsOf.nil _) fun s' acc c mv eS' ha => ?_⟩
  rw [Moved.eq_with mv]
  refine z s'.heap s'.toks acc c (fun b o nb ni e => mv.heap b o (fun hm => ?_) (keep b o nb e)) eS' ha
  rcases List.mem_cons.mp hm with q | q
  · exact nb q
  · exact ni (List.mem_singleton.mp q)
theorem call_listRev {it l : Addr} {items : Array Value} {Q : Value → Shared → Prop} (hd : A.handled = none) (hI : s.heap.IsRevIter it l ((items.size : Int) - 1)) (hL : s.heap.IsList l items) (ne : l ≠ it) (few : items.size ≤ sizeLine)
    (z : ∀ (h' : Heap) (tk : Nat) (acc : Array Value) (c : Nat), (∀ b o, b ≠ it → s.heap.get? b = some o → h'.get? b = some o) → h'.get? s.heap.objs.size = some { cls := .type "list", dict := none, data := .seq acc c, slots := #[] } →
      ItemsOf (fun i v => items[items.size - 1 - i]? = some v) acc items.size → Q (.ref s.heap.objs.size) { s with heap := h', toks := tk }) :
    wpAny (model prog w) A (call (.type "list") [.ref it]) Q E s := by
  obtain ⟨oi, ei, _⟩ := id hI
  obtain ⟨ol, el, _⟩ := id hL
  have n1 : s.heap.objs.size ≠ it := Nat.ne_of_gt (Heap.lt_size ei)
  have n2 : s.heap.objs.size ≠ l := Nat.ne_of_gt (Heap.lt_size el)
  refine callType_codes (Q₁ := fun ob s₁ => ob = .ref s.heap.objs.size ∧ s₁ = { s with heap := s.heap.push { cls := .type "list", data := .seq #[] } }) F.called_list (F.typeCall_list_1 _) F.entry_list_init (code_list_new _ ⟨rfl, rfl⟩) fun ob s₁ h₁ => ?_
  obtain ⟨e1, e2⟩ := h₁
  subst e1 e2
  have eS : (s.heap.push { cls := .type "list", data := .seq #[] }).get? s.heap.objs.size = some { cls := .type "list", data := .seq #[] } := Heap.get?_push_size _ rfl
  refine ⟨⟨_, eS, rfl⟩, F.args_list_init_2 _ _, init_rev (A := A.in1) (s := { s with heap := s.heap.push { cls := .type "list", data := .seq #[] } }) hd (hI.at fun o e => Heap.get?_push_of_some _ e) (hL.push _) ne few eS (by simp [n1, n2]) fun h' tk acc c k eS' ha => ?_⟩
  exact ⟨rfl, z h' tk acc c (fun b o nb e => k b o (Nat.ne_of_lt (Heap.lt_size e)) nb (Heap.get?_push_of_some _ e)) eS' ha⟩
end
/-- list(reversed(x)), x a list -/
def tListRev (K : PySem.W.Frag) (te : TE) : TE := fun σ H Q => te σ H fun v H1 => ∃ (a : Addr) (xs : List V), v = .ref a ∧ SqL K H1 a xs ∧ ∀ q, H1 q = none → Q (.ref q) (upd H1 q (.lst xs.reverse))
theorem pe_listRev {X : Cx} {e : Expr} {te : TE} {p p2 pos pos2 : Pos} (hc : X.calm = true) (hg : Gl X "list") (hm : X.mg "list" = none) (hg2 : Gl X "reversed") (hm2 : X.mg "reversed" = none) (he : PE X e te)
    (hs : starEach [e] X.env = (false, eval e X.env) :: starEach [] X.env := by rfl)
    (hs2 : starEach [.Call (.Name "reversed" p2) [e] [] pos2] X.env = (false, eval (.Call (.Name "reversed" p2) [e] [] pos2) X.env) :: starEach [] X.env := by rfl) :
    PE X (.Call (.Name "list" p) [.Call (.Name "reversed" p2) [e] [] pos2] [] pos) (tListRev X.K te) := by
  refine ⟨fun pins s σ H Q I h => Call_ (ld_blt I hg hm boot_list (PyProof.Rows.callWith_type1 (args_cons (Call_ (ld_blt I hg2 hm2 PyProof.Rows.boot_reversed (PyProof.Rows.callWith_type1 (args_cons (thn (he.run pins s σ H _ I h) fun u s1 ⟨v, H1, I1, r1, q1⟩ => args_nil ?_) hs) hs rfl))) hs2) hs2 rfl))⟩
  obtain ⟨a, xs, ev, hq, q⟩ := q1
  subst ev
  cases (show u = Value.ref a from r1)
  obtain ⟨its, rv, pl, hz⟩ := I1.list hq
  refine call_reversed_list pl.isList (args_nil ?_)
  have I2 : Inv X pins σ H1 { s1 with heap := s1.heap.push (revObj a ((its.toArray.size : Int) - 1)) } := I1.kept (t' := s1.toks) fun b o e => Heap.get?_push_of_some _ e
  obtain ⟨f0, f1, f2, f3, f4, f5⟩ := I1.fpOk (H' := H1) (b := s1.heap.objs.size) (Nat.le_refl _) (I1.hok.fresh (Nat.le_refl _))
  obtain ⟨ol, el, _⟩ := id pl.isList
  have few : its.toArray.size ≤ sizeLine := by rw [List.size_toArray, ← rv.length]; exact hz
  refine call_listRev (s := { s1 with heap := s1.heap.push (revObj a ((its.toArray.size : Int) - 1)) }) (I1.ok.hd hc) ⟨_, Heap.get?_push_size _ rfl, rfl, rfl⟩ (pl.isList.push _) (Nat.ne_of_lt (Heap.lt_size el)) few fun h' tk acc c k eS ha => ?_
  have sz : (s1.heap.push (revObj a ((its.toArray.size : Int) - 1))).objs.size = s1.heap.objs.size + 1 := Heap.size_push ..
  have up : s1.heap.objs.size ≤ (s1.heap.push (revObj a ((its.toArray.size : Int) - 1))).objs.size := by rw [sz]; exact Nat.le_succ _
  have kk : ∀ b o, s1.heap.get? b = some o → h'.get? b = some o := fun b o e => k b o (Nat.ne_of_lt (Heap.lt_size e)) (Heap.get?_push_of_some _ e)
  have ok : ObjOk X.prog X.w (upd H1 (s1.heap.push (revObj a ((its.toArray.size : Int) - 1))).objs.size (.lst xs.reverse)) h' (s1.heap.push (revObj a ((its.toArray.size : Int) - 1))).objs.size (.lst xs.reverse) :=
    ⟨by rw [List.length_reverse]; exact hz, acc.toList, c, RT.vals_rev rv ha, by rw [Array.toArray_toList]; exact eS⟩
  exact ⟨.ref _, _, I1.laid (t' := tk) kk up ok, rfl, q _ (I1.hok.fresh up)⟩
end Ow
/-! dicts whose keys are ints, texts and None, told by `ext`: made, put, asked, read, popped, copied, counted, walked -/
namespace Dn
open PySem PySem.Spec PyProof.Rows L2
abbrev NK := Option Key
/-- a key as a value -/
def nkV : NK → V
  | none => .non
  | some k => kV k
theorem nk_is {P : Program} {w : World} {k : NK} {u : Value} (r : RelV (nkV k) u) : (noneKind P w).is k u = true := by
  cases k with
  | none =>
    cases (show u = Value.none from r)
    rfl
  | some k => exact kV_is (P := P) (w := w) r
theorem nk_rel {P : Program} {w : World} {k : NK} {u : Value} (r : (noneKind P w).is k u = true) : RelV (nkV k) u := by
  cases k with
  | none => exact nk_none r
  | some k => exact relV_key (show keyIs k u = true from r)
/-- o is a dict with these entries -/
def IsN (P : Program) (w : World) (d : Addr) (kvs : List (NK × V)) (o : Obj) : Prop :=
  (d == sysModules) = false ∧ kvs.length ≤ sizeLine ∧ ∃ vs, KV kvs vs ∧ o.IsDictOf (noneKind P w) vs
/-- the dict at d -/
def dN (P : Program) (w : World) (d : Addr) (kvs : List (NK × V)) : HO := .ext fun h => ∃ o, h.get? d = some o ∧ IsN P w d kvs o
/-- the dict at d, its very object -/
def dF (P : Program) (w : World) (d : Addr) (ob : Obj) (kvs : List (NK × V)) : HO := .ext fun h => h.get? d = some ob ∧ IsN P w d kvs ob
/-- a dict with these entries stands at d -/
def DN (P : Program) (w : World) (H : Hp) (d : Addr) (kvs : List (NK × V)) : Prop := H d = some (dN P w d kvs) ∨ ∃ ob, H d = some (dF P w d ob kvs)
theorem DN.same {P : Program} {w : World} {H H' : Hp} {d : Addr} {kvs : List (NK × V)} (h : DN P w H d kvs) (s : ∀ o, H d = some o → H' d = some o) : DN P w H' d kvs := by
  rcases h with h | ⟨ob, h⟩
  · exact .inl (s _ h)
  · exact .inr ⟨ob, s _ h⟩
theorem DN.there {P : Program} {w : World} {H : Hp} {d : Addr} {kvs : List (NK × V)} (h : DN P w H d kvs) : ∃ o, H d = some o := by
  rcases h with h | ⟨_, h⟩ <;> exact ⟨_, h⟩
section
variable {P : Program} {w : World} {H : Hp} {h : Heap} {d : Addr} {kvs : List (NK × V)}
theorem ok_dN {o : Obj} (e : h.get? d = some o) (i : IsN P w d kvs o) : ObjOk P w H h d (dN P w d kvs) :=
  ⟨⟨o, e, i⟩, ⟨o, e⟩, fun _ _ z k => by
    obtain ⟨o, e, i⟩ := z
    exact ⟨o, k _ e, i⟩⟩
theorem ok_dF {o : Obj} (e : h.get? d = some o) (i : IsN P w d kvs o) : ObjOk P w H h d (dF P w d o kvs) :=
  ⟨⟨e, i⟩, ⟨o, e⟩, fun _ _ z k => ⟨k _ z.1, z.2⟩⟩
theorem DN.obj (ok : HOk P w H h) (x : DN P w H d kvs) : ∃ o, h.get? d = some o ∧ IsN P w d kvs o := by
  rcases x with x | ⟨ob, x⟩
  · have z : ObjOk P w H h d (.ext fun h => ∃ o, h.get? d = some o ∧ IsN P w d kvs o) := ok d _ x
    exact z.1
  · have z : ObjOk P w H h d (.ext fun h => h.get? d = some ob ∧ IsN P w d kvs ob) := ok d _ x
    exact ⟨ob, z.1⟩
theorem DN.dict (ok : HOk P w H h) (x : DN P w H d kvs) : kvs.length ≤ sizeLine ∧ (d == sysModules) = false ∧ ∃ vs, KV kvs vs ∧ h.DictOf (noneKind P w) d vs := by
  obtain ⟨o, e, i1, i2, vs, kv, i3⟩ := x.obj ok
  exact ⟨i2, i1, vs, kv, Heap.dictOf_iff.mpr ⟨o, e, i3⟩⟩
theorem DN.mut (x : DN P w H d kvs) : Mut (H d) := by
  rcases x with x | ⟨_, x⟩ <;> (rw [x]; exact True.intro)
theorem new_dN {H : Hp} {vs : List (NK × Value)} (z : kvs.length ≤ sizeLine) (hd : (d == sysModules) = false) (kv : KV kvs vs) (x : h.DictOf (noneKind P w) d vs) : ObjOk P w H h d (dN P w d kvs) := by
  obtain ⟨o, e, i⟩ := Heap.dictOf_iff.mp x
  exact ok_dN e ⟨hd, z, vs, kv, i⟩
end
section
variable {X : Cx} {pins : List (Addr × Obj)} {σ : L2.St} {H : Hp} {s : Shared} {a : Addr} {kvs : List (NK × V)} {k : NK} {v : V} {u r : Value} {A : Around} {E : Value → Shared → Prop}
theorem n_put {Q : Unit → Shared → Prop} (I : Inv X pins σ H s) (x : DN X.prog X.w H a kvs) (few : kvs.length < sizeLine) (ry : RelV (nkV k) u) (rv : RelV v r)
    (z : ∀ s', Inv X pins σ (upd H a (dN X.prog X.w a (putK kvs k v))) s' → Q () s') : wpAny (model X.prog X.w) A (setItem (.ref a) u r) Q E s := by
  obtain ⟨_, hd, vs, kv, dd⟩ := x.dict I.hok
  have l1 := length_putK kvs k v
  refine wpAny_setItem_pairs (hsz := by rw [← kv.length]; omega) (nk_is ry) dd fun h' dd' hs => z _ ?_
  have he : ∃ q, h'.get? a = some q := let ⟨q, _, _, hq, _⟩ := dd'; ⟨q, hq⟩
  exact d_write I x.mut hs he (new_dN (by omega) hd (kv.put k rv) dd')
theorem n_get {Q : Value → Shared → Prop} (I : Inv X pins σ H s) (x : DN X.prog X.w H a kvs) (l : valV kvs k = some v) (ry : RelV (nkV k) u) (z : ∀ w' s', Inv X pins σ H s' → RelV v w' → Q w' s') :
    wpAny (model X.prog X.w) A (getItem (.ref a) u) Q E s := by
  obtain ⟨_, hd, vs, kv, dd⟩ := x.dict I.hok
  obtain ⟨w', hw, rw'⟩ := RelO.some_of (v := v) (o := valueAt vs k) (by rw [← l]; exact kv.val k)
  exact wpAny_getItem_of (nk_is ry) dd.mapOf hw (z w' _ (I.tok _) rw')
theorem n_pop {Q : Value → Shared → Prop} (I : Inv X pins σ H s) (x : DN X.prog X.w H a kvs) (l : valV kvs k = some v) (ry : RelV (nkV k) u) (hk : k ≠ none)
    (z : ∀ w' s', Inv X pins σ (upd H a (dN X.prog X.w a (dropK kvs k))) s' → RelV v w' → Q w' s') : wpAny (model X.prog X.w) A (call (.builtin "dict.pop") [.ref a, u]) Q E s := by
  obtain ⟨sz, hd, vs, kv, dd⟩ := x.dict I.hok
  obtain ⟨w', hw, rw'⟩ := RelO.some_of (v := v) (o := valueAt vs k) (by rw [← l]; exact kv.val k)
  have hp : (keyPart u).isSome = true := by
    match k, hk, ry with
    | none, hk, _ => exact absurd rfl hk
    | some (.inl i), _, ry =>
      obtain ⟨t, q⟩ := (show ∃ t, u = Value.int i t from ry)
      rw [q]
      rfl
    | some (.inr y), _, ry =>
      obtain ⟨t, q⟩ := (show ∃ t, u = Value.str y t from ry)
      rw [q]
      rfl
  refine call_meetsIn PySem.F.slot_dict_pop dd.typeIs PySem.F.entry_dict_pop (PySem.F.args_dict_pop_2 _ _) (meets_dict_pop_there (noneKind X.prog X.w) a (nk_is ry) [] (.inl rfl) hp) ⟨vs, w', dd, by rw [← kv.length]; exact sz, hw, fun h' dd' hs => z w' _ ?_ rw'⟩
  have he : ∃ q, h'.get? a = some q := let ⟨q, _, _, hq, _⟩ := dd'; ⟨q, hq⟩
  exact d_write I x.mut hs he (new_dN (Nat.le_trans (dropK_le kvs k) sz) hd (kv.drop k) dd')
end
section
variable {X : Cx} {pos pos' : Pos} {o i value e : Expr} {td ty tv : TE}
def tNewN (P : Program) (w : World) : TE := fun _ H Q => ∀ p, H p = none → Q (.ref p) (upd H p (dN P w p []))
theorem pe_newN : PE X (.Dict [] [] pos) (tNewN X.prog X.w) := ⟨fun pins s σ H Q I h =>
  wpAny_Dict_empty ⟨.ref s.heap.objs.size, _, I.laid (a := s.heap.objs.size) (o := dN X.prog X.w s.heap.objs.size []) (t' := s.toks) (fun _ _ q => Heap.get?_push_of_some _ q) (Nat.le_refl _)
    (new_dN (Nat.zero_le _) (beq_eq_false_iff_ne.mpr (Ne.symm (Nat.ne_of_lt I.big))) .nil (Heap.DictOf.new s.heap)), rfl, h _ (I.hok.fresh (Nat.le_refl _))⟩⟩
/-- d[y] = v -/
def sPutN (P : Program) (w : World) (td ty tv : TE) : TS := fun D σ H => tv σ H fun v H1 => td σ H1 fun x H2 => ty σ H2 fun y H3 => ∃ a kvs k, x = .ref a ∧ y = nkV k ∧ DN P w H3 a kvs ∧ kvs.length < sizeLine ∧ D.nx σ (upd H3 a (dN P w a (putK kvs k v)))
theorem ps_putN (ho : PE X o td) (hi : PE X i ty) (hv : PE X value tv) (hs : swapsWith value (some (.Subscript o i pos')) pos.line X.env = pure false := by rfl) : PS X (.Assign [.Subscript o i pos'] value pos) (sPutN X.prog X.w td ty tv) := by
  refine ⟨fun pins s σ H D I h => wpAny_Assign_Subscript (thn (hv.run pins s σ H _ I h) fun r s1 ⟨v, H1, I1, rv, q1⟩ => thn (ho.run pins s1 σ H1 _ I1 q1) fun u s2 ⟨x, H2, I2, rx, q2⟩ => thn (hi.run pins s2 σ H2 _ I2 q2) fun iv s3 ⟨y, H3, I3, ry, q3⟩ => ?_) hs⟩
  obtain ⟨a, kvs, k, ex, ey, x, few, q3⟩ := q3
  subst ex ey
  obtain rfl : u = Value.ref a := rx
  exact n_put I3 x few ry rv fun s4 I4 => ⟨σ, _, I4, q3⟩
def rInN (P : Program) (w : World) (neg : Bool) : R2 := fun x y H Q => ∃ a kvs k, y = .ref a ∧ x = nkV k ∧ DN P w H a kvs ∧ Q (.bl (if neg then !(valV kvs k).isSome else (valV kvs k).isSome)) H
theorem op_inN : OpR X (compareOp .In) (rInN X.prog X.w false) := by
  intro pins s σ H x y v u Q I rx ry h
  obtain ⟨a, kvs, k, rfl, rfl, d, q⟩ := h
  cases ry
  obtain ⟨_, hd, vs, kv, dd⟩ := d.dict I.hok
  refine wpAny_in_of (nk_is rx) hd dd.mapOf ?_
  rw [← (kv.val k).isSome_eq]
  exact ⟨.bl _, H, I.tok _, rfl, q⟩
theorem op_notInN : OpR X (compareOp .NotIn) (rInN X.prog X.w true) := by
  intro pins s σ H x y v u Q I rx ry h
  obtain ⟨a, kvs, k, rfl, rfl, d, q⟩ := h
  cases ry
  obtain ⟨_, hd, vs, kv, dd⟩ := d.dict I.hok
  refine wpAny_notIn_of (nk_is rx) hd dd.mapOf ?_
  rw [← (kv.val k).isSome_eq]
  exact ⟨.bl _, H, I.tok _, rfl, q⟩
/-- d[y] -/
def tGetN (P : Program) (w : World) (td ty : TE) : TE := fun σ H Q => td σ H fun x H1 => ty σ H1 fun y H2 => ∃ a kvs k v, x = .ref a ∧ y = nkV k ∧ DN P w H2 a kvs ∧ valV kvs k = some v ∧ Q v H2
theorem pe_getN (ho : PE X o td) (hi : PE X i ty) (hs : NoSl i) : PE X (.Subscript o i pos) (tGetN X.prog X.w td ty) := by
  refine ⟨fun pins s σ H Q I h => subD_of PySem.F.slot_dict_getitem.lookup hs (thn (ho.run pins s σ H _ I h) fun u s1 ⟨x, H1, I1, rx, q1⟩ => thn (hi.run pins s1 σ H1 _ I1 q1) fun iv s2 ⟨y, H2, I2, ry, q2⟩ => ?_)⟩
  obtain ⟨a, kvs, k, v, ex, ey, x, l, q⟩ := q2
  subst ex ey
  obtain rfl : u = Value.ref a := rx
  obtain ⟨_, _, vs, _, dd⟩ := x.dict I2.hok
  exact ⟨dd.typeIs, n_get I2 x l ry fun w' s3 I3 rw' => ⟨v, H2, I3, rw', q⟩⟩
theorem call_lenN : CallR X (.builtin "len") (fun xs H Q => ∃ a kvs, xs = [.ref a] ∧ DN X.prog X.w H a kvs ∧ Q (.int kvs.length) H) := by
  intro pins s σ H xs us Q I r h
  obtain ⟨a, kvs, rfl, x, q⟩ := h
  obtain ⟨u, rfl, ru⟩ := vals1 r
  cases ru
  obtain ⟨z, hd, vs, kv, dd⟩ := x.dict I.hok
  refine call_len_dict hd dd (by rw [← kv.length]; rw [sizeLine_eq] at z; omega) ?_
  rw [← kv.length]
  exact ⟨.int kvs.length, H, I.tok _, ⟨_, rfl⟩, q⟩
theorem call_dictN : CallR X (.type "dict") (fun xs H Q => ∃ a kvs, xs = [.ref a] ∧ DN X.prog X.w H a kvs ∧ ∀ p, H p = none → Q (.ref p) (upd H p (dN X.prog X.w p kvs))) := by
  intro pins s σ H xs us Q I r h
  obtain ⟨a, kvs, rfl, x, q⟩ := h
  obtain ⟨u, rfl, ru⟩ := vals1 r
  cases ru
  obtain ⟨z, hd, vs, kv, dd⟩ := x.dict I.hok
  refine kt_call_dict hd dd (by rw [← kv.length]; exact z) fun h' d' hs => ?_
  have hm : (s.heap.objs.size == sysModules) = false := beq_eq_false_iff_ne.mpr (Nat.ne_of_gt I.big)
  exact ⟨.ref _, _, I.laid (t' := s.toks) (fun b u e => (hs.2 b (Nat.ne_of_lt (Heap.lt_size e))).trans (Heap.get?_push_of_some _ e)) (Nat.le_refl _) (new_dN z hm kv d'), rfl, q _ (I.hok.fresh (Nat.le_refl _))⟩
/-- isinstance(d, c) -/
theorem call_isiN : CallR X (.builtin "isinstance") (fun xs H Q => ∃ a kvs T b, xs = [.ref a, .ty T] ∧ DN X.prog X.w H a kvs ∧ kitB "dict" T = some b ∧ Q (.bl b) H) := by
  intro pins s σ H xs us Q I r h
  obtain ⟨a, kvs, T, b, rfl, x, e, q⟩ := h
  obtain ⟨u1, u2, rfl, r1, r2⟩ := vals2 r
  cases (show u1 = Value.ref a from r1)
  cases (show u2 = Value.type T from r2)
  obtain ⟨o, ho, _, _, vs, _, i⟩ := x.obj I.hok
  have hc : o.cls = .type "dict" := by
    obtain ⟨es, ep, hx, _⟩ := i
    exact hx.1
  exact PySem.W.kia_one PySem.W.kitx_dict I.kIn ⟨o, ho, hc⟩ (kit_ty e) (fun z => nomatch z) fun tk => ⟨.bl b, H, I.tok tk, rfl, q⟩
/-- two ways to call the same -/
theorem call_or {id : Value} {r1 r2 : List V → Hp → VK → Prop} (h1 : CallR X id r1) (h2 : CallR X id r2) : CallR X id (fun xs H Q => r1 xs H Q ∨ r2 xs H Q) := by
  intro pins s σ H xs us Q I r h
  rcases h with h | h
  · exact h1 pins s σ H xs us Q I r h
  · exact h2 pins s σ H xs us Q I r h
/-- {}, its object fixed -/
def tNewF (P : Program) (w : World) : TE := fun _ H Q => ∀ p ob, H p = none → Q (.ref p) (upd H p (dF P w p ob []))
theorem pe_newF : PE X (.Dict [] [] pos) (tNewF X.prog X.w) := ⟨fun pins s σ H Q I h => by
  have dd := Heap.dictOf_iff.mp (Heap.DictOf.new (knd := noneKind X.prog X.w) s.heap)
  obtain ⟨o, e, i⟩ := dd
  have hm : (s.heap.objs.size == sysModules) = false := beq_eq_false_iff_ne.mpr (Ne.symm (Nat.ne_of_lt I.big))
  exact wpAny_Dict_empty ⟨.ref s.heap.objs.size, _, I.laid (a := s.heap.objs.size) (o := dF X.prog X.w s.heap.objs.size o []) (t' := s.toks) (fun _ _ q => Heap.get?_push_of_some _ q) (Nat.le_refl _)
    (ok_dF e ⟨hm, Nat.zero_le _, [], .nil, i⟩), rfl, h _ o (I.hok.fresh (Nat.le_refl _))⟩⟩
/-- dict(d), its object fixed -/
theorem call_dictF : CallR X (.type "dict") (fun xs H Q => ∃ a kvs, xs = [.ref a] ∧ DN X.prog X.w H a kvs ∧ ∀ p ob, H p = none → Q (.ref p) (upd H p (dF X.prog X.w p ob kvs))) := by
  intro pins s σ H xs us Q I r h
  obtain ⟨a, kvs, rfl, x, q⟩ := h
  obtain ⟨u, rfl, ru⟩ := vals1 r
  cases ru
  obtain ⟨z, hd, vs, kv, dd⟩ := x.dict I.hok
  refine kt_call_dict hd dd (by rw [← kv.length]; exact z) fun h' d' hs => ?_
  have hm : (s.heap.objs.size == sysModules) = false := beq_eq_false_iff_ne.mpr (Nat.ne_of_gt I.big)
  obtain ⟨o, e, i⟩ := Heap.dictOf_iff.mp d'
  exact ⟨.ref _, _, I.laid (t' := s.toks) (fun b u e => (hs.2 b (Nat.ne_of_lt (Heap.lt_size e))).trans (Heap.get?_push_of_some _ e)) (Nat.le_refl _) (ok_dF e ⟨hm, z, vs, kv, i⟩), rfl, q _ o (I.hok.fresh (Nat.le_refl _))⟩
end
end Dn
/-! such dicts: pop, the walk over the keys -/
namespace Dn
open PySem PySem.Spec PyProof.Rows L2
/-- d[y], told without the context -/
theorem pe_getNP {X : Cx} {P : Program} {w : World} {pos : Pos} {o i : Expr} {td ty : TE} (hP : X.prog = P) (hw : X.w = w) (ho : PE X o td) (hi : PE X i ty) (hs : NoSl i) : PE X (.Subscript o i pos) (tGetN P w td ty) := by
  subst hP hw
  exact pe_getN ho hi hs
/-- d.pop(k), k there and not None -/
def tPopN (P : Program) (w : World) (td ty : TE) : TE := fun σ H Q => td σ H fun x H1 => ∃ a kvs0, x = .ref a ∧ DN P w H1 a kvs0 ∧ ty σ H1 fun y H2 => ∃ kvs k v, DN P w H2 a kvs ∧ y = nkV (some k) ∧ valV kvs (some k) = some v ∧ Q v (upd H2 a (dN P w a (dropK kvs (some k))))
theorem pe_popN {X : Cx} {o e : Expr} {td ty : TE} {apos cpos : Pos} (ho : PE X o td) (he : PE X e ty) (m : M1 X o "pop" apos e cpos) : PE X (.Call (.Attribute o "pop" apos) [e] [] cpos) (tPopN X.prog X.w td ty) := by
  refine ⟨fun pins s σ H Q I h => wpAny_Call_method m.base m.few m.line PySem.F.plainAttrs_dict PySem.F.slot_dict_pop PySem.F.type_dict_pop (thn (ho.run pins s σ H _ I h) fun u s1 ⟨x, H1, I1, rx, q1⟩ => ?_)⟩
  obtain ⟨a, kvs0, ex, d0, q1⟩ := q1
  subst ex
  obtain rfl : u = Value.ref a := rx
  obtain ⟨_, _, vs, _, dd⟩ := d0.dict I1.hok
  refine ⟨dd.typeIs, dd.mapOf.noDict, ?_⟩
  rw [m.trees]
  refine Calls.callWith_builtin rfl (Calls.evalArgs_plain (Calls.spliced_cons (thn (he.run pins s1 σ H1 _ I1 q1) fun iv s2 ⟨y, H2, I2, ry, q2⟩ => Calls.spliced_nil ?_)))
  obtain ⟨kvs, k, v, d, ey, l, q2⟩ := q2
  subst ey
  exact n_pop I2 d l ry (fun z => nomatch z) fun w' s3 I3 rw' => ⟨v, _, I3, rw', q2⟩
/-- the keys of the dict at d -/
def ItN (P : Program) (w : World) (d : Addr) (ob : Obj) (kvs : List (NK × V)) : It :=
  ⟨fun i H => H d = some (dF P w d ob kvs) ∧ i < kvs.length, fun i H x H' => H' = H ∧ ∃ k v, kvs[i]? = some (k, v) ∧ x = nkV k, fun i H => H d = some (dF P w d ob kvs) ∧ kvs.length ≤ i⟩
theorem kv_at {κ : Type} : ∀ {kvs : List (κ × V)} {vs : List (κ × Value)} {i : Nat} {k : κ} {v : V}, KV kvs vs → kvs[i]? = some (k, v) → ∃ u, vs[i]? = some (k, u)
  | [], _, i, _, _, _, h => by simp at h
  | p :: ps, q :: qs, 0, k, v, .cons a _, h => by
    have e : p = (k, v) := by simpa using h
    subst e
    exact ⟨q.2, by rw [show k = q.1 from a.1]; rfl⟩
  | p :: ps, q :: qs, i + 1, k, v, .cons _ r, h => by
    obtain ⟨u, e⟩ := kv_at (i := i) r (by simpa using h)
    exact ⟨u, by simpa using e⟩
theorem dF_at {X : Cx} {pins : List (Addr × Obj)} {σ : L2.St} {H : Hp} {s : Shared} {d : Addr} {ob : Obj} {kvs : List (NK × V)} {es : Array DictEntry} {ep : Nat} (I : Inv X pins σ H s) (hd : H d = some (dF X.prog X.w d ob kvs)) (hod : ob.data = .dict es ep) :
    s.heap.get? d = some ob ∧ es.size = kvs.length ∧ ∃ vs, KV kvs vs ∧ s.heap.DictAt (noneKind X.prog X.w) d vs ep := by
  have z : ObjOk X.prog X.w H s.heap d (.ext fun h => h.get? d = some ob ∧ IsN X.prog X.w d kvs ob) := I.hok d _ hd
  obtain ⟨⟨e, _, _, vs, kv, es', ep', hx, hdt, r⟩, _⟩ := z
  rw [hod] at hdt
  cases hdt
  have l1 := r.2.1.length
  have l2 : kvs.length = vs.length := Paired.length kv
  rw [Array.length_toList] at l1
  exact ⟨e, by omega, vs, kv, ob, es, e, hx, hod, r⟩
theorem turn_keysN {P : Program} {w : World} {K : PySem.W.Frag} {tg : Expr} {d it : Addr} {ob : Obj} {es : Array DictEntry} {ep : Nat} {kvs : List (NK × V)} (hod : ob.data = .dict es ep) : Turn P w K tg (ItN P w d ob kvs) [it] it (fun i h => h.IsKeyIter it d i kvs.length ep) where
  mem := by simp
  obj := fun i h st b hb => by
    obtain ⟨oi, e, c, dd⟩ := st
    exact ⟨oi, by rw [List.mem_singleton.mp hb]; exact e, fun v z => by rw [dd] at z; cases z⟩
  keep := fun i h h' st k => st.at fun oi e => k it List.mem_cons_self oi e
  item := by
    intro X hP hw hK hc i pins s σ H E I hf st hg
    subst hP hw hK
    obtain ⟨hd, hi⟩ := hg
    obtain ⟨f0, f1, f2, f3, f4, f5⟩ := hf it List.mem_cons_self
    obtain ⟨e, sz, vs, kv, hm⟩ := dF_at I hd hod
    obtain ⟨⟨k, v⟩, hkv⟩ : ∃ p, kvs[i]? = some p := ⟨kvs[i], List.getElem?_eq_getElem hi⟩
    obtain ⟨u, hu⟩ := kv_at kv hkv
    have hl : kvs.length = vs.length := Paired.length kv
    rw [hl] at st
    refine wpAny_pyNext_dict_item st hm hu fun key h' hkey st' sb => ?_
    have I1 : Inv X pins σ H { s with heap := h' } := I.turned (t' := s.toks) (fun b q hb z => (sb.2 b hb).trans z) f0 f1 f3 f4 f5
    obtain ⟨oi, e', c, dd⟩ := id st'
    refine ⟨key, rfl, go_of (s := { s with heap := h' }) e' c dd (by decide) ⟨nkV k, H, I1, nk_rel hkey, ⟨rfl, k, v, hkv, rfl⟩, ?_, fun b hb => (hf b hb).1⟩⟩
    show h'.IsKeyIter it d (i + 1) kvs.length ep
    rw [hl]
    exact st'
  done := by
    intro X hP hw hK hc i pins s σ H E I hf st hg
    subst hP hw hK
    obtain ⟨hd, hi⟩ := hg
    obtain ⟨f0, f1, f2, f3, f4, f5⟩ := hf it List.mem_cons_self
    obtain ⟨e, sz, vs, kv, hm⟩ := dF_at I hd hod
    exact next_key_end (I.ok.hd hc) st e hod sz hi fun h' eb => ⟨rfl, I.turned (t' := s.toks) (fun b q hb z => eb b q hb z) f0 f1 f3 f4 f5⟩
  self := fun A i s Q E st h => wpAny_pyIter_keyiter st h
/-- for k in d: d's object is fixed -/
def iKeysN (P : Program) (w : World) (td : TE) : TI := fun σ H R => td σ H fun x H1 => ∃ d kvs, x = .ref d ∧ DN P w H1 d kvs ∧ ∀ ob, R (ItN P w d ob kvs) (upd H1 d (dF P w d ob kvs))
theorem pi_keysN {X : Cx} {tg e : Expr} {td : TE} (he : PE X e td) : PI X tg e (iKeysN X.prog X.w td) := by
  refine ⟨fun pins s σ H R I h => thn (he.run pins s σ H _ I h) fun u s1 ⟨x, H1, I1, rx, q⟩ => ?_⟩
  obtain ⟨d, kvs, ex, dn, q⟩ := q
  subst ex
  obtain rfl : u = Value.ref d := rx
  obtain ⟨ob, eo, isn⟩ := dn.obj I1.hok
  obtain ⟨hd, z, vs, kv, es, ep, hx, hdt, r⟩ := id isn
  have I2 : Inv X pins σ (upd H1 d (dF X.prog X.w d ob kvs)) s1 := d_write (h' := s1.heap) (t' := s1.toks) I1 dn.mut ⟨rfl, fun _ _ => rfl⟩ ⟨ob, eo⟩ (ok_dF eo isn)
  have sz : es.size = kvs.length := by
    have l1 := r.2.1.length
    have l2 : kvs.length = vs.length := Paired.length kv
    rw [Array.length_toList] at l1
    omega
  refine iter_keys hd eo hx hdt (pi_one (tk := s1.toks) I2 _ (turn_keysN hdt) ⟨_, Heap.get?_push_size _ rfl, rfl, ?_⟩ (q ob))
  rw [sz] <;> rfl
/-- .. over a dict whose object is fixed -/
def iKeysF (P : Program) (w : World) (td : TE) : TI := fun σ H R => td σ H fun x H1 => ∃ d ob kvs, x = .ref d ∧ H1 d = some (dF P w d ob kvs) ∧ R (ItN P w d ob kvs) H1
theorem pi_keysF {X : Cx} {tg e : Expr} {td : TE} (he : PE X e td) : PI X tg e (iKeysF X.prog X.w td) := by
  refine ⟨fun pins s σ H R I h => thn (he.run pins s σ H _ I h) fun u s1 ⟨x, H1, I1, rx, q⟩ => ?_⟩
  obtain ⟨d, ob, kvs, ex, hd, q⟩ := q
  subst ex
  obtain rfl : u = Value.ref d := rx
  have z : ObjOk X.prog X.w H1 s1.heap d (.ext fun h => h.get? d = some ob ∧ IsN X.prog X.w d kvs ob) := I1.hok d _ hd
  obtain ⟨⟨eo, hsm, _, vs, kv, es, ep, hx, hdt, r⟩, _⟩ := z
  have sz : es.size = kvs.length := by
    have l1 := r.2.1.length
    have l2 : kvs.length = vs.length := Paired.length kv
    rw [Array.length_toList] at l1
    omega
  refine iter_keys hsm eo hx hdt (pi_one (tk := s1.toks) I1 _ (turn_keysN hdt) ⟨_, Heap.get?_push_size _ rfl, rfl, ?_⟩ q)
  rw [sz] <;> rfl
theorem walk_keysN {P : Program} {w : World} {d : Addr} {ob : Obj} {kvs : List (NK × V)} : Walk (ItN P w d ob kvs) kvs.length (fun H => H d = some (dF P w d ob kvs)) (fun i H x H' => H' = H ∧ ∃ k v, kvs[i]? = some (k, v) ∧ x = nkV k) :=
  ⟨fun _ _ hi q => ⟨q, hi⟩, fun _ q => ⟨q, Nat.le_refl _⟩, fun _ _ _ _ _ _ y => y⟩
end Dn
/-! _law_same with dicts -/
namespace Lw2
open PySem PySem.Spec PyProof.Rows L2 Lw Dn
/-- x and y hold the same data, n deep; dicts too (y's objects fixed) -/
def Eqw (P : Program) (w : World) (H : Hp) : Nat → V → V → Prop
  | 0, x, y => x = y ∧ Atom x
  | n + 1, x, y => (x = y ∧ Atom x) ∨ (∃ (a b : Addr) (xs ys : List V), x = .ref a ∧ y = .ref b ∧ ((H a = some (.lst xs) ∧ H b = some (.lst ys)) ∨ (H a = some (.tup xs) ∧ H b = some (.tup ys))) ∧
      xs.length = ys.length ∧ xs.length ≤ 1000 ∧ ∀ (i : Nat) (u v : V), xs[i]? = some u → ys[i]? = some v → Eqw P w H n u v) ∨
      ∃ (a b : Addr) (xs ys : List (NK × V)) (ob : Obj), x = .ref a ∧ y = .ref b ∧ DN P w H a xs ∧ H b = some (dF P w b ob ys) ∧ xs.length = ys.length ∧ ys.length ≤ 1000 ∧
        ∀ (i : Nat) (k : NK) (v : V), ys[i]? = some (k, v) → ∃ u, valV xs k = some u ∧ valV ys k = some v ∧ Eqw P w H n u v
theorem Eqw.atom {P : Program} {w : World} {H : Hp} {x : V} (h : Atom x) : ∀ n, Eqw P w H n x x
  | 0 => ⟨rfl, h⟩
  | _ + 1 => .inl ⟨rfl, h⟩
theorem Eqw.same {P : Program} {w : World} {H H' : Hp} (s : Same H H') : ∀ {n : Nat} {x y : V}, Eqw P w H n x y → Eqw P w H' n x y
  | 0, _, _, h => h
  | n + 1, x, y, h => by
    rcases h with h | ⟨a, b, xs, ys, e1, e2, h1, h2, h3, h4⟩ | ⟨a, b, xs, ys, ob, e1, e2, h1, h2, h3, h4, h5⟩
    · exact .inl h
    · refine .inr (.inl ⟨a, b, xs, ys, e1, e2, ?_, h2, h3, fun i u v p q => Eqw.same s (h4 i u v p q)⟩)
      rcases h1 with ⟨p, q⟩ | ⟨p, q⟩
      · exact .inl ⟨s _ _ p, s _ _ q⟩
      · exact .inr ⟨s _ _ p, s _ _ q⟩
    · refine .inr (.inr ⟨a, b, xs, ys, ob, e1, e2, h1.same fun o e => s _ _ e, s _ _ h2, h3, h4, fun i k v e => ?_⟩)
      obtain ⟨u, z1, z2, z3⟩ := h5 i k v e
      exact ⟨u, z1, z2, Eqw.same s z3⟩
abbrev dictBody : List Stmt := match (defBody sSame).getD 4 (.Pass ⟨0, 0, 0, 0⟩) with
  | .If _ b _ _ => b
  | _ => []
def TyU (P : Program) (w : World) (K : PySem.W.Frag) (H : Hp) (x : V) (n : String) : Prop := TyX K H x (.type n) ∨ (n = "dict" ∧ ∃ a kvs, x = .ref a ∧ DN P w H a kvs)
theorem isiU {P : Program} {w : World} {K : PySem.W.Frag} {H : Hp} {x : V} {n T : String} {b : Bool} {Q : VK} (ty : TyU P w K H x n) (h : kitB n T = some b) (q : Q (.bl b) H) :
    rIsi K [x, .ty T] H Q ∨ ∃ a kvs T' b', [x, V.ty T] = [.ref a, .ty T'] ∧ DN P w H a kvs ∧ kitB "dict" T' = some b' ∧ Q (.bl b') H := by
  rcases ty with ty | ⟨rfl, a, kvs, rfl, d⟩
  · exact .inl (isi_of ty h q)
  · exact .inr ⟨a, kvs, T, b, rfl, d, h, q⟩
def spSame (P : Program) (w : World) (n : Nat) : Sp := fun vs H Q _ => ∃ x y : V, vs = [x, y] ∧ Eqw P w H n x y ∧ ∀ H', Same H H' → Q (.bl true) H'
section
variable {P : Program} {w : World} {K : PySem.W.Frag} {mg : Str → Option Value} {base : Heap}
theorem scSame : FnScope ["_law_actual", "_law_expected", "_law_key", "_law_k"] ["_law_actual", "_law_expected"] (defScope sSame) := ⟨rfl, rfl, rfl, by decide +kernel, rfl, by decide +kernel, by decide +kernel⟩
/-- one turn of _law_same's recursion -/
theorem ok_same_of {f : Addr} {fd : FuncData} (F : Fun K "_law_same" "_law_same" sSame f fd) (B : Bt mg) (b0 : Binds K fd ["_law_actual", "_law_expected"] []) (m0 : mg "_law_same" = some (.ref f)) (n : Nat)
    (G : ∀ m, n = m + 1 → FnOk P w K mg base CX0 n f fd ["_law_actual", "_law_expected"] (spSame P w m)) : FnOk P w K mg base CX0 (n + 1) f fd ["_law_actual", "_law_expected"] (spSame P w n) := by
  refine F.ok scSame (fun vs H Q E h => ?_) (fun cdv A outer s H vs Q E hr h => ?_)
  · obtain ⟨x, y, rfl, _⟩ := h
    rfl
  · obtain ⟨x, y, rfl, hE, k⟩ := h
    -- what is no atom
    obtain ⟨t5, d5, k5⟩ : ∃ t, PSs (cxOf CX0 P w K mg base ["_law_actual", "_law_expected", "_law_key", "_law_k"] "_law_same" (defScope sSame) f cdv A outer s H E).nox ((defBody sSame).drop 5) t ∧
        ∀ (m : Nat) (a b : Addr) (xs ys : List V), n = m + 1 → ((H a = some (.lst xs) ∧ H b = some (.lst ys)) ∨ (H a = some (.tup xs) ∧ H b = some (.tup ys))) →
          xs.length = ys.length → xs.length ≤ 1000 → (∀ (i : Nat) (u v : V), xs[i]? = some u → ys[i]? = some v → Eqw P w H m u v) → (x = .ref a ∧ y = .ref b) →
          t { nx := fun _ H' => Q .non H', rt := Q } [some (.ref a), some (.ref b), none, none] H := by
      cases n with
      | zero => exact ⟨_, pss_never, fun m _ _ _ _ e => nomatch e⟩
      | succ m =>
        have GS := G m rfl
        refine ⟨_, pss_cons (ps_if (pw_or (pt_cmpR op_ne (pe_callB (call_or call_isi call_isiN) (by rfl) B.isi (by decide +kernel) (pa_cons (pv 1) (pa_cons (pe_bltn (v := .ty "tuple") (by rfl) B.tuple (by decide +kernel) rfl) pa_nil)))
              (pe_callB (call_or call_isi call_isiN) (by rfl) B.isi (by decide +kernel) (pa_cons (pv 0) (pa_cons (pe_bltn (v := .ty "tuple") (by rfl) B.tuple (by decide +kernel) rfl) pa_nil))) (nomark _))
            (pw_or1 (pt_not (pt_val (pe_callB call_isiT (by rfl) B.isi (by decide +kernel) (pa_cons (pv 0) (pa_cons (pe_tup (pa_cons (pe_bltn (v := .ty "tuple") (by rfl) B.tuple (by decide +kernel) rfl) (pa_cons (pe_bltn (v := .ty "list") (by rfl) B.list (by decide +kernel) rfl) pa_nil))) pa_nil))))))).pt pss_never pss_nil)
          (pss_cons (ps_if (pt_cmpR op_ne (pe_callB call_len_seq (by rfl) B.len PySem.boot_len (pa_cons (pv 0) pa_nil)) (pe_callB call_len_seq (by rfl) B.len PySem.boot_len (pa_cons (pv 1) pa_nil)) (nomark _)) pss_never pss_nil)
          (pss_one (ps_ret (pe_cmpR op_eq (pe_callB call_len_seq (by rfl) B.len PySem.boot_len (pa_cons
            (pe_lc (own := [("_law_k", 3)]) (g := gName 3) (by rfl) scSame.nd (pi_range1 rfl B.range (pa_cons (pe_callB call_len_seq (by rfl) B.len PySem.boot_len (pa_cons (pv 1) pa_nil)) pa_nil))
              (blkOk_by (own := [("_law_k", 3)]) (N := ["_law_actual", "_law_expected", "_law_key", "_law_k"]) (sc := defScope sSame) (by decide +kernel)) (fun _ _ _ _ _ => pg_name (i := 3) scSame.nd rfl (Or.inl rfl))
              (fun _ _ _ _ _ => pts_one (pt_not (pt_val (pe_call GS hr rfl m0 F.kp b0 .nil pass0 (pa_cons (pe_ix (r := rIx K) ix_seq (pv 0) (pv 3) (fun _ _ => rfl)) (pa_cons (pe_ix (r := rIx K) ix_seq (pv 1) (pv 3) (fun _ _ => rfl)) pa_nil))))))
              (fun _ _ _ _ _ => pv 3)) pa_nil)) pe_int (nomark _))))), ?_⟩
        intro m' a b xs ys em hk hl hz hp hxy
        obtain rfl : m' = m := by omega
        -- both are of one kind
        obtain ⟨T, tx, ty, e1, e2⟩ : ∃ T : Bool, (∀ H', Same H H' → TyX K H' (.ref a) (.type (if T then "tuple" else "list"))) ∧ TyX K H (.ref b) (.type (if T then "tuple" else "list")) ∧ kitB (if T then "tuple" else "list") "tuple" = some T ∧
            ∀ H', Same H H' → (SqL K H' a xs ∧ SqL K H' b ys) ∨ (SqT K H' a xs ∧ SqT K H' b ys) := by
          rcases hk with ⟨p, q⟩ | ⟨p, q⟩
          · exact ⟨false, fun H' s => .base (.lst (s _ _ p)), .base (.lst q), by decide +kernel, fun H' s => .inl ⟨SqL.of (s _ _ p), SqL.of (s _ _ q)⟩⟩
          · exact ⟨true, fun H' s => .base (.tup (s _ _ p)), .base (.tup q), by decide +kernel, fun H' s => .inr ⟨SqT.of (s _ _ p), SqT.of (s _ _ q)⟩⟩
        have lenA : ∀ H', Same H H' → SqL K H' a xs ∨ SqT K H' a xs := fun H' s => (e2 H' s).elim (fun z => .inl z.1) fun z => .inr z.1
        have lenB : ∀ H', Same H H' → SqL K H' b ys ∨ SqT K H' b ys := fun H' s => (e2 H' s).elim (fun z => .inl z.2) fun z => .inr z.2
        have any : kitB (if T then "tuple" else "list") "list" = some (!T) := by cases T <;> decide +kernel
        refine ⟨_, rfl, isiU (.inl ty) e1 ⟨_, rfl, isiU (.inl (tx H (Same.refl H))) e1 ⟨rfl, _, rfl, ?_⟩⟩⟩
        rw [decide_eq_true (p := V.bl T = V.bl T) rfl]
        refine iteF ⟨_, rfl, (by show 2 ≤ sizeLine; decide), fun tp htp => ⟨_, tp, _, _, _, true, rfl, upd_same, .cons (.ty _) (.cons (.ty _) .nil), tx _ (same_new htp), kitAny_cons (kit_ty e1) (fun z => kitAny_cons (kit_ty any) (fun z' => by rw [z] at z'; cases z') (fun _ => rfl)) (fun _ => rfl), _, rfl, iteF ?_⟩⟩
        -- len(actual) != len(expected)
        refine ⟨_, rfl, a, xs, rfl, lenA _ (same_new htp), _, rfl, b, ys, rfl, lenB _ (same_new htp), rfl, _, rfl, iteNS (by rw [hl]) ?_⟩
        -- the comprehension's list stays empty
        refine ⟨_, rfl, b, ys, rfl, lenB _ (same_new htp), ys.length, rfl, (by omega), (by omega), fun D hD => ?_⟩
        have sD : Same H (upd (upd H tp (.tup [V.ty "tuple", V.ty "list"])) D (.lst [])) := (same_new htp).trans (same_new hD)
        refine lc_range (lo := 0) (n := ys.length) (fun i H' => Same (upd (upd H tp (.tup [V.ty "tuple", V.ty "list"])) D (.lst [])) H') (Same.refl _) ?_ ?_
        · intro i H' hi hs
          obtain ⟨u, hu⟩ : ∃ u, xs[i]? = some u := ⟨xs[i]'(by omega), List.getElem?_eq_getElem (by omega)⟩
          obtain ⟨v, hv⟩ : ∃ v, ys[i]? = some v := ⟨ys[i]'(by omega), List.getElem?_eq_getElem (by omega)⟩
          have s2 : Same H H' := sD.trans hs
          have ux : ∀ Q : VK, Q u H' → rIx K (.ref a) (.int (0 + (i : Int))) H' Q := fun Q q => by
            rcases e2 H' s2 with ⟨z, _⟩ | ⟨z, _⟩
            · exact .inl ⟨a, xs, _, u, rfl, rfl, z, at_of (Int.zero_add _) hu, q⟩
            · exact .inr (.inl ⟨a, xs, _, u, rfl, rfl, z, at_of (Int.zero_add _) hu, q⟩)
          have vx : ∀ Q : VK, Q v H' → rIx K (.ref b) (.int (0 + (i : Int))) H' Q := fun Q q => by
            rcases e2 H' s2 with ⟨_, z⟩ | ⟨_, z⟩
            · exact .inl ⟨b, ys, _, v, rfl, rfl, z, at_of (Int.zero_add _) hv, q⟩
            · exact .inr (.inl ⟨b, ys, _, v, rfl, rfl, z, at_of (Int.zero_add _) hv, q⟩)
          refine ⟨rfl, _, rfl, _, rfl, ux _ ⟨_, rfl, _, rfl, vx _ ⟨u, v, rfl, (hp i u v hu hv).same s2, fun H3 s3 => ⟨_, rfl, iteF (hs.trans s3)⟩⟩⟩⟩
        · intro H' hs
          refine ⟨D, [], rfl, .inl (SqL.of (hs _ _ upd_same)), rfl, ?_⟩
          exact k H' (sD.trans hs)
    obtain ⟨tD, dD, kD⟩ : ∃ t, PSs (cxOf CX0 P w K mg base ["_law_actual", "_law_expected", "_law_key", "_law_k"] "_law_same" (defScope sSame) f cdv A outer s H E).nox dictBody t ∧
        ∀ (m : Nat) (a b : Addr) (xs ys : List (NK × V)) (ob : Obj), n = m + 1 → DN P w H a xs → H b = some (dF P w b ob ys) → xs.length = ys.length → ys.length ≤ 1000 →
          (∀ (i : Nat) (k : NK) (v : V), ys[i]? = some (k, v) → ∃ u, valV xs k = some u ∧ valV ys k = some v ∧ Eqw P w H m u v) → ∀ D : Ends, D.rt = Q →
          t D [some (.ref a), some (.ref b), none, none] H := by
      cases n with
      | zero => exact ⟨_, pss_never, fun m _ _ _ _ _ e => nomatch e⟩
      | succ m =>
        have GS := G m rfl
        refine ⟨_, pss_cons (ps_if (pw_or (pt_not (pt_val (pe_callB (call_or call_isi call_isiN) (by rfl) B.isi (by decide +kernel) (pa_cons (pv 0) (pa_cons (pe_bltn (v := .ty "dict") (by rfl) B.dict (by decide +kernel) rfl) pa_nil))))) (pw_or1 (pt_cmpR op_ne (pe_callB call_lenN (by rfl) B.len PySem.boot_len (pa_cons (pv 0) pa_nil)) (pe_callB call_lenN (by rfl) B.len PySem.boot_len (pa_cons (pv 1) pa_nil)) (nomark _)))).pt pss_never pss_nil)
          (pss_one (ps_ret (pe_cmpR op_eq (pe_callB call_len_seq (by rfl) B.len PySem.boot_len (pa_cons
            (pe_lc (own := [("_law_key", 2)]) (g := gName 2) (by rfl) scSame.nd (pi_keysF (pv 1))
              (blkOk_by (own := [("_law_key", 2)]) (N := ["_law_actual", "_law_expected", "_law_key", "_law_k"]) (sc := defScope sSame) (by decide +kernel)) (fun _ _ _ _ _ => pg_name (i := 2) scSame.nd rfl (Or.inl rfl))
              (fun _ _ _ _ _ => pts_one (pw_or (pt_cmpR (r := rInN P w true) op_notInN (pv 2) (pv 0) (by rfl)) (pw_or1 (pt_not (pt_val (pe_call GS hr (by rfl) m0 F.kp b0 .nil pass0 (pa_cons (pe_getNP (P := P) (w := w) rfl rfl (pv 0) (pv 2) (fun _ _ => rfl)) (pa_cons (pe_getNP (P := P) (w := w) rfl rfl (pv 1) (pv 2) (fun _ _ => rfl)) pa_nil))))))).pt)
              (fun _ _ _ _ _ => pv 2)) pa_nil)) pe_int (nomark _)))), ?_⟩
        intro m' a b xs ys ob em hx hy hl hz hp D hD
        obtain rfl : m' = m := by omega
        have hy' : DN P w H b ys := .inr ⟨ob, hy⟩
        refine ⟨_, rfl, isiU (b := true) (.inr ⟨rfl, a, xs, rfl, hx⟩) (by decide +kernel) ⟨_, rfl, iteF ⟨_, rfl, a, xs, rfl, hx, _, rfl, b, ys, rfl, hy', rfl, _, rfl, iteNS (by rw [hl]) ?_⟩⟩⟩
        refine ⟨_, rfl, b, ob, ys, rfl, hy, fun D2 hD2 => ?_⟩
        refine lc_it walk_keysN (fun i H' => Same H H' ∧ H' D2 = some (.lst [])) ⟨same_new hD2, upd_same⟩ (fun i H' _ h => h.1 _ _ hy) ?_ ?_
        · rintro i x' H1 H2 hi ⟨s1, h1⟩ ⟨rfl, k', v, hkv, rfl⟩
          obtain ⟨u, l1, l2, eq⟩ := hp i k' v hkv
          have da : DN P w H2 a xs := hx.same fun o e => s1 _ _ e
          have db : DN P w H2 b ys := hy'.same fun o e => s1 _ _ e
          refine ⟨rfl, _, rfl, _, rfl, a, xs, k', rfl, rfl, da, _, rfl, ?_⟩
          show if (!(valV xs k').isSome) = true then _ else _
          rw [l1]
          exact iteF ⟨_, rfl, _, rfl, a, xs, k', u, rfl, rfl, da, l1, _, rfl, _, rfl, b, ys, k', v, rfl, rfl, db, l2, u, v, rfl, eq.same s1, fun H3 s3 => ⟨_, rfl, iteF ⟨s1.trans s3, s3 _ _ h1⟩⟩⟩
        · rintro H' ⟨s1, h1⟩
          refine ⟨D2, [], rfl, .inl (SqL.of h1), rfl, ?_⟩
          rw [hD]
          exact k H' s1
    refine ⟨_, pss_cons (ps_if (pt_cmp (pc_isN (pv 1))) (pss_one (ps_ret (pe_cmp (pc_isN (pv 0))))) pss_nil)
        (pss_cons (ps_if (pt_val (pe_callB (call_or call_isi call_isiN) (by rfl) B.isi (by decide +kernel) (pa_cons (pv 1) (pa_cons (pe_bltn (v := .ty "bool") (by rfl) B.bool (by decide +kernel) rfl) pa_nil)))) (pss_one (ps_ret (pe_and (pe_callB (call_or call_isi call_isiN) (by rfl) B.isi (by decide +kernel) (pa_cons (pv 0) (pa_cons (pe_bltn (v := .ty "bool") (by rfl) B.bool (by decide +kernel) rfl) pa_nil))) (pe_one (pe_cmpR op_eq (pv 0) (pv 1) (nomark _)))))) pss_nil)
        (pss_cons (ps_if (pt_val (pe_callB (call_or call_isi call_isiN) (by rfl) B.isi (by decide +kernel) (pa_cons (pv 1) (pa_cons (pe_bltn (v := .ty "int") (by rfl) B.int (by decide +kernel) rfl) pa_nil)))) (pss_one (ps_ret (pe_and (pe_callB (call_or call_isi call_isiN) (by rfl) B.isi (by decide +kernel) (pa_cons (pv 0) (pa_cons (pe_bltn (v := .ty "int") (by rfl) B.int (by decide +kernel) rfl) pa_nil))) (pe_and (pe_not (pe_callB (call_or call_isi call_isiN) (by rfl) B.isi (by decide +kernel) (pa_cons (pv 0) (pa_cons (pe_bltn (v := .ty "bool") (by rfl) B.bool (by decide +kernel) rfl) pa_nil)))) (pe_one (pe_cmpR op_eq (pv 0) (pv 1) (nomark _))))))) pss_nil)
        (pss_cons (ps_if (pt_val (pe_callB (call_or call_isi call_isiN) (by rfl) B.isi (by decide +kernel) (pa_cons (pv 1) (pa_cons (pe_bltn (v := .ty "str") (by rfl) B.str (by decide +kernel) rfl) pa_nil)))) (pss_one (ps_ret (pe_and (pe_callB (call_or call_isi call_isiN) (by rfl) B.isi (by decide +kernel) (pa_cons (pv 0) (pa_cons (pe_bltn (v := .ty "str") (by rfl) B.str (by decide +kernel) rfl) pa_nil))) (pe_one (pe_cmpR op_eq (pv 0) (pv 1) (nomark _)))))) pss_nil)
        (pss_cons (ps_if (pt_val (pe_callB (call_or call_isi call_isiN) (by rfl) B.isi (by decide +kernel) (pa_cons (pv 1) (pa_cons (pe_bltn (v := .ty "dict") (by rfl) B.dict (by decide +kernel) rfl) pa_nil)))) dD pss_nil) d5)))), ?_⟩
    have atom : ∀ x : V, Atom x → Q (.bl true) H → Q (.bl (decide (x = x))) H := fun x _ q => by
      rw [decide_eq_true rfl]
      exact q
    have base : (x = y ∧ Atom x) ∨ (∃ (m : Nat) (a b : Addr) (xs ys : List V), n = m + 1 ∧ x = .ref a ∧ y = .ref b ∧ ((H a = some (.lst xs) ∧ H b = some (.lst ys)) ∨ (H a = some (.tup xs) ∧ H b = some (.tup ys))) ∧
          xs.length = ys.length ∧ xs.length ≤ 1000 ∧ ∀ (i : Nat) (u v : V), xs[i]? = some u → ys[i]? = some v → Eqw P w H m u v) ∨
        ∃ (m : Nat) (a b : Addr) (xs ys : List (NK × V)) (ob : Obj), n = m + 1 ∧ x = .ref a ∧ y = .ref b ∧ DN P w H a xs ∧ H b = some (dF P w b ob ys) ∧ xs.length = ys.length ∧ ys.length ≤ 1000 ∧
          ∀ (i : Nat) (k : NK) (v : V), ys[i]? = some (k, v) → ∃ u, valV xs k = some u ∧ valV ys k = some v ∧ Eqw P w H m u v := by
      cases n with
      | zero => exact .inl hE
      | succ m =>
        rcases hE with z | ⟨a, b, xs, ys, z⟩ | ⟨a, b, xs, ys, ob, z⟩
        · exact .inl z
        · exact .inr (.inl ⟨m, a, b, xs, ys, rfl, z⟩)
        · exact .inr (.inr ⟨m, a, b, xs, ys, ob, rfl, z⟩)
    rcases base with ⟨rfl, ha⟩ | ⟨m, a, b, xs, ys, em, rfl, rfl, hk, hl, hz, hp⟩ | ⟨m, a, b, xs, ys, ob, em, rfl, rfl, hx, hy, hl, hz, hp⟩
    · cases x with
      | non =>
        refine ⟨_, rfl, _, rfl, iteT ⟨_, rfl, ?_⟩⟩
        exact k H (Same.refl H)
      | bl c =>
        refine ⟨_, rfl, _, rfl, iteF ⟨_, rfl, isiU (b := true) (.inl (.base (.bl c))) (by decide +kernel) ⟨_, rfl, iteT ⟨_, rfl, isiU (b := true) (.inl (.base (.bl c))) (by decide +kernel) ⟨_, rfl, iteT ⟨_, rfl, _, rfl, rfl, ?_⟩⟩⟩⟩⟩⟩
        exact atom _ trivial (k H (Same.refl H))
      | int c =>
        refine ⟨_, rfl, _, rfl, iteF ⟨_, rfl, isiU (b := false) (.inl (.base (.int c))) (by decide +kernel) ⟨_, rfl, iteF ⟨_, rfl, isiU (b := true) (.inl (.base (.int c))) (by decide +kernel) ⟨_, rfl, iteT ⟨_, rfl, isiU (b := true) (.inl (.base (.int c))) (by decide +kernel) ⟨_, rfl, iteT ⟨_, rfl, isiU (b := false) (.inl (.base (.int c))) (by decide +kernel) ⟨_, rfl, _, rfl, iteT ⟨_, rfl, _, rfl, rfl, ?_⟩⟩⟩⟩⟩⟩⟩⟩⟩⟩
        exact atom _ trivial (k H (Same.refl H))
      | str c =>
        refine ⟨_, rfl, _, rfl, iteF ⟨_, rfl, isiU (b := false) (.inl (.base (.str c))) (by decide +kernel) ⟨_, rfl, iteF ⟨_, rfl, isiU (b := false) (.inl (.base (.str c))) (by decide +kernel) ⟨_, rfl, iteF ⟨_, rfl, isiU (b := true) (.inl (.base (.str c))) (by decide +kernel) ⟨_, rfl, iteT ⟨_, rfl, isiU (b := true) (.inl (.base (.str c))) (by decide +kernel) ⟨_, rfl, iteT ⟨_, rfl, _, rfl, rfl, ?_⟩⟩⟩⟩⟩⟩⟩⟩⟩⟩
        exact atom _ trivial (k H (Same.refl H))
      | _ => exact ha.elim
    · have q := k5 m a b xs ys em hk hl hz hp ⟨rfl, rfl⟩
      rcases hk with ⟨p1, p2⟩ | ⟨p1, p2⟩
      · exact ⟨_, rfl, _, rfl, iteF ⟨_, rfl, isiU (b := false) (.inl (.base (.lst p2))) (by decide +kernel) ⟨_, rfl, iteF ⟨_, rfl, isiU (b := false) (.inl (.base (.lst p2))) (by decide +kernel) ⟨_, rfl, iteF ⟨_, rfl, isiU (b := false) (.inl (.base (.lst p2))) (by decide +kernel) ⟨_, rfl, iteF ⟨_, rfl, isiU (b := false) (.inl (.base (.lst p2))) (by decide +kernel) ⟨_, rfl, iteF q⟩⟩⟩⟩⟩⟩⟩⟩⟩
      · exact ⟨_, rfl, _, rfl, iteF ⟨_, rfl, isiU (b := false) (.inl (.base (.tup p2))) (by decide +kernel) ⟨_, rfl, iteF ⟨_, rfl, isiU (b := false) (.inl (.base (.tup p2))) (by decide +kernel) ⟨_, rfl, iteF ⟨_, rfl, isiU (b := false) (.inl (.base (.tup p2))) (by decide +kernel) ⟨_, rfl, iteF ⟨_, rfl, isiU (b := false) (.inl (.base (.tup p2))) (by decide +kernel) ⟨_, rfl, iteF q⟩⟩⟩⟩⟩⟩⟩⟩⟩
    · have q := kD m a b xs ys ob em hx hy hl hz hp
      exact ⟨_, rfl, _, rfl, iteF ⟨_, rfl, isiU (b := false) (.inr ⟨rfl, b, ys, rfl, .inr ⟨ob, hy⟩⟩) (by decide +kernel) ⟨_, rfl, iteF ⟨_, rfl, isiU (b := false) (.inr ⟨rfl, b, ys, rfl, .inr ⟨ob, hy⟩⟩) (by decide +kernel) ⟨_, rfl, iteF ⟨_, rfl, isiU (b := false) (.inr ⟨rfl, b, ys, rfl, .inr ⟨ob, hy⟩⟩) (by decide +kernel) ⟨_, rfl, iteF ⟨_, rfl, isiU (b := true) (.inr ⟨rfl, b, ys, rfl, .inr ⟨ob, hy⟩⟩) (by decide +kernel) ⟨_, rfl, iteT (q _ rfl)⟩⟩⟩⟩⟩⟩⟩⟩⟩
theorem ok_same {f : Addr} {fd : FuncData} (F : Fun K "_law_same" "_law_same" sSame f fd) (B : Bt mg) (b0 : Binds K fd ["_law_actual", "_law_expected"] []) (m0 : mg "_law_same" = some (.ref f)) :
    ∀ n : Nat, FnOk P w K mg base CX0 (n + 1) f fd ["_law_actual", "_law_expected"] (spSame P w n) := by
  intro n
  induction n with
  | zero => exact ok_same_of F B b0 m0 0 fun m e => nomatch e
  | succ n ih =>
    refine ok_same_of F B b0 m0 (n + 1) fun m e => ?_
    obtain rfl : n = m := by omega
    exact ih
end
end Lw2
/-! names, Columns and the law's way to make them -/
namespace Nm
open PySem PySem.Spec PyProof.Rows L2 Lw Xv Lh Ow
abbrev sErr : Stmt := inClass (Lw.top 2) 0
abbrev sIsName : Stmt := Lw.top 9
abbrev sInit : Stmt := inClass (Lw.top 12) 0
abbrev sLen : Stmt := inClass (Lw.top 12) 2
abbrev sCon : Stmt := inClass (Lw.top 12) 3
abbrev sEq : Stmt := inClass (Lw.top 12) 4
def wordL : List V := [.str "and", .str "case", .str "else", .str "is", .str "missing", .str "must", .str "not", .str "or"]
def abc : Str := "abcdefghijklmnopqrstuvwxyz"
def lets (z : Str) : Bool := z.cps.toList.all fun c => decide (c ∈ abc.cps.toList)
/-- the text may be a name -/
def okS (z : Str) : Bool := !inV (.str z) wordL && (decide (1 ≤ z.length) && decide (z.length ≤ 8) && lets z)
def okV : V → Bool
  | .str z => okS z
  | _ => false
/-- a text, or a thing of another kind that is known -/
def Itm (K : PySem.W.Frag) (H : Hp) (x : V) : Prop := (∃ z, x = .str z ∧ z.length ≤ 9) ∨ ∃ T : String, okV x = false ∧ kitB T "str" = some false ∧ ∀ H', Same H H' → TyX K H' x (.type T)
theorem Itm.same {K : PySem.W.Frag} {H H' : Hp} {x : V} (h : Itm K H x) (s : Same H H') : Itm K H' x := by
  rcases h with h | ⟨T, h1, h2, h3⟩
  · exact .inl h
  · exact .inr ⟨T, h1, h2, fun H2 s2 => h3 H2 (s.trans s2)⟩
/-- x is no name, or stands ahead of k -/
def badV (xs : List V) (k : Nat) (x : V) : Bool := !okV x || inV x (xs.take k)
def badK (xs : List V) (k : Nat) : Bool := match xs[k]? with
  | some x => badV xs k x
  | none => false
/-- what is due of these arguments -/
def due (xs : List V) : Option Int := if xs.length = 0 ∨ 4 < xs.length then some (-1) else ((List.range xs.length).find? (badK xs)).map Int.ofNat
theorem due_m {xs : List V} (h : xs.length = 0 ∨ 4 < xs.length) : due xs = some (-1) := if_pos h
theorem due_k {xs : List V} {k : Nat} (h : ¬ (xs.length = 0 ∨ 4 < xs.length)) (hk : k < xs.length) (b : badK xs k = true) (l : ∀ j, j < k → badK xs j = false) : due xs = some (k : Int) := by
  unfold due
  rw [if_neg h]
  have e : (List.range xs.length).find? (badK xs) = some k := by
    rw [List.find?_range_eq_some]
    exact ⟨b, by simpa using hk, fun j hj => by rw [l j hj]; rfl⟩
  rw [e]
  rfl
theorem due_0 {xs : List V} (h : ¬ (xs.length = 0 ∨ 4 < xs.length)) (l : ∀ j, j < xs.length → badK xs j = false) : due xs = none := by
  unfold due
  rw [if_neg h]
  have e : (List.range xs.length).find? (badK xs) = none := by
    rw [List.find?_range_eq_none]
    exact fun j hj => by rw [l j hj]; rfl
  rw [e]
  rfl
theorem due_no {xs : List V} (h : due xs = none) : ¬ (xs.length = 0 ∨ 4 < xs.length) ∧ ∀ j, j < xs.length → badK xs j = false := by
  unfold due at h
  by_cases c : xs.length = 0 ∨ 4 < xs.length
  · rw [if_pos c] at h
    cases h
  · rw [if_neg c] at h
    refine ⟨c, fun j hj => ?_⟩
    have e : (List.range xs.length).find? (badK xs) = none := by
      cases q : (List.range xs.length).find? (badK xs) with
      | none => rfl
      | some k =>
        rw [q] at h
        cases h
    rw [List.find?_range_eq_none] at e
    have z := e j hj
    simpa using z
theorem okV_str {x : V} (h : okV x = true) : ∃ z, x = .str z ∧ okS z = true := by
  cases x with
  | str z => exact ⟨z, rfl, h⟩
  | _ => cases h
theorem flat_take {xs : List V} {k : Nat} (l : ∀ j, j < k → badK xs j = false) : (xs.take k).all flatV = true := by
  rw [List.all_eq_true]
  intro x hx
  obtain ⟨j, hj, e⟩ := List.getElem_of_mem hx
  rw [List.length_take] at hj
  have b := l j (by omega)
  have e2 : xs[j]? = some x := by
    rw [List.getElem_take] at e
    rw [← e]
    exact List.getElem?_eq_getElem (by omega)
  unfold badK at b
  rw [e2] at b
  have b2 : (!okV x || inV x (xs.take j)) = false := b
  rw [Bool.or_eq_false_iff] at b2
  obtain ⟨z, rfl, _⟩ := okV_str (x := x) (by simpa using b2.1)
  rfl
theorem all_ok {xs : List V} (l : ∀ j, j < xs.length → badK xs j = false) {j : Nat} {x : V} (e : xs[j]? = some x) : okV x = true := by
  have b := l j (List.getElem?_eq_some_iff.mp e).1
  unfold badK at b
  rw [e] at b
  have b2 : (!okV x || inV x (xs.take j)) = false := b
  rw [Bool.or_eq_false_iff] at b2
  simpa using b2.1
theorem badK_at {xs : List V} {k : Nat} {x : V} (e : xs[k]? = some x) : badK xs k = badV xs k x := by
  unfold badK
  rw [e]
theorem cut_take {xs : List V} {k : Nat} (h : k ≤ xs.length) : cutV xs none (some (k : Int)) = xs.take k := by
  have e0 : HT.sIx xs.length 0 none = 0 := rfl
  have e1 : HT.sIx xs.length xs.length (some (k : Int)) = k := by
    unfold HT.sIx
    show (if (k : Int) < 0 then _ else _) = k
    rw [if_neg (by omega)]
    show min (k : Int).toNat xs.length = k
    omega
  unfold cutV
  rw [e0, e1]
  simp
/-- names of kinds.py -/
structure Kd (K : PySem.W.Frag) (mg : Str → Option Value) : Prop where
  w : ∃ a, mg "WORDS" = some (.ref a) ∧ ∀ H, SqT K H a wordL
  l : ∃ t, mg "LETTERS" = some (.str abc t)
  m : ∃ t, mg "MOST_LETTERS" = some (.int 8 t)
  c : ∃ t, mg "MOST_COLUMNS" = some (.int 4 t)
  all : mg "all" = none
  enum : mg "enumerate" = none
theorem same_put {H H' : Hp} {D : Addr} {o : HO} (s : Same H H') (n : H D = none) : Same H (L2.upd H' D o) := fun b u e => by
  rw [upd_ne (ne_of_none e n)]
  exact s b u e
def spIsName (K : PySem.W.Frag) : Sp := fun vs H Q _ => ∃ x, vs = [x] ∧ ((∃ z, x = .str z ∧ z.length ≤ 9) ∨ ∃ T : String, okV x = false ∧ kitB T "str" = some false ∧ TyX K H x (.type T)) ∧ ∀ H', Same H H' → Q (.bl (okV x)) H'
section
variable {P : Program} {w : World} {K : PySem.W.Frag} {mg : Str → Option Value} {base : Heap}
theorem scIsName : FnScope ["value", "letter"] ["value"] (defScope sIsName) := ⟨rfl, rfl, rfl, by decide +kernel, rfl, by decide +kernel, by decide +kernel⟩
theorem okIsName {f : Addr} {fd : FuncData} (F : Fun K "is_name" "is_name" sIsName f fd) (B : Bt mg) (D : Kd K mg) : FnOk P w K mg base CX0 1 f fd ["value"] (spIsName K) := by
  obtain ⟨aw, mw, hw⟩ := D.w
  obtain ⟨tl, ml⟩ := D.l
  obtain ⟨tm, mm⟩ := D.m
  refine F.ok scIsName (fun vs H Q E h => ?_) (fun cdv A outer s H vs Q E hr h => ?_)
  · obtain ⟨x, rfl, _⟩ := h
    rfl
  · obtain ⟨x, rfl, hx, k⟩ := h
    refine ⟨_, pss_cons (ps_if (pw_or (pt_not (pt_val (pe_callB call_isi (by rfl) B.isi (by decide +kernel) (pa_cons (pv 0) (pa_cons (pe_bltn (v := .ty "str") (by rfl) B.str (by decide +kernel) rfl) pa_nil)))))
          (pw_or1 (pt_cmpR op_in_seq (pv 0) (pe_glob (v := .ref aw) (by rfl) mw rfl) (by rfl)))).pt (pss_one (ps_ret pe_bl)) pss_nil)
        (pss_one (ps_ret (pe_and (pe_chain op_le op_le pe_int (pe_callB call_len_str (by rfl) B.len PySem.boot_len (pa_cons (pv 0) pa_nil)) (pe_glob (v := .int 8) (by rfl) mm ⟨tm, rfl⟩))
          (pe_one (pe_callB (cr_all rfl) (by rfl) D.all (by decide +kernel) (pa_cons
            (pe_lc (own := [("letter", 1)]) (g := gName 1) (by rfl) scIsName.nd (pi_str (pv 0))
              (blkOk_by (own := [("letter", 1)]) (N := ["value", "letter"]) (sc := defScope sIsName) (by decide +kernel)) (fun _ _ _ _ _ => pg_name (i := 1) scIsName.nd rfl (Or.inl rfl))
              (fun _ _ _ _ _ => pts_nil)
              (fun _ _ _ _ _ => pe_cmpR op_in_sign (pv 1) (pe_glob (v := .str abc) (by rfl) ml ⟨tl, rfl⟩) (by rfl))) pa_nil)))))), ?_⟩
    rcases hx with ⟨z, rfl, hz⟩ | ⟨T, hf, hT, ty⟩
    · refine ⟨_, rfl, _, _, _, _, true, rfl, .ty _, .base (.str z), kit_ty (by decide +kernel), true, rfl, iteF ?_⟩
      refine ⟨_, rfl, aw, wordL, rfl, .inr (hw H), rfl, (by decide +kernel), _, rfl, ?_⟩
      refine ite2 (fun hw1 => ?_) (fun hw1 => ?_)
      · have e : okV (.str z) = false := by
          show (!inV (.str z) wordL && _) = false
          rw [show inV (.str z) wordL = true from hw1]
          rfl
        rw [← e]
        exact k H (Same.refl H)
      · have e : inV (.str z) wordL = false := by simpa using hw1
        have sl := sizeLine_eq
        have ev : okV (.str z) = (decide (1 ≤ z.length) && decide (z.length ≤ 8) && lets z) := by
          show (!inV (.str z) wordL && _) = _
          rw [e]
          rfl
        refine ⟨_, rfl, z, rfl, by omega, _, _, rfl, rfl, _, rfl, ?_⟩
        have i1 : (decide ((1 : Int) ≤ (z.length : Int))) = decide (1 ≤ z.length) := by
          apply decide_eq_decide.mpr
          omega
        have i2 : (decide ((z.length : Int) ≤ (8 : Int))) = decide (z.length ≤ 8) := by
          apply decide_eq_decide.mpr
          omega
        rw [i1]
        by_cases c1 : 1 ≤ z.length
        · rw [decide_eq_true c1]
          refine iteT ⟨_, _, rfl, rfl, _, rfl, ?_⟩
          rw [i2]
          by_cases c2 : z.length ≤ 8
          · rw [decide_eq_true c2]
            refine iteT ⟨_, rfl, z, rfl, fun D hD => ?_⟩
            rw [decide_eq_true c1, decide_eq_true c2] at ev
            have hl : z.cps.toList.length = z.length := by simp [Str.length]
            refine lc_it walk_str (fun i H' => ∃ bs : List Bool, bs.length = i ∧ bs.all id = (z.cps.toList.take i).all (fun c => decide (c ∈ abc.cps.toList)) ∧ Same H H' ∧ H' D = some (.lst (bs.map V.bl))) ?_ ?_ ?_ ?_
            · exact ⟨[], rfl, rfl, same_new hD, upd_same⟩
            · exact fun _ _ _ _ => trivial
            · rintro i x H1 H2 hi ⟨bs, h1, h2, h3, h4⟩ ⟨rfl, c, hc, rfl⟩
              refine ⟨rfl, _, rfl, c, abc, rfl, rfl, _, h4, ?_, bs ++ [decide (c ∈ abc.cps.toList)], ?_, ?_, same_put h3 hD, ?_⟩
              · rw [List.length_map, h1]
                have : z.cps.size = z.length := rfl
                omega
              · rw [List.length_append, h1]
                rfl
              · have e1 : z.cps.toList[i]? = some c := by simpa using hc
                rw [List.all_append, h2, List.take_add_one, e1]
                simp
              · rw [upd_same, List.map_append]
                rfl
            · rintro H' ⟨bs, h1, h2, h3, h4⟩
              refine ⟨D, bs, rfl, SqL.of h4, ?_⟩
              have e2 : bs.all id = lets z := by
                rw [h2]
                have : z.cps.size = z.length := rfl
                rw [List.take_of_length_le (by omega)]
                rfl
              rw [e2]
              rw [Bool.true_and, Bool.true_and] at ev
              rw [← ev]
              exact k H' h3
          · rw [decide_eq_false c2]
            rw [decide_eq_false c2, Bool.and_false, Bool.false_and] at ev
            refine iteF ?_
            have z2 := k H (Same.refl H)
            rw [ev] at z2
            exact z2
        · rw [decide_eq_false c1]
          rw [decide_eq_false c1, Bool.false_and, Bool.false_and] at ev
          refine iteF ⟨_, rfl, iteF ?_⟩
          have z2 := k H (Same.refl H)
          rw [ev] at z2
          exact z2
    · refine ⟨_, rfl, _, _, _, _, false, rfl, .ty _, ty, kit_ty hT, false, rfl, iteT ?_⟩
      rw [← hf]
      exact k H (Same.refl H)
end
end Nm
namespace Nm
open PySem PySem.Spec PyProof.Rows L2 Lw Xv Lh Ow
/-- the columns at o: these names, in the tuple at p -/
def CoAt (H : Hp) (C o p : Addr) (zs : List Str) : Prop := (∃ dx, H o = some (.ins C dx [("names", .ref p)])) ∧ H p = some (.tup (zs.map V.str))
theorem CoAt.same {H H' : Hp} {C o p : Addr} {zs : List Str} (h : CoAt H C o p zs) (s : Same H H') : CoAt H' C o p zs := by
  obtain ⟨⟨dx, e⟩, e2⟩ := h
  exact ⟨⟨dx, s _ _ e⟩, s _ _ e2⟩
theorem flat_strs (zs : List Str) : (zs.map V.str).all flatV = true := by
  rw [List.all_eq_true]
  intro x hx
  obtain ⟨z, _, rfl⟩ := List.mem_map.mp hx
  rfl
theorem inV_strs (z : Str) (zs : List Str) : inV (.str z) (zs.map V.str) = decide (z ∈ zs) := by
  induction zs with
  | nil => rfl
  | cons y ys ih =>
    show (eqV (.str y) (.str z) || inV (.str z) (ys.map V.str)) = _
    rw [ih]
    by_cases e : y = z
    · subst e
      simp [eqV]
    · have e2 : (y == z) = false := by simpa using e
      have e3 : ¬ z = y := fun q => e q.symm
      show ((y == z) || _) = _
      rw [e2]
      simp [e3]
theorem dp_strs {K : PySem.W.Frag} {H : Hp} : ∀ zs : List Str, DpAll K H (zs.map V.str) (zs.map PyData.str)
  | [] => .nil
  | z :: zs => .cons (.str z) (dp_strs zs)
theorem eqv_strs : ∀ zs ws : List Str, PyData.eqvAll (zs.map .str) (ws.map .str) = decide (zs = ws)
  | [], [] => by simp [PyData.eqvAll]
  | [], _ :: _ => by simp [PyData.eqvAll]
  | _ :: _, [] => by simp [PyData.eqvAll]
  | z :: zs, w :: ws => by
    show (PyData.eqv (.str z) (.str w) && PyData.eqvAll (zs.map .str) (ws.map .str)) = _
    rw [eqv_strs zs ws]
    have e : PyData.eqv (.str z) (.str w) = (z == w) := by simp [PyData.eqv]
    rw [e]
    by_cases h : z = w
    · subst h
      simp
    · have e2 : (z == w) = false := by simpa using h
      rw [e2]
      simp [h]
theorem strOk_of {z : Str} (h : okS z = true) : PyData.strOk z = true := by
  unfold okS at h
  rw [Bool.and_eq_true, Bool.and_eq_true] at h
  have l := h.2.2
  unfold lets at l
  unfold PyData.strOk
  rw [← Array.all_toList, List.all_eq_true]
  rw [List.all_eq_true] at l
  intro c hc
  have m := of_decide_eq_true (l c hc)
  have a : ∀ c ∈ abc.cps.toList, c < 0x110000 := by decide +kernel
  exact decide_eq_true (a c m)
theorem lay_strs : ∀ {zs : List Str}, (∀ z ∈ zs, okS z = true) → PyData.canLayAll0 (zs.map .str) = true
  | [], _ => rfl
  | z :: zs, h => by
    show (PyData.canLay0 (.str z) && PyData.canLayAll0 (zs.map .str)) = true
    rw [lay_strs fun y hy => h y (List.mem_cons_of_mem _ hy)]
    show (PyData.strOk z && true) = true
    rw [strOk_of (h z List.mem_cons_self)]
    rfl
theorem dep_strs : ∀ zs : List Str, PyData.depthAll (zs.map .str) = 0
  | [] => rfl
  | z :: zs => by
    show max (PyData.depth (.str z)) (PyData.depthAll (zs.map .str)) = 0
    rw [dep_strs zs]
    rfl
theorem shaped_strs {zs : List Str} (h : ∀ z ∈ zs, okS z = true) : SeqAt.shaped (.tuple (zs.map .str)) = true := by
  unfold SeqAt.shaped
  rw [show PyData.canLay0 (.tuple (zs.map .str)) = true from lay_strs h]
  rw [show PyData.depth (.tuple (zs.map .str)) = 1 from by show PyData.depthAll _ + 1 = 1; rw [dep_strs]]
  rfl
/-- what the class Columns must have -/
structure Cf (K : PySem.W.Frag) (mg : Str → Option Value) (C : Addr) : Prop where
  cl : Cls K C
  ha : PySem.W.findIn K (.ref C) "__class__" = some (some (.builtin "object.__class__"))
  hn : PySem.W.specialIn K (.builtin "object.__class__") "__get__" = some (some (.builtin "getset_descriptor.__get__"))
  ht : PySem.W.takesIn K (.builtin "object.__class__") = some true
  hm : PySem.W.mroIn K C (.type "object") = some true
  no : NoAttr K C "names"
  g : mg "Columns" = some (.ref C)
  kt : PySem.W.kitOne K (.type "tuple") (.ref C) = some false
def spLen (C : Addr) : Sp := fun vs H Q _ => ∃ o p zs, vs = [.ref o] ∧ CoAt H C o p zs ∧ Q (.int zs.length) H
def spCon (K : PySem.W.Frag) (C : Addr) : Sp := fun vs H Q _ => ∃ o p zs x, vs = [.ref o, x] ∧ CoAt H C o p zs ∧ ((∃ z, x = .str z ∧ Q (.bl (decide (z ∈ zs))) H) ∨ ∃ T : String, kitB T "str" = some false ∧ TyX K H x (.type T) ∧ Q (.bl false) H)
def spEq (C : Addr) : Sp := fun vs H Q _ => ∃ o p zs x, vs = [.ref o, x] ∧ CoAt H C o p zs ∧ (∀ z ∈ zs, okS z = true) ∧
  ((∃ o' p' ws, x = .ref o' ∧ CoAt H C o' p' ws ∧ (∀ z ∈ ws, okS z = true) ∧ Q (.bl (decide (zs = ws))) H) ∨ ∃ a xs, x = .ref a ∧ H a = some (.tup xs) ∧ Q (.bl false) H)
section
variable {P : Program} {w : World} {K : PySem.W.Frag} {mg : Str → Option Value} {base : Heap} {C : Addr}
theorem scLen : FnScope ["self"] ["self"] (defScope sLen) := ⟨rfl, rfl, rfl, by decide +kernel, rfl, by decide +kernel, by decide +kernel⟩
theorem okLen {f : Addr} {fd : FuncData} (F : Fun K "__len__" "Columns.__len__" sLen f fd) (B : Bt mg) (D : Cf K mg C) : FnOk P w K mg base CX0 1 f fd ["self"] (spLen C) := by
  refine F.ok scLen (fun vs H Q E h => ?_) (fun cdv A outer s H vs Q E hr h => ?_)
  · obtain ⟨o, p, zs, rfl, _⟩ := h
    rfl
  · obtain ⟨o, p, zs, rfl, ⟨⟨dx, ho⟩, hp⟩, k⟩ := h
    refine ⟨_, pss_one (ps_ret (pe_callB call_len_seq (by rfl) B.len PySem.boot_len (pa_cons (pe_fld (pv 0) (by rfl)) pa_nil))), ?_⟩
    refine ⟨_, rfl, o, C, dx, _, _, rfl, ho, D.cl, D.no, rfl, p, _, rfl, .inr (SqT.of hp), ?_⟩
    rw [List.length_map]
    exact k
theorem scCon : FnScope ["self", "name"] ["self", "name"] (defScope sCon) := ⟨rfl, rfl, rfl, by decide +kernel, rfl, by decide +kernel, by decide +kernel⟩
theorem okCon {f : Addr} {fd : FuncData} (F : Fun K "__contains__" "Columns.__contains__" sCon f fd) (B : Bt mg) (D : Cf K mg C) : FnOk P w K mg base CX0 1 f fd ["self", "name"] (spCon K C) := by
  refine F.ok scCon (fun vs H Q E h => ?_) (fun cdv A outer s H vs Q E hr h => ?_)
  · obtain ⟨o, p, zs, x, rfl, _⟩ := h
    rfl
  · obtain ⟨o, p, zs, x, rfl, ⟨⟨dx, ho⟩, hp⟩, k⟩ := h
    refine ⟨_, pss_one (ps_ret (pe_and (pe_callB call_isi (by rfl) B.isi (by decide +kernel) (pa_cons (pv 1) (pa_cons (pe_bltn (v := .ty "str") (by rfl) B.str (by decide +kernel) rfl) pa_nil)))
      (pe_one (pe_cmpR op_in_seq (pv 1) (pe_fld (pv 0) (by rfl)) (by rfl))))), ?_⟩
    rcases k with ⟨z, rfl, k⟩ | ⟨T, hT, ty, k⟩
    · refine ⟨_, rfl, _, _, _, _, true, rfl, .ty _, .base (.str z), kit_ty (by decide +kernel), _, rfl, iteT ⟨_, rfl, _, rfl, o, C, dx, _, _, rfl, ho, D.cl, D.no, rfl, p, _, rfl, .inr (SqT.of hp), rfl, flat_strs zs, ?_⟩⟩
      show Q (.bl (inV (.str z) (zs.map V.str))) H
      rw [inV_strs]
      exact k
    · exact ⟨_, rfl, _, _, _, _, false, rfl, .ty _, ty, kit_ty hT, _, rfl, iteF k⟩
theorem scEq : FnScope ["self", "other"] ["self", "other"] (defScope sEq) := ⟨rfl, rfl, rfl, by decide +kernel, rfl, by decide +kernel, by decide +kernel⟩
theorem okEq {f : Addr} {fd : FuncData} (F : Fun K "__eq__" "Columns.__eq__" sEq f fd) (B : Bt mg) (D : Cf K mg C) : FnOk P w K mg base CX0 1 f fd ["self", "other"] (spEq C) := by
  refine F.ok scEq (fun vs H Q E h => ?_) (fun cdv A outer s H vs Q E hr h => ?_)
  · obtain ⟨o, p, zs, x, rfl, _⟩ := h
    rfl
  · obtain ⟨o, p, zs, x, rfl, ⟨⟨dx, ho⟩, hp⟩, hz, k⟩ := h
    refine ⟨_, pss_one (ps_ret (pe_and (pe_callB call_isi (by rfl) B.isi (by decide +kernel) (pa_cons (pv 1) (pa_cons (pe_glob (v := .ref C) (by rfl) D.g rfl) pa_nil)))
      (pe_one (pe_cmpR (op_eqD hr.units) (pe_fld (pv 0) (by rfl)) (pe_fld (pv 1) (by rfl)) (by rfl))))), ?_⟩
    rcases k with ⟨o', p', ws, rfl, ⟨⟨dx', ho'⟩, hp'⟩, hw, k⟩ | ⟨a, xs, rfl, ha, k⟩
    · refine ⟨_, rfl, _, _, _, _, true, rfl, .own C, .base (.ins ho' D.cl D.ha D.hn D.ht D.hm), ?_, _, rfl, iteT ⟨_, rfl, o, C, dx, _, _, rfl, ho, D.cl, D.no, rfl, _, rfl, o', C, dx', _, _, rfl, ho', D.cl, D.no, rfl,
        _, _, .tup (SqT.of hp) (dp_strs zs), .tup (SqT.of hp') (dp_strs ws), shaped_strs hz, shaped_strs hw, ?_⟩⟩
      · unfold PySem.W.kitOne
        rw [if_pos (by simp)]
      · have e : PyData.eqv (.tuple (zs.map .str)) (.tuple (ws.map .str)) = decide (zs = ws) := by
          rw [← eqv_strs zs ws]
          simp [PyData.eqv]
        rw [e]
        exact k
    · exact ⟨_, rfl, _, _, _, _, false, rfl, .own C, .base (.tup ha), D.kt, _, rfl, iteF k⟩
end
end Nm
namespace Nm
open PySem PySem.Spec PyProof.Rows L2 Lw Xv Lh Ow
/-- what the class BadColumns must have -/
structure Ef (K : PySem.W.Frag) (mg : Str → Option Value) (CB fI : Addr) : Prop where
  T : OexC K CB
  iC : PySem.W.findIn K (.ref CB) "__init__" = some (some (.ref fI))
  tI : PySem.W.typeIn K (.ref fI) = some (.type "function")
  n1 : PySem.W.findIn K (.ref CB) "index" = some none
  g : mg "BadColumns" = some (.ref CB)
def spErr (CB : Addr) : Sp := fun vs H Q _ => ∃ (a : Addr) (y : V), vs = [.ref a, y] ∧ H a = some (exo a CB none) ∧ ∀ d, H d = none → d ≠ a → Q .non (upd (upd H d (exd d [("index", y)])) a (exo a CB (some d)))
/-- what Columns.__init__ promises, the arguments' tuple made -/
def spInit (K : PySem.W.Frag) (C CB : Addr) : Sp := fun vs H Q E => ∃ o p dx xs, vs = [.ref o, .ref p] ∧ H o = some (.ins C dx []) ∧ H p = some (.tup xs) ∧ xs.length ≤ 5 ∧ (∀ x ∈ xs, Itm K H x) ∧
  (due xs = none → ∀ H', Same H H' → Q .non (upd H' o (.ins C dx [("names", .ref p)]))) ∧
  ∀ i, due xs = some i → ∀ d H', Same H H' → H' d = some (.xd [("index", .int i)]) → E (.ref CB) (some d) H'
section
variable {P : Program} {w : World} {K : PySem.W.Frag} {mg : Str → Option Value} {base : Heap} {C CB : Addr}
theorem scErr : FnScope ["self", "index"] ["self", "index"] (defScope sErr) := ⟨rfl, rfl, rfl, by decide +kernel, rfl, by decide +kernel, by decide +kernel⟩
theorem okErr {f : Addr} {fd : FuncData} (F : Fun K "__init__" "BadColumns.__init__" sErr f fd) (D : Ef K mg CB f) : FnOk P w K mg base CX0 1 f fd ["self", "index"] (spErr CB) := by
  refine F.ok scErr (fun vs H Q E h => ?_) (fun cdv A outer s H vs Q E hr h => ?_)
  · obtain ⟨a, y, rfl, _⟩ := h
    rfl
  · obtain ⟨a, y, rfl, ha, k⟩ := h
    refine ⟨_, pss_one (ps_ost (pv 0) (pv 1)), ?_⟩
    exact ⟨_, rfl, _, rfl, a, CB, rfl, D.T, D.n1, .inl ⟨ha, fun dx hn ne => k dx hn ne⟩⟩
theorem scInit : FnScope ["self", "names", "index", "name"] ((["self"] : List Str) ++ (["names"] : List Str)) (defScope sInit) := ⟨rfl, rfl, rfl, by decide +kernel, rfl, by decide +kernel, by decide +kernel⟩
/-- the exception that is made and leaves -/
theorem raise_in {H : Hp} {y : V} {E : XK} (k : ∀ d H', Same H H' → H' d = some (.xd [("index", y)]) → E (.ref CB) (some d) H') {H1 : Hp} (s : Same H H1) {a : Addr} (ha : H1 a = none) :
    spErr CB (.ref a :: ([y] ++ [])) (upd H1 a (exo a CB none)) (fun v H2 => v = .non ∧ ∃ (d : Addr) (fs : List (Str × V)), H2 a = some (exo a CB (some d)) ∧ H2 d = some (exd d fs) ∧ H1 d = none ∧ E (.ref CB) (some d) (upd (del H2 a) d (.xd fs))) (fun _ _ _ => False) := by
  refine ⟨a, y, rfl, upd_same, fun d hd ne => ⟨rfl, d, _, upd_same, by rw [upd_ne ne, upd_same], ?_, k d _ ?_ upd_same⟩⟩
  · rw [upd_ne ne] at hd
    exact hd
  · rw [upd_ne ne] at hd
    intro b o e
    have e1 := s b o e
    have nb : b ≠ a := ne_of_none e1 ha
    have nd : b ≠ d := ne_of_none e1 hd
    rw [upd_ne nd, del_ne nb, upd_ne nb, upd_ne nd, upd_ne nb]
    exact e1
theorem okInit {f fE fN : Addr} {fd fdE fdN : FuncData} (F : Fun K "__init__" "Columns.__init__" sInit f fd) (B : Bt mg) (D : Kd K mg) (DC : Cf K mg C) (DE : Ef K mg CB fE)
    (FE : Fun K "__init__" "BadColumns.__init__" sErr fE fdE) (bE : Binds K fdE ["self", "index"] []) (FN : Fun K "is_name" "is_name" sIsName fN fdN) (bN : Binds K fdN ["value"] []) (mN : mg "is_name" = some (.ref fN)) :
    FnR P w K mg base (L2.CX P w) 3 f (fun vs H Q E => ∃ ws rest, vs = ws ++ rest ∧ ws.length = (["self"] : List Str).length ∧ rest.length ≤ sizeLine ∧ ∀ p, H p = none → spInit K C CB (ws ++ [V.ref p]) (upd H p (.tup rest)) Q E) := by
  have GE : FnOk P w K mg base CX0 1 fE fdE ["self", "index"] (spErr CB) := okErr FE DE
  have GN : FnOk P w K mg base CX0 1 fN fdN ["value"] (spIsName K) := okIsName FN B D
  obtain ⟨tc, mc⟩ := D.c
  obtain ⟨oc, od, kV, doc, pm, an, cdv, ct, osl, rfl, lk, hcd⟩ := F.ex
  refine StX.fn_star lk hcd scInit StX.cxUp (StX.bind_star1 (B := fun l => bindArgs (PySem.W.fnOf "__init__" "Columns.__init__" (defArgs sInit) (defBody sInit) (defScope sInit) .none kV doc pm an cdv ct) ⟨l, []⟩) (p1 := "self") (pv := "names") (fun _ => rfl) (fun _ _ _ => rfl)) (fun A outer s H vs Q E hr h => ?_)
  obtain ⟨o, p, dx, xs, rfl, ho, hp, hz, hit, k0, k1⟩ := h
  refine ⟨_, pss_cons (ps_if (pw_or (pt_not (pt_truth (pv 1) (fun _ => rfl))) (pw_or1 (pt_cmpR op_gt (pe_callB call_len_seq (by rfl) B.len PySem.boot_len (pa_cons (pv 1) pa_nil)) (pe_glob (v := .int 4) (by rfl) mc ⟨tc, rfl⟩) (nomark _)))).pt
      (pss_one (ps_raise rfl (takes_of rfl rfl rfl rfl) (pmk_oex DE.T DE.iC DE.tI GE hr bE .nil pass0 (by rfl) DE.g (pa_cons (pe_un un_neg pe_int) pa_nil)))) pss_nil)
    (pss_cons (ps_for (passes_of rfl) rfl (pi_enumT (by rfl) D.enum (pa_cons (pv 1) pa_nil)) (pg_tup rfl (pgs_cons (pg_name (i := 2) scInit.nd rfl (Or.inl rfl)) (pgs_cons (pg_name (i := 3) scInit.nd rfl (Or.inl rfl)) pgs_nil)))
      (pss_one (ps_if (pw_or (pt_not (pt_val (pe_call GN (hr.mono (by decide)) (by rfl) mN FN.kp bN .nil pass0 (pa_cons (pv 3) pa_nil))))
          (pw_or1 (pt_cmpR op_in_seq (pv 3) (pe_slice sl_tup (pv 1) po_none (po_some (pv 2))) (by rfl)))).pt
        (pss_one (ps_raise rfl (takes_of rfl rfl rfl rfl) (pmk_oex DE.T DE.iC DE.tI GE hr bE .nil pass0 (by rfl) DE.g (pa_cons (pv 2) pa_nil)))) pss_nil)))
    (pss_one (ps_fld (pv 0) (pv 1) (by rfl)))), ?_⟩
  refine ⟨_, rfl, _, .inr (.inl ⟨xs, SqT.of hp, rfl⟩), ?_⟩
  have four : decide ((4 : Int) < (xs.length : Int)) = decide (4 < xs.length) := by
    apply decide_eq_decide.mpr
    omega
  cases e0 : xs.isEmpty with
  | true =>
    have l0 : xs.length = 0 := by simpa using e0
    exact iteT ⟨_, rfl, by decide, fun a ha => raise_in (k1 (-1) (due_m (.inl l0))) (Same.refl H) ha⟩
  | false =>
    have l0 : xs.length ≠ 0 := by
      intro z
      have : xs.isEmpty = true := by simpa using z
      rw [this] at e0
      cases e0
    refine iteF ⟨_, rfl, p, xs, rfl, .inr (SqT.of hp), _, _, rfl, rfl, _, rfl, ?_⟩
    refine ite2 (fun h4 => ?_) (fun h4 => ?_)
    · have l4 : 4 < xs.length := by
        have := of_decide_eq_true h4
        omega
      exact ⟨_, rfl, by decide, fun a ha => raise_in (k1 (-1) (due_m (.inr l4))) (Same.refl H) ha⟩
    · have n4 : ¬ (xs.length = 0 ∨ 4 < xs.length) := by
        rintro (z | z)
        · exact l0 z
        · exact h4 (decide_eq_true (by omega))
      refine ⟨_, rfl, p, xs, rfl, SqT.of hp, for_enumT (fun i σ H' => (∃ u v, σ = [some (.ref o), some (.ref p), u, v]) ∧ Same H H' ∧ ∀ j, j < i → badK xs j = false) ⟨⟨_, _, rfl⟩, Same.refl H, fun j hj => by omega⟩ (fun i σ H' _ hp' => SqT.of (hp'.2.1 _ _ hp)) ?_ ?_⟩
      · rintro i x T σ H' hx ⟨⟨u, v, rfl⟩, s1, hb⟩ hT
        have hi : i < xs.length := (List.getElem?_eq_some_iff.mp hx).1
        have s2 : Same H (upd H' T (.tup [.int (i : Nat), x])) := s1.trans (same_new hT)
        refine ⟨T, _, rfl, SqT.of upd_same, rfl, _, _, rfl, _, _, rfl, rfl, ?_⟩
        have hxm : Itm K H x := hit x (List.mem_of_getElem? hx)
        refine ⟨_, rfl, x, rfl, ?_, fun H3 s3 => ⟨_, rfl, ?_⟩⟩
        · rcases hxm with z | ⟨T', z1, z2, z3⟩
          · exact .inl z
          · exact .inr ⟨T', z1, z2, z3 _ s2⟩
        · have s4 := s2.trans s3
          have bk : badK xs i = badV xs i x := badK_at hx
          unfold badV at bk
          cases ok : okV x with
          | false =>
            rw [ok] at bk
            exact iteT ⟨_, rfl, (by show 1 ≤ 1000; decide), fun a ha => raise_in (k1 i (due_k n4 hi bk hb)) s4 ha⟩
          | true =>
            rw [ok] at bk
            obtain ⟨z, rfl, _⟩ := okV_str ok
            have nw : ¬ (HT.sIx xs.length 0 none = 0 ∧ HT.sIx xs.length xs.length (some (i : Int)) = xs.length) := by
              rintro ⟨_, q⟩
              rw [HT.sIx_nat] at q
              omega
            refine iteF ⟨_, rfl, _, rfl, _, rfl, i, rfl, p, xs, rfl, SqT.of (s4 _ _ hp), nw, fun q hq => ?_⟩
            rw [cut_take (by omega)]
            refine ⟨q, xs.take i, rfl, .inr (SqT.of upd_same), rfl, flat_take hb, _, rfl, ?_⟩
            have s5 := same_put (o := .tup (xs.take i)) s4 (s4.free hq)
            refine ite2 (fun c => ?_) (fun c => ?_)
            · refine ⟨_, rfl, (by show 1 ≤ 1000; decide), fun a ha => raise_in (k1 i (due_k n4 hi (by rw [bk, show inV (.str z) (xs.take i) = true from c]; rfl) hb)) s5 ha⟩
            · have c2 : inV (.str z) (xs.take i) = false := by
                have c' : ¬ inV (.str z) (xs.take i) = true := c
                simpa using c'
              refine ⟨⟨_, _, rfl⟩, s5, fun j hj => ?_⟩
              by_cases e : j = i
              · subst e
                rw [bk, c2]
                rfl
              · exact hb j (by omega)
      · rintro σ H' ⟨⟨u, v, rfl⟩, s1, hb⟩
        refine ⟨_, rfl, _, rfl, o, C, dx, [], rfl, s1 _ _ ho, DC.cl, DC.no, by decide, ?_⟩
        exact k0 (due_0 n4 hb) H' s1
end
end Nm
namespace Nm
open PySem PySem.Spec PyProof.Rows L2 Lw Xv Lh Ow
abbrev sCols : Stmt := Lw.top 24
theorem strs_of : ∀ {xs : List V}, (∀ x ∈ xs, okV x = true) → ∃ zs : List Str, xs = zs.map V.str ∧ ∀ z ∈ zs, okS z = true
  | [], _ => ⟨[], rfl, fun _ h => by cases h⟩
  | x :: xs, h => by
    obtain ⟨zs, e, hz⟩ := strs_of (xs := xs) fun y hy => h y (List.mem_cons_of_mem _ hy)
    obtain ⟨z, rfl, ok⟩ := okV_str (h x List.mem_cons_self)
    refine ⟨z :: zs, by rw [e]; rfl, fun y hy => ?_⟩
    rcases List.mem_cons.mp hy with rfl | hy
    · exact ok
    · exact hz y hy
/-- what stands where Columns(*xs) was called: the columns, or the exception -/
structure Ends1 (C CB : Addr) (H : Hp) (xs : List V) (Q : VK) (E : XK) : Prop where
  q : due xs = none → ∀ (o p : Addr) (zs : List Str) (H' : Hp), xs = zs.map V.str → (∀ z ∈ zs, okS z = true) → Same H H' → CoAt H' C o p zs → Q (.ref o) H'
  e : ∀ i, due xs = some i → ∀ (d : Addr) (H' : Hp), Same H H' → H' d = some (.xd [("index", .int i)]) → E (.ref CB) (some d) H'
abbrev spNew (K : PySem.W.Frag) (C CB : Addr) : Sp := fun vs H Q E => ∃ ws rest, vs = ws ++ rest ∧ ws.length = (["self"] : List Str).length ∧ rest.length ≤ sizeLine ∧ ∀ p, H p = none → spInit K C CB (ws ++ [V.ref p]) (upd H p (.tup rest)) Q E
theorem mk_in {K : PySem.W.Frag} {C CB : Addr} {H : Hp} {xs : List V} {Q : VK} {E : XK} (hit : ∀ x ∈ xs, Itm K H x) (hz : xs.length ≤ 5) (k : Ends1 C CB H xs Q E) :
    ∀ o dx, H o = none → H dx = none → dx ≠ o → spNew K C CB (V.ref o :: xs) (upd (upd H dx (.own o)) o (.ins C dx [])) (fun v H2 => v = .non ∧ Q (.ref o) H2) E := by
  intro o dx ho hdx hne
  refine ⟨[.ref o], xs, rfl, rfl, by rw [sizeLine_eq]; omega, fun p hp => ?_⟩
  have po : p ≠ o := fun e => by
    rw [e, upd_same] at hp
    cases hp
  have s1 : Same H (upd (upd (upd H dx (.own o)) o (.ins C dx [])) p (.tup xs)) := by
    have a : Same H (upd (upd H dx (.own o)) o (.ins C dx [])) := same_put (same_new hdx) ho
    exact same_put a (a.free hp)
  refine ⟨o, p, dx, xs, rfl, by rw [upd_ne po.symm, upd_same], upd_same, hz, fun x hx => (hit x hx).same s1, fun hd H' s2 => ?_, fun i hd d H' s2 hx => k.e i hd d H' (s1.trans s2) hx⟩
  obtain ⟨zs, ez, ok⟩ := strs_of (xs := xs) fun x hx => by
    obtain ⟨j, hj, e⟩ := List.getElem_of_mem hx
    exact all_ok (due_no hd).2 (j := j) (by rw [← e]; exact List.getElem?_eq_getElem hj)
  refine ⟨rfl, k.q hd o p zs _ ez ok (same_put (s1.trans s2) ho) ⟨⟨dx, upd_same⟩, ?_⟩⟩
  rw [upd_ne po, ← ez]
  exact s2 _ _ upd_same
/-- C() by a promise of C's __init__ -/
theorem pe_makeR0 {X : Cx} {CX : CXT} {k : Nat} {f C : Addr} {sp : Sp} {E : XK} {x : Str} {p pos : Pos} (M : Mk X.K C f) (F : FnR X.prog X.w X.K X.mg X.base CX k f sp) (hr : Room (k + 1) X.A) (hg : Gl X x) (hm : X.mg x = some (.ref C)) (hx : Passes CX X E)
    (hdb : (x == ("__debug__" : Str)) = false := by decide) : PE X (.Call (.Name x p) [] [] pos) (StX.tMakeR C sp E tNil) := by
  refine ⟨fun pins s σ H Q I h => ?_⟩
  refine wpAny_Call_Name_kw (ld_glob I hg hm (PySem.W.callWith_K0 I.kIn M.kp ?_) hdb)
  exact StX.run_makeR (us := []) M F hr hx I .nil h
def spMade (K : PySem.W.Frag) (C CB : Addr) (ok : Nat → Bool) : Sp := fun vs H Q E => ∃ l xs, vs = [.ref l] ∧ H l = some (.lst xs) ∧ ok xs.length = true ∧ xs.length ≤ 5 ∧ (∀ x ∈ xs, Itm K H x) ∧ Ends1 C CB H xs Q E
section
variable {P : Program} {w : World} {K : PySem.W.Frag} {mg : Str → Option Value} {base : Heap} {C CB : Addr}
theorem scCols : FnScope ["_law_names_here"] ["_law_names_here"] (defScope sCols) := ⟨rfl, rfl, rfl, by decide +kernel, rfl, by decide +kernel, by decide +kernel⟩
theorem okCols {f fI : Addr} {fd : FuncData} (F : Fun K "_law_columns" "_law_columns" sCols f fd) (B : Bt mg) (DC : Cf K mg C) (M : Mk K C fI) (GI : FnR P w K mg base (L2.CX P w) 3 fI (spNew K C CB)) :
    FnOk P w K mg base (L2.CX P w) 5 f fd ["_law_names_here"] (spMade K C CB fun n => decide (1 ≤ n) && decide (n ≤ 4)) := by
  refine F.okX scCols (fun vs H Q E h => ?_) (fun cdv A outer s H vs Q E hr h => ?_)
  · obtain ⟨l, xs, rfl, _⟩ := h
    rfl
  · obtain ⟨l, xs, rfl, hl, hn, hz, hit, k⟩ := h
    have px : Passes (L2.CX P w) (cxOf (L2.CX P w) P w K mg base ["_law_names_here"] "_law_columns" (defScope sCols) f cdv A outer s H E) E := passes_call (takes_of rfl rfl rfl rfl) fun _ _ _ _ h => h
    refine ⟨_, pss_cons (ps_if (pt_cmpR op_eq (pe_callB call_len_seq (by rfl) B.len PySem.boot_len (pa_cons (pv 0) pa_nil)) pe_int (nomark _)) (pss_one (ps_ret (StX.pe_makeR M GI hr (by rfl) DC.g px (pa_cons (pe_ix ix_list (pv 0) pe_int (fun _ _ => rfl)) pa_nil)))) pss_nil)
      (pss_cons (ps_if (pt_cmpR op_eq (pe_callB call_len_seq (by rfl) B.len PySem.boot_len (pa_cons (pv 0) pa_nil)) pe_int (nomark _)) (pss_one (ps_ret (StX.pe_makeR M GI hr (by rfl) DC.g px (pa_cons (pe_ix ix_list (pv 0) pe_int (fun _ _ => rfl)) (pa_cons (pe_ix ix_list (pv 0) pe_int (fun _ _ => rfl)) pa_nil))))) pss_nil)
      (pss_cons (ps_if (pt_cmpR op_eq (pe_callB call_len_seq (by rfl) B.len PySem.boot_len (pa_cons (pv 0) pa_nil)) pe_int (nomark _)) (pss_one (ps_ret (StX.pe_makeR M GI hr (by rfl) DC.g px (pa_cons (pe_ix ix_list (pv 0) pe_int (fun _ _ => rfl)) (pa_cons (pe_ix ix_list (pv 0) pe_int (fun _ _ => rfl)) (pa_cons (pe_ix ix_list (pv 0) pe_int (fun _ _ => rfl)) pa_nil)))))) pss_nil)
      (pss_one (ps_ret (StX.pe_makeR M GI hr (by rfl) DC.g px (pa_cons (pe_ix ix_list (pv 0) pe_int (fun _ _ => rfl)) (pa_cons (pe_ix ix_list (pv 0) pe_int (fun _ _ => rfl)) (pa_cons (pe_ix ix_list (pv 0) pe_int (fun _ _ => rfl)) (pa_cons (pe_ix ix_list (pv 0) pe_int (fun _ _ => rfl)) pa_nil))))))))), ?_⟩
    have mk := mk_in hit hz k
    have sl := SqL.of (K := K) hl
    match xs, hn with
    | [], hn => cases hn
    | [x0], _ =>
      exact ⟨_, rfl, l, _, rfl, .inl sl, rfl, _, rfl, iteT ⟨_, rfl, l, _, 0, _, rfl, rfl, sl, at_of (j := 0) rfl rfl, mk⟩⟩
    | [x0, x1], _ => exact ⟨_, rfl, l, _, rfl, .inl sl, rfl, _, rfl, iteF ⟨_, rfl, l, _, rfl, .inl sl, rfl, _, rfl, iteT ⟨_, rfl, l, _, 0, _, rfl, rfl, sl, at_of (j := 0) rfl rfl, _, rfl, l, _, 1, _, rfl, rfl, sl, at_of (j := 1) rfl rfl, mk⟩⟩⟩
    | [x0, x1, x2], _ => exact ⟨_, rfl, l, _, rfl, .inl sl, rfl, _, rfl, iteF ⟨_, rfl, l, _, rfl, .inl sl, rfl, _, rfl, iteF ⟨_, rfl, l, _, rfl, .inl sl, rfl, _, rfl, iteT ⟨_, rfl, l, _, 0, _, rfl, rfl, sl, at_of (j := 0) rfl rfl, _, rfl, l, _, 1, _, rfl, rfl, sl, at_of (j := 1) rfl rfl, _, rfl, l, _, 2, _, rfl, rfl, sl, at_of (j := 2) rfl rfl, mk⟩⟩⟩⟩
    | [x0, x1, x2, x3], _ => exact ⟨_, rfl, l, _, rfl, .inl sl, rfl, _, rfl, iteF ⟨_, rfl, l, _, rfl, .inl sl, rfl, _, rfl, iteF ⟨_, rfl, l, _, rfl, .inl sl, rfl, _, rfl, iteF ⟨_, rfl, l, _, 0, _, rfl, rfl, sl, at_of (j := 0) rfl rfl, _, rfl, l, _, 1, _, rfl, rfl, sl, at_of (j := 1) rfl rfl, _, rfl, l, _, 2, _, rfl, rfl, sl, at_of (j := 2) rfl rfl, _, rfl, l, _, 3, _, rfl, rfl, sl, at_of (j := 3) rfl rfl, mk⟩⟩⟩⟩
    | _ :: _ :: _ :: _ :: _ :: r, hn =>
      exfalso
      have hn' := of_decide_eq_true (Bool.and_eq_true_iff.mp hn).2
      simp only [List.length_cons] at hn'
      omega
end
end Nm
namespace Nm
open PySem PySem.Spec PyProof.Rows L2 Lw Xv Lh Ow
/-- isinstance(e, c), e the exception that the suite holds, with its fields -/
def rIsF (K : PySem.W.Frag) (CB a : Addr) (cls : Value) (d : Option Addr) : List V → Hp → VK → Prop := fun xs H Q => ∃ (dd : Addr) (fs : List (Str × V)) (c : V) (cv : Value) (b : Bool), cls = .ref CB ∧ d = some dd ∧ H dd = some (.xd fs) ∧ xs = [.ref a, c] ∧ ClsV c cv ∧ PySem.W.kitOne K (.ref CB) cv = some b ∧ Q (.bl b) H
theorem call_isF {X : Cx} {a CB : Addr} {oe : Obj} {cls : Value} {d : Option Addr} {pn : List (Addr × Obj)} (T : ExcC X.K CB) (hz : Zc cls d oe) (hf : ∃ vs, oe.data = .fields vs) : CallR (X.suite a ((a, oe) :: pn)) (.builtin "isinstance") (rIsF X.K CB a cls d) := by
  intro pins s σ H xs us Q I r h
  obtain ⟨dd, fs, c, cv, b, e1, e2, hx, rfl, hc, ek, q⟩ := h
  subst e1 e2
  obtain ⟨u1, u2, rfl, r1, r2⟩ := vals2 r
  obtain rfl := hc.eq r2
  cases (show u1 = Value.ref a from r1)
  obtain ⟨ha, _⟩ := I.pin (a, oe) (List.mem_append_left _ List.mem_cons_self)
  obtain ⟨vs, hd⟩ := hf
  have ox : ObjOk X.prog X.w H s.heap dd (.xd fs) := I.hok dd _ hx
  obtain ⟨mA, hns, _⟩ := ox
  obtain ⟨od, ho, _⟩ := lookIn_ns hns
  have J : PySem.W.InstAt s.heap a oe CB (some od) := ⟨ha, hz.1, by unfold PySem.W.notCls; rw [hd] <;> rfl, by rw [hz.2]; exact ho⟩
  have hcl : (PySem.W.clsIn X.K CB).isSome = true := by
    obtain ⟨cd, e, _⟩ := PySem.W.any_some T.hd
    rw [e]
    rfl
  exact PySem.W.kia_one (PySem.W.kitx_exc hcl T.hg T.hk T.hs T.ha T.hn T.ht T.hm) I.kIn J ek (fun z => nomatch z) fun tk => ⟨.bl b, H, I.kept (t' := tk) fun _ _ z => z, rfl, q⟩
theorem map_inj : ∀ {zs ws : List Str}, zs.map V.str = ws.map V.str → zs = ws
  | [], [], _ => rfl
  | [], _ :: _, h => by cases h
  | _ :: _, [], h => by cases h
  | z :: zs, w :: ws, h => by
    rw [List.map_cons, List.map_cons] at h
    obtain ⟨h1, h2⟩ := List.cons.inj h
    rw [V.str.inj h1, map_inj h2]
theorem take_bad {zs : List Str} {j : Nat} {z : Str} (e : zs[j]? = some z) (ok : okS z = true) : badK (zs.map V.str) j = decide (z ∈ zs.take j) := by
  have e2 : (zs.map V.str)[j]? = some (.str z) := by rw [List.getElem?_map, e]; rfl
  rw [badK_at e2]
  unfold badV
  rw [show okV (.str z) = true from ok, ← List.map_take, inV_strs]
  rfl
/-- the names may stand together -/
def Fine (zs : List Str) : Prop := (∀ z ∈ zs, okS z = true) ∧ zs.Nodup ∧ ¬ (zs.length = 0 ∨ 4 < zs.length)
theorem nodup_take {zs : List Str} : zs.Nodup ↔ ∀ j z, zs[j]? = some z → z ∉ zs.take j := by
  constructor
  · intro n j z e m
    obtain ⟨i, hi, ei⟩ := List.getElem_of_mem m
    rw [List.length_take] at hi
    rw [List.getElem_take] at ei
    obtain ⟨hj, ej⟩ := List.getElem?_eq_some_iff.mp e
    have p := List.pairwise_iff_getElem.mp n i j (by omega) hj (by omega)
    exact p (ei.trans ej.symm)
  · intro h
    refine List.pairwise_iff_getElem.mpr fun i j hi hj hij e => ?_
    refine h j zs[j] (List.getElem?_eq_getElem hj) ?_
    rw [← e]
    refine List.mem_iff_getElem.mpr ⟨i, by rw [List.length_take]; omega, ?_⟩
    rw [List.getElem_take]
theorem fine_due {zs : List Str} (f : Fine zs) : due (zs.map V.str) = none := by
  obtain ⟨h1, h2, h3⟩ := f
  refine due_0 (by rw [List.length_map]; exact h3) fun j hj => ?_
  rw [List.length_map] at hj
  have e := List.getElem?_eq_getElem hj
  rw [take_bad e (h1 _ (List.getElem_mem hj))]
  exact decide_eq_false (nodup_take.mp h2 j _ e)
theorem due_fine {xs : List V} (h : due xs = none) : ∃ zs, xs = zs.map V.str ∧ Fine zs := by
  obtain ⟨h3, h4⟩ := due_no h
  obtain ⟨zs, rfl, ok⟩ := strs_of (xs := xs) fun x hx => by
    obtain ⟨j, hj, e⟩ := List.getElem_of_mem hx
    exact all_ok h4 (j := j) (by rw [← e]; exact List.getElem?_eq_getElem hj)
  refine ⟨zs, rfl, ok, nodup_take.mpr fun j z e => ?_, by rw [List.length_map] at h3; exact h3⟩
  have hj := (List.getElem?_eq_some_iff.mp e).1
  have b := h4 j (by rw [List.length_map]; exact hj)
  rw [take_bad e (ok z (List.mem_of_getElem? e))] at b
  exact of_decide_eq_false b
theorem Fine.rev {zs : List Str} (f : Fine zs) : Fine zs.reverse := ⟨fun z h => f.1 z (List.mem_reverse.mp h), List.pairwise_reverse.mpr (f.2.1.imp fun h e => h e.symm), by rw [List.length_reverse]; exact f.2.2⟩
theorem Fine.pal {zs : List Str} (f : Fine zs) : decide (zs = zs.reverse) = decide (zs.length = 1) := by
  obtain ⟨_, n, l⟩ := f
  by_cases h : zs.length = 1
  · obtain ⟨z, rfl⟩ := List.length_eq_one_iff.mp h
    simp
  · rw [decide_eq_false h]
    refine decide_eq_false fun e => ?_
    have h0 : 0 < zs.length := by omega
    have hr : 0 < zs.reverse.length := by rw [List.length_reverse]; exact h0
    have e1 : zs[0] = zs.reverse[0] := by
      have a : zs[0]? = zs.reverse[0]? := by rw [← e]
      rw [List.getElem?_eq_getElem h0, List.getElem?_eq_getElem hr] at a
      exact Option.some.inj a
    rw [List.getElem_reverse] at e1
    have p := List.pairwise_iff_getElem.mp n 0 (zs.length - 1 - 0) h0 (by omega) (by omega)
    exact p e1
theorem no_line (z : Str) : okS (z ++ "\n") = false := by
  have e : (z ++ "\n" : Str).cps.toList = z.cps.toList ++ [10] := TL.tl_append z "\n"
  unfold okS lets
  rw [e, List.all_append]
  have n : ([10].all fun c => decide (c ∈ abc.cps.toList)) = false := by decide +kernel
  rw [n, Bool.and_false, Bool.and_false, Bool.and_false]
end Nm
/-! Columns.row and what it calls -/
namespace Nr
open PySem PySem.Spec PyProof.Rows L2 Lw Lw2 Xv Lh Ow Nm Dn
abbrev sIsInt : Stmt := Lw.top 8
abbrev sIsVal : Stmt := Lw.top 13
abbrev sErrN : Stmt := inClass (Lw.top 3) 0
abbrev sRow : Stmt := inClass (Lw.top 12) 1
/-- the value of a row's dict -/
def ValW (P : Program) (w : World) (H : Hp) (x : V) : Prop := x = .non ∨ (∃ i, x = .int i) ∨ (∃ b, x = .bl b) ∨ (∃ z, x = .str z) ∨ ∃ a, x = .ref a ∧ (H a = some (.tup [.int 1]) ∨ H a = some (.lst [.int 2]) ∨ ∃ ob, H a = some (dF P w a ob []))
theorem ValW.same {P : Program} {w : World} {H H' : Hp} {x : V} (h : ValW P w H x) (s : Same H H') : ValW P w H' x := by
  rcases h with h | h | h | h | ⟨a, e, h | h | ⟨ob, h⟩⟩
  · exact .inl h
  · exact .inr (.inl h)
  · exact .inr (.inr (.inl h))
  · exact .inr (.inr (.inr (.inl h)))
  · exact .inr (.inr (.inr (.inr ⟨a, e, .inl (s _ _ h)⟩)))
  · exact .inr (.inr (.inr (.inr ⟨a, e, .inr (.inl (s _ _ h))⟩)))
  · exact .inr (.inr (.inr (.inr ⟨a, e, .inr (.inr ⟨ob, s _ _ h⟩)⟩)))
def okVal : V → Bool
  | .non => true
  | .int _ => true
  | _ => false
theorem val_ty {P : Program} {w : World} {K : PySem.W.Frag} {H : Hp} {x : V} (h : ValW P w H x) : x = .non ∨ ∃ (n : String) (bi bb : Bool), TyU P w K H x n ∧ kitB n "int" = some bi ∧ kitB n "bool" = some bb ∧ okVal x = (bi && !bb) ∧ okVal x = !(bb || !bi) := by
  rcases h with rfl | ⟨i, rfl⟩ | ⟨b, rfl⟩ | ⟨z, rfl⟩ | ⟨a, rfl, h | h | ⟨ob, h⟩⟩
  · exact .inl rfl
  · exact .inr ⟨"int", true, false, .inl (.base (.int i)), by decide +kernel, by decide +kernel, rfl, rfl⟩
  · exact .inr ⟨"bool", true, true, .inl (.base (.bl b)), by decide +kernel, by decide +kernel, rfl, rfl⟩
  · exact .inr ⟨"str", false, false, .inl (.base (.str z)), by decide +kernel, by decide +kernel, rfl, rfl⟩
  · exact .inr ⟨"tuple", false, false, .inl (.base (.tup h)), by decide +kernel, by decide +kernel, rfl, rfl⟩
  · exact .inr ⟨"list", false, false, .inl (.base (.lst h)), by decide +kernel, by decide +kernel, rfl, rfl⟩
  · exact .inr ⟨"dict", false, false, .inr ⟨rfl, a, [], rfl, .inr ⟨ob, h⟩⟩, by decide +kernel, by decide +kernel, rfl, rfl⟩
def spIsInt (P : Program) (w : World) (K : PySem.W.Frag) : Sp := fun vs H Q _ => ∃ (x : V) (n : String) (bi bb : Bool), vs = [x] ∧ TyU P w K H x n ∧ kitB n "int" = some bi ∧ kitB n "bool" = some bb ∧ Q (.bl (bi && !bb)) H
def spIsVal (P : Program) (w : World) : Sp := fun vs H Q _ => ∃ x, vs = [x] ∧ ValW P w H x ∧ Q (.bl (okVal x)) H
section
variable {P : Program} {w : World} {K : PySem.W.Frag} {mg : Str → Option Value} {base : Heap} {C CN : Addr}
theorem scIsInt : FnScope ["value"] ["value"] (defScope sIsInt) := ⟨rfl, rfl, rfl, by decide +kernel, rfl, by decide +kernel, by decide +kernel⟩
theorem okIsInt {f : Addr} {fd : FuncData} (F : Fun K "is_integer" "is_integer" sIsInt f fd) (B : Bt mg) : FnOk P w K mg base CX0 1 f fd ["value"] (spIsInt P w K) := by
  refine F.ok scIsInt (fun vs H Q E h => ?_) (fun cdv A outer s H vs Q E hr h => ?_)
  · obtain ⟨x, _, _, _, rfl, _⟩ := h
    rfl
  · obtain ⟨x, n, bi, bb, rfl, ty, k1, k2, k⟩ := h
    refine ⟨_, pss_one (ps_ret (pe_and (pe_callB (call_or call_isi call_isiN) (by rfl) B.isi (by decide +kernel) (pa_cons (pv 0) (pa_cons (pe_bltn (v := .ty "int") (by rfl) B.int (by decide +kernel) rfl) pa_nil))) (pe_one (pe_not (pe_callB (call_or call_isi call_isiN) (by rfl) B.isi (by decide +kernel) (pa_cons (pv 0) (pa_cons (pe_bltn (v := .ty "bool") (by rfl) B.bool (by decide +kernel) rfl) pa_nil))))))), ?_⟩
    refine ⟨_, rfl, isiU ty k1 ⟨_, rfl, ?_⟩⟩
    cases bi with
    | false => exact iteF k
    | true => exact iteT ⟨_, rfl, isiU ty k2 ⟨_, rfl, k⟩⟩
theorem scIsVal : FnScope ["value"] ["value"] (defScope sIsVal) := ⟨rfl, rfl, rfl, by decide +kernel, rfl, by decide +kernel, by decide +kernel⟩
theorem okIsVal {f fI : Addr} {fd fdI : FuncData} (F : Fun K "is_value" "is_value" sIsVal f fd) (B : Bt mg) (FI : Fun K "is_integer" "is_integer" sIsInt fI fdI) (bI : Binds K fdI ["value"] []) (mI : mg "is_integer" = some (.ref fI)) : FnOk P w K mg base CX0 2 f fd ["value"] (spIsVal P w) := by
  have GI : FnOk P w K mg base CX0 1 fI fdI ["value"] (spIsInt P w K) := okIsInt FI B
  refine F.ok scIsVal (fun vs H Q E h => ?_) (fun cdv A outer s H vs Q E hr h => ?_)
  · obtain ⟨x, rfl, _⟩ := h
    rfl
  · obtain ⟨x, rfl, hx, k⟩ := h
    refine ⟨_, pss_one (ps_ret (pe_or (pe_cmp (pc_isN (pv 0))) (pe_one (pe_call GI hr (by rfl) mI FI.kp bI .nil pass0 (pa_cons (pv 0) pa_nil))))), ?_⟩
    rcases val_ty (K := K) hx with rfl | ⟨n, bi, bb, ty, k1, k2, e1, e2⟩
    · exact ⟨_, rfl, _, rfl, iteT k⟩
    · have ne : x ≠ .non := by
        rintro rfl
        rcases hx with _ | ⟨_, z⟩ | ⟨_, z⟩ | ⟨_, z⟩ | ⟨_, z, _⟩ <;> first | (cases z) | skip
        rcases ty with ty | ⟨_, _, _, z, _⟩
        · cases ty with
          | base b =>
            cases b
            cases k1.symm.trans (by decide +kernel : kitB "NoneType" "int" = some false)
            cases e1
        · cases z
      refine ⟨_, rfl, _, rfl, ?_⟩
      rw [decide_eq_false ne]
      refine iteF ⟨_, rfl, x, n, bi, bb, rfl, ty, k1, k2, ?_⟩
      rw [← e1]
      exact k
end
end Nr
/-! Columns.row -/
namespace Nr
open PySem PySem.Spec PyProof.Rows L2 Lw Lw2 Xv Lh Ow Nm Dn
/-- a dict of ints and texts is told with None among the keys -/
theorem mix_none {P : Program} {w : World} {h : Heap} {a : Addr} {vs : List (Key × Value)} (d : h.DictOf (mixKind P w) a vs) : h.DictOf (noneKind P w) a (vs.map fun q => (some q.1, q.2)) := by
  obtain ⟨o, es, ep, ho, hx, hdt, hk, hp, hn⟩ := d
  refine ⟨o, es, ep, ho, hx, hdt, fun e he => ?_, ?_, ?_⟩
  · obtain ⟨k, h1, h2⟩ := hk e he
    exact ⟨some k, h1, h2⟩
  · have g : ∀ {l : List DictEntry} {m : List (Key × Value)}, Pairs (mixKind P w) l m → Pairs (noneKind P w) l (m.map fun q => (some q.1, q.2)) := by
      intro l m r
      induction r with
      | nil => exact .nil
      | cons a b _ ih => exact .cons a b ih
    exact g hp
  · have e : (vs.map fun q => ((some q.1 : NK), q.2)).map (·.1) = (vs.map (·.1)).map some := by
      rw [List.map_map, List.map_map]
      rfl
    rw [e]
    exact List.pairwise_map.mpr (hn.imp fun hne z => hne (Option.some.inj z))
def asN (kvs : List (Key × V)) : List (NK × V) := kvs.map fun q => (some q.1, q.2)
theorem kv_asN : ∀ {kvs : List (Key × V)} {vs : List (Key × Value)}, KV kvs vs → KV (asN kvs) (vs.map fun q => ((some q.1 : NK), q.2))
  | _, _, .nil => .nil
  | _, _, .cons a r => .cons ⟨congrArg some a.1, a.2⟩ (kv_asN r)
/-- a dict expression, told so -/
def tAsN (P : Program) (w : World) (te : TE) : TE := fun σ H Q => te σ H fun x H1 => ∃ a kvs, x = .ref a ∧ H1 a = some (.dK kvs) ∧ Q x (upd H1 a (dN P w a (asN kvs)))
theorem pe_asN {X : Cx} {e : Expr} {te : TE} (he : PE X e te) : PE X e (tAsN X.prog X.w te) := by
  refine ⟨fun pins s σ H Q I h => thn (he.run pins s σ H _ I h) fun u s1 ⟨x, H1, I1, rx, q⟩ => ?_⟩
  obtain ⟨a, kvs, ex, ha, q⟩ := q
  subst ex
  obtain ⟨z, hd, vs, rel, dd⟩ := dk_of I1.hok ha
  have dn := mix_none dd
  have he : ∃ q, s1.heap.get? a = some q := let ⟨q, _, _, hq, _⟩ := dd; ⟨q, hq⟩
  have I2 : Inv X pins σ (upd H1 a (dN X.prog X.w a (asN kvs))) s1 := d_write (h' := s1.heap) (t' := s1.toks) I1 (by rw [ha]; exact True.intro) ⟨rfl, fun _ _ => rfl⟩ he (new_dN (by unfold asN; rw [List.length_map]; exact z) hd (kv_asN rel) dn)
  exact ⟨.ref a, _, I2, rx, q⟩
def nm (z : Str) : NK := some (.inr z)
/-- this name's value is wrong or not there -/
def badN (kvs : List (NK × V)) (z : Str) : Bool := match valV kvs (nm z) with
  | none => true
  | some v => !okVal v
/-- the name that is due -/
def dueR (zs : List Str) (kvs : List (NK × V)) : Option V := match zs.find? (badN kvs) with
  | some z => some (.str z)
  | none => if zs.length < kvs.length then some .non else none
def getN (kvs : List (NK × V)) (z : Str) : V := (valV kvs (nm z)).getD .non
/-- the row -/
def rowOf (zs : List Str) (kvs : List (NK × V)) : List (NK × V) := zs.map fun z => (nm z, getN kvs z)
theorem find_at {f : Str → Bool} : ∀ {zs : List Str} {i : Nat} {z : Str}, zs[i]? = some z → f z = true → (∀ j y, j < i → zs[j]? = some y → f y = false) → zs.find? f = some z
  | [], i, z, h, _, _ => by simp at h
  | y :: ys, 0, z, h, b, _ => by
    have e : y = z := by simpa using h
    subst e
    simp [b]
  | y :: ys, i + 1, z, h, b, l => by
    have e := l 0 y (by omega) rfl
    rw [List.find?_cons_of_neg (by rw [e]; decide)]
    exact find_at (i := i) (by simpa using h) b fun j x hj hx => l (j + 1) x (by omega) (by simpa using hx)
theorem find_none {f : Str → Bool} {zs : List Str} (l : ∀ j y, j < zs.length → zs[j]? = some y → f y = false) : zs.find? f = none := by
  rw [List.find?_eq_none]
  intro x hx
  obtain ⟨j, hj, e⟩ := List.getElem_of_mem hx
  rw [l j x hj (by rw [← e]; exact List.getElem?_eq_getElem hj)]
  decide
/-- what the class NoRow must have -/
structure En (K : PySem.W.Frag) (mg : Str → Option Value) (CN fI : Addr) : Prop where
  T : OexC K CN
  iC : PySem.W.findIn K (.ref CN) "__init__" = some (some (.ref fI))
  tI : PySem.W.typeIn K (.ref fI) = some (.type "function")
  n1 : PySem.W.findIn K (.ref CN) "name" = some none
  g : mg "NoRow" = some (.ref CN)
def spErrN (CN : Addr) : Sp := fun vs H Q _ => ∃ (a : Addr) (y : V), vs = [.ref a, y] ∧ H a = some (exo a CN none) ∧ ∀ d, H d = none → d ≠ a → Q .non (upd (upd H d (exd d [("name", y)])) a (exo a CN (some d)))
/-- what stands where o.row(x) was called -/
def spRow (P : Program) (w : World) (K : PySem.W.Frag) (C CN : Addr) : Sp := fun vs H Q E => ∃ o p zs x, vs = [.ref o, x] ∧ CoAt H C o p zs ∧ zs.Nodup ∧ zs.length ≤ 5 ∧
  ((∃ n : String, TyX K H x (.type n) ∧ kitB n "dict" = some false ∧ ∀ d H', Same H H' → H' d = some (.xd [("name", .non)]) → E (.ref CN) (some d) H') ∨
   ∃ a kvs, x = .ref a ∧ DN P w H a kvs ∧ kvs.length ≤ 1000 ∧ (∀ k v, valV kvs k = some v → ValW P w H v) ∧
    (∀ y, dueR zs kvs = some y → ∀ d H', Same H H' → H' d = some (.xd [("name", y)]) → E (.ref CN) (some d) H') ∧
    (dueR zs kvs = none → ∀ r H', H r = none → Same H H' → DN P w H' r (rowOf zs kvs) → Q (.ref r) H'))
theorem raise_inN {CN : Addr} {H : Hp} {y : V} {E : XK} (k : ∀ d H', Same H H' → H' d = some (.xd [("name", y)]) → E (.ref CN) (some d) H') {H1 : Hp} (s : Same H H1) {a : Addr} (ha : H1 a = none) :
    spErrN CN (.ref a :: ([y] ++ [])) (upd H1 a (exo a CN none)) (fun v H2 => v = .non ∧ ∃ (d : Addr) (fs : List (Str × V)), H2 a = some (exo a CN (some d)) ∧ H2 d = some (exd d fs) ∧ H1 d = none ∧ E (.ref CN) (some d) (upd (del H2 a) d (.xd fs))) (fun _ _ _ => False) := by
  refine ⟨a, y, rfl, upd_same, fun d hd ne => ⟨rfl, d, _, upd_same, by rw [upd_ne ne, upd_same], ?_, k d _ ?_ upd_same⟩⟩
  · rw [upd_ne ne] at hd
    exact hd
  · rw [upd_ne ne] at hd
    intro b o e
    have e1 := s b o e
    have nb : b ≠ a := ne_of_none e1 ha
    have nd : b ≠ d := ne_of_none e1 hd
    rw [upd_ne nd, del_ne nb, upd_ne nb, upd_ne nd, upd_ne nb]
    exact e1
section
variable {P : Program} {w : World} {K : PySem.W.Frag} {mg : Str → Option Value} {base : Heap} {C CN : Addr}
theorem scErrN : FnScope ["self", "name"] ["self", "name"] (defScope sErrN) := ⟨rfl, rfl, rfl, by decide +kernel, rfl, by decide +kernel, by decide +kernel⟩
theorem okErrN {f : Addr} {fd : FuncData} (F : Fun K "__init__" "NoRow.__init__" sErrN f fd) (D : En K mg CN f) : FnOk P w K mg base CX0 1 f fd ["self", "name"] (spErrN CN) := by
  refine F.ok scErrN (fun vs H Q E h => ?_) (fun cdv A outer s H vs Q E hr h => ?_)
  · obtain ⟨a, y, rfl, _⟩ := h
    rfl
  · obtain ⟨a, y, rfl, ha, k⟩ := h
    exact ⟨_, pss_one (ps_ost (pv 0) (pv 1)), _, rfl, _, rfl, a, CN, rfl, D.T, D.n1, .inl ⟨ha, fun dx hn ne => k dx hn ne⟩⟩
theorem scRow : FnScope ["self", "values", "name"] ["self", "values"] (defScope sRow) := ⟨rfl, rfl, rfl, by decide +kernel, rfl, by decide +kernel, by decide +kernel⟩
theorem okRow {f fE fV fI : Addr} {fd fdE fdV fdI : FuncData} (F : Fun K "row" "Columns.row" sRow f fd) (B : Bt mg) (DC : Cf K mg C) (DE : En K mg CN fE) (FE : Fun K "__init__" "NoRow.__init__" sErrN fE fdE) (bE : Binds K fdE ["self", "name"] [])
    (FV : Fun K "is_value" "is_value" sIsVal fV fdV) (bV : Binds K fdV ["value"] []) (mV : mg "is_value" = some (.ref fV)) (FI : Fun K "is_integer" "is_integer" sIsInt fI fdI) (bI : Binds K fdI ["value"] []) (mI : mg "is_integer" = some (.ref fI)) :
    FnOk P w K mg base (L2.CX P w) 3 f fd ["self", "values"] (spRow P w K C CN) := by
  have GE : FnOk P w K mg base CX0 1 fE fdE ["self", "name"] (spErrN CN) := okErrN FE DE
  have GV : FnOk P w K mg base CX0 2 fV fdV ["value"] (spIsVal P w) := okIsVal FV B FI bI mI
  refine F.okX scRow (fun vs H Q E h => ?_) (fun cdv A outer s H vs Q E hr h => ?_)
  · obtain ⟨o, p, zs, x, rfl, _⟩ := h
    rfl
  · obtain ⟨o, p, zs, x, rfl, ⟨⟨dx, ho⟩, hp⟩, nd, hz, k⟩ := h
    have hrE := hr.mono (j := 2) (by decide)
    refine ⟨_, (pss_cons (ps_if (pt_not (pt_val (pe_callB (call_or call_isi call_isiN) (by rfl) B.isi (by decide +kernel) (pa_cons (pv 1) (pa_cons (pe_bltn (v := .ty "dict") (by rfl) B.dict (by decide +kernel) rfl) pa_nil))))) (pss_one (ps_raise rfl (takes_of rfl rfl rfl rfl) (pmk_oex DE.T DE.iC DE.tI GE hrE bE .nil pass0 (by rfl) DE.g (pa_cons pe_non pa_nil)))) pss_nil)
      (pss_cons (ps_for (passes_of rfl) rfl (pi_tup (pe_fld (pv 0) (by rfl))) (pg_name (i := 2) scRow.nd rfl (Or.inl rfl)) (pss_one (ps_if (pw_or (pt_cmpR op_notInN (pv 2) (pv 1) (by rfl)) (pw_or1 (pt_not (pt_val (pe_call GV hr (by rfl) mV FV.kp bV .nil pass0 (pa_cons (pe_getN (pv 1) (pv 2) (fun _ _ => rfl)) pa_nil)))))).pt (pss_one (ps_raise rfl (takes_of rfl rfl rfl rfl) (pmk_oex DE.T DE.iC DE.tI GE hrE bE .nil pass0 (by rfl) DE.g (pa_cons (pv 2) pa_nil)))) pss_nil)))
      (pss_cons (ps_if (pt_cmpR op_gt (pe_callB call_lenN (by rfl) B.len PySem.boot_len (pa_cons (pv 1) pa_nil)) (pe_callB call_len_seq (by rfl) B.len PySem.boot_len (pa_cons (pe_fld (pv 0) (by rfl)) pa_nil)) (nomark _)) (pss_one (ps_raise rfl (takes_of rfl rfl rfl rfl) (pmk_oex DE.T DE.iC DE.tI GE hrE bE .nil pass0 (by rfl) DE.g (pa_cons pe_non pa_nil)))) pss_nil)
      (pss_one (ps_ret (pe_asN (pe_dc (own := [("name", 2)]) (g := gName 2) (by rfl) scRow.nd (pi_tup (pe_fld (pv 0) (by rfl))) (blkOk_by (own := [("name", 2)]) (N := ["self", "values", "name"]) (sc := defScope sRow) (by decide +kernel)) (fun _ _ _ _ _ => pg_name (i := 2) scRow.nd rfl (Or.inl rfl)) (fun _ _ _ _ _ => pts_nil) (fun _ _ _ _ _ => pv 2) (fun _ _ _ _ _ => pe_getNP (P := P) (w := w) rfl rfl (pv 1) (pv 2) (fun _ _ => rfl))))))))), ?_⟩
    have few1 : ([V.non] : List V).length ≤ 1000 := by decide
    rcases k with ⟨n, ty, kn, ke⟩ | ⟨a, kvs, rfl, dn, kz, vals, ke, kq⟩
    · exact ⟨_, rfl, isiU (b := false) (.inl ty) kn ⟨_, rfl, iteT ⟨(by show 1 ≤ 1000; decide), fun a ha => raise_inN ke (Same.refl H) ha⟩⟩⟩
    · refine ⟨_, rfl, isiU (b := true) (.inr ⟨rfl, a, kvs, rfl, dn⟩) (by decide +kernel) ⟨_, rfl, iteF ?_⟩⟩
      have lz : (zs.map V.str).length = zs.length := List.length_map ..
      have at_ : ∀ {i : Nat} {x : V}, (zs.map V.str)[i]? = some x → ∃ z, x = .str z ∧ zs[i]? = some z := fun {i x} e => by
        rw [List.getElem?_map] at e
        obtain ⟨z, e1, e2⟩ := Option.map_eq_some_iff.mp e
        exact ⟨z, e2.symm, e1⟩
      refine ⟨_, rfl, o, C, dx, _, _, rfl, ho, DC.cl, DC.no, rfl, p, rfl, ⟨_, SqT.of hp⟩, for_it (walk_tup (K := K) (a := p) (xs := zs.map V.str)) (fun i σ H' => (∃ v, σ = [some (.ref o), some (.ref a), v]) ∧ H' = H ∧ ∀ j y, j < i → zs[j]? = some y → badN kvs y = false) ⟨⟨_, rfl⟩, rfl, fun j y hj => by omega⟩ (fun i σ H' _ h => by rw [h.2.1]; exact SqT.of hp) ?_ ?_⟩
      · rintro i x σ H1 H2 hi ⟨⟨v, rfl⟩, rfl, hb⟩ ⟨rfl, hx⟩
        obtain ⟨z, rfl, hz1⟩ := at_ hx
        have du : badN kvs z = true → dueR zs kvs = some (.str z) := fun b => by
          unfold dueR
          rw [find_at hz1 b hb]
        refine ⟨_, rfl, _, rfl, a, kvs, nm z, rfl, rfl, dn, _, rfl, ?_⟩
        show if (!(valV kvs (nm z)).isSome) = true then _ else _
        cases e : valV kvs (nm z) with
        | none =>
          have b : badN kvs z = true := by
            unfold badN
            rw [e]
          exact iteT ⟨_, rfl, (by show 1 ≤ 1000; decide), fun a' ha => raise_inN (ke _ (du b)) (Same.refl _) ha⟩
        | some v =>
          have be : badN kvs z = !okVal v := by
            unfold badN
            rw [e]
          refine iteF ⟨_, rfl, _, rfl, a, kvs, nm z, v, rfl, rfl, dn, e, v, rfl, vals _ _ e, _, rfl, ?_⟩
          cases ok : okVal v with
          | false =>
            rw [ok] at be
            exact iteT ⟨_, rfl, (by show 1 ≤ 1000; decide), fun a' ha => raise_inN (ke _ (du be)) (Same.refl _) ha⟩
          | true =>
            rw [ok] at be
            refine iteF ⟨⟨_, rfl⟩, rfl, fun j y hj hy => ?_⟩
            by_cases ej : j = i
            · subst ej
              rw [hz1] at hy
              cases hy
              exact be
            · exact hb j y (by omega) hy
      · rintro σ H1 ⟨⟨v, rfl⟩, rfl, hb⟩
        rw [lz] at hb
        have fn : zs.find? (badN kvs) = none := find_none hb
        refine ⟨_, rfl, a, kvs, rfl, dn, _, rfl, o, C, dx, _, _, rfl, ho, DC.cl, DC.no, rfl, p, _, rfl, .inr (SqT.of hp), _, _, rfl, rfl, _, rfl, ite2 (fun c => ?_) (fun c => ?_)⟩
        · have c' := of_decide_eq_true c
          rw [lz] at c'
          have du : dueR zs kvs = some .non := by
            unfold dueR
            rw [fn]
            exact if_pos (by omega)
          exact ⟨(by show 1 ≤ 1000; decide), fun a' ha => raise_inN (ke _ du) (Same.refl _) ha⟩
        · have c' : ¬ zs.length < kvs.length := fun z => c (decide_eq_true (by rw [lz]; omega))
          have du : dueR zs kvs = none := by
            unfold dueR
            rw [fn]
            exact if_neg c'
          refine ⟨_, rfl, o, C, dx, _, _, rfl, ho, DC.cl, DC.no, rfl, p, rfl, ⟨_, SqT.of hp⟩, fun D hD => dc_tup (K := K) (a := p) (xs := zs.map V.str) (fun i H' => ∃ kk : List (Key × V), H' = upd H1 D (.dK kk) ∧ asN kk = rowOf (zs.take i) kvs) ⟨[], rfl, rfl⟩ (fun i H' _ h => by obtain ⟨kk, rfl, _⟩ := h; exact SqT.of (same_new hD _ _ hp)) ?_ ?_⟩
          · rintro i x H' hx ⟨kk, rfl, ek⟩
            obtain ⟨z, rfl, hz1⟩ := at_ hx
            have dn' : DN P w (upd H1 D (.dK kk)) a kvs := dn.same fun o e => same_new hD _ _ e
            obtain ⟨v, e⟩ : ∃ v, valV kvs (nm z) = some v := by
              have b := hb i z (List.getElem?_eq_some_iff.mp hz1).1 hz1
              unfold badN at b
              cases e : valV kvs (nm z) with
              | none =>
                rw [e] at b
                cases b
              | some v => exact ⟨v, rfl⟩
            have no : (kk.any fun kv => decide (kv.1 = (Sum.inr z : Key))) = false := by
              rw [List.any_eq_false]
              intro q hq hd
              have hd' := of_decide_eq_true hd
              have m1 : ((some q.1 : NK), q.2) ∈ asN kk := List.mem_map.mpr ⟨q, hq, rfl⟩
              rw [ek] at m1
              obtain ⟨y, hy, ey⟩ := List.mem_map.mp m1
              have e1 : nm y = some q.1 := congrArg Prod.fst ey
              rw [hd'] at e1
              have e2 : y = z := Sum.inr.inj (Option.some.inj e1)
              rw [e2] at hy
              exact nodup_take.mp nd i z hz1 hy
            have pk : putK kk (Sum.inr z) v = kk ++ [(Sum.inr z, v)] := by
              unfold putK
              rw [no]
              rfl
            have lk : kk.length ≤ 5 := by
              have l1 := congrArg List.length ek
              unfold asN rowOf at l1
              rw [List.length_map, List.length_map, List.length_take] at l1
              omega
            have sl := sizeLine_eq
            refine ⟨rfl, _, rfl, _, rfl, _, rfl, a, kvs, nm z, v, rfl, rfl, dn', e, kk, Sum.inr z, rfl, upd_same, by omega, kk ++ [(Sum.inr z, v)], by rw [pk, upd_upd], ?_⟩
            have ar : rowOf (zs.take (i + 1)) kvs = rowOf (zs.take i) kvs ++ [(nm z, v)] := by
              unfold rowOf
              rw [List.take_add_one, hz1, List.map_append]
              show _ ++ [(nm z, getN kvs z)] = _
              unfold getN
              rw [e]
              rfl
            rw [ar, ← ek]
            unfold asN
            rw [List.map_append]
            rfl
          · rintro H' ⟨kk, rfl, ek⟩
            rw [lz, List.take_of_length_le (Nat.le_refl _)] at ek
            refine ⟨D, kk, rfl, upd_same, ?_⟩
            rw [ek, upd_upd]
            exact kq du D _ hD (same_new hD) (.inl upd_same)

end
end Nr
namespace Nm
open PySem PySem.Spec PyProof.Rows L2 Lw Xv Lh Ow
abbrev sName : Stmt := Lw.top 18
/-- a number of a draw finds an item -/
theorem pick {xs : List V} {r : Int} (h0 : 0 ≤ r) (h1 : r < (xs.length : Int)) : ∃ x, atI xs r = some x ∧ x ∈ xs := by
  obtain ⟨j, rfl⟩ := Int.eq_ofNat_of_zero_le h0
  have hj : j < xs.length := by omega
  exact ⟨xs[j], atI_nat (List.getElem?_eq_getElem hj), List.getElem_mem hj⟩
def spareL : List V := [.str "ka", .str "kb", .str "kc", .str "kd", .str "ke", .str "kf"]
theorem spare_all : spareL.all flatV = true ∧ ∀ x ∈ spareL, ∃ z, x = .str z ∧ okS z = true := by
  refine ⟨by decide +kernel, fun x hx => ?_⟩
  unfold spareL at hx
  simp only [List.mem_cons, List.not_mem_nil, or_false] at hx
  rcases hx with rfl | rfl | rfl | rfl | rfl | rfl <;> exact ⟨_, rfl, by decide +kernel⟩
theorem inV_bar (z : Str) (ts : List Str) : inV (.str z) (ts.map V.str ++ wordL) = (decide (z ∈ ts) || inV (.str z) wordL) := by
  unfold inV
  rw [List.any_append]
  have e := inV_strs z ts
  unfold inV at e
  rw [e]
theorem else_put {p D : Addr} {H H' : Hp} {o : HO} (e : Else p H H') (n : H D = none) : Else p H (L2.upd H' D o) := fun b u h nb => by
  rw [upd_ne (ne_of_none h n)]
  exact e b u h nb
theorem else_at {p b : Addr} {H H' : Hp} {o : HO} (e : Else p H H') (h : H b = some o) (n : b ≠ p) : H' b = some o := e b o h n
/-- another name than those at t -/
def spName : Sp := fun vs H Q _ => ∃ (p q t : Addr) (ts : List Str), vs = [.ref p, .ref t] ∧ HandAt H p q ∧ H t = some (.lst (ts.map V.str)) ∧ ts.length ≤ 5 ∧ t ≠ p ∧ ∀ z H', okS z = true → z ∉ ts → HandAt H' p q → Else p H H' → Q (.str z) H'
def spareS : List Str := ["ka", "kb", "kc", "kd", "ke", "kf"]
theorem len_sub : ∀ {l m : List Str}, l.Nodup → (∀ x ∈ l, x ∈ m) → l.length ≤ m.length
  | [], _, _, _ => Nat.zero_le _
  | a :: l, m, n, h => by
    obtain ⟨n1, n2⟩ := List.nodup_cons.mp n
    have i := len_sub (l := l) (m := m.erase a) n2 fun x hx => (List.mem_erase_of_ne (fun e => n1 (by rw [← e]; exact hx))).mpr (h x (List.mem_cons_of_mem _ hx))
    have e := List.length_erase_of_mem (h a List.mem_cons_self)
    have p : 0 < m.length := List.length_pos_of_mem (h a List.mem_cons_self)
    rw [List.length_cons]
    omega
theorem spare_left {ts : List Str} (h : ts.length ≤ 5) : ∃ z ∈ spareS, z ∉ ts := by
  refine Classical.byContradiction fun c => ?_
  have a : ∀ x ∈ spareS, x ∈ ts := fun x hx => Classical.byContradiction fun n => c ⟨x, hx, n⟩
  have l := len_sub (by decide +kernel) a
  have : spareS.length = 6 := rfl
  omega
theorem okS_len {z : Str} (h : okS z = true) : z.length ≤ 9 := by
  unfold okS at h
  rw [Bool.and_eq_true, Bool.and_eq_true, Bool.and_eq_true] at h
  have := of_decide_eq_true h.2.1.2
  omega
def Sign (y : Str) : Prop := ∃ c, y = ⟨#[c]⟩ ∧ c ∈ abc.cps.toList
theorem join_signs : ∀ {ys : List Str}, (∀ y ∈ ys, Sign y) → (TL.joinL [] (ys.map TL.tl)).length = ys.length ∧ ∀ c ∈ TL.joinL [] (ys.map TL.tl), c ∈ abc.cps.toList
  | [], _ => ⟨rfl, fun c h => by cases h⟩
  | [y], h => by
    obtain ⟨c, rfl, hc⟩ := h y List.mem_cons_self
    refine ⟨rfl, fun d hd => ?_⟩
    have e : d = c := List.mem_singleton.mp hd
    rw [e]
    exact hc
  | y :: z :: r, h => by
    obtain ⟨i1, i2⟩ := join_signs (ys := z :: r) fun x hx => h x (List.mem_cons_of_mem _ hx)
    obtain ⟨c, rfl, hc⟩ := h y List.mem_cons_self
    have e : TL.joinL [] ((⟨#[c]⟩ :: z :: r : List Str).map TL.tl) = c :: TL.joinL [] ((z :: r).map TL.tl) := rfl
    rw [e]
    refine ⟨by rw [List.length_cons, i1]; rfl, fun d hd => ?_⟩
    rcases List.mem_cons.mp hd with rfl | hd
    · exact hc
    · exact i2 d hd
theorem joined {ys : List Str} (h : ∀ y ∈ ys, Sign y) : (Txt.join "" ys).length = ys.length ∧ lets (Txt.join "" ys) = true := by
  have e : TL.tl (Txt.join "" ys) = TL.joinL [] (ys.map TL.tl) := by
    rw [TL.join_eq, TL.tl_join]
    rfl
  obtain ⟨i1, i2⟩ := join_signs h
  refine ⟨by rw [TL.len_tl, e, i1], ?_⟩
  unfold lets
  rw [show (Txt.join "" ys).cps.toList = TL.joinL [] (ys.map TL.tl) from e, List.all_eq_true]
  exact fun c hc => decide_eq_true (i2 c hc)
section
variable {P : Program} {w : World} {K : PySem.W.Frag} {mg : Str → Option Value} {base : Heap}
abbrev nName : List Str := ["_law_hand_here", "_law_taken", "_law_letters", "_law_size", "_law_word", "_law_barred", "_law_spare", "_law_k", "_law_other"]
theorem scName : FnScope nName ["_law_hand_here", "_law_taken"] (defScope sName) := ⟨rfl, rfl, rfl, by decide +kernel, rfl, by decide +kernel, by decide +kernel⟩
theorem okName {f fD : Addr} {fd fdD : FuncData} (F : Fun K "_law_name" "_law_name" sName f fd) (B : Bt mg) (GD : FnOk P w K mg base CX0 2 fD fdD ["_law_hand_here", "_law_many"] spDraw) (kD : PySem.W.keepIn K (.ref fD) = true) (bD : Binds K fdD ["_law_hand_here", "_law_many"] []) (mD : mg "_law_draw" = some (.ref fD)) :
    FnOk P w K mg base CX0 3 f fd ["_law_hand_here", "_law_taken"] spName := by
  refine F.ok scName (fun vs H Q E h => ?_) (fun cdv A outer s H vs Q E hr h => ?_)
  · obtain ⟨p, q, t, ts, rfl, _⟩ := h
    rfl
  · obtain ⟨p, q, t, ts, rfl, hA, ht, tsz, tp, k⟩ := h
    refine ⟨_, pss_cons (ps_set (i := 2) scName.nd rfl (Or.inr rfl) pe_str)
      (pss_cons (ps_set (i := 3) scName.nd rfl (Or.inl rfl) (pe_ix ix_list (pe_lst (pa_cons pe_int (pa_cons pe_int (pa_cons pe_int (pa_cons pe_int pa_nil))))) (pe_call GD hr (by rfl) mD kD bD .nil pass0 (pa_cons (pv 0) (pa_cons pe_int pa_nil))) (fun _ _ => rfl)))
      (pss_cons (ps_set (i := 4) scName.nd rfl (Or.inl rfl) (pe_join pe_str
          (pe_lc (own := [("_law_k", 7)]) (g := gName 7) (by rfl) scName.nd (pi_range1 rfl B.range (pa_cons (pv 3) pa_nil))
              (blkOk_by (own := [("_law_k", 7)]) (N := nName) (sc := defScope sName) (by decide +kernel)) (fun _ _ _ _ _ => pg_name (i := 7) scName.nd rfl (Or.inl rfl))
              (fun _ _ _ _ _ => pts_nil)
              (fun _ _ _ _ _ => pe_ix ix_str (pv 2) (pe_call GD hr (by rfl) mD kD bD .nil pass0 (pa_cons (pv 0) (pa_cons pe_int pa_nil))) (fun _ _ => rfl)))))
      (pss_cons (ps_set (i := 5) scName.nd rfl (Or.inr rfl) (pe_op op_cat (pv 1) (pe_lst (pa_cons pe_str (pa_cons pe_str (pa_cons pe_str (pa_cons pe_str (pa_cons pe_str (pa_cons pe_str (pa_cons pe_str (pa_cons pe_str pa_nil)))))))))))
      (pss_cons (ps_if (pt_cmpR op_in_seq (pv 4) (pv 5) (by rfl))
        (pss_cons (ps_setLc (i := 6) (own := [("_law_other", 8)]) (g := gName 8) (by rfl) scName.nd rfl (by rfl) (by rfl) (pi_list (pe_lst (pa_cons pe_str (pa_cons pe_str (pa_cons pe_str (pa_cons pe_str (pa_cons pe_str (pa_cons pe_str pa_nil))))))))
              (blkOk_by (own := [("_law_other", 8)]) (N := nName) (sc := defScope sName) (by decide +kernel)) (fun _ _ _ _ _ => pg_name (i := 8) scName.nd rfl (Or.inl rfl))
              (fun _ _ _ _ _ => pts_one (pt_cmpR (r := rIn K true) op_notIn_seq (pv 8) (pv 5) (by rfl)))
              (fun _ _ _ _ _ => pv 8))
          (pss_one (ps_ret (pe_ix ix_list (pv 6) pe_int (fun _ _ => rfl))))) pss_nil)
      (pss_one (ps_ret (pv 4))))))), ?_⟩
    -- [1, 2, 3, 8][draw(hand, 4)]
    refine ⟨(by show 4 ≤ sizeLine; decide), fun b hb => ?_⟩
    obtain ⟨np, nq⟩ := hA.np hb
    refine ⟨_, rfl, p, q, 4, rfl, hA.upd np nq, by decide, by decide, fun r H1 r0 r1 hA1 e1 => ?_⟩
    obtain ⟨x, hx, hm⟩ := pick (xs := [V.int 1, .int 2, .int 3, .int 8]) r0 r1
    obtain ⟨n, rfl, n1, n8⟩ : ∃ n : Nat, x = V.int (n : Int) ∧ 1 ≤ n ∧ n ≤ 8 := by
      simp only [List.mem_cons, List.not_mem_nil, or_false] at hm
      rcases hm with rfl | rfl | rfl | rfl
      · exact ⟨1, rfl, by decide, by decide⟩
      · exact ⟨2, rfl, by decide, by decide⟩
      · exact ⟨3, rfl, by decide, by decide⟩
      · exact ⟨8, rfl, by decide, by decide⟩
    refine ⟨b, _, _, _, rfl, rfl, SqL.of (else_at e1 (b := b) upd_same np), hx, ?_⟩
    have E1 : Else p H H1 := (Else.of (same_new hb)).trans e1
    -- the word
    refine ⟨⟨_, rfl⟩, _, rfl, n, rfl, by omega, by omega, fun D hD => ?_⟩
    obtain ⟨hDp, hDq⟩ := hA1.np hD
    have hD0 : H D = none := E1.none hD hDp
    have sl := sizeLine_eq
    refine lc_range (lo := 0) (n := n) (fun i H' => ∃ ys : List Str, ys.length = i ∧ (∀ y ∈ ys, Sign y) ∧ HandAt H' p q ∧ Else p H H' ∧ H' D = some (.lst (ys.map V.str))) ⟨[], rfl, (fun y h => by cases h), hA1.upd hDp hDq, E1.new hD, upd_same⟩ ?_ ?_
    · rintro i H2 hi ⟨ys, hy, sg, hA2, E2, h2⟩
      refine ⟨rfl, _, rfl, _, rfl, p, q, 26, rfl, hA2, by decide, by decide, fun r H3 r0 r1 hA3 e3 => ?_⟩
      have hj : ∃ c, atI abc.cps.toList r = some c ∧ c ∈ abc.cps.toList := by
        obtain ⟨j, rfl⟩ := Int.eq_ofNat_of_zero_le r0
        have l26 : abc.cps.toList.length = 26 := by decide +kernel
        have hj : j < abc.cps.toList.length := by omega
        exact ⟨abc.cps.toList[j], atI_nat (List.getElem?_eq_getElem hj), List.getElem_mem hj⟩
      obtain ⟨c, hc, hcm⟩ := hj
      refine ⟨abc, r, c, rfl, rfl, (by show abc.length ≤ sizeLine; rw [sl]; decide +kernel), hc, _, else_at e3 h2 hDp, ?_, ys ++ [⟨#[c]⟩], ?_, ?_, ?_, ?_, ?_⟩
      · rw [List.length_map]
        omega
      · rw [List.length_append, hy]
        rfl
      · intro y hy'
        rcases List.mem_append.mp hy' with z | z
        · exact sg y z
        · rw [List.mem_singleton.mp z]
          exact ⟨c, rfl, hcm⟩
      · exact hA3.upd hDp hDq
      · exact else_put (E2.trans e3) hD0
      · rw [upd_same, List.map_append]
        rfl
    · rintro H2 ⟨ys, hy, sg, hA2, E2, h2⟩
      obtain ⟨jl, jt⟩ := joined sg
      rw [hy] at jl
      have sm : ∀ zs : List Str, (∀ y ∈ zs, Sign y) → (zs.map (·.length)).sum = zs.length := by
        intro zs
        induction zs with
        | nil => intro _; rfl
        | cons z zs ih =>
          intro hz
          obtain ⟨c, rfl, _⟩ := hz z List.mem_cons_self
          rw [List.map_cons, List.sum_cons, ih fun y hy => hz y (List.mem_cons_of_mem _ hy), List.length_cons]
          show 1 + zs.length = zs.length + 1
          omega
      refine ⟨"", D, ys, rfl, rfl, .inl (SqL.of h2), ?_, ?_⟩
      · rw [sm ys sg, hy]
        show n + n * 0 ≤ 16777216
        omega
      · -- barred
        have t2 := E2 t _ ht tp
        have few : (ts.map V.str).length ≤ 5 := by
          rw [List.length_map]
          exact tsz
        have flat : (ts.map V.str ++ wordL).all flatV = true := by
          rw [List.all_append, flat_strs]
          decide +kernel
        refine ⟨_, rfl, (by show 8 ≤ sizeLine; decide), fun g hg => ?_⟩
        refine ⟨t, g, ts.map V.str, wordL, rfl, rfl, same_new hg _ _ t2, upd_same, (by show (ts.map V.str).length + 8 ≤ sizeLine; omega), fun g2 hg2 => ?_⟩
        have s3 : Same H2 (upd (upd H2 g (.lst wordL)) g2 (.lst (ts.map V.str ++ wordL))) := (same_new hg).trans (same_new hg2)
        refine ⟨_, rfl, _, rfl, g2, _, rfl, .inl (SqL.of upd_same), rfl, flat, _, rfl, ?_⟩
        have A3 := hA2.same s3
        have E3 := E2.trans (Else.of (p := p) s3)
        have g2s : (upd (upd H2 g (.lst wordL)) g2 (.lst (ts.map V.str ++ wordL))) g2 = some (.lst (ts.map V.str ++ wordL)) := upd_same
        refine ite2 (fun hw => ?_) (fun hw => ?_)
        · -- a spare one
          refine ⟨(by show 6 ≤ sizeLine; decide), fun t2 ht2 => ⟨t2, rfl, ⟨spareL, SqL.of upd_same⟩, fun D2 hD2 => ?_⟩⟩
          have n2 : t2 ≠ p := (A3.np ht2).1
          have A4 := A3.same (same_new (o := .lst spareL) ht2)
          refine lc_list (K := K) (a := t2) (xs := spareL) (fun i H' => Same (upd (upd (upd H2 g (.lst wordL)) g2 (.lst (ts.map V.str ++ wordL))) t2 (.lst spareL)) H' ∧ H' D2 = some (.lst ((spareL.take i).filter fun x => !inV x (ts.map V.str ++ wordL)))) ⟨same_new hD2, upd_same⟩ (fun i H' _ h => SqL.of (h.1 _ _ upd_same)) ?_ ?_
          · rintro i x H' hx ⟨s4, h4⟩
            have f1 : flatV x = true := List.all_eq_true.mp spare_all.1 x (List.mem_of_getElem? hx)
            have tk : (spareL.take (i + 1)).filter (fun x => !inV x (ts.map V.str ++ wordL)) = (spareL.take i).filter (fun x => !inV x (ts.map V.str ++ wordL)) ++ [x].filter (fun x => !inV x (ts.map V.str ++ wordL)) := by
              rw [List.take_add_one, hx, List.filter_append]
              rfl
            refine ⟨rfl, _, rfl, _, rfl, g2, _, rfl, .inl (SqL.of (s4 _ _ (same_new ht2 _ _ g2s))), f1, flat, _, rfl, ?_⟩
            show if (!inV x (ts.map V.str ++ wordL)) = true then _ else _
            cases ci : inV x (ts.map V.str ++ wordL) with
            | false =>
              refine iteT ⟨_, rfl, _, h4, ?_, same_put s4 hD2, ?_⟩
              · have l1 := List.length_filter_le (fun x => !inV x (ts.map V.str ++ wordL)) (spareL.take i)
                rw [List.length_take] at l1
                have : spareL.length = 6 := rfl
                omega
              · rw [upd_same, tk]
                have e : [x].filter (fun x => !inV x (ts.map V.str ++ wordL)) = [x] := by simp [ci]
                rw [e]
            | true =>
              refine iteF ⟨s4, ?_⟩
              rw [h4, tk]
              have e : [x].filter (fun x => !inV x (ts.map V.str ++ wordL)) = [] := by simp [ci]
              rw [e, List.append_nil]
          · rintro H' ⟨s4, h4⟩
            rw [List.take_of_length_le (Nat.le_refl _)] at h4
            obtain ⟨z1, hz1, nz1⟩ := spare_left tsz
            have m1 : V.str z1 ∈ spareL.filter fun x => !inV x (ts.map V.str ++ wordL) := by
              refine List.mem_filter.mpr ⟨List.mem_map.mpr ⟨z1, hz1, rfl⟩, ?_⟩
              show (!inV (.str z1) (ts.map V.str ++ wordL)) = true
              have w1 : inV (.str z1) wordL = false := by
                have all : ∀ z ∈ spareS, inV (.str z) wordL = false := by decide +kernel
                exact all z1 hz1
              rw [inV_bar, w1, decide_eq_false nz1]
              rfl
            obtain ⟨x, r, er⟩ : ∃ x r, (spareL.filter fun x => !inV x (ts.map V.str ++ wordL)) = x :: r := by
              cases e : spareL.filter fun x => !inV x (ts.map V.str ++ wordL) with
              | nil =>
                rw [e] at m1
                cases m1
              | cons x r => exact ⟨x, r, rfl⟩
            have mx : x ∈ spareL.filter fun x => !inV x (ts.map V.str ++ wordL) := by
              rw [er]
              exact List.mem_cons_self
            obtain ⟨mx1, mx2⟩ := List.mem_filter.mp mx
            obtain ⟨z, rfl, okz⟩ := spare_all.2 x mx1
            have nz : z ∉ ts := by
              intro hm
              have mx3 : (!inV (.str z) (ts.map V.str ++ wordL)) = true := mx2
              rw [inV_bar, decide_eq_true hm] at mx3
              cases mx3
            rw [er] at h4
            refine ⟨_, rfl, D2, _, _, _, rfl, rfl, SqL.of h4, at_of (j := 0) rfl rfl, ?_⟩
            exact k z H' okz nz (A4.same s4) (E3.trans ((Else.of (same_new ht2)).trans (Else.of s4)))
        · refine ⟨_, rfl, ?_⟩
          have hw' : inV (.str (Txt.join "" ys)) (ts.map V.str ++ wordL) = false := by
            have c : ¬ inV (.str (Txt.join "" ys)) (ts.map V.str ++ wordL) = true := hw
            simpa using c
          rw [inV_bar, Bool.or_eq_false_iff] at hw'
          refine k _ _ ?_ (of_decide_eq_false hw'.1) A3 E3
          unfold okS
          rw [hw'.2, jt, jl]
          simp
          omega
end
end Nm
namespace Nm
open PySem PySem.Spec PyProof.Rows L2 Lw Xv Lh Ow
abbrev sNames : Stmt := Lw.top 19
abbrev sUnit : Stmt := Lw.top 20
/-- n unlike names in a new list -/
def spNames : Sp := fun vs H Q _ => ∃ (p q : Addr) (n : Nat), vs = [.ref p, .int n] ∧ HandAt H p q ∧ n ≤ 5 ∧
  ∀ (l : Addr) (zs : List Str) (H' : Hp), H l = none → l ≠ p → H' l = some (.lst (zs.map V.str)) → zs.length = n → zs.Nodup → (∀ z ∈ zs, okS z = true) → HandAt H' p q → Else p H H' → Q (.ref l) H'
def spUnit : Sp := fun vs H Q _ => ∃ (p q : Addr), vs = [.ref p] ∧ HandAt H p q ∧ ∀ (u : Int) (H' : Hp), 1 ≤ u → HandAt H' p q → Else p H H' → Q (.int u) H'
section
variable {P : Program} {w : World} {K : PySem.W.Frag} {mg : Str → Option Value} {base : Heap}
theorem scNames : FnScope ["_law_hand_here", "_law_many", "_law_found", "_law_k"] ["_law_hand_here", "_law_many"] (defScope sNames) := ⟨rfl, rfl, rfl, by decide +kernel, rfl, by decide +kernel, by decide +kernel⟩
theorem okNames {f fN : Addr} {fd fdN : FuncData} (F : Fun K "_law_names" "_law_names" sNames f fd) (B : Bt mg) (GN : FnOk P w K mg base CX0 3 fN fdN ["_law_hand_here", "_law_taken"] spName) (kN : PySem.W.keepIn K (.ref fN) = true) (bN : Binds K fdN ["_law_hand_here", "_law_taken"] []) (mN : mg "_law_name" = some (.ref fN)) :
    FnOk P w K mg base CX0 4 f fd ["_law_hand_here", "_law_many"] spNames := by
  refine F.ok scNames (fun vs H Q E h => ?_) (fun cdv A outer s H vs Q E hr h => ?_)
  · obtain ⟨p, q, n, rfl, _⟩ := h
    rfl
  · obtain ⟨p, q, n, rfl, hA, hn, k⟩ := h
    refine ⟨_, (pss_cons (ps_set (i := 2) scNames.nd rfl (Or.inl rfl) (pe_lst pa_nil))
      (pss_cons (ps_for PassesOwn.never rfl (pi_range1 (by rfl) B.range (pa_cons (pv 1) pa_nil)) (pg_name (i := 3) scNames.nd rfl (Or.inl rfl)) (pss_one (ps_expr (pe_bm PySem.F.plainAttrs_list PySem.F.slot_list_append PySem.F.type_list_append mt_append (pv 2) (pa_cons (pe_call GN hr (by rfl) mN kN bN .nil pass0 (pa_cons (pv 0) (pa_cons (pv 2) pa_nil))) pa_nil)))))
      (pss_one (ps_ret (pv 2))))), ?_⟩
    refine ⟨Nat.zero_le _, fun l hl => ?_⟩
    obtain ⟨lp, lq⟩ := hA.np hl
    have sl := sizeLine_eq
    refine ⟨_, rfl, n, rfl, by omega, by omega, for_range (lo := 0) (n := n) (fun i σ H' => (∃ v, σ = [some (.ref p), some (.int n), some (.ref l), v]) ∧ HandAt H' p q ∧ Else p H H' ∧ ∃ zs : List Str, H' l = some (.lst (zs.map V.str)) ∧ zs.length = i ∧ zs.Nodup ∧ ∀ z ∈ zs, okS z = true)
      ⟨⟨_, rfl⟩, hA.upd lp lq, Else.of (same_new hl), [], upd_same, rfl, List.nodup_nil, fun z h => by cases h⟩ ?_ ?_⟩
    · rintro i σ H1 hi ⟨⟨v, rfl⟩, hA1, e1, zs, h1, hz, nd, ok⟩
      refine ⟨_, rfl, .inl ⟨rfl, _, SqL.of h1⟩, _, rfl, _, rfl, p, q, l, zs, rfl, hA1, h1, by omega, lp, fun z H2 okz nz hA2 e2 => ?_⟩
      have h2 := e2 _ _ h1 lp
      refine ⟨l, _, _, rfl, rfl, h2, by rw [List.length_map]; omega, ⟨_, rfl⟩, hA2.upd lp lq, else_put (e1.trans e2) hl, zs ++ [z], ?_, ?_, ?_, ?_⟩
      · rw [upd_same, List.map_append]
        rfl
      · rw [List.length_append, hz]
        rfl
      · refine List.nodup_append.mpr ⟨nd, by simp, fun a ha b hb => ?_⟩
        rw [List.mem_singleton.mp hb]
        exact fun e => nz (by rw [← e]; exact ha)
      · intro y hy
        rcases List.mem_append.mp hy with h | h
        · exact ok y h
        · rw [List.mem_singleton.mp h]
          exact okz
    · rintro σ H1 ⟨⟨v, rfl⟩, hA1, e1, zs, h1, hz, nd, ok⟩
      exact ⟨_, rfl, k l zs H1 hl lp h1 hz nd ok hA1 e1⟩
theorem scUnit : FnScope ["_law_hand_here", "_law_pick"] ["_law_hand_here"] (defScope sUnit) := ⟨rfl, rfl, rfl, by decide +kernel, rfl, by decide +kernel, by decide +kernel⟩
theorem okUnit {f fD : Addr} {fd fdD : FuncData} (F : Fun K "_law_unit" "_law_unit" sUnit f fd) (GD : FnOk P w K mg base CX0 2 fD fdD ["_law_hand_here", "_law_many"] spDraw) (kD : PySem.W.keepIn K (.ref fD) = true) (bD : Binds K fdD ["_law_hand_here", "_law_many"] []) (mD : mg "_law_draw" = some (.ref fD)) :
    FnOk P w K mg base CX0 3 f fd ["_law_hand_here"] spUnit := by
  refine F.ok scUnit (fun vs H Q E h => ?_) (fun cdv A outer s H vs Q E hr h => ?_)
  · obtain ⟨p, q, rfl, _⟩ := h
    rfl
  · obtain ⟨p, q, rfl, hA, k⟩ := h
    refine ⟨_, (pss_cons (ps_set (i := 1) scUnit.nd rfl (Or.inl rfl) (pe_call GD hr (by rfl) mD kD bD .nil pass0 (pa_cons (pv 0) (pa_cons pe_int pa_nil))))
      (pss_cons (ps_if (pt_cmpR op_eq (pv 1) pe_int (nomark _)) (pss_one (ps_ret (pe_op op_add (pe_op op_pow pe_int pe_int) pe_int))) pss_nil)
      (pss_cons (ps_if (pt_cmpR op_eq (pv 1) pe_int (nomark _)) (pss_one (ps_ret (pe_op op_add (pe_op op_pow pe_int pe_int) (pe_call GD hr (by rfl) mD kD bD .nil pass0 (pa_cons (pv 0) (pa_cons (pe_op op_pow pe_int pe_int) pa_nil)))))) pss_nil)
      (pss_one (ps_ret pe_int))))), ?_⟩
    refine ⟨_, rfl, p, q, 5, rfl, hA, by decide, by decide, fun r H1 r0 r1 hA1 e1 => ?_⟩
    refine ⟨_, rfl, rfl, _, rfl, ite2 (fun c => ?_) (fun c => ?_)⟩
    · exact ⟨_, _, rfl, rfl, ⟨by decide, by decide, by decide⟩, _, _, rfl, rfl, k _ H1 (by decide +kernel) hA1 e1⟩
    · refine ⟨_, rfl, rfl, _, rfl, ite2 (fun c => ?_) (fun c => ?_)⟩
      · refine ⟨_, _, rfl, rfl, ⟨by decide, by decide, by decide⟩, _, rfl, _, _, rfl, rfl, ⟨by decide, by decide, by decide⟩, p, q, _, rfl, hA1, by decide +kernel, by decide +kernel, fun r2 H2 r20 r21 hA2 e2 => ?_⟩
        refine ⟨_, _, rfl, rfl, k _ H2 ?_ hA2 (e1.trans e2)⟩
        have : (1 : Int) ≤ 10 ^ (60 : Int).toNat := by decide +kernel
        omega
      · exact k 1 H1 (by decide) hA1 e1
end
end Nm
/-! _law_row, _law_order -/
namespace Nr
open PySem PySem.Spec PyProof.Rows L2 Lw Lw2 Xv Lh Ow Nm Dn
abbrev sRowD : Stmt := Lw.top 21
abbrev sOrder : Stmt := Lw.top 22
theorem putK_new {kvs : List (NK × V)} {k : NK} {v : V} (h : k ∉ kvs.map (·.1)) : putK kvs k v = kvs ++ [(k, v)] := by
  have no : (kvs.any fun kv => decide (kv.1 = k)) = false := by
    rw [List.any_eq_false]
    intro q hq hd
    exact h (List.mem_map.mpr ⟨q, hq, of_decide_eq_true hd⟩)
  unfold putK
  rw [no]
  rfl
theorem nm_inj {a b : Str} (h : nm a = nm b) : a = b := Sum.inr.inj (Option.some.inj h)
theorem val_mem {kvs : List (NK × V)} {k : NK} {v : V} (h : valV kvs k = some v) : (k, v) ∈ kvs := by
  unfold valV at h
  obtain ⟨q, hq, rfl⟩ := Option.map_eq_some_iff.mp h
  have e := List.find?_some hq
  have m := List.mem_of_find?_eq_some hq
  have e' : q.1 = k := of_decide_eq_true e
  rw [← e']
  exact m
/-- None or a number -/
def Num (v : V) : Prop := v = .non ∨ ∃ i, v = .int i
def spRowD (P : Program) (w : World) : Sp := fun vs H Q _ => ∃ (p q l : Addr) (zs : List Str) (u : Int), vs = [.ref p, .ref l, .int u] ∧ HandAt H p q ∧ H l = some (.lst (zs.map V.str)) ∧ l ≠ p ∧ zs.Nodup ∧ zs.length ≤ 5 ∧
  ∀ (d : Addr) (kvs : List (NK × V)) (H' : Hp), H d = none → d ≠ p → H' d = some (dN P w d kvs) → kvs.map (·.1) = zs.map nm → (∀ q ∈ kvs, Num q.2) → HandAt H' p q → Else p H H' → Q (.ref d) H'
def spOrder : Sp := fun vs H Q _ => ∃ (p q : Addr) (n : Nat), vs = [.ref p, .int n] ∧ HandAt H p q ∧ n ≤ 1000 ∧
  ∀ (t : Addr) (ks : List Nat) (H' : Hp), H t = none → t ≠ p → H' t = some (.tup (ks.map fun (k : Nat) => V.int (k : Int))) → ks.Perm (List.range n) → HandAt H' p q → Else p H H' → Q (.ref t) H'
section
variable {P : Program} {w : World} {K : PySem.W.Frag} {mg : Str → Option Value} {base : Heap}
abbrev nRowD : List Str := ["_law_hand_here", "_law_names_here", "_law_unit_here", "_law_row_here", "_law_name_here"]
theorem scRowD : FnScope nRowD ["_law_hand_here", "_law_names_here", "_law_unit_here"] (defScope sRowD) := ⟨rfl, rfl, rfl, by decide +kernel, rfl, by decide +kernel, by decide +kernel⟩
theorem okRowD {f fD : Addr} {fd fdD : FuncData} (F : Fun K "_law_row" "_law_row" sRowD f fd) (GD : FnOk P w K mg base CX0 2 fD fdD ["_law_hand_here", "_law_many"] spDraw) (kD : PySem.W.keepIn K (.ref fD) = true) (bD : Binds K fdD ["_law_hand_here", "_law_many"] []) (mD : mg "_law_draw" = some (.ref fD)) :
    FnOk P w K mg base CX0 3 f fd ["_law_hand_here", "_law_names_here", "_law_unit_here"] (spRowD P w) := by
  refine F.ok scRowD (fun vs H Q E h => ?_) (fun cdv A outer s H vs Q E hr h => ?_)
  · obtain ⟨p, q, l, zs, u, rfl, _⟩ := h
    rfl
  · obtain ⟨p, q, l, zs, u, rfl, hA, hl, lp, nd, hz, k⟩ := h
    refine ⟨_, (pss_cons (ps_set (i := 3) scRowD.nd rfl (Or.inl rfl) pe_newN)
      (pss_cons (ps_for PassesOwn.never rfl (pi_list (pv 1)) (pg_name (i := 4) scRowD.nd rfl (Or.inl rfl)) (pss_one (ps_if (pt_cmpR op_eq (pe_call GD hr (by rfl) mD kD bD .nil pass0 (pa_cons (pv 0) (pa_cons pe_int pa_nil))) pe_int (nomark _)) (pss_one (ps_putN (pv 3) (pv 4) pe_non)) (pss_one (ps_putN (pv 3) (pv 4) (pe_op op_sub (pe_op op_add (pe_op op_mul (pv 2) (pe_op op_sub (pe_call GD hr (by rfl) mD kD bD .nil pass0 (pa_cons (pv 0) (pa_cons pe_int pa_nil))) pe_int)) (pe_call GD hr (by rfl) mD kD bD .nil pass0 (pa_cons (pv 0) (pa_cons pe_int pa_nil)))) pe_int))))))
      (pss_one (ps_ret (pv 3))))), ?_⟩
    intro d hd
    obtain ⟨dp, dq⟩ := hA.np hd
    have at_ : ∀ {i : Nat} {x : V}, (zs.map V.str)[i]? = some x → ∃ z, x = .str z ∧ zs[i]? = some z := fun {i x} e => by
      rw [List.getElem?_map] at e
      obtain ⟨z, e1, e2⟩ := Option.map_eq_some_iff.mp e
      exact ⟨z, e2.symm, e1⟩
    refine ⟨_, rfl, l, rfl, ⟨_, SqL.of (same_new hd _ _ hl)⟩, for_list (K := K) (a := l) (xs := zs.map V.str) (fun i σ H' => (∃ v, σ = [some (.ref p), some (.ref l), some (.int u), some (.ref d), v]) ∧ HandAt H' p q ∧ Else p H H' ∧ ∃ kvs : List (NK × V), H' d = some (dN P w d kvs) ∧ kvs.map (·.1) = (zs.take i).map nm ∧ ∀ q ∈ kvs, Num q.2)
      ⟨⟨_, rfl⟩, hA.upd dp dq, Else.of (same_new hd), [], upd_same, rfl, fun q h => by cases h⟩ (fun i σ H' _ h => SqL.of (h.2.2.1 _ _ hl lp)) ?_ ?_⟩
    · rintro i x σ H1 hx ⟨⟨v, rfl⟩, hA1, e1, kvs, h1, hk, hn⟩
      obtain ⟨z, rfl, hz1⟩ := at_ hx
      have sl := sizeLine_eq
      have lk : kvs.length ≤ 5 := by
        have l1 := congrArg List.length hk
        rw [List.length_map, List.length_map, List.length_take] at l1
        omega
      have nw : nm z ∉ kvs.map (·.1) := by
        rw [hk]
        intro m
        obtain ⟨y, hy, ey⟩ := List.mem_map.mp m
        rw [nm_inj ey] at hy
        exact nodup_take.mp nd i z hz1 hy
      have step : ∀ (H2 : Hp) (v : V), HandAt H2 p q → Else p H H2 → H2 d = some (dN P w d kvs) → Num v → (∃ v', [some (V.ref p), some (.ref l), some (.int u), some (.ref d), some (.str z)] = [some (.ref p), some (.ref l), some (.int u), some (.ref d), v']) ∧ HandAt (upd H2 d (dN P w d (putK kvs (nm z) v))) p q ∧ Else p H (upd H2 d (dN P w d (putK kvs (nm z) v))) ∧
          ∃ kvs' : List (NK × V), (upd H2 d (dN P w d (putK kvs (nm z) v))) d = some (dN P w d kvs') ∧ kvs'.map (·.1) = (zs.take (i + 1)).map nm ∧ ∀ q ∈ kvs', Num q.2 := by
        intro H2 v a e h2 hv
        refine ⟨⟨_, rfl⟩, a.upd dp dq, else_put e hd, _, upd_same, ?_, ?_⟩
        · rw [putK_new nw, List.map_append, hk, List.take_add_one, hz1, List.map_append]
          rfl
        · rw [putK_new nw]
          intro q hq
          rcases List.mem_append.mp hq with m | m
          · exact hn q m
          · rw [List.mem_singleton.mp m]
            exact hv
      refine ⟨_, rfl, p, q, 5, rfl, hA1, by decide, by decide, fun r H2 r0 r1 hA2 e2 => ?_⟩
      have h2 := e2 _ _ h1 dp
      refine ⟨rfl, _, rfl, ite2 (fun c => ?_) (fun c => ?_)⟩
      · exact ⟨_, rfl, _, rfl, d, kvs, nm z, rfl, rfl, .inl h2, by omega, step H2 _ hA2 (e1.trans e2) h2 (.inl rfl)⟩
      · refine ⟨_, rfl, _, rfl, p, q, 9, rfl, hA2, by decide, by decide, fun r3 H3 r30 r31 hA3 e3 => ?_⟩
        refine ⟨_, _, rfl, rfl, _, _, rfl, rfl, .inr ⟨by omega, by omega⟩, _, rfl, p, q, 3, rfl, hA3, by decide, by decide, fun r4 H4 r40 r41 hA4 e4 => ?_⟩
        have h4 := e4 _ _ (e3 _ _ h2 dp) dp
        exact ⟨_, _, rfl, rfl, _, _, rfl, rfl, _, rfl, _, rfl, d, kvs, nm z, rfl, rfl, .inl h4, by omega, step H4 _ hA4 (((e1.trans e2).trans e3).trans e4) h4 (.inr ⟨_, rfl⟩)⟩
    · rintro σ H1 ⟨⟨v, rfl⟩, hA1, e1, kvs, h1, hk, hn⟩
      rw [List.length_map, List.take_of_length_le (Nat.le_refl _)] at hk
      exact ⟨_, rfl, k d kvs H1 hd dp h1 hk hn hA1 e1⟩
end
end Nr
namespace Nr
open PySem PySem.Spec PyProof.Rows L2 Lw Lw2 Xv Lh Ow Nm Dn
theorem er_map {α β : Type} (f : α → β) : ∀ (l : List α) (j : Nat), (l.map f).eraseIdx j = (l.eraseIdx j).map f
  | [], _ => rfl
  | _ :: _, 0 => rfl
  | a :: l, j + 1 => by
    show f a :: (l.map f).eraseIdx j = f a :: (l.eraseIdx j).map f
    rw [er_map f l j]
theorem er_perm {α : Type} : ∀ (l : List α) (j : Nat) (h : j < l.length), (l[j] :: l.eraseIdx j).Perm l
  | _ :: _, 0, _ => List.Perm.refl _
  | a :: l, j + 1, h => by
    have i := er_perm l j (by simpa using h)
    show (l[j]'(by simpa using h) :: a :: l.eraseIdx j).Perm (a :: l)
    exact (List.Perm.swap a _ _).trans (i.cons a)
abbrev iV : Nat → V := fun k => V.int (k : Int)
section
variable {P : Program} {w : World} {K : PySem.W.Frag} {mg : Str → Option Value} {base : Heap}
abbrev nOrder : List Str := ["_law_hand_here", "_law_many", "_law_left", "_law_order_here", "_law_k"]
theorem scOrder : FnScope nOrder ["_law_hand_here", "_law_many"] (defScope sOrder) := ⟨rfl, rfl, rfl, by decide +kernel, rfl, by decide +kernel, by decide +kernel⟩
theorem okOrder {f fD : Addr} {fd fdD : FuncData} (F : Fun K "_law_order" "_law_order" sOrder f fd) (B : Bt mg) (GD : FnOk P w K mg base CX0 2 fD fdD ["_law_hand_here", "_law_many"] spDraw) (kD : PySem.W.keepIn K (.ref fD) = true) (bD : Binds K fdD ["_law_hand_here", "_law_many"] []) (mD : mg "_law_draw" = some (.ref fD)) :
    FnOk P w K mg base CX0 3 f fd ["_law_hand_here", "_law_many"] spOrder := by
  refine F.ok scOrder (fun vs H Q E h => ?_) (fun cdv A outer s H vs Q E hr h => ?_)
  · obtain ⟨p, q, n, rfl, _⟩ := h
    rfl
  · obtain ⟨p, q, n, rfl, hA, hn, k⟩ := h
    refine ⟨_, (pss_cons (ps_set (i := 2) scOrder.nd rfl (Or.inl rfl) (pe_listRg rfl (by rfl) B.list (prg_1 (by rfl) B.range (pv 1))))
      (pss_cons (ps_set (i := 3) scOrder.nd rfl (Or.inl rfl) (pe_lst pa_nil))
      (pss_cons (ps_for PassesOwn.never rfl (pi_range1 (by rfl) B.range (pa_cons (pv 1) pa_nil)) (pg_name (i := 4) scOrder.nd rfl (Or.inl rfl)) (pss_one (ps_expr (pe_bm PySem.F.plainAttrs_list PySem.F.slot_list_append PySem.F.type_list_append mt_append (pv 3) (pa_cons (pe_bm PySem.F.plainAttrs_list PySem.F.slot_list_pop PySem.F.type_list_pop mt_popAt (pv 2) (pa_cons (pe_call GD hr (by rfl) mD kD bD .nil pass0 (pa_cons (pv 0) (pa_cons (pe_callB call_len_seq (by rfl) B.len PySem.boot_len (pa_cons (pv 2) pa_nil)) pa_nil))) pa_nil)) pa_nil)))))
      (pss_one (ps_ret (pe_callTy call_tuple_of (by rfl) B.tuple (by decide +kernel) (pa_cons (pv 3) pa_nil))))))), ?_⟩
    have sl := sizeLine_eq
    have ev : rgV 0 (n : Int) = (List.range n).map iV := by
      unfold rgV
      simp
    refine ⟨_, rfl, n, rfl, ?_, fun lf hlf => ?_⟩
    · unfold RgOk
      omega
    rw [ev]
    have a1 := hA.np hlf
    refine ⟨Nat.zero_le _, fun od hod => ?_⟩
    have hod0 : H od = none := (same_new hlf).free hod
    have a2 := hA.np hod0
    have lo : lf ≠ od := ne_of_none (upd_same (H := H) (a := lf)) hod
    have A1 := (hA.upd (o := .lst ((List.range n).map iV)) a1.1 a1.2).upd (o := .lst []) a2.1 a2.2
    refine ⟨_, rfl, n, rfl, by omega, by omega, for_range (lo := 0) (n := n) (fun i σ H' => (∃ v, σ = [some (.ref p), some (.int n), some (.ref lf), some (.ref od), v]) ∧ HandAt H' p q ∧ Else p H H' ∧ ∃ ls os : List Nat, H' lf = some (.lst (ls.map iV)) ∧ H' od = some (.lst (os.map iV)) ∧ ls.length + i = n ∧ os.length = i ∧ (os ++ ls).Perm (List.range n))
      ⟨⟨_, rfl⟩, A1, else_put (else_put (Else.refl p H) hlf) hod0, List.range n, [], by rw [upd_ne lo, upd_same], upd_same, by simp, rfl, List.Perm.refl _⟩ ?_ ?_⟩
    · rintro i σ H1 hi ⟨⟨v, rfl⟩, hA1, e1, ls, os, h1, h2, l1, l2, pm⟩
      refine ⟨_, rfl, .inl ⟨rfl, _, SqL.of h2⟩, _, rfl, .inl ⟨rfl, _, SqL.of h1⟩, _, rfl, _, rfl, lf, _, rfl, .inl (SqL.of h1), p, q, _, rfl, hA1, ?_, ?_, fun r H2 r0 r1 hA2 e2 => ?_⟩
      · rw [List.length_map]
        omega
      · rw [List.length_map]
        omega
      rw [List.length_map] at r1
      obtain ⟨j, rfl⟩ := Int.eq_ofNat_of_zero_le r0
      have hj : j < ls.length := by omega
      have h1' := e2 _ _ h1 a1.1
      have h2' := e2 _ _ h2 a2.1
      have gj : (ls.map iV)[j]? = some (iV ls[j]) := by
        rw [List.getElem?_map, List.getElem?_eq_getElem hj]
        rfl
      have si : seqIndex? (j : Int) (ls.map iV).length = some j := by
        rw [List.length_map]
        exact seqIndex_of (by omega) (by omega)
      refine ⟨lf, _, _, j, _, rfl, rfl, h1', by omega, by omega, si, gj, od, _, _, rfl, rfl, by rw [upd_ne lo.symm]; exact h2', by rw [List.length_map]; omega, ⟨_, rfl⟩, (hA2.upd a1.1 a1.2).upd a2.1 a2.2, else_put (else_put (e1.trans e2) hlf) hod0, ls.eraseIdx j, os ++ [ls[j]], ?_, ?_, ?_, ?_, ?_⟩
      · rw [upd_ne lo, upd_same, er_map]
      · rw [upd_same, List.map_append]
        rfl
      · rw [List.length_eraseIdx_of_lt hj]
        omega
      · rw [List.length_append, l2]
        rfl
      · refine List.Perm.trans ?_ pm
        rw [List.append_assoc]
        refine List.Perm.append_left os ?_
        show (ls[j] :: ls.eraseIdx j).Perm ls
        exact er_perm ls j hj
    · rintro σ H1 ⟨⟨v, rfl⟩, hA1, e1, ls, os, h1, h2, l1, l2, pm⟩
      have e0 : ls = [] := List.length_eq_zero_iff.mp (by omega)
      subst e0
      rw [List.append_nil] at pm
      refine ⟨_, rfl, od, _, rfl, .inl ⟨SqL.of h2, fun t ht => ?_⟩⟩
      have t0 : H t = none := by
        refine e1.none ht (hA1.np ht).1
      exact k t os _ t0 (hA1.np ht).1 upd_same pm (hA1.upd (hA1.np ht).1 (hA1.np ht).2) (else_put e1 t0)
end
end Nr
/-! _law_spoiled -/
namespace Nr
open PySem PySem.Spec PyProof.Rows L2 Lw Lw2 Xv Lh Ow Nm Dn
abbrev sSpoil : Stmt := Lw.top 25
/-- all but p and a is as it was -/
def El2 (p a : Addr) (H H' : Hp) : Prop := ∀ b o, H b = some o → b ≠ p → b ≠ a → H' b = some o
theorem El2.of {p a : Addr} {H H' : Hp} (e : Else p H H') : El2 p a H H' := fun b o h n _ => e b o h n
theorem El2.trans {p a : Addr} {H H1 H2 : Hp} (x : El2 p a H H1) (y : El2 p a H1 H2) : El2 p a H H2 := fun b o h n m => y b o (x b o h n m) n m
theorem El2.put {p a : Addr} {H : Hp} {o : HO} : El2 p a H (L2.upd H a o) := fun b u h _ m => by rw [upd_ne m]; exact h
/-- a value, no part of the hand or of the dict at a -/
def ValA (P : Program) (w : World) (H : Hp) (p a : Addr) (v : V) : Prop := ValW P w H v ∧ ∀ b, v = .ref b → b ≠ p ∧ b ≠ a
theorem ValA.step {P : Program} {w : World} {H H' : Hp} {p a : Addr} {v : V} (h : ValA P w H p a v) (e : El2 p a H H') : ValA P w H' p a v := by
  refine ⟨?_, h.2⟩
  rcases h.1 with z | z | z | z | ⟨b, eb, z⟩
  · exact .inl z
  · exact .inr (.inl z)
  · exact .inr (.inr (.inl z))
  · exact .inr (.inr (.inr (.inl z)))
  · obtain ⟨n1, n2⟩ := h.2 b eb
    refine .inr (.inr (.inr (.inr ⟨b, eb, ?_⟩)))
    rcases z with z | z | ⟨ob, z⟩
    · exact .inl (e _ _ z n1 n2)
    · exact .inr (.inl (e _ _ z n1 n2))
    · exact .inr (.inr ⟨ob, e _ _ z n1 n2⟩)
theorem mem_putK {kvs : List (NK × V)} {k : NK} {v : V} {q : NK × V} (h : q ∈ putK kvs k v) : q ∈ kvs ∨ q.2 = v := by
  unfold putK at h
  split at h
  · obtain ⟨kv, hk, e⟩ := List.mem_map.mp h
    split at e
    · exact .inr (by rw [← e])
    · exact .inl (by rw [← e]; exact hk)
  · rcases List.mem_append.mp h with m | m
    · exact .inl m
    · exact .inr (by rw [List.mem_singleton.mp m])
theorem keys_putK {kvs : List (NK × V)} {k : NK} {v : V} (n : (kvs.map (·.1)).Nodup) : ((putK kvs k v).map (·.1)).Nodup := by
  unfold putK
  split
  · rw [List.map_map]
    have e : (kvs.map ((fun q : NK × V => q.1) ∘ fun kv => if kv.1 = k then (kv.1, v) else kv)) = kvs.map (·.1) := by
      apply List.map_congr_left
      intro q _
      show (if q.1 = k then (q.1, v) else q).1 = q.1
      split <;> rfl
    rw [e]
    exact n
  · rename_i h
    rw [List.map_append]
    refine List.nodup_append.mpr ⟨n, by simp, fun x hx y hy => ?_⟩
    rw [List.mem_singleton.mp hy]
    obtain ⟨q, hq, rfl⟩ := List.mem_map.mp hx
    intro e
    exact h (List.any_eq_true.mpr ⟨q, hq, decide_eq_true e⟩)
theorem keys_dropK {kvs : List (NK × V)} {k : NK} (n : (kvs.map (·.1)).Nodup) : ((dropK kvs k).map (·.1)).Nodup := n.sublist (List.Sublist.map _ List.filter_sublist)
/-- the dict of a row, perhaps spoiled -/
structure Sd (P : Program) (w : World) (p q a : Addr) (H : Hp) (kvs : List (NK × V)) : Prop where
  hand : HandAt H p q
  d : H a = some (dN P w a kvs)
  n : (kvs.map (·.1)).Nodup
  v : ∀ x ∈ kvs, ValA P w H p a x.2
def spSpoil (P : Program) (w : World) : Sp := fun vs H Q _ => ∃ (p q l a : Addr) (zs : List Str) (kvs : List (NK × V)), vs = [.ref p, .ref l, .ref a] ∧ H l = some (.lst (zs.map V.str)) ∧ l ≠ p ∧ l ≠ a ∧ 0 < zs.length ∧ zs.length ≤ 5 ∧ a ≠ p ∧ a ≠ q ∧ kvs.length ≤ 100 ∧ Sd P w p q a H kvs ∧
  ∀ kvs' H', kvs'.length ≤ kvs.length + 1 → Sd P w p q a H' kvs' → El2 p a H H' → Q (.ref a) H'
section
variable {P : Program} {w : World} {K : PySem.W.Frag} {mg : Str → Option Value} {base : Heap}
abbrev nSpoil : List Str := ["_law_hand_here", "_law_names_here", "_law_values", "_law_kind", "_law_name_here", "_law_wrong", "_law_further"]
theorem scSpoil : FnScope nSpoil ["_law_hand_here", "_law_names_here", "_law_values"] (defScope sSpoil) := ⟨rfl, rfl, rfl, by decide +kernel, rfl, by decide +kernel, by decide +kernel⟩
theorem okSpoil {f fD fN : Addr} {fd fdD fdN : FuncData} (F : Fun K "_law_spoiled" "_law_spoiled" sSpoil f fd) (B : Bt mg) (GD : FnOk P w K mg base CX0 2 fD fdD ["_law_hand_here", "_law_many"] spDraw) (kD : PySem.W.keepIn K (.ref fD) = true) (bD : Binds K fdD ["_law_hand_here", "_law_many"] []) (mD : mg "_law_draw" = some (.ref fD))
    (GN : FnOk P w K mg base CX0 3 fN fdN ["_law_hand_here", "_law_taken"] spName) (kN : PySem.W.keepIn K (.ref fN) = true) (bN : Binds K fdN ["_law_hand_here", "_law_taken"] []) (mN : mg "_law_name" = some (.ref fN)) :
    FnOk P w K mg base CX0 4 f fd ["_law_hand_here", "_law_names_here", "_law_values"] (spSpoil P w) := by
  refine F.ok scSpoil (fun vs H Q E h => ?_) (fun cdv A outer s H vs Q E hr h => ?_)
  · obtain ⟨p, q, l, a, zs, kvs, rfl, _⟩ := h
    rfl
  · obtain ⟨p, q, l, a, zs, kvs, rfl, hl, lp, la, z0, z5, ap, aq, kz, sd, k⟩ := h
    refine ⟨_, (pss_cons (ps_set (i := 3) scSpoil.nd rfl (Or.inl rfl) (pe_call GD (hr.mono (by decide)) (by rfl) mD kD bD .nil pass0 (pa_cons (pv 0) (pa_cons pe_int pa_nil))))
      (pss_cons (ps_set (i := 4) scSpoil.nd rfl (Or.inl rfl) (pe_ix ix_list (pv 1) (pe_call GD (hr.mono (by decide)) (by rfl) mD kD bD .nil pass0 (pa_cons (pv 0) (pa_cons (pe_callB call_len_seq (by rfl) B.len PySem.boot_len (pa_cons (pv 1) pa_nil)) pa_nil))) (fun _ _ => rfl)))
      (pss_cons (ps_set (i := 5) scSpoil.nd rfl (Or.inl rfl) (pe_lst (pa_cons pe_bl (pa_cons pe_str (pa_cons (pe_tup (pa_cons pe_int pa_nil)) (pa_cons (pe_lst (pa_cons pe_int pa_nil)) (pa_cons pe_bl (pa_cons pe_newF pa_nil))))))))
      (pss_cons (ps_if (pw_and (pt_cmpR op_eq (pv 3) pe_int (nomark _)) (pw_and1 (pt_cmpR op_inN (pv 4) (pv 2) (by rfl)))).pt (pss_one (ps_expr (pe_popN (pv 2) (pv 4) ⟨rfl, rfl, rfl, rfl⟩))) pss_nil)
      (pss_cons (ps_if (pt_cmpR op_eq (pv 3) pe_int (nomark _)) (pss_one (ps_putN (pv 2) (pv 4) (pe_ix ix_list (pv 5) (pe_call GD (hr.mono (by decide)) (by rfl) mD kD bD .nil pass0 (pa_cons (pv 0) (pa_cons pe_int pa_nil))) (fun _ _ => rfl)))) pss_nil)
      (pss_cons (ps_if (pt_cmpR op_eq (pv 3) pe_int (nomark _)) (pss_cons (ps_set (i := 6) scSpoil.nd rfl (Or.inl rfl) (pe_lst (pa_cons pe_str (pa_cons pe_str (pa_cons pe_int (pa_cons pe_non (pa_cons (pe_call GN hr (by rfl) mN kN bN .nil pass0 (pa_cons (pv 0) (pa_cons (pe_callTy call_list_of (by rfl) B.list (by decide +kernel) (pa_cons (pv 1) pa_nil)) pa_nil))) pa_nil)))))))
      (pss_one (ps_putN (pv 2) (pe_ix ix_list (pv 6) (pe_call GD (hr.mono (by decide)) (by rfl) mD kD bD .nil pass0 (pa_cons (pv 0) (pa_cons pe_int pa_nil))) (fun _ _ => rfl)) pe_int))) pss_nil)
      (pss_one (ps_ret (pv 2))))))))), ?_⟩
    refine ⟨_, rfl, p, q, 5, rfl, sd.hand, by decide, by decide, fun r H1 r0 r1 hA1 e1 => ?_⟩
    have hl1 := e1 _ _ hl lp
    have d1 := e1 _ _ sd.d ap
    have lz : (zs.map V.str).length = zs.length := List.length_map ..
    refine ⟨_, rfl, _, rfl, _, rfl, l, _, rfl, .inl (SqL.of hl1), p, q, _, rfl, hA1, by omega, by omega, fun r2 H2 r20 r21 hA2 e2 => ?_⟩
    obtain ⟨x, hx, hm⟩ := pick (xs := zs.map V.str) r20 r21
    obtain ⟨z, hzm, rfl⟩ := List.mem_map.mp hm
    have hl2 := e2 _ _ hl1 lp
    have d2 := e2 _ _ d1 ap
    refine ⟨l, _, _, _, rfl, rfl, SqL.of hl2, hx, (by show 1 ≤ sizeLine; decide), fun t3 ht3 => ⟨(by show 1 ≤ sizeLine; decide), fun u3 hu3 => fun e3 ob he3 => ⟨(by show 6 ≤ sizeLine; decide), fun w3 hw3 => ?_⟩⟩⟩
    have S1 := same_new (o := .tup [V.int 1]) ht3
    have S2 := same_new (o := .lst [V.int 2]) hu3
    have S3 := same_new (o := dF P w e3 ob []) he3
    have S4 := same_new (o := .lst [.bl true, .str "1", .ref t3, .ref u3, .bl false, .ref e3]) hw3
    have S0 := ((S1.trans S2).trans S3).trans S4
    have ft := S4 _ _ (S3 _ _ (S2 _ _ (upd_same (H := H2) (a := t3) (o := .tup [V.int 1]))))
    have fu := S4 _ _ (S3 _ _ (upd_same (H := upd H2 t3 (.tup [V.int 1])) (a := u3) (o := .lst [V.int 2])))
    have fe := S4 _ _ (upd_same (H := upd (upd H2 t3 (.tup [V.int 1])) u3 (.lst [V.int 2])) (a := e3) (o := dF P w e3 ob []))
    have fw := upd_same (H := upd (upd (upd H2 t3 (.tup [V.int 1])) u3 (.lst [V.int 2])) e3 (dF P w e3 ob [])) (a := w3) (o := .lst [.bl true, .str "1", .ref t3, .ref u3, .bl false, .ref e3])
    have nt : t3 ≠ p ∧ t3 ≠ a := ⟨(hA2.np ht3).1, (ne_of_none d2 ht3).symm⟩
    have u0 : H2 u3 = none := S1.free hu3
    have nu : u3 ≠ p ∧ u3 ≠ a := ⟨(hA2.np u0).1, (ne_of_none d2 u0).symm⟩
    have e0 : H2 e3 = none := (S1.trans S2).free he3
    have ne : e3 ≠ p ∧ e3 ≠ a := ⟨(hA2.np e0).1, (ne_of_none d2 e0).symm⟩
    have w0 : H2 w3 = none := ((S1.trans S2).trans S3).free hw3
    have nw : w3 ≠ p ∧ w3 ≠ a := ⟨(hA2.np w0).1, (ne_of_none d2 w0).symm⟩
    have E4 : El2 p a H (upd (upd (upd (upd H2 t3 (.tup [V.int 1])) u3 (.lst [V.int 2])) e3 (dF P w e3 ob [])) w3 (.lst [.bl true, .str "1", .ref t3, .ref u3, .bl false, .ref e3])) := El2.of ((e1.trans e2).trans (Else.of S0))
    have sd4 : Sd P w p q a (upd (upd (upd (upd H2 t3 (.tup [V.int 1])) u3 (.lst [V.int 2])) e3 (dF P w e3 ob [])) w3 (.lst [.bl true, .str "1", .ref t3, .ref u3, .bl false, .ref e3])) kvs := ⟨hA2.same S0, S0 _ _ d2, sd.n, fun x hx => (sd.v x hx).step E4⟩
    have hl4 := S0 _ _ hl2
    have sl := sizeLine_eq
    have put : ∀ (H5 : Hp) (y : NK) (v : V), HandAt H5 p q → Else p (upd (upd (upd (upd H2 t3 (.tup [V.int 1])) u3 (.lst [V.int 2])) e3 (dF P w e3 ob [])) w3 (.lst [.bl true, .str "1", .ref t3, .ref u3, .bl false, .ref e3])) H5 → ValA P w H5 p a v → Sd P w p q a (upd H5 a (dN P w a (putK kvs y v))) (putK kvs y v) ∧ El2 p a H (upd H5 a (dN P w a (putK kvs y v))) ∧ (putK kvs y v).length ≤ kvs.length + 1 := by
      intro H5 y v a5 e5 hv
      have E5 : El2 p a (upd (upd (upd (upd H2 t3 (.tup [V.int 1])) u3 (.lst [V.int 2])) e3 (dF P w e3 ob [])) w3 (.lst [.bl true, .str "1", .ref t3, .ref u3, .bl false, .ref e3])) (upd H5 a (dN P w a (putK kvs y v))) := (El2.of e5).trans El2.put
      refine ⟨⟨a5.upd ap aq, upd_same, keys_putK sd4.n, fun x hx => ?_⟩, E4.trans E5, length_putK kvs y v⟩
      rcases mem_putK hx with m | m
      · exact (sd4.v x m).step E5
      · rw [m]
        exact hv.step El2.put
    have r5 : r = 0 ∨ r = 1 ∨ r = 2 ∨ r = 3 ∨ r = 4 := by omega
    rcases r5 with rfl | rfl | rfl | rfl | rfl
    · exact ⟨_, rfl, rfl, _, rfl, iteF (iteF ⟨_, rfl, rfl, _, rfl, iteF ⟨_, rfl, rfl, _, rfl, iteF ⟨_, rfl, k kvs _ (by omega) sd4 E4⟩⟩⟩)⟩
    · refine ⟨_, rfl, rfl, _, rfl, iteT ⟨_, rfl, _, rfl, a, kvs, nm z, rfl, rfl, .inl sd4.d, _, rfl, ?_⟩⟩
      show if (valV kvs (nm z)).isSome = true then _ else _
      cases e : valV kvs (nm z) with
      | none => exact iteF ⟨_, rfl, rfl, _, rfl, iteF ⟨_, rfl, rfl, _, rfl, iteF ⟨_, rfl, k kvs _ (by omega) sd4 E4⟩⟩⟩
      | some v =>
        refine iteT ⟨_, rfl, a, kvs, rfl, .inl sd4.d, _, rfl, kvs, .inr z, v, .inl sd4.d, rfl, e, _, rfl, rfl, _, rfl, iteF ⟨_, rfl, rfl, _, rfl, iteF ⟨_, rfl, k (dropK kvs (nm z)) _ ?_ ⟨sd4.hand.upd ap aq, upd_same, keys_dropK sd4.n, fun x hx => ?_⟩ (E4.trans El2.put)⟩⟩⟩
        · have := dropK_le kvs (nm z)
          omega
        · exact (sd4.v x ((List.mem_filter.mp hx).1)).step El2.put
    · refine ⟨_, rfl, rfl, _, rfl, iteF (iteF ⟨_, rfl, rfl, _, rfl, iteT ⟨_, rfl, _, rfl, p, q, 6, rfl, sd4.hand, by decide, by decide, fun r6 H5 r60 r61 hA5 e5 => ?_⟩⟩)⟩
      obtain ⟨y, hy, hym⟩ := pick (xs := [.bl true, .str "1", .ref t3, .ref u3, .bl false, .ref e3]) r60 r61
      have hv : ValA P w H5 p a y := by
        simp only [List.mem_cons, List.not_mem_nil, or_false] at hym
        rcases hym with rfl | rfl | rfl | rfl | rfl | rfl
        · exact ⟨.inr (.inr (.inl ⟨_, rfl⟩)), fun b z => by cases z⟩
        · exact ⟨.inr (.inr (.inr (.inl ⟨_, rfl⟩))), fun b z => by cases z⟩
        · exact ⟨.inr (.inr (.inr (.inr ⟨t3, rfl, .inl (e5 _ _ ft nt.1)⟩))), fun b z => by cases z; exact nt⟩
        · exact ⟨.inr (.inr (.inr (.inr ⟨u3, rfl, .inr (.inl (e5 _ _ fu nu.1))⟩))), fun b z => by cases z; exact nu⟩
        · exact ⟨.inr (.inr (.inl ⟨_, rfl⟩)), fun b z => by cases z⟩
        · exact ⟨.inr (.inr (.inr (.inr ⟨e3, rfl, .inr (.inr ⟨ob, e5 _ _ fe ne.1⟩)⟩))), fun b z => by cases z; exact ne⟩
      obtain ⟨q1, q2, q3⟩ := put H5 (nm z) y hA5 e5 hv
      exact ⟨w3, _, _, y, rfl, rfl, SqL.of (e5 _ _ fw nw.1), hy, _, rfl, _, rfl, a, kvs, nm z, rfl, rfl, .inl (e5 _ _ sd4.d ap), by omega, _, rfl, rfl, _, rfl, iteF ⟨_, rfl, k _ _ q3 q1 q2⟩⟩
    · refine ⟨_, rfl, rfl, _, rfl, iteF (iteF ⟨_, rfl, rfl, _, rfl, iteF ⟨_, rfl, rfl, _, rfl, iteT ⟨_, rfl, _, rfl, l, _, rfl, .inl (SqL.of hl4), fun t5 ht5 => ?_⟩⟩⟩)⟩
      have s5 := same_new (o := .lst (zs.map V.str)) ht5
      refine ⟨p, q, t5, zs, rfl, sd4.hand.same s5, upd_same, z5, (sd4.hand.np ht5).1, fun y H5 oky ny hA5 e5 => ⟨(by show 5 ≤ sizeLine; decide), fun w5 hw5 => ?_⟩⟩
      have e45 : Else p (upd (upd (upd (upd H2 t3 (.tup [V.int 1])) u3 (.lst [V.int 2])) e3 (dF P w e3 ob [])) w3 (.lst [.bl true, .str "1", .ref t3, .ref u3, .bl false, .ref e3])) H5 := (Else.of s5).trans e5
      have nw5 : w5 ≠ p := (hA5.np hw5).1
      have s6 := same_new (o := .lst [.str "", .str "A", .int 3, .non, .str y]) hw5
      have fw5 := upd_same (H := H5) (a := w5) (o := .lst [.str "", .str "A", .int 3, .non, .str y])
      refine ⟨_, rfl, _, rfl, _, rfl, p, q, 5, rfl, hA5.same s6, by decide, by decide, fun r7 H6 r70 r71 hA6 e6 => ?_⟩
      obtain ⟨x7, hx7, hm7⟩ := pick (xs := [.str "", .str "A", .int 3, .non, .str y]) r70 r71
      obtain ⟨key, rfl⟩ : ∃ key : NK, x7 = nkV key := by
        simp only [List.mem_cons, List.not_mem_nil, or_false] at hm7
        rcases hm7 with rfl | rfl | rfl | rfl | rfl
        · exact ⟨nm "", rfl⟩
        · exact ⟨nm "A", rfl⟩
        · exact ⟨some (.inl 3), rfl⟩
        · exact ⟨none, rfl⟩
        · exact ⟨nm y, rfl⟩
      have e46 := (e45.trans (Else.of s6)).trans e6
      obtain ⟨q1, q2, q3⟩ := put H6 key (.int 0) hA6 e46 ⟨.inr (.inl ⟨0, rfl⟩), fun b z => by cases z⟩
      exact ⟨w5, _, _, _, rfl, rfl, SqL.of (e6 _ _ fw5 nw5), hx7, a, kvs, key, rfl, rfl, .inl (e46 _ _ sd4.d ap), by omega, _, rfl, k _ _ q3 q1 q2⟩
    · exact ⟨_, rfl, rfl, _, rfl, iteF (iteF ⟨_, rfl, rfl, _, rfl, iteF ⟨_, rfl, rfl, _, rfl, iteF ⟨_, rfl, k kvs _ (by omega) sd4 E4⟩⟩⟩)⟩
end
end Nr
/-! _law_due, _law_asked of the rows -/
namespace Nr
open PySem PySem.Spec PyProof.Rows L2 Lw Lw2 Xv Lh Ow Nm Dn
abbrev sDueR : Stmt := Lw.top 26
abbrev sAsk : Stmt := Lw.top 27
def dueL (zs : List Str) (kvs : List (NK × V)) : List V := (dueR zs kvs).toList
def spDueR (P : Program) (w : World) : Sp := fun vs H Q _ => ∃ (l a : Addr) (zs : List Str) (kvs : List (NK × V)), vs = [.ref l, .ref a] ∧ H l = some (.lst (zs.map V.str)) ∧ zs.length ≤ 5 ∧ DN P w H a kvs ∧ kvs.length ≤ 1000 ∧ (∀ k v, valV kvs k = some v → ValW P w H v) ∧
  ∀ r H', H r = none → Same H H' → H' r = some (.lst (dueL zs kvs)) → Q (.ref r) H'
/-- what _law_asked tells -/
def spAsk (P : Program) (w : World) (K : PySem.W.Frag) (C : Addr) : Sp := fun vs H Q _ => ∃ (o p : Addr) (zs : List Str) (x : V), vs = [.ref o, x] ∧ CoAt H C o p zs ∧ zs.Nodup ∧ zs.length ≤ 5 ∧
  ((∃ n : String, TyX K H x (.type n) ∧ kitB n "dict" = some false ∧ ∀ t H', H t = none → Same H H' → H' t = some (.tup [.str "none", .non, .bl true]) → Q (.ref t) H') ∨
   ∃ a kvs, x = .ref a ∧ DN P w H a kvs ∧ kvs.length ≤ 1000 ∧ (∀ k v, valV kvs k = some v → ValW P w H v) ∧
    (∀ y, dueR zs kvs = some y → ∀ t H', H t = none → Same H H' → H' t = some (.tup [.str "none", y, .bl true]) → Q (.ref t) H') ∧
    (dueR zs kvs = none → ∀ t r H', H t = none → H r = none → Same H H' → DN P w H' r (rowOf zs kvs) → H' t = some (.tup [.str "row", .ref r]) → Q (.ref t) H'))
/-- o.m(e, ..) that may raise, within a try -/
def tMethE (C : Addr) (m : Str) (sp : Sp) (E : L2.St → XK) (ta : TE) (t : TA) : TE := fun σ H Q => ta σ H fun x H1 => ∃ a dx fs, x = .ref a ∧ H1 a = some (.ins C dx fs) ∧ fs.lookup m = none ∧ t σ H1 fun vs H2 => sp (x :: vs) H2 Q (E σ)
theorem pe_methE {X : Cx} {CX : CXT} {k : Nat} {f C : Addr} {fd : FuncData} {ps : List Str} {sp : Sp} {E : L2.St → XK} {m : Str} {pos apos : Pos} {e o : Expr} {es : List Expr} {ta : TE} {t : TA} {pl : Sem Bool} (he : PE X o ta) (c : Cls X.K C) (hm : Meth X.K C m f)
    (F : FnOk X.prog X.w X.K X.mg X.base CX k f fd ps sp) (hr : Room k X.A) (hb : Binds X.K fd ps []) (hx : ∀ σ, PassesAt CX X σ (E σ)) (ha : PA X (e :: es) t)
    (hst : starEach (e :: es) X.env = (false, eval e X.env) :: starEach es X.env := by rfl) (hpl : (backTo pos (starEach es X.env)).any (·.1) = false := by rfl)
    (ht : eval (.Call (.Attribute o m apos) (e :: es) [] pos) X.env = (do
      let ov ← eval o X.env
      standAt apos.atName
      let (fv, first) ← holding [ov] (getMethod ov m pl)
      callWith pos fv first (backTo pos (starEach (e :: es) X.env)) (backToKw pos (keywordEach [] X.env))) := by rfl) :
    PE X (.Call (.Attribute o m apos) (e :: es) [] pos) (tMethE C m sp E ta t) := by
  refine ⟨fun pins s σ H Q I h => PySem.W.methodCall_KW (pl := pl) (thn (he.run pins s σ H _ I h) fun u s1 ⟨x, H1, I1, rx, q1⟩ => ?_) ht⟩
  obtain ⟨a, dx, fs, ex, ea, l, q⟩ := q1
  subst ex
  obtain rfl : u = Value.ref a := rx
  refine getmeth_ok I1 ea c hm l (PySem.W.callWith_K (first := [.ref a]) (h₀ := X.base) I.ok.mod.kin hm.kp (thn (ha.run pos pins s1 σ H1 _ I1 q) fun us s2 ⟨vs, H2, I2, r, q2⟩ => ⟨I2.kIn, ?_⟩) hst hpl)
  exact run_fnS (us := .ref a :: us) (vs := .ref a :: vs) F hr hb (hx σ) I2 (.cons rfl r) q2
/-- what isinstance and the fields ask of NoRow -/
structure Tn (K : PySem.W.Frag) (CN BEa : Addr) : Prop where
  e : ExcC K CN
  f : XfC K CN
  x : PySem.W.exmOne K (.ref CN) (.ref CN) = some true
  b : PySem.W.kitOne K (.ref CN) (.ref BEa) = some true
section
variable {P : Program} {w : World} {K : PySem.W.Frag} {mg : Str → Option Value} {base : Heap} {C CN BEa : Addr}
theorem scDueR : FnScope ["_law_names_here", "_law_values", "_law_name_here", "_law_value"] ["_law_names_here", "_law_values"] (defScope sDueR) := ⟨rfl, rfl, rfl, by decide +kernel, rfl, by decide +kernel, by decide +kernel⟩
theorem okDueR {f : Addr} {fd : FuncData} (F : Fun K "_law_due" "_law_due" sDueR f fd) (B : Bt mg) : FnOk P w K mg base CX0 1 f fd ["_law_names_here", "_law_values"] (spDueR P w) := by
  refine F.ok scDueR (fun vs H Q E h => ?_) (fun cdv A outer s H vs Q E hr h => ?_)
  · obtain ⟨l, a, zs, kvs, rfl, _⟩ := h
    rfl
  · obtain ⟨l, a, zs, kvs, rfl, hl, hz, dn, kz, vals, k⟩ := h
    refine ⟨_, (pss_cons (ps_for PassesOwn.never rfl (pi_list (pv 0)) (pg_name (i := 2) scDueR.nd rfl (Or.inl rfl)) (pss_cons (ps_if (pt_cmpR op_notInN (pv 2) (pv 1) (by rfl)) (pss_one (ps_ret (pe_lst (pa_cons (pv 2) pa_nil)))) pss_nil)
      (pss_cons (ps_set (i := 3) scDueR.nd rfl (Or.inl rfl) (pe_getN (pv 1) (pv 2) (fun _ _ => rfl)))
      (pss_one (ps_if (pw_and (pt_cmp (pc_notN (pv 3))) (pw_and1 (pw_or (pt_val (pe_callB (call_or call_isi call_isiN) (by rfl) B.isi (by decide +kernel) (pa_cons (pv 3) (pa_cons (pe_bltn (v := .ty "bool") (by rfl) B.bool (by decide +kernel) rfl) pa_nil)))) (pw_or1 (pt_not (pt_val (pe_callB (call_or call_isi call_isiN) (by rfl) B.isi (by decide +kernel) (pa_cons (pv 3) (pa_cons (pe_bltn (v := .ty "int") (by rfl) B.int (by decide +kernel) rfl) pa_nil))))))).pt)).pt (pss_one (ps_ret (pe_lst (pa_cons (pv 2) pa_nil)))) pss_nil)))))
      (pss_cons (ps_if (pt_cmpR op_gt (pe_callB call_lenN (by rfl) B.len PySem.boot_len (pa_cons (pv 1) pa_nil)) (pe_callB call_len_seq (by rfl) B.len PySem.boot_len (pa_cons (pv 0) pa_nil)) (nomark _)) (pss_one (ps_ret (pe_lst (pa_cons pe_non pa_nil)))) pss_nil)
      (pss_one (ps_ret (pe_lst pa_nil))))), ?_⟩
    have lz : (zs.map V.str).length = zs.length := List.length_map ..
    have at_ : ∀ {i : Nat} {x : V}, (zs.map V.str)[i]? = some x → ∃ z, x = .str z ∧ zs[i]? = some z := fun {i x} e => by
      rw [List.getElem?_map] at e
      obtain ⟨z, e1, e2⟩ := Option.map_eq_some_iff.mp e
      exact ⟨z, e2.symm, e1⟩
    have told : ∀ y, dueR zs kvs = some y → ∀ r, H r = none → Q (.ref r) (upd H r (.lst [y])) := fun y du r hr => k r _ hr (same_new hr) (by unfold dueL; rw [du]; exact upd_same)
    refine ⟨_, rfl, l, rfl, ⟨_, SqL.of hl⟩, for_list (K := K) (a := l) (xs := zs.map V.str) (fun i σ H' => (∃ u v, σ = [some (.ref l), some (.ref a), u, v]) ∧ H' = H ∧ ∀ j y, j < i → zs[j]? = some y → badN kvs y = false) ⟨⟨_, _, rfl⟩, rfl, fun j y hj => by omega⟩ (fun i σ H' _ h => by rw [h.2.1]; exact SqL.of hl) ?_ ?_⟩
    · rintro i x σ H1 hx ⟨⟨u, v, rfl⟩, rfl, hb⟩
      obtain ⟨z, rfl, hz1⟩ := at_ hx
      have du : badN kvs z = true → dueR zs kvs = some (.str z) := fun b => by
        unfold dueR
        rw [find_at hz1 b hb]
      refine ⟨_, rfl, _, rfl, a, kvs, nm z, rfl, rfl, dn, _, rfl, ?_⟩
      show if (!(valV kvs (nm z)).isSome) = true then _ else _
      cases e : valV kvs (nm z) with
      | none =>
        have b : badN kvs z = true := by
          unfold badN
          rw [e]
        exact iteT ⟨_, rfl, (by show 1 ≤ sizeLine; decide), fun r hr => told _ (du b) r hr⟩
      | some y =>
        have be : badN kvs z = !okVal y := by
          unfold badN
          rw [e]
        refine iteF ⟨_, rfl, _, rfl, a, kvs, nm z, y, rfl, rfl, dn, e, _, rfl, _, rfl, ?_⟩
        have next : okVal y = true → (∃ u v, [some (V.ref l), some (.ref a), some (.str z), some y] = [some (V.ref l), some (.ref a), u, v]) ∧ H1 = H1 ∧ ∀ j x, j < i + 1 → zs[j]? = some x → badN kvs x = false := fun ok => by
          rw [ok] at be
          refine ⟨⟨_, _, rfl⟩, rfl, fun j x2 hj hx2 => ?_⟩
          by_cases ej : j = i
          · subst ej
            rw [hz1] at hx2
            cases hx2
            exact be
          · exact hb j x2 (by omega) hx2
        rcases val_ty (K := K) (vals _ _ e) with rfl | ⟨n, bi, bb, ty, k1, k2, e1, e2⟩
        · exact iteF (iteF (next rfl))
        · have fin : okVal y = false → ∀ r, H1 r = none → Q (.ref r) (upd H1 r (.lst [.str z])) := fun ok r hr => told _ (du (by rw [be, ok]; rfl)) r hr
          by_cases ne : y = .non
          · subst ne
            exact iteF (iteF (next rfl))
          · rw [decide_eq_false ne]
            refine iteT ⟨_, rfl, isiU ty k2 ⟨_, rfl, ?_⟩⟩
            cases bb with
            | true => exact iteT (iteT ⟨_, rfl, (by show 1 ≤ sizeLine; decide), fun r hr => fin (by rw [e2]; rfl) r hr⟩)
            | false =>
              refine iteF ⟨_, rfl, isiU ty k1 ⟨_, rfl, ?_⟩⟩
              cases bi with
              | true => exact iteF (next (by rw [e2]; rfl))
              | false => exact iteT ⟨_, rfl, (by show 1 ≤ sizeLine; decide), fun r hr => fin (by rw [e2]; rfl) r hr⟩
    · rintro σ H1 ⟨⟨u, v, rfl⟩, rfl, hb⟩
      rw [lz] at hb
      have fn : zs.find? (badN kvs) = none := find_none hb
      refine ⟨_, rfl, a, kvs, rfl, dn, _, rfl, l, _, rfl, .inl (SqL.of hl), _, _, rfl, rfl, _, rfl, ite2 (fun c => ?_) (fun c => ?_)⟩
      · have c' := of_decide_eq_true c
        rw [lz] at c'
        have du : dueR zs kvs = some .non := by
          unfold dueR
          rw [fn]
          exact if_pos (by omega)
        exact ⟨(by show 1 ≤ sizeLine; decide), fun r hr => told _ du r hr⟩
      · have c' : ¬ zs.length < kvs.length := fun z => c (decide_eq_true (by rw [lz]; omega))
        have du : dueR zs kvs = none := by
          unfold dueR
          rw [fn]
          exact if_neg c'
        exact ⟨Nat.zero_le _, fun r hr => k r _ hr (same_new hr) (by unfold dueL; rw [du]; exact upd_same)⟩
theorem scAsk : FnScope ["_law_columns_here", "_law_values", "_law_found", "e"] ["_law_columns_here", "_law_values"] (defScope sAsk) := ⟨rfl, rfl, rfl, by decide +kernel, rfl, by decide +kernel, by decide +kernel⟩
theorem okAsk {f fR fE : Addr} {fd fdR : FuncData} (F : Fun K "_law_asked" "_law_asked" sAsk f fd) (B : Bt mg) (DC : Cf K mg C) (DE : En K mg CN fE) (TE : Tn K CN BEa) (gB : mg "BatchError" = some (.ref BEa))
    (MR : Meth K C "row" fR) (GR : FnOk P w K mg base (L2.CX P w) 3 fR fdR ["self", "values"] (spRow P w K C CN)) (bR : Binds K fdR ["self", "values"] []) : FnOk P w K mg base CX0 4 f fd ["_law_columns_here", "_law_values"] (spAsk P w K C) := by
  refine F.ok scAsk (fun vs H Q E h => ?_) (fun cdv A outer s H vs Q E hr h => ?_)
  · obtain ⟨o, p, zs, x, rfl, _⟩ := h
    rfl
  · obtain ⟨o, p, zs, x, rfl, hC, nd, hz5, k⟩ := h
    obtain ⟨⟨dx, ho⟩, hp⟩ := id hC
    refine ⟨_, (pss_cons (ps_try_as (i := 3) (n := "e") rfl rfl scAsk.nd rfl rfl ⟨rfl, by decide, .inl DE.g⟩ takes0 (fun W pn xe tk _ => (pss_one (ps_set (i := 2) scAsk.nd rfl (Or.inl rfl) (pe_methE (pv 0) DC.cl MR GR hr bR (fun σ => passAt tk σ) (pa_cons (pv 1) pa_nil))))) (fun a oe cls d pn hz hf => (pss_one (ps_ret (pe_tup (pa_cons pe_str (pa_cons (pe_xf TE.f DE.n1 hz hf (pv 3)) (pa_cons (pe_callB (call_isF TE.e hz hf) (by rfl) B.isi (by decide +kernel) (pa_cons (pv 3) (pa_cons (pe_glob (v := .ref BEa) (by rfl) gB rfl) pa_nil))) pa_nil))))))))
      (pss_one (ps_ret (pe_tup (pa_cons pe_str (pa_cons (pv 2) pa_nil)))))), ?_⟩
    have rs : ∀ y, (∀ t H', H t = none → Same H H' → H' t = some (.tup [.str "none", y, .bl true]) → Q (.ref t) H') → True := fun _ _ => trivial
    rcases k with ⟨n, ty, kn, kq⟩ | ⟨a, kvs, rfl, dn, kz, vals, ke, kq⟩
    · refine ⟨_, rfl, o, dx, _, rfl, ho, rfl, _, rfl, o, p, zs, x, rfl, hC, nd, hz5, .inl ⟨n, ty, kn, fun d H1 s1 hx => ⟨true, TE.x, fun _ a ha => ?_, fun z => nomatch z⟩⟩⟩
      refine ⟨_, rfl, rfl, rfl, d, _, _, rfl, hx, rfl, _, rfl, d, _, _, _, true, rfl, rfl, hx, rfl, .own BEa, TE.b, (by show 3 ≤ sizeLine; decide), fun t ht => ?_⟩
      exact kq t _ (s1.free ht) (same_put s1 (s1.free ht)) upd_same
    · refine ⟨_, rfl, o, dx, _, rfl, ho, rfl, _, rfl, o, p, zs, _, rfl, hC, nd, hz5, .inr ⟨a, kvs, rfl, dn, kz, vals, fun y du d H1 s1 hx => ⟨true, TE.x, fun _ a' ha => ?_, fun z => nomatch z⟩, fun du r H1 r0 s1 dr => ?_⟩⟩
      · refine ⟨_, rfl, rfl, rfl, d, _, _, rfl, hx, rfl, _, rfl, d, _, _, _, true, rfl, rfl, hx, rfl, .own BEa, TE.b, (by show 3 ≤ sizeLine; decide), fun t ht => ?_⟩
        exact ke y du t _ (s1.free ht) (same_put s1 (s1.free ht)) upd_same
      · refine ⟨_, rfl, (by show 2 ≤ sizeLine; decide), fun t ht => ?_⟩
        obtain ⟨ro, hro⟩ := dr.there
        exact kq du t r _ (s1.free ht) r0 (same_put s1 (s1.free ht)) (dr.same fun o e => same_new ht _ _ e) upd_same
end
end Nr
set_option pp.maxSteps 500
set_option pp.deepTerms false
/-! k02's law -/
namespace Nr
open PySem PySem.Spec PyProof.Rows L2 Lw Lw2 Xv Lh Ow Nm Dn
abbrev s02 : Stmt := Lw.top 28
abbrev n02 : List Str := ["_law_script", "_law_hand_here", "_law_names_here", "_law_columns_here", "_law_row_here", "_law_values", "_law_at", "_law_things", "_law_kept", "_law_due_here", "_law_first", "_law_told"]
theorem len_subG {α : Type} [BEq α] [LawfulBEq α] : ∀ {l m : List α}, l.Nodup → (∀ x ∈ l, x ∈ m) → l.length ≤ m.length
  | [], _, _, _ => Nat.zero_le _
  | a :: l, m, n, h => by
    obtain ⟨n1, n2⟩ := List.nodup_cons.mp n
    have i := len_subG (l := l) (m := m.erase a) n2 fun x hx => (List.mem_erase_of_ne (fun e => n1 (by rw [← e]; exact hx))).mpr (h x (List.mem_cons_of_mem _ hx))
    have e := List.length_erase_of_mem (h a List.mem_cons_self)
    have p : 0 < m.length := List.length_pos_of_mem (h a List.mem_cons_self)
    rw [List.length_cons]
    omega
theorem len_subN {l m : List NK} (n : l.Nodup) (h : ∀ x ∈ l, x ∈ m) : l.length ≤ m.length := @len_subG NK instBEqOfDecidableEq inferInstance l m n h
theorem val_of {kvs : List (NK × V)} {k : NK} (h : k ∈ kvs.map (·.1)) : ∃ v, valV kvs k = some v := by
  obtain ⟨q, hq, e⟩ := List.mem_map.mp h
  unfold valV
  cases f : kvs.find? fun kv => decide (kv.1 = k) with
  | some r => exact ⟨r.2, rfl⟩
  | none =>
    rw [List.find?_eq_none] at f
    exact absurd (decide_eq_true e) (f q hq)
theorem val_nodup : ∀ {kvs : List (NK × V)} {k : NK} {v : V}, (kvs.map (·.1)).Nodup → (k, v) ∈ kvs → valV kvs k = some v
  | [], _, _, _, h => by cases h
  | q :: r, k, v, n, h => by
    rw [List.map_cons] at n
    obtain ⟨n1, n2⟩ := List.nodup_cons.mp n
    rcases List.mem_cons.mp h with e | h
    · subst e
      exact valV_pos rfl
    · have ne : ¬ q.1 = k := fun e => n1 (List.mem_map.mpr ⟨(k, v), h, e.symm⟩)
      rw [valV_neg ne]
      exact val_nodup n2 h
theorem val_row {kvs : List (NK × V)} : ∀ {zs : List Str} {z : Str}, z ∈ zs → valV (rowOf zs kvs) (nm z) = some (getN kvs z)
  | [], _, h => by cases h
  | y :: ys, z, h => by
    by_cases e : y = z
    · subst e
      show valV ((nm y, getN kvs y) :: rowOf ys kvs) (nm y) = _
      exact valV_pos rfl
    · have ne : ¬ nm y = nm z := fun x => e (nm_inj x)
      show valV ((nm y, getN kvs y) :: rowOf ys kvs) (nm z) = _
      rw [valV_neg ne]
      exact val_row ((List.mem_cons.mp h).resolve_left fun x => e x.symm)
/-- nothing is due: the row and the dict hold the same -/
theorem no_due {zs : List Str} {kvs : List (NK × V)} (nz : zs.Nodup) (nk : (kvs.map (·.1)).Nodup) (d : dueR zs kvs = none) : (rowOf zs kvs).length = kvs.length ∧ ∀ k v, (k, v) ∈ kvs → valV (rowOf zs kvs) k = some v ∧ okVal v = true := by
  unfold dueR at d
  cases f : zs.find? (badN kvs) with
  | some z =>
    rw [f] at d
    cases d
  | none =>
    rw [f] at d
    have l1 : ¬ zs.length < kvs.length := fun c => by
      have d' : (if zs.length < kvs.length then some V.non else none) = none := d
      rw [if_pos c] at d'
      cases d'
    rw [List.find?_eq_none] at f
    have there : ∀ z ∈ zs, ∃ v, valV kvs (nm z) = some v ∧ okVal v = true := fun z hz => by
      have b : badN kvs z = false := by simpa using f z hz
      unfold badN at b
      cases e : valV kvs (nm z) with
      | none =>
        rw [e] at b
        cases b
      | some v =>
        rw [e] at b
        exact ⟨v, rfl, by simpa using b⟩
    have nn : (zs.map nm).Nodup := List.pairwise_map.mpr (nz.imp fun h e => h (nm_inj e))
    have sub : ∀ x ∈ zs.map nm, x ∈ kvs.map (·.1) := fun x hx => by
      obtain ⟨z, hz, rfl⟩ := List.mem_map.mp hx
      obtain ⟨v, e, _⟩ := there z hz
      exact List.mem_map.mpr ⟨_, val_mem e, rfl⟩
    have l2 := len_subN nn sub
    rw [List.length_map, List.length_map] at l2
    refine ⟨by unfold rowOf; rw [List.length_map]; omega, fun k v hkv => ?_⟩
    have hk : k ∈ zs.map nm := Classical.byContradiction fun c => by
      have l3 := len_subN (l := k :: zs.map nm) (m := kvs.map (·.1)) (List.nodup_cons.mpr ⟨c, nn⟩) fun x hx => by
        rcases List.mem_cons.mp hx with rfl | hx
        · exact List.mem_map.mpr ⟨_, hkv, rfl⟩
        · exact sub x hx
      rw [List.length_cons, List.length_map, List.length_map] at l3
      omega
    obtain ⟨z, hz, rfl⟩ := List.mem_map.mp hk
    obtain ⟨v', e, ok⟩ := there z hz
    have e2 := val_nodup nk hkv
    rw [e] at e2
    cases e2
    refine ⟨?_, ok⟩
    rw [val_row hz]
    unfold getN
    rw [e]
    rfl
theorem val_self {P : Program} {w : World} {H : Hp} {v : V} (h : ValW P w H v) : Eqw P w H 1 v v := by
  rcases h with rfl | ⟨i, rfl⟩ | ⟨b, rfl⟩ | ⟨z, rfl⟩ | ⟨a, rfl, h | h | ⟨ob, h⟩⟩
  · exact .inl ⟨rfl, trivial⟩
  · exact .inl ⟨rfl, trivial⟩
  · exact .inl ⟨rfl, trivial⟩
  · exact .inl ⟨rfl, trivial⟩
  · refine .inr (.inl ⟨a, a, _, _, rfl, rfl, .inr ⟨h, h⟩, rfl, by decide, fun i u v p q => ?_⟩)
    have e := Option.some.inj (p.symm.trans q)
    subst e
    rw [List.mem_singleton.mp (List.mem_of_getElem? p)]
    exact ⟨rfl, trivial⟩
  · refine .inr (.inl ⟨a, a, _, _, rfl, rfl, .inl ⟨h, h⟩, rfl, by decide, fun i u v p q => ?_⟩)
    have e := Option.some.inj (p.symm.trans q)
    subst e
    rw [List.mem_singleton.mp (List.mem_of_getElem? p)]
    exact ⟨rfl, trivial⟩
  · exact .inr (.inr ⟨a, a, [], [], ob, rfl, rfl, .inr ⟨ob, h⟩, h, rfl, by decide, fun i k v p => by simp at p⟩)
theorem ok_atom {v : V} (h : okVal v = true) : Atom v := by
  cases v with
  | non => trivial
  | int i => trivial
  | _ => cases h
/-- the dict and its copy -/
theorem copy_eq {P : Program} {w : World} {H : Hp} {a b : Addr} {ob : Obj} {kvs : List (NK × V)} (n : (kvs.map (·.1)).Nodup) (da : DN P w H a kvs) (db : H b = some (dF P w b ob kvs)) (few : kvs.length ≤ 1000) (vals : ∀ x ∈ kvs, ValW P w H x.2) : Eqw P w H 2 (.ref a) (.ref b) :=
  .inr (.inr ⟨a, b, kvs, kvs, ob, rfl, rfl, da, db, rfl, few, fun i k v e => by
    have m := List.mem_of_getElem? e
    have e1 := val_nodup n m
    exact ⟨v, e1, e1, val_self (vals _ m)⟩⟩)
/-- ('row', the row) and ('row', the copy) -/
theorem row_eq {P : Program} {w : World} {H : Hp} {t r b u : Addr} {ob : Obj} {zs : List Str} {kvs : List (NK × V)} (nz : zs.Nodup) (n : (kvs.map (·.1)).Nodup) (d : dueR zs kvs = none) (few : kvs.length ≤ 1000) (ht : H t = some (.tup [.str "row", .ref r])) (dr : DN P w H r (rowOf zs kvs)) (hb : H b = some (dF P w b ob kvs))
    (hu : H u = some (.tup [.str "row", .ref b])) : Eqw P w H 2 (.ref t) (.ref u) := by
  obtain ⟨l1, l2⟩ := no_due nz n d
  refine .inr (.inl ⟨t, u, _, _, rfl, rfl, .inr ⟨ht, hu⟩, rfl, (by show 2 ≤ 1000; decide), fun i x y p q => ?_⟩)
  match i, p, q with
  | 0, p, q =>
    cases Option.some.inj p
    cases Option.some.inj q
    exact .inl ⟨rfl, trivial⟩
  | 1, p, q =>
    cases Option.some.inj p
    cases Option.some.inj q
    refine .inr (.inr ⟨r, b, rowOf zs kvs, kvs, ob, rfl, rfl, dr, hb, l1, few, fun j k v e => ?_⟩)
    have m := List.mem_of_getElem? e
    obtain ⟨e1, e2⟩ := l2 k v m
    exact ⟨v, e1, val_nodup n m, rfl, ok_atom e2⟩
  | i + 2, p, q => simp at p
/-- two tuples of atoms -/
theorem tup_eq {P : Program} {w : World} {H : Hp} {t u : Addr} {xs : List V} (at_ : ∀ x ∈ xs, Atom x) (ht : H t = some (.tup xs)) (hu : H u = some (.tup xs)) (few : xs.length ≤ 1000) : Eqw P w H 2 (.ref t) (.ref u) :=
  .inr (.inl ⟨t, u, xs, xs, rfl, rfl, .inr ⟨ht, hu⟩, rfl, few, fun i x y p q => by
    have e := Option.some.inj (p.symm.trans q)
    subst e
    exact .inl ⟨rfl, at_ x (List.mem_of_getElem? p)⟩⟩)
theorem co_ne {C o pn p q : Addr} {zs : List Str} {H : Hp} (c : CoAt H C o pn zs) (a : HandAt H p q) : o ≠ p ∧ pn ≠ p := by
  obtain ⟨⟨dx, c1⟩, c2⟩ := c
  obtain ⟨⟨i, b, c, z, hp⟩, _⟩ := a
  refine ⟨fun e => ?_, fun e => ?_⟩
  · rw [e, hp] at c1
    cases c1
  · rw [e, hp] at c2
    cases c2
theorem co_step {C o pn p q : Addr} {zs : List Str} {H H' : Hp} (c : CoAt H C o pn zs) (a : HandAt H p q) (e : Else p H H') : CoAt H' C o pn zs := by
  obtain ⟨n1, n2⟩ := co_ne c a
  obtain ⟨⟨dx, c1⟩, c2⟩ := c
  exact ⟨⟨dx, e _ _ c1 n1⟩, e _ _ c2 n2⟩
section
variable {P : Program} {w : World} {K : PySem.W.Frag} {mg : Str → Option Value} {base : Heap} {C CB : Addr}
theorem sc02 : FnScope n02 ["_law_script"] (defScope s02) := ⟨rfl, rfl, rfl, by decide +kernel, rfl, by decide +kernel, by decide +kernel⟩
theorem ok02 {f fK fH fD fNs fRw fU fO fP fDu fA fS : Addr} {fd fdK fdH fdD fdNs fdRw fdU fdO fdP fdDu fdA fdS : FuncData} (F : Fun K "law" "law" s02 f fd) (B : Bt mg) (GH : FnOk P w K mg base CX0 1 fH fdH ["_law_script"] (spHand K)) (kH : PySem.W.keepIn K (.ref fH) = true) (bH : Binds K fdH ["_law_script"] []) (mH : mg "_law_hand" = some (.ref fH))
    (GD : FnOk P w K mg base CX0 2 fD fdD ["_law_hand_here", "_law_many"] spDraw) (kD : PySem.W.keepIn K (.ref fD) = true) (bD : Binds K fdD ["_law_hand_here", "_law_many"] []) (mD : mg "_law_draw" = some (.ref fD))
    (GNs : FnOk P w K mg base CX0 4 fNs fdNs ["_law_hand_here", "_law_many"] spNames) (kNs : PySem.W.keepIn K (.ref fNs) = true) (bNs : Binds K fdNs ["_law_hand_here", "_law_many"] []) (mNs : mg "_law_names" = some (.ref fNs))
    (GRw : FnOk P w K mg base CX0 3 fRw fdRw ["_law_hand_here", "_law_names_here", "_law_unit_here"] (spRowD P w)) (kRw : PySem.W.keepIn K (.ref fRw) = true) (bRw : Binds K fdRw ["_law_hand_here", "_law_names_here", "_law_unit_here"] []) (mRw : mg "_law_row" = some (.ref fRw))
    (GU : FnOk P w K mg base CX0 3 fU fdU ["_law_hand_here"] spUnit) (kU : PySem.W.keepIn K (.ref fU) = true) (bU : Binds K fdU ["_law_hand_here"] []) (mU : mg "_law_unit" = some (.ref fU))
    (GO : FnOk P w K mg base CX0 3 fO fdO ["_law_hand_here", "_law_many"] spOrder) (kO : PySem.W.keepIn K (.ref fO) = true) (bO : Binds K fdO ["_law_hand_here", "_law_many"] []) (mO : mg "_law_order" = some (.ref fO))
    (GP : FnOk P w K mg base CX0 4 fP fdP ["_law_hand_here", "_law_names_here", "_law_values"] (spSpoil P w)) (kP : PySem.W.keepIn K (.ref fP) = true) (bP : Binds K fdP ["_law_hand_here", "_law_names_here", "_law_values"] []) (mP : mg "_law_spoiled" = some (.ref fP))
    (GDu : FnOk P w K mg base CX0 1 fDu fdDu ["_law_names_here", "_law_values"] (spDueR P w)) (kDu : PySem.W.keepIn K (.ref fDu) = true) (bDu : Binds K fdDu ["_law_names_here", "_law_values"] []) (mDu : mg "_law_due" = some (.ref fDu))
    (GA : FnOk P w K mg base CX0 4 fA fdA ["_law_columns_here", "_law_values"] (spAsk P w K C)) (kA : PySem.W.keepIn K (.ref fA) = true) (bA : Binds K fdA ["_law_columns_here", "_law_values"] []) (mA : mg "_law_asked" = some (.ref fA))
    (GS : FnOk P w K mg base CX0 3 fS fdS ["_law_actual", "_law_expected"] (spSame P w 2)) (kS : PySem.W.keepIn K (.ref fS) = true) (bS : Binds K fdS ["_law_actual", "_law_expected"] []) (mS : mg "_law_same" = some (.ref fS))
    (GK : FnOk P w K mg base (L2.CX P w) 5 fK fdK ["_law_names_here"] (spMade K C CB fun n => decide (1 ≤ n) && decide (n ≤ 4))) (kK : PySem.W.keepIn K (.ref fK) = true) (bK : Binds K fdK ["_law_names_here"] []) (mK : mg "_law_columns" = some (.ref fK)) :
    FnOk P w K mg base CX0 6 f fd ["_law_script"] (spLaw K) := by
  refine F.ok sc02 (fun vs H Q E h => ?_) (fun cdv A outer s H vs Q E hr h => ?_)
  · obtain ⟨a, ns, rfl, _⟩ := h
    rfl
  · obtain ⟨a0, ns, rfl, hS, hlen, k⟩ := h
    refine ⟨_, (pss_cons (ps_set (i := 1) sc02.nd rfl (Or.inl rfl) (pe_call GH (hr.mono (by decide)) (by rfl) mH kH bH .nil pass0 (pa_cons (pv 0) pa_nil)))
      (pss_cons (ps_set (i := 2) sc02.nd rfl (Or.inl rfl) (pe_call GNs (hr.mono (by decide)) (by rfl) mNs kNs bNs .nil pass0 (pa_cons (pv 1) (pa_cons (pe_op op_add pe_int (pe_call GD (hr.mono (by decide)) (by rfl) mD kD bD .nil pass0 (pa_cons (pv 1) (pa_cons pe_int pa_nil)))) pa_nil))))
      (pss_cons (ps_set (i := 3) sc02.nd rfl (Or.inl rfl) (pe_call GK hr (by rfl) mK kK bK .nil passL (pa_cons (pv 2) pa_nil)))
      (pss_cons (ps_set (i := 4) sc02.nd rfl (Or.inl rfl) (pe_call GRw (hr.mono (by decide)) (by rfl) mRw kRw bRw .nil pass0 (pa_cons (pv 1) (pa_cons (pv 2) (pa_cons (pe_call GU (hr.mono (by decide)) (by rfl) mU kU bU .nil pass0 (pa_cons (pv 1) pa_nil)) pa_nil)))))
      (pss_cons (ps_set (i := 5) sc02.nd rfl (Or.inl rfl) pe_newN)
      (pss_cons (ps_for PassesOwn.never rfl (pi_tup (pe_call GO (hr.mono (by decide)) (by rfl) mO kO bO .nil pass0 (pa_cons (pv 1) (pa_cons (pe_callB call_len_seq (by rfl) B.len PySem.boot_len (pa_cons (pv 2) pa_nil)) pa_nil)))) (pg_name (i := 6) sc02.nd rfl (Or.inl rfl)) (pss_one (ps_putN (pv 5) (pe_ix ix_list (pv 2) (pv 6) (fun _ _ => rfl)) (pe_getN (pv 4) (pe_ix ix_list (pv 2) (pv 6) (fun _ _ => rfl)) (fun _ _ => rfl)))))
      (pss_cons (ps_if (pt_cmpR op_eq (pe_call GD (hr.mono (by decide)) (by rfl) mD kD bD .nil pass0 (pa_cons (pv 1) (pa_cons pe_int pa_nil))) pe_int (nomark _)) (pss_cons (ps_set (i := 7) sc02.nd rfl (Or.inl rfl) (pe_lst (pa_cons pe_non (pa_cons pe_int (pa_cons (pe_lst pa_nil) (pa_cons (pe_callTy call_list_of (by rfl) B.list (by decide +kernel) (pa_cons (pv 2) pa_nil)) (pa_cons (pe_callTy call_tuple_of (by rfl) B.tuple (by decide +kernel) (pa_cons (pv 2) pa_nil)) (pa_cons pe_str (pa_cons pe_bl pa_nil)))))))))
      (pss_one (ps_ret (pe_call GS (hr.mono (by decide)) (by rfl) mS kS bS .nil pass0 (pa_cons (pe_call GA (hr.mono (by decide)) (by rfl) mA kA bA .nil pass0 (pa_cons (pv 3) (pa_cons (pe_ix ix_list (pv 7) (pe_call GD (hr.mono (by decide)) (by rfl) mD kD bD .nil pass0 (pa_cons (pv 1) (pa_cons pe_int pa_nil))) (fun _ _ => rfl)) pa_nil))) (pa_cons (pe_tup (pa_cons pe_str (pa_cons pe_non (pa_cons pe_bl pa_nil)))) pa_nil)))))) pss_nil)
      (pss_cons (ps_set (i := 5) sc02.nd rfl (Or.inl rfl) (pe_call GP (hr.mono (by decide)) (by rfl) mP kP bP .nil pass0 (pa_cons (pv 1) (pa_cons (pv 2) (pa_cons (pe_call GP (hr.mono (by decide)) (by rfl) mP kP bP .nil pass0 (pa_cons (pv 1) (pa_cons (pv 2) (pa_cons (pv 5) pa_nil)))) pa_nil)))))
      (pss_cons (ps_set (i := 8) sc02.nd rfl (Or.inl rfl) (pe_callTy call_dictF (by rfl) B.dict (by decide +kernel) (pa_cons (pv 5) pa_nil)))
      (pss_cons (ps_set (i := 9) sc02.nd rfl (Or.inl rfl) (pe_call GDu (hr.mono (by decide)) (by rfl) mDu kDu bDu .nil pass0 (pa_cons (pv 2) (pa_cons (pv 8) pa_nil))))
      (pss_cons (ps_set (i := 10) sc02.nd rfl (Or.inl rfl) (pe_call GA (hr.mono (by decide)) (by rfl) mA kA bA .nil pass0 (pa_cons (pv 3) (pa_cons (pv 5) pa_nil))))
      (pss_cons (ps_if (pt_not (pt_val (pe_call GS (hr.mono (by decide)) (by rfl) mS kS bS .nil pass0 (pa_cons (pv 5) (pa_cons (pv 8) pa_nil))))) (pss_one (ps_ret pe_bl)) pss_nil)
      (pss_cons (ps_if (pt_cmpR op_gt (pe_callB call_len_seq (by rfl) B.len PySem.boot_len (pa_cons (pv 9) pa_nil)) pe_int (nomark _)) (pss_one (ps_ret (pe_call GS (hr.mono (by decide)) (by rfl) mS kS bS .nil pass0 (pa_cons (pv 10) (pa_cons (pe_tup (pa_cons pe_str (pa_cons (pe_ix ix_list (pv 9) pe_int (fun _ _ => rfl)) (pa_cons pe_bl pa_nil)))) pa_nil))))) pss_nil)
      (pss_cons (ps_if (pt_not (pt_val (pe_call GS (hr.mono (by decide)) (by rfl) mS kS bS .nil pass0 (pa_cons (pv 10) (pa_cons (pe_tup (pa_cons pe_str (pa_cons (pv 8) pa_nil))) pa_nil))))) (pss_one (ps_ret pe_bl)) pss_nil)
      (pss_cons (ps_set (i := 11) sc02.nd rfl (Or.inl rfl) (pe_ix ix_seq (pv 10) pe_int (fun _ _ => rfl)))
      (pss_cons (ps_putN (pv 11) (pe_ix ix_list (pv 2) pe_int (fun _ _ => rfl)) pe_int)
      (pss_one (ps_ret (pe_and (pe_call GS (hr.mono (by decide)) (by rfl) mS kS bS .nil pass0 (pa_cons (pv 5) (pa_cons (pv 8) pa_nil))) (pe_one (pe_call GS (hr.mono (by decide)) (by rfl) mS kS bS .nil pass0 (pa_cons (pe_call GA (hr.mono (by decide)) (by rfl) mA kA bA .nil pass0 (pa_cons (pv 3) (pa_cons (pv 5) pa_nil))) (pa_cons (pe_tup (pa_cons pe_str (pa_cons (pv 8) pa_nil))) pa_nil))))))))))))))))))))))), ?_⟩
    have sl := sizeLine_eq
    refine ⟨_, rfl, a0, ns, rfl, hS, hlen, fun p q H1 hp1 hq1 hA1 s1 => ?_⟩
    refine ⟨_, rfl, _, rfl, p, q, 4, rfl, hA1, by decide, by decide, fun r H2 r0 r1 hA2 e2 => ?_⟩
    obtain ⟨n, rfl⟩ := Int.eq_ofNat_of_zero_le r0
    refine ⟨_, _, rfl, rfl, p, q, 1 + n, (congrArg (fun z : Int => [V.ref p, V.int z]) (by omega : (1 : Int) + (n : Int) = ((1 + n : Nat) : Int))), hA2, by omega, fun l zs H3 l0 lp hl hz nd ok hA3 e3 => ?_⟩
    have fz : Fine zs := ⟨ok, nd, by omega⟩
    have lz : (zs.map V.str).length = zs.length := List.length_map ..
    refine ⟨_, rfl, l, _, rfl, hl, by rw [lz, hz]; simp; omega, by omega, fun x hx => ?_, ⟨fun _ o pn zs2 H4 ez ok2 s4 hC4 => ?_, fun i di => by rw [fine_due fz] at di; cases di⟩⟩
    · obtain ⟨z, hzm, rfl⟩ := List.mem_map.mp hx
      exact .inl ⟨z, rfl, okS_len (ok z hzm)⟩
    have ezz := map_inj ez
    subst ezz
    have hl4 := s4 _ _ hl
    have hA4 := hA3.same s4
    refine ⟨_, rfl, _, rfl, _, rfl, p, q, rfl, hA4, fun u H5 u1 hA5 e5 => ?_⟩
    have hl5 := e5 _ _ hl4 lp
    have hC5 := co_step hC4 hA4 e5
    refine ⟨p, q, l, zs, u, rfl, hA5, hl5, lp, nd, by omega, fun rd rkvs H6 rd0 rdp hrd hrk hrn hA6 e6 => ?_⟩
    have hl6 := e6 _ _ hl5 lp
    have hC6 := co_step hC5 hA5 e6
    intro a ha
    obtain ⟨ap, aq⟩ := hA6.np ha
    have S7 := same_new (o := dN P w a []) ha
    have hA7 := hA6.same S7
    have la : l ≠ a := ne_of_none hl6 ha
    have rda : rd ≠ a := ne_of_none hrd ha
    obtain ⟨⟨dx6, ho6⟩, hp6⟩ := id hC6
    have oa : o ≠ a := ne_of_none ho6 ha
    have pna : pn ≠ a := ne_of_none hp6 ha
    have hl7 := S7 _ _ hl6
    refine ⟨_, rfl, _, rfl, l, _, rfl, .inl (SqL.of hl7), p, q, zs.length, by rw [lz]; rfl, hA7, by omega, fun t ks H8 t0 tp ht pm hA8 e8 => ?_⟩
    have a7 := upd_same (H := H6) (a := a) (o := dN P w a [])
    have ta : t ≠ a := fun e => by
      rw [e] at t0
      exact absurd (a7.symm.trans t0) (by simp)
    have hC8 := co_step (hC6.same S7) hA7 e8
    refine ⟨t, rfl, ⟨_, SqT.of ht⟩, for_it (walk_tup (K := K) (a := t) (xs := ks.map iV)) (fun i σ H' => (∃ v, σ = [some (.ref a0), some (.ref p), some (.ref l), some (.ref o), some (.ref rd), some (.ref a), v, none, none, none, none, none]) ∧ HandAt H' p q ∧ H' l = some (.lst (zs.map V.str)) ∧ CoAt H' C o pn zs ∧
        H' rd = some (dN P w rd rkvs) ∧ H' t = some (.tup (ks.map iV)) ∧ ∃ kvs : List (NK × V), H' a = some (dN P w a kvs) ∧ (kvs.map (·.1)).Nodup ∧ kvs.length ≤ i ∧ ∀ x ∈ kvs, Num x.2)
      ⟨⟨_, rfl⟩, hA8, e8 _ _ hl7 lp, hC8, e8 _ _ (S7 _ _ hrd) rdp, ht, [], e8 _ _ a7 ap, List.nodup_nil, Nat.le_refl _, fun x h => by cases h⟩ (fun i σ H' _ h => SqT.of h.2.2.2.2.2.1) ?_ ?_⟩
    · rintro i x σ H9 H10 hi ⟨⟨v, rfl⟩, hA9, hl9, hC9, hr9, ht9, kvs, ha9, n9, l9, v9⟩ ⟨rfl, hx⟩
      rw [List.getElem?_map] at hx
      obtain ⟨kk, hkk, rfl⟩ := Option.map_eq_some_iff.mp hx
      have hk : kk < zs.length := List.mem_range.mp (pm.mem_iff.mp (List.mem_of_getElem? hkk))
      have hzk : (zs.map V.str)[kk]? = some (.str zs[kk]) := by rw [List.getElem?_map, List.getElem?_eq_getElem hk]; rfl
      obtain ⟨y, ey⟩ := val_of (kvs := rkvs) (k := nm zs[kk]) (by rw [hrk]; exact List.mem_map.mpr ⟨_, List.getElem_mem hk, rfl⟩)
      have few : ks.length ≤ 5 := by
        have := pm.length_eq
        rw [List.length_range] at this
        omega
      rw [List.length_map] at hi
      refine ⟨_, rfl, _, rfl, _, rfl, l, _, _, _, rfl, rfl, SqL.of hl9, atI_nat hzk, rd, rkvs, nm zs[kk], y, rfl, rfl, .inl hr9, ey, _, rfl, _, rfl, _, rfl, l, _, _, _, rfl, rfl, SqL.of hl9, atI_nat hzk, a, kvs, nm zs[kk], rfl, rfl, .inl ha9, by omega, ?_⟩
      refine ⟨⟨_, rfl⟩, hA9.upd ap aq, by rw [upd_ne la]; exact hl9, ⟨?_, ?_⟩, by rw [upd_ne rda]; exact hr9, by rw [upd_ne ta]; exact ht9, _, upd_same, keys_putK n9, ?_, fun x hx => ?_⟩
      · obtain ⟨dx9, h⟩ := hC9.1
        exact ⟨dx9, by rw [upd_ne oa]; exact h⟩
      · rw [upd_ne pna]
        exact hC9.2
      · have := length_putK kvs (nm zs[kk]) y
        omega
      · rcases mem_putK hx with m | m
        · exact v9 x m
        · rw [m]
          exact hrn _ (val_mem ey)
    · rintro σ H9 ⟨⟨v, rfl⟩, hA9, hl9, hC9, hr9, ht9, kvs, ha9, n9, l9, v9⟩
      have few : kvs.length ≤ 5 := by
        have := pm.length_eq
        rw [List.length_range] at this
        rw [List.length_map] at l9
        omega
      refine ⟨_, rfl, p, q, 8, rfl, hA9, by decide, by decide, fun r8 H10 r80 r81 hA10 e10 => ⟨rfl, _, rfl, ite2 (fun c => ?_) (fun c => ?_)⟩⟩
      · -- no dict
        have hl10 := e10 _ _ hl9 lp
        have hC10 := co_step hC9 hA9 e10
        refine ⟨Nat.zero_le _, fun e1 he1 => ⟨_, rfl, l, _, rfl, .inl (SqL.of (same_new he1 _ _ hl10)), fun l2 hl2 => ⟨_, rfl, l, _, rfl, .inl ⟨SqL.of (same_new hl2 _ _ (same_new he1 _ _ hl10)), fun t2 ht2 => ⟨(by show 7 ≤ sizeLine; decide), fun w2 hw2 => ?_⟩⟩⟩⟩⟩
        have S1 := same_new (o := .lst []) he1
        have S2 := same_new (o := .lst (zs.map V.str)) hl2
        have S3 := same_new (o := .tup (zs.map V.str)) ht2
        have S4 := same_new (o := .lst [.non, .int 5, .ref e1, .ref l2, .ref t2, .str "", .bl true]) hw2
        have S0 := ((S1.trans S2).trans S3).trans S4
        have f1 := S4 _ _ (S3 _ _ (S2 _ _ (upd_same (H := H10) (a := e1) (o := .lst []))))
        have f2 := S4 _ _ (S3 _ _ (upd_same (H := upd H10 e1 (.lst [])) (a := l2) (o := .lst (zs.map V.str))))
        have f3 := S4 _ _ (upd_same (H := upd (upd H10 e1 (.lst [])) l2 (.lst (zs.map V.str))) (a := t2) (o := .tup (zs.map V.str)))
        have f4 := upd_same (H := upd (upd (upd H10 e1 (.lst [])) l2 (.lst (zs.map V.str))) t2 (.tup (zs.map V.str))) (a := w2) (o := .lst [.non, .int 5, .ref e1, .ref l2, .ref t2, .str "", .bl true])
        have n1 := (hA10.np he1).1
        have n2 := (hA10.np (S1.free hl2)).1
        have n3 := (hA10.np ((S1.trans S2).free ht2)).1
        have n4 := (hA10.np (((S1.trans S2).trans S3).free hw2)).1
        refine ⟨_, rfl, _, rfl, _, rfl, p, q, 7, rfl, hA10.same S0, by decide, by decide, fun r7 H11 r70 r71 hA11 e11 => ?_⟩
        obtain ⟨x, hx, hxm⟩ := pick (xs := [.non, .int 5, .ref e1, .ref l2, .ref t2, .str "", .bl true]) r70 r71
        obtain ⟨ty, hty, kty⟩ : ∃ n : String, TyX K H11 x (.type n) ∧ kitB n "dict" = some false := by
          simp only [List.mem_cons, List.not_mem_nil, or_false] at hxm
          rcases hxm with rfl | rfl | rfl | rfl | rfl | rfl | rfl
          · exact ⟨"NoneType", .base .non, by decide +kernel⟩
          · exact ⟨"int", .base (.int 5), by decide +kernel⟩
          · exact ⟨"list", .base (.lst (e11 _ _ f1 n1)), by decide +kernel⟩
          · exact ⟨"list", .base (.lst (e11 _ _ f2 n2)), by decide +kernel⟩
          · exact ⟨"tuple", .base (.tup (e11 _ _ f3 n3)), by decide +kernel⟩
          · exact ⟨"str", .base (.str _), by decide +kernel⟩
          · exact ⟨"bool", .base (.bl true), by decide +kernel⟩
        refine ⟨w2, _, _, x, rfl, rfl, SqL.of (e11 _ _ f4 n4), hx, o, pn, zs, x, rfl, co_step (hC10.same S0) (hA10.same S0) e11, nd, by omega, .inl ⟨ty, hty, kty, fun t5 H12 t50 s12 ht5 => ⟨(by show 3 ≤ sizeLine; decide), fun t6 ht6 => ⟨.ref t5, .ref t6, rfl, ?_, fun H' _ => k H'⟩⟩⟩⟩
        refine tup_eq (xs := [.str "none", .non, .bl true]) (fun x hx => ?_) (same_new ht6 _ _ ht5) upd_same (by show 3 ≤ 1000; decide)
        simp only [List.mem_cons, List.not_mem_nil, or_false] at hx
        rcases hx with rfl | rfl | rfl <;> trivial
      · have hl10 := e10 _ _ hl9 lp
        have hC10 := co_step hC9 hA9 e10
        have sd10 : Sd P w p q a H10 kvs := ⟨hA10, e10 _ _ ha9 ap, n9, fun x hx => by
          rcases v9 x hx with h | ⟨i, h⟩
          · rw [h]
            exact ⟨.inl rfl, fun b z => by cases z⟩
          · rw [h]
            exact ⟨.inr (.inl ⟨i, rfl⟩), fun b z => by cases z⟩⟩
        have co2 : ∀ {H1 H2 : Hp}, CoAt H1 C o pn zs → HandAt H1 p q → El2 p a H1 H2 → CoAt H2 C o pn zs := fun {H1 H2} c h e => by
          obtain ⟨m1, m2⟩ := co_ne c h
          obtain ⟨⟨dx, c1⟩, c2⟩ := c
          exact ⟨⟨dx, e _ _ c1 m1 oa⟩, e _ _ c2 m2 pna⟩
        refine ⟨_, rfl, _, rfl, _, rfl, _, rfl, _, rfl, p, q, l, a, zs, kvs, rfl, hl10, lp, la, by omega, by omega, ap, aq, by omega, sd10, fun kvs1 H11 l1 sd11 el11 => ?_⟩
        have hl11 := el11 _ _ hl10 lp la
        refine ⟨p, q, l, a, zs, kvs1, rfl, hl11, lp, la, by omega, by omega, ap, aq, by omega, sd11, fun kvs2 H12 l2 sd12 el12 => ?_⟩
        have hl12 := el12 _ _ hl11 lp la
        have hC12 := co2 (co2 hC10 hA10 el11) sd11.hand el12
        have few2 : kvs2.length ≤ 1000 := by omega
        refine ⟨_, rfl, a, kvs2, rfl, .inl sd12.d, fun kp ob hkp => ?_⟩
        have S13 := same_new (o := dF P w kp ob kvs2) hkp
        have vals12 : ∀ x ∈ kvs2, ValW P w H12 x.2 := fun x hx => (sd12.v x hx).1
        have kf := upd_same (H := H12) (a := kp) (o := dF P w kp ob kvs2)
        refine ⟨_, rfl, _, rfl, l, kp, zs, kvs2, rfl, S13 _ _ hl12, by omega, .inr ⟨ob, kf⟩, few2, fun k' v' e => (vals12 _ (val_mem e)).same S13, fun du HB du0 sB hdu => ?_⟩
        have SB := S13.trans sB
        have lB := SB _ _ hl12
        have cB := hC12.same SB
        have dB := SB _ _ sd12.d
        have kB := sB _ _ kf
        have vB : ∀ x ∈ kvs2, ValW P w HB x.2 := fun x hx => (vals12 x hx).same SB
        have vB' : ∀ k' v', valV kvs2 k' = some v' → ValW P w HB v' := fun k' v' e => vB _ (val_mem e)
        have cp : ∀ H', Same HB H' → Eqw P w H' 2 (.ref a) (.ref kp) := fun H' s' => copy_eq sd12.n (.inl (s' _ _ dB)) (s' _ _ kB) few2 fun x hx => (vB x hx).same s'
        refine ⟨_, rfl, _, rfl, o, pn, zs, _, rfl, cB, nd, by omega, .inr ⟨a, kvs2, rfl, .inl dB, few2, vB', fun y dy t1 H14 t10 s14 ht1 => ?_, fun dno t1 r1 H14 t10 r10 s14 dr1 ht1 => ?_⟩⟩
        · have dl : dueL zs kvs2 = [y] := by
            unfold dueL
            rw [dy]
            rfl
          rw [dl] at hdu
          refine ⟨_, rfl, _, rfl, .ref a, .ref kp, rfl, cp _ s14, fun H15 s15 => ⟨true, rfl, iteF ?_⟩⟩
          have s15' := s14.trans s15
          have hd15 := s15' _ _ hdu
          refine ⟨_, rfl, du, _, rfl, .inl (SqL.of hd15), _, _, rfl, rfl, _, rfl, iteT ⟨_, rfl, _, rfl, du, _, _, _, rfl, rfl, SqL.of hd15, at_of (j := 0) rfl rfl, (by show 3 ≤ sizeLine; decide), fun u1' hu1 => ⟨.ref t1, .ref u1', rfl, ?_, fun H' _ => k H'⟩⟩⟩
          have ay : Atom y := by
            unfold dueR at dy
            cases f : zs.find? (badN kvs2) with
            | some z =>
              rw [f] at dy
              cases dy
              trivial
            | none =>
              rw [f] at dy
              have dy' : (if zs.length < kvs2.length then some V.non else none) = some y := dy
              split at dy'
              · cases dy'
                trivial
              · cases dy'
          refine tup_eq (xs := [.str "none", y, .bl true]) (fun x hx => ?_) (same_new hu1 _ _ (s15 _ _ ht1)) upd_same (by show 3 ≤ 1000; decide)
          simp only [List.mem_cons, List.not_mem_nil, or_false] at hx
          rcases hx with rfl | rfl | rfl
          · trivial
          · exact ay
          · trivial
        · have dl : dueL zs kvs2 = [] := by
            unfold dueL
            rw [dno]
            rfl
          rw [dl] at hdu
          have drs : ∀ {H' : Hp}, Same H14 H' → DN P w H' r1 (rowOf zs kvs2) := fun {H'} s' => dr1.same fun o e => s' _ _ e
          refine ⟨_, rfl, _, rfl, .ref a, .ref kp, rfl, cp _ s14, fun H15 s15 => ⟨true, rfl, iteF ?_⟩⟩
          have s15' := s14.trans s15
          have hd15 := s15' _ _ hdu
          refine ⟨_, rfl, du, _, rfl, .inl (SqL.of hd15), _, _, rfl, rfl, _, rfl, iteF ⟨_, rfl, _, rfl, (by show 2 ≤ sizeLine; decide), fun u1' hu1 => ⟨.ref t1, .ref u1', rfl, ?_, fun H16 s16 => ⟨true, rfl, iteF ?_⟩⟩⟩⟩
          · have sn := same_new (o := .tup [.str "row", .ref kp]) hu1
            exact row_eq nd sd12.n dno few2 (sn _ _ (s15 _ _ ht1)) (drs (s15.trans sn)) (sn _ _ (s15' _ _ kB)) upd_same
          · have sn := same_new (o := .tup [.str "row", .ref kp]) hu1
            have s16' := (s15.trans sn).trans s16
            have sB16 := s14.trans s16'
            obtain ⟨z0, hz0⟩ : ∃ z0, zs[0]? = some z0 := ⟨_, List.getElem?_eq_getElem (by omega)⟩
            have hz0V : (zs.map V.str)[0]? = some (.str z0) := by rw [List.getElem?_map, hz0]; rfl
            have lr : (rowOf zs kvs2).length ≤ 5 := by
              unfold rowOf
              rw [List.length_map]
              omega
            refine ⟨_, rfl, .inr (.inl ⟨t1, _, _, _, rfl, rfl, SqT.of (s16' _ _ ht1), at_of (j := 1) rfl rfl, ?_⟩)⟩
            refine ⟨_, rfl, _, rfl, l, _, _, _, rfl, rfl, SqL.of (sB16 _ _ lB), at_of (j := 0) rfl hz0V, r1, _, nm z0, rfl, rfl, drs s16', by omega, ?_⟩
            have sB17 : Same HB (upd H16 r1 (dN P w r1 (putK (rowOf zs kvs2) (nm z0) (.int 77)))) := same_put sB16 r10
            refine ⟨_, rfl, _, rfl, .ref a, .ref kp, rfl, cp _ sB17, fun H18 s18 => ⟨_, rfl, iteT ?_⟩⟩
            have sB18 := sB17.trans s18
            refine ⟨_, rfl, _, rfl, o, pn, zs, _, rfl, cB.same sB18, nd, by omega, .inr ⟨a, kvs2, rfl, .inl (sB18 _ _ dB), few2, fun k' v' e => (vB' k' v' e).same sB18, (fun y dy => by rw [dno] at dy; cases dy), fun _ t2 r2 H19 t20 r20 s19 dr2 ht2 => ?_⟩⟩
            refine ⟨_, rfl, (by show 2 ≤ sizeLine; decide), fun u2 hu2 => ⟨.ref t2, .ref u2, rfl, ?_, fun H' _ => k H'⟩⟩
            have sn2 := same_new (o := .tup [.str "row", .ref kp]) hu2
            exact row_eq nd sd12.n dno few2 (sn2 _ _ ht2) (dr2.same fun o e => sn2 _ _ e) (sn2 _ _ ((sB18.trans s19) _ _ kB)) upd_same

end
end Nr
/-! what an own exception class with an own __init__ is asked for, by Bools over the written part -/
namespace Lx
open PySem PySem.Spec PyProof.Rows L2 Lw Xv Lh
def mkB (K : PySem.W.Frag) (C : Addr) : Bool := match K.lookup C with
  | some ⟨.type t, _, .cls cd, sl⟩ => (match cd.mro, sl.toList with
    | .ref C' :: bm, [_, _, _, _, some (.builtin n), _] => decide (t = "type") && (decide (C' = C) && (decide (n = "ValueError.__new__") && (!cd.hasDel && (cd.hasDict && HandSPX.refsVE bm))))
    | _, _ => false)
  | _ => false
theorem mkB_ok {K : PySem.W.Frag} {C : Addr} (h : mkB K C = true) : ∃ nm q N bs bm sn sub ab col dd k0 k1 k2 k3 k5, K.lookup C = some (excClassObj nm q C N bs bm true sn sub ab col dd k0 k1 k2 k3 k5 "ValueError.__new__") ∧ PySem.HandSPX.refsVE bm = true := by
  unfold mkB at h
  split at h
  · rename_i t od cd sl ho
    split at h
    · rename_i C' bm k0 k1 k2 k3 n k5 hm hs
      obtain ⟨h1, h⟩ := He.ba h
      obtain ⟨h2, h⟩ := He.ba h
      obtain ⟨h3, h⟩ := He.ba h
      obtain ⟨h4, h⟩ := He.ba h
      obtain ⟨h5, h6⟩ := He.ba h
      have e1 := of_decide_eq_true h1
      have e2 := of_decide_eq_true h2
      have e3 := of_decide_eq_true h3
      have e4 : cd.hasDel = false := by
        cases z : cd.hasDel with
        | false => rfl
        | true =>
          rw [z] at h4
          cases h4
      obtain ⟨nm, bs, mro, ns, qn, hd, sn, sub, ab, col, del⟩ := cd
      dsimp only at hm e4 h5
      subst hm e1 e2 e3 e4 h5
      have es : sl = #[k0, k1, k2, k3, some (.builtin "ValueError.__new__"), k5] := by
        obtain ⟨l⟩ := sl
        dsimp only at hs
        rw [hs]
      subst es
      exact ⟨nm, qn, ns, bs, bm, sn, sub, ab, col, od, k0, k1, k2, k3, k5, ho, h6⟩
    · cases h
  · cases h
def xB (K : PySem.W.Frag) (C : Addr) : Bool := He.eqO (PySem.W.findIn K (.ref C) "__getattribute__") (some (some (.builtin "BaseException.__getattribute__"))) && (He.eqO (PySem.W.findIn K (.ref C) "__getattr__") (some none) &&
  (decide (PySem.W.subIn K (.ref C) (.type "BaseException") = some true) && (PySem.W.hasDictIn K C && (He.eqO (PySem.W.findIn K (.ref C) "__class__") (some (some (.builtin "object.__class__"))) &&
  (decide (PySem.W.mroIn K C (.type "object") = some true) && PySem.W.keepIn K (.ref C))))))
def gB (K : PySem.W.Frag) : Bool := He.eqO (PySem.W.specialIn K (.builtin "object.__class__") "__get__") (some (some (.builtin "getset_descriptor.__get__"))) && decide (PySem.W.takesIn K (.builtin "object.__class__") = some true)
structure XB (K : PySem.W.Frag) (C : Addr) : Prop where
  e : ExcC K C
  f : XfC K C
  k : PySem.W.keepIn K (.ref C) = true
theorem xB_ok {K : PySem.W.Frag} {C : Addr} (h : xB K C = true) (g : gB K = true) : XB K C := by
  obtain ⟨h1, h⟩ := He.ba h
  obtain ⟨h2, h⟩ := He.ba h
  obtain ⟨h3, h⟩ := He.ba h
  obtain ⟨h4, h⟩ := He.ba h
  obtain ⟨h5, h⟩ := He.ba h
  obtain ⟨h6, h7⟩ := He.ba h
  obtain ⟨g1, g2⟩ := He.ba g
  exact ⟨⟨He.eqO_ok h1, He.eqO_ok h2, of_decide_eq_true h3, h4, He.eqO_ok h5, He.eqO_ok g1, of_decide_eq_true g2, of_decide_eq_true h6⟩, ⟨He.eqO_ok h1, He.eqO_ok h2, of_decide_eq_true h3, h4⟩, h7⟩
def iB (K : PySem.W.Frag) (C : Addr) (fs : List Str) : Bool := mkB K C && (He.eqO (PySem.W.findIn K (.ref C) "__setattr__") (some (some (.builtin "object.__setattr__"))) && (decide (PySem.W.typeIn K (.ref C) = some (.type "type")) &&
  (He.eqO (PySem.W.findIn K (.ref C) "__init__") (some (some (.ref (He.ma K C "__init__")))) && (decide (PySem.W.typeIn K (.ref (He.ma K C "__init__")) = some (.type "function")) && fs.all fun f => He.eqO (PySem.W.findIn K (.ref C) f) (some none)))))
theorem iB_ok {K : PySem.W.Frag} {C : Addr} {fs : List Str} (h : iB K C fs = true) (x : XB K C) : XMk K C (He.ma K C "__init__") ∧ ∀ f ∈ fs, PySem.W.findIn K (.ref C) f = some none := by
  obtain ⟨h1, h⟩ := He.ba h
  obtain ⟨h2, h⟩ := He.ba h
  obtain ⟨h3, h⟩ := He.ba h
  obtain ⟨h4, h⟩ := He.ba h
  obtain ⟨h5, h6⟩ := He.ba h
  exact ⟨⟨⟨mkB_ok h1, He.eqO_ok h2, x.e.hs, of_decide_eq_true h3, x.k⟩, He.eqO_ok h4, of_decide_eq_true h5⟩, fun f hf => He.eqO_ok (List.all_eq_true.mp h6 f hf)⟩
end Lx
namespace Nr
open PySem PySem.Spec PyProof.Rows L2 Lw Lw2 Xv Lh Ow Lx Nm Dn
abbrev R : PySem.W.OpenRow := PySem.W.OpenLaw.row PySem.Challenge.rw_batchtests_k02_rows_checked
def fn : List He.DefD := [dd ("_law_hand", none) "_law_hand" "_law_hand" sHand,
  dd ("_law_mixed", none) "_law_mixed" "_law_mixed" sMixed,
  dd ("_law_draw", none) "_law_draw" "_law_draw" sDraw,
  dd ("_law_same", none) "_law_same" "_law_same" sSame,
  dd ("_law_name", none) "_law_name" "_law_name" sName,
  dd ("_law_names", none) "_law_names" "_law_names" sNames,
  dd ("_law_unit", none) "_law_unit" "_law_unit" sUnit,
  dd ("_law_row", none) "_law_row" "_law_row" sRowD,
  dd ("_law_order", none) "_law_order" "_law_order" sOrder,
  dd ("_law_columns", none) "_law_columns" "_law_columns" sCols,
  dd ("_law_spoiled", none) "_law_spoiled" "_law_spoiled" sSpoil,
  dd ("_law_due", none) "_law_due" "_law_due" sDueR,
  dd ("_law_asked", none) "_law_asked" "_law_asked" sAsk,
  dd ("law", none) "law" "law" s02,
  dd ("is_name", none) "is_name" "is_name" sIsName,
  dd ("is_integer", none) "is_integer" "is_integer" sIsInt,
  dd ("is_value", none) "is_value" "is_value" sIsVal,
  dd ("BadColumns", some "__init__") "__init__" "BadColumns.__init__" sErr,
  dd ("NoRow", some "__init__") "__init__" "NoRow.__init__" sErrN,
  dd ("Columns", some "__init__") "__init__" "Columns.__init__" sInit,
  dd ("Columns", some "row") "row" "Columns.row" sRow]
def fnNames : List Str := ["_law_hand", "_law_mixed", "_law_draw", "_law_same", "_law_name", "_law_names", "_law_unit", "_law_row", "_law_order", "_law_columns", "_law_spoiled", "_law_due", "_law_asked", "law", "is_name", "is_integer", "is_value"]
abbrev aC (K : PySem.W.Frag) : Addr := He.ga K "Columns"
abbrev aB (K : PySem.W.Frag) : Addr := He.ga K "BadColumns"
abbrev aN (K : PySem.W.Frag) : Addr := He.ga K "NoRow"
abbrev aE (K : PySem.W.Frag) : Addr := He.ga K "BatchError"
abbrev aM (K : PySem.W.Frag) (m : Str) : Addr := He.ma K (aC K) m
/-- the module's name holds this value -/
def valB (K : PySem.W.Frag) (x : Str) (v : V) : Bool := match PySem.W.nsIn K mainGlobals x with
  | some (some u) => He.relB v u
  | _ => false
theorem valB_ok {K : PySem.W.Frag} {h : Heap} {mg : Str → Option Value} (X : K.In h) (G : h.Ns mainGlobals mg) {x : Str} {v : V} (c : valB K x v = true) : ∃ u, mg x = some u ∧ RelV v u := by
  unfold valB at c
  split at c
  · rename_i u e
    exact ⟨u, PySem.W.mg_of X G e, He.relB_ok c⟩
  · cases c
def wordDv : List He.Dv := [.str "and", .str "case", .str "else", .str "is", .str "missing", .str "must", .str "not", .str "or"]
def free2 : List Str := ["all", "enumerate"]
def glo2 : List Str := ["WORDS", "Columns", "BadColumns", "NoRow", "BatchError"]
def coB (K : PySem.W.Frag) : Bool := PySem.W.plainGet K (aC K) Str.empty && (PySem.W.hasDictIn K (aC K) && (PySem.W.plainOver K (aC K) && (He.eqO (PySem.W.findIn K (.ref (aC K)) "__setattr__") (some (some (.builtin "object.__setattr__"))) &&
  (He.eqO (PySem.W.findIn K (.ref (aC K)) "__class__") (some (some (.builtin "object.__class__"))) && (decide (PySem.W.mroIn K (aC K) (.type "object") = some true) && (He.eqO (PySem.W.findIn K (.ref (aC K)) "names") (some none) &&
  (decide (PySem.W.kitOne K (.type "tuple") (.ref (aC K)) = some false) && (PySem.W.makesIn K (aC K) && PySem.W.keepIn K (.ref (aC K))))))))))
def metB (K : PySem.W.Frag) (m : Str) : Bool := He.eqO (PySem.W.findIn K (.ref (aC K)) m) (some (some (.ref (aM K m)))) && (PySem.W.isFn K (.ref (aM K m)) && PySem.W.keepIn K (.ref (aM K m)))
def teB (K : PySem.W.Frag) : Bool := decide (PySem.W.exmOne K (.ref (aN K)) (.ref (aN K)) = some true) && decide (PySem.W.kitOne K (.ref (aN K)) (.ref (aE K)) = some true)
def ex (K : PySem.W.Frag) : Bool := btNames.all (freeB K) && (free2.all (freeB K) && (fnNames.all (gloB K) && (glo2.all (gloB K) && (He.tupB K "WORDS" wordDv && (valB K "LETTERS" (.str abc) && (valB K "MOST_LETTERS" (.int 8) && (valB K "MOST_COLUMNS" (.int 4) &&
  (gB K && (xB K (aB K) && (iB K (aB K) ["index"] && (xB K (aN K) && (iB K (aN K) ["name"] && (coB K && (metB K "__init__" && (metB K "row" && teB K)))))))))))))))
abbrev hk : PySem.W.Hook := hookB 6 fn ex
def ob (s : PySem.W.SharedT) : AlB := obsB 6 fn ex (HandSHeadRun.getT s)
theorem ob_eq (s : PySem.W.SharedT) : ob s = hk.obs s.abs := obsB_eq (HandSHeadRun.getT_eq s)
theorem run (w : World) : HandSHeadRun.RunEq R (PySem.W.view R.prog [28]) hk ob 20000 ["BatchError", "BadColumns", "NoRow", "LETTERS", "MOST_LETTERS", "WORDS", "is_integer", "is_name", "MOST_COLUMNS", "Columns", "is_value", "_law_hand", "_law_mixed", "_law_draw", "_law_name", "_law_names", "_law_unit", "_law_row", "_law_order", "_law_same", "_law_columns", "_law_spoiled", "_law_due", "_law_asked"] w := by
  intro os
  kernel_rfl
theorem facts {P : Program} {w : World} {K : PySem.W.Frag} {h : Heap} {mg : Str → Option Value} {f : Addr} (X : K.In h) (G : h.Ns mainGlobals mg) (hfa : mg ("law" : Str) = some (.ref f)) (c : He.SaysD [] fn K) (hx : ex K = true) :
    ∃ fd : FuncData, (∀ (s : Shared) (v : Value), BindsTo s fd ⟨[v], []⟩ [("_law_script", v)]) ∧ ∀ base : Heap, K.In base → base.Ns mainGlobals mg → FnOk P w K mg base CX0 6 f fd ["_law_script"] (spLaw K) := by
  obtain ⟨b1, hx⟩ := He.ba hx
  obtain ⟨b2, hx⟩ := He.ba hx
  obtain ⟨b3, hx⟩ := He.ba hx
  obtain ⟨b4, hx⟩ := He.ba hx
  obtain ⟨b5, hx⟩ := He.ba hx
  obtain ⟨b6, hx⟩ := He.ba hx
  obtain ⟨b7, hx⟩ := He.ba hx
  obtain ⟨b8, hx⟩ := He.ba hx
  obtain ⟨b9, hx⟩ := He.ba hx
  obtain ⟨b10, hx⟩ := He.ba hx
  obtain ⟨b11, hx⟩ := He.ba hx
  obtain ⟨b12, hx⟩ := He.ba hx
  obtain ⟨b13, hx⟩ := He.ba hx
  obtain ⟨b14, hx⟩ := He.ba hx
  obtain ⟨b15, hx⟩ := He.ba hx
  obtain ⟨b16, b17⟩ := He.ba hx
  have B := bt_of X G b1
  have fr : ∀ n ∈ free2, mg n = none := fun n hn => mg_free X G (List.all_eq_true.mp b2 n hn)
  have gF : ∀ n ∈ fnNames, mg n = some (.ref (He.ga K n)) := fun n hn => mg_glo X G (List.all_eq_true.mp b3 n hn)
  have g2 : ∀ n ∈ glo2, mg n = some (.ref (He.ga K n)) := fun n hn => mg_glo X G (List.all_eq_true.mp b4 n hn)
  have xb := xB_ok b10 b9
  obtain ⟨MB, NB⟩ := iB_ok b11 xb
  have xn := xB_ok b12 b9
  obtain ⟨MN, NN⟩ := iB_ok b13 xn
  obtain ⟨gg1, gg2⟩ := He.ba b9
  obtain ⟨c1, cx⟩ := He.ba b14
  obtain ⟨c2, cx⟩ := He.ba cx
  obtain ⟨c3, cx⟩ := He.ba cx
  obtain ⟨c4, cx⟩ := He.ba cx
  obtain ⟨c5, cx⟩ := He.ba cx
  obtain ⟨c6, cx⟩ := He.ba cx
  obtain ⟨c7, cx⟩ := He.ba cx
  obtain ⟨c8, cx⟩ := He.ba cx
  obtain ⟨c9, c10⟩ := He.ba cx
  obtain ⟨i1, ix⟩ := He.ba b15
  obtain ⟨i2, i3⟩ := He.ba ix
  obtain ⟨r1, rx⟩ := He.ba b16
  obtain ⟨r2, r3⟩ := He.ba rx
  obtain ⟨t1, t2⟩ := He.ba b17
  have DC : Cf K mg (aC K) := ⟨⟨c1, c2, c3, He.eqO_ok c4⟩, He.eqO_ok c5, He.eqO_ok gg1, of_decide_eq_true gg2, of_decide_eq_true c6, He.eqO_ok c7, g2 "Columns" (by decide +kernel), of_decide_eq_true c8⟩
  have MC : Mk K (aC K) (aM K "__init__") := ⟨c9, He.eqO_ok i1, i2, c10⟩
  have MR : Meth K (aC K) "row" (aM K "row") := ⟨He.eqO_ok r1, r2, r3⟩
  have DE : Ef K mg (aB K) (He.ma K (aB K) "__init__") := ⟨MB.T, MB.iC, MB.tI, NB "index" (by decide +kernel), g2 "BadColumns" (by decide +kernel)⟩
  have DN' : En K mg (aN K) (He.ma K (aN K) "__init__") := ⟨MN.T, MN.iC, MN.tI, NN "name" (by decide +kernel), g2 "NoRow" (by decide +kernel)⟩
  have TN : Tn K (aN K) (aE K) := ⟨xn.e, xn.f, of_decide_eq_true t1, of_decide_eq_true t2⟩
  have D : Kd K mg := by
    obtain ⟨u1, e1, r1⟩ := valB_ok X G b6
    obtain ⟨u2, e2, r2⟩ := valB_ok X G b7
    obtain ⟨u3, e3, r3⟩ := valB_ok X G b8
    obtain ⟨k1, rfl⟩ := r1
    obtain ⟨k2, rfl⟩ := r2
    obtain ⟨k3, rfl⟩ := r3
    exact ⟨⟨_, g2 "WORDS" (by decide +kernel), fun H => He.tupB_ok b5 H⟩, ⟨k1, e1⟩, ⟨k2, e2⟩, ⟨k3, e3⟩, fr "all" (by decide +kernel), fr "enumerate" (by decide +kernel)⟩
  obtain ⟨fd0, F0⟩ := c.def_ 0 (d := dd ("_law_hand", none) "_law_hand" "_law_hand" sHand) rfl
  have F0 : Fun K "_law_hand" "_law_hand" sHand (He.ga K "_law_hand") fd0 := fun_of (st := sHand) F0
  have B0 := F0.binds (ps := ["_law_script"]) fun _ _ _ _ _ _ us hl => match us, hl with | [_], _ => rfl
  obtain ⟨fd1, F1⟩ := c.def_ 1 (d := dd ("_law_mixed", none) "_law_mixed" "_law_mixed" sMixed) rfl
  have F1 : Fun K "_law_mixed" "_law_mixed" sMixed (He.ga K "_law_mixed") fd1 := fun_of (st := sMixed) F1
  have B1 := F1.binds (ps := ["_law_number", "_law_count"]) fun _ _ _ _ _ _ us hl => match us, hl with | [_, _], _ => rfl
  obtain ⟨fd2, F2⟩ := c.def_ 2 (d := dd ("_law_draw", none) "_law_draw" "_law_draw" sDraw) rfl
  have F2 : Fun K "_law_draw" "_law_draw" sDraw (He.ga K "_law_draw") fd2 := fun_of (st := sDraw) F2
  have B2 := F2.binds (ps := ["_law_hand_here", "_law_many"]) fun _ _ _ _ _ _ us hl => match us, hl with | [_, _], _ => rfl
  obtain ⟨fd3, F3⟩ := c.def_ 3 (d := dd ("_law_same", none) "_law_same" "_law_same" sSame) rfl
  have F3 : Fun K "_law_same" "_law_same" sSame (He.ga K "_law_same") fd3 := fun_of (st := sSame) F3
  have B3 := F3.binds (ps := ["_law_actual", "_law_expected"]) fun _ _ _ _ _ _ us hl => match us, hl with | [_, _], _ => rfl
  obtain ⟨fd4, F4⟩ := c.def_ 4 (d := dd ("_law_name", none) "_law_name" "_law_name" sName) rfl
  have F4 : Fun K "_law_name" "_law_name" sName (He.ga K "_law_name") fd4 := fun_of (st := sName) F4
  have B4 := F4.binds (ps := ["_law_hand_here", "_law_taken"]) fun _ _ _ _ _ _ us hl => match us, hl with | [_, _], _ => rfl
  obtain ⟨fd5, F5⟩ := c.def_ 5 (d := dd ("_law_names", none) "_law_names" "_law_names" sNames) rfl
  have F5 : Fun K "_law_names" "_law_names" sNames (He.ga K "_law_names") fd5 := fun_of (st := sNames) F5
  have B5 := F5.binds (ps := ["_law_hand_here", "_law_many"]) fun _ _ _ _ _ _ us hl => match us, hl with | [_, _], _ => rfl
  obtain ⟨fd6, F6⟩ := c.def_ 6 (d := dd ("_law_unit", none) "_law_unit" "_law_unit" sUnit) rfl
  have F6 : Fun K "_law_unit" "_law_unit" sUnit (He.ga K "_law_unit") fd6 := fun_of (st := sUnit) F6
  have B6 := F6.binds (ps := ["_law_hand_here"]) fun _ _ _ _ _ _ us hl => match us, hl with | [_], _ => rfl
  obtain ⟨fd7, F7⟩ := c.def_ 7 (d := dd ("_law_row", none) "_law_row" "_law_row" sRowD) rfl
  have F7 : Fun K "_law_row" "_law_row" sRowD (He.ga K "_law_row") fd7 := fun_of (st := sRowD) F7
  have B7 := F7.binds (ps := ["_law_hand_here", "_law_names_here", "_law_unit_here"]) fun _ _ _ _ _ _ us hl => match us, hl with | [_, _, _], _ => rfl
  obtain ⟨fd8, F8⟩ := c.def_ 8 (d := dd ("_law_order", none) "_law_order" "_law_order" sOrder) rfl
  have F8 : Fun K "_law_order" "_law_order" sOrder (He.ga K "_law_order") fd8 := fun_of (st := sOrder) F8
  have B8 := F8.binds (ps := ["_law_hand_here", "_law_many"]) fun _ _ _ _ _ _ us hl => match us, hl with | [_, _], _ => rfl
  obtain ⟨fd9, F9⟩ := c.def_ 9 (d := dd ("_law_columns", none) "_law_columns" "_law_columns" sCols) rfl
  have F9 : Fun K "_law_columns" "_law_columns" sCols (He.ga K "_law_columns") fd9 := fun_of (st := sCols) F9
  have B9 := F9.binds (ps := ["_law_names_here"]) fun _ _ _ _ _ _ us hl => match us, hl with | [_], _ => rfl
  obtain ⟨fd10, F10⟩ := c.def_ 10 (d := dd ("_law_spoiled", none) "_law_spoiled" "_law_spoiled" sSpoil) rfl
  have F10 : Fun K "_law_spoiled" "_law_spoiled" sSpoil (He.ga K "_law_spoiled") fd10 := fun_of (st := sSpoil) F10
  have B10 := F10.binds (ps := ["_law_hand_here", "_law_names_here", "_law_values"]) fun _ _ _ _ _ _ us hl => match us, hl with | [_, _, _], _ => rfl
  obtain ⟨fd11, F11⟩ := c.def_ 11 (d := dd ("_law_due", none) "_law_due" "_law_due" sDueR) rfl
  have F11 : Fun K "_law_due" "_law_due" sDueR (He.ga K "_law_due") fd11 := fun_of (st := sDueR) F11
  have B11 := F11.binds (ps := ["_law_names_here", "_law_values"]) fun _ _ _ _ _ _ us hl => match us, hl with | [_, _], _ => rfl
  obtain ⟨fd12, F12⟩ := c.def_ 12 (d := dd ("_law_asked", none) "_law_asked" "_law_asked" sAsk) rfl
  have F12 : Fun K "_law_asked" "_law_asked" sAsk (He.ga K "_law_asked") fd12 := fun_of (st := sAsk) F12
  have B12 := F12.binds (ps := ["_law_columns_here", "_law_values"]) fun _ _ _ _ _ _ us hl => match us, hl with | [_, _], _ => rfl
  obtain ⟨fd13, F13⟩ := c.def_ 13 (d := dd ("law", none) "law" "law" s02) rfl
  have F13 : Fun K "law" "law" s02 (He.ga K "law") fd13 := fun_of (st := s02) F13
  have B13 := F13.binds (ps := ["_law_script"]) fun _ _ _ _ _ _ us hl => match us, hl with | [_], _ => rfl
  obtain ⟨fd14, F14⟩ := c.def_ 14 (d := dd ("is_name", none) "is_name" "is_name" sIsName) rfl
  have F14 : Fun K "is_name" "is_name" sIsName (He.ga K "is_name") fd14 := fun_of (st := sIsName) F14
  have B14 := F14.binds (ps := ["value"]) fun _ _ _ _ _ _ us hl => match us, hl with | [_], _ => rfl
  obtain ⟨fd15, F15⟩ := c.def_ 15 (d := dd ("is_integer", none) "is_integer" "is_integer" sIsInt) rfl
  have F15 : Fun K "is_integer" "is_integer" sIsInt (He.ga K "is_integer") fd15 := fun_of (st := sIsInt) F15
  have B15 := F15.binds (ps := ["value"]) fun _ _ _ _ _ _ us hl => match us, hl with | [_], _ => rfl
  obtain ⟨fd16, F16⟩ := c.def_ 16 (d := dd ("is_value", none) "is_value" "is_value" sIsVal) rfl
  have F16 : Fun K "is_value" "is_value" sIsVal (He.ga K "is_value") fd16 := fun_of (st := sIsVal) F16
  have B16 := F16.binds (ps := ["value"]) fun _ _ _ _ _ _ us hl => match us, hl with | [_], _ => rfl
  obtain ⟨fd17, F17⟩ := c.def_ 17 (d := dd ("BadColumns", some "__init__") "__init__" "BadColumns.__init__" sErr) rfl
  have F17 : Fun K "__init__" "BadColumns.__init__" sErr (He.ma K (aB K) "__init__") fd17 := fun_of (st := sErr) F17
  have B17 := F17.binds (ps := ["self", "index"]) fun _ _ _ _ _ _ us hl => match us, hl with | [_, _], _ => rfl
  obtain ⟨fd18, F18⟩ := c.def_ 18 (d := dd ("NoRow", some "__init__") "__init__" "NoRow.__init__" sErrN) rfl
  have F18 : Fun K "__init__" "NoRow.__init__" sErrN (He.ma K (aN K) "__init__") fd18 := fun_of (st := sErrN) F18
  have B18 := F18.binds (ps := ["self", "name"]) fun _ _ _ _ _ _ us hl => match us, hl with | [_, _], _ => rfl
  obtain ⟨fd19, F19⟩ := c.def_ 19 (d := dd ("Columns", some "__init__") "__init__" "Columns.__init__" sInit) rfl
  have F19 : Fun K "__init__" "Columns.__init__" sInit (He.ma K (aC K) "__init__") fd19 := fun_of (st := sInit) F19
  obtain ⟨fd20, F20⟩ := c.def_ 20 (d := dd ("Columns", some "row") "row" "Columns.row" sRow) rfl
  have F20 : Fun K "row" "Columns.row" sRow (He.ma K (aC K) "row") fd20 := fun_of (st := sRow) F20
  have B20 := F20.binds (ps := ["self", "values"]) fun _ _ _ _ _ _ us hl => match us, hl with | [_, _], _ => rfl
  refine ⟨fd13, ?_, fun base _ _ => ?_⟩
  · obtain ⟨oc, od, kV, doc, pm, an, cdv, ct, osl, rfl, lk, hcd⟩ := F13.ex
    exact fun s v => .of_eq rfl
  have e := hfa.symm.trans (gF "law" (by decide +kernel))
  cases e
  have GD : FnOk P w K mg base CX0 2 _ fd2 ["_law_hand_here", "_law_many"] spDraw := ok_draw F2 B F1 B1 (gF "_law_mixed" (by decide +kernel))
  have GN : FnOk P w K mg base CX0 3 _ fd4 ["_law_hand_here", "_law_taken"] spName := okName F4 B GD F2.kp B2 (gF "_law_draw" (by decide +kernel))
  have GT : FnR P w K mg base (L2.CX P w) 3 _ (spNew K (aC K) (aB K)) := okInit F19 B D DC DE F17 B17 F14 B14 (gF "is_name" (by decide +kernel))
  have GR : FnOk P w K mg base (L2.CX P w) 3 _ fd20 ["self", "values"] (spRow P w K (aC K) (aN K)) := okRow F20 B DC DN' F18 B18 F16 B16 (gF "is_value" (by decide +kernel)) F15 B15 (gF "is_integer" (by decide +kernel))
  exact ok02 F13 B (ok_hand F0 B) F0.kp B0 (gF "_law_hand" (by decide +kernel)) GD F2.kp B2 (gF "_law_draw" (by decide +kernel)) (okNames F5 B GN F4.kp B4 (gF "_law_name" (by decide +kernel))) F5.kp B5 (gF "_law_names" (by decide +kernel)) (okRowD F7 GD F2.kp B2 (gF "_law_draw" (by decide +kernel))) F7.kp B7 (gF "_law_row" (by decide +kernel)) (okUnit F6 GD F2.kp B2 (gF "_law_draw" (by decide +kernel))) F6.kp B6 (gF "_law_unit" (by decide +kernel)) (okOrder F8 B GD F2.kp B2 (gF "_law_draw" (by decide +kernel))) F8.kp B8 (gF "_law_order" (by decide +kernel))
    (okSpoil F10 B GD F2.kp B2 (gF "_law_draw" (by decide +kernel)) GN F4.kp B4 (gF "_law_name" (by decide +kernel))) F10.kp B10 (gF "_law_spoiled" (by decide +kernel)) (okDueR F11 B) F11.kp B11 (gF "_law_due" (by decide +kernel)) (okAsk F12 B DC DN' TN (g2 "BatchError" (by decide +kernel)) MR GR B20) F12.kp B12 (gF "_law_asked" (by decide +kernel)) (Lw2.ok_same F3 B B3 (gF "_law_same" (by decide +kernel)) 2) F3.kp B3 (gF "_law_same" (by decide +kernel)) (okCols F9 B DC MC GT) F9.kp B9 (gF "_law_columns" (by decide +kernel))
end Nr
open PySem PySem.W PySem.Calls PyProof.Rows
theorem PySem.Challenge.cw_batchtests_k02_rows_checked_holds : PySem.Challenge.rw_batchtests_k02_rows_checked.Holds := by
  w_on; o_law
  refine HandSHeadRun.head_any (r := OpenLaw.row PySem.Challenge.rw_batchtests_k02_rows_checked) (q := view (OpenLaw.row PySem.Challenge.rw_batchtests_k02_rows_checked).prog [28]) (H := Nr.hk) (ob := Nr.ob) (M := 20000) (loose := ["BatchError", "BadColumns", "NoRow", "LETTERS", "MOST_LETTERS", "WORDS", "is_integer", "is_name", "MOST_COLUMNS", "Columns", "is_value", "_law_hand", "_law_mixed", "_law_draw", "_law_name", "_law_names", "_law_unit", "_law_row", "_law_order", "_law_same", "_law_columns", "_law_spoiled", "_law_due", "_law_asked"]) (d := HandSHeadRun.topDef (OpenLaw.row PySem.Challenge.rw_batchtests_k02_rows_checked).prog 28) (kwd := []) Nr.ob_eq
    (by kernel_rfl) (fun s => by kernel_rfl) Nr.run (by kernel_rfl) (by kernel_rfl) (by kernel_rfl) (by rfl) (by first | assumption | decide +kernel) (by decide +kernel) ⟨rfl, rfl, rfl, rfl, rfl, by decide +kernel⟩ ?hw ?hc
  case hw => w_witness2
  case hc =>
    refine L2.walk_ofE (l := PySem.Challenge.rw_batchtests_k02_rows_checked) (n := 63) (k := 6) (x := "_law_script") (CX := L2.CX0) rfl (by decide) (by kernel_rfl) ⟨rfl, by decide, by decide⟩ ?F (fun _ _ _ _ z => z)
    intro w mg fa h Y G hmg0
    obtain ⟨K, KX, c, hx⟩ := Y
    have hmg : mg ("law" : PySem.Str) = some (.ref fa) := by
      have e : (HandSHeadRun.topDef (OpenLaw.row PySem.Challenge.rw_batchtests_k02_rows_checked).prog 28).name = ("law" : PySem.Str) := by kernel_rfl
      rw [← e]
      exact hmg0
    obtain ⟨fd, hb, hF⟩ := Nr.facts (P := (PySem.Challenge.rw_batchtests_k02_rows_checked).prog) (w := w) KX G hmg c hx
    exact ⟨K, fd, Lh.spLaw K, KX, hb, fun H a ns hl _ hS => ⟨a, ns, rfl, hS, hl, fun _ => rfl⟩, hF⟩
#print axioms PySem.Challenge.cw_batchtests_k02_rows_checked_holds
