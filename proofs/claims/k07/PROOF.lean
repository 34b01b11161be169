import PyProof.Rows.All
import Wide.All
import OpenK.AllK
import Wide.FinOn
import HandS.ForMost
import PyProof.ReprRoads
import HandS.Lambda
import HandS.EndTab
import HandS.Exc
import KE.KExcIs
import HandS.ExcInit
import HandS.ExcField
import HandS.WordsExc
import HandS.IsInst
import PyProof.ExcBaseAll.ArithmeticError
import PyProof.ExcBaseAll.LookupError
import HandS.SetFor
import HandS.MakeKwOnly
import HandS.ExcValue
import HandS.ExcIs
import HandS.Star
import HandS.Defaults
import HandS.Style
import PySem.Challenge.RW_guessmarks_k07_errors_and_limits
set_option Elab.async false
set_option linter.all false
set_option maxRecDepth 100000
set_option maxHeartbeats 8000000
namespace Gm
open PySem L2
def top (i : Nat) : Stmt := PySem.Challenge.pw_guessmarks_k07_errors_and_limits.main.body.getD i (.Pass ⟨0, 0, 0, 0⟩)
abbrev sBowl : Stmt := top 33
abbrev sDip : Stmt := top 34

/-- three ints stand at p -/
def BowlAt (H : Hp) (p : Addr) : Prop := ∃ x y z : Int, H p = some (.lst [.int x, .int y, .int z])
/-- all but p stands as it stood, and p is a bowl -/
def Stir (p : Addr) (H H' : Hp) : Prop := (∀ b o, b ≠ p → H b = some o → H' b = some o) ∧ BowlAt H' p
theorem Stir.trans {p : Addr} {H H1 H2 : Hp} (a : Stir p H H1) (b : Stir p H1 H2) : Stir p H H2 := ⟨fun c o n h => b.1 c o n (a.1 c o n h), b.2⟩
theorem Stir.same {p : Addr} {H H1 H2 : Hp} (a : Stir p H H1) (b : Same H1 H2) : Stir p H H2 := ⟨fun c o n h => b _ _ (a.1 c o n h), let ⟨x, y, z, h⟩ := a.2; ⟨x, y, z, b _ _ h⟩⟩
theorem Stir.refl {p : Addr} {H : Hp} (h : BowlAt H p) : Stir p H H := ⟨fun _ _ _ h => h, h⟩
theorem same_upd {H : Hp} {p : Addr} {o : HO} (h : H p = none) : Same H (upd H p o) := fun b u e => by rw [upd_ne (ne_of_none e h)]; exact e

theorem stir_upd (H : Hp) (p : Addr) (x y z : Int) : Stir p H (upd H p (.lst [.int x, .int y, .int z])) := ⟨fun b o n e => by rw [upd_ne n]; exact e, _, _, _, upd_same⟩
def spBowl (K : PySem.W.Frag) : Sp := fun vs H Q _ => ∃ (a : Addr) (ns : List Int) (k : Int), vs = [.ref a, .int k] ∧ SqL K H a (ns.map V.int) ∧ ns.length ≤ 63 ∧ 0 ≤ k ∧
  ∀ H' p, Same H H' → H p = none → BowlAt H' p → Q (.ref p) H'
def spDip : Sp := fun vs H Q _ => ∃ (p : Addr) (m : Int), vs = [.ref p, .int m] ∧ BowlAt H p ∧ 0 < m ∧ m < 1073741824 ∧
  ∀ H' d, Stir p H H' → 0 ≤ d → d < m → Q (.int d) H'

structure TxB (mg : Str → Option Value) : Prop where
  len : mg "len" = none
  int : mg "int" = none
  abs : mg "abs" = none
  divmod : mg "divmod" = none

theorem int_at {ns : List Int} {k : Int} (h0 : 0 ≤ k) (h : k < ns.length) : ∃ u, atI (ns.map V.int) k = some (V.int u) := by
  obtain ⟨j, rfl⟩ := Int.eq_ofNat_of_zero_le h0
  have hj : j < ns.length := by omega
  exact ⟨ns[j], atI_nat (by rw [List.getElem?_map, List.getElem?_eq_getElem hj]; rfl)⟩

theorem cut_int {ns : List Int} {lo hi : Option Int} {i : Nat} {y : V} (h : (cutV (ns.map V.int) lo hi)[i]? = some y) : ∃ u, y = V.int u := by
  have hm := List.mem_of_getElem? h
  unfold cutV at hm
  have := List.mem_of_mem_drop (List.mem_of_mem_take hm)
  obtain ⟨u, _, rfl⟩ := List.mem_map.mp this
  exact ⟨u, rfl⟩
theorem pos1 : (0 : Int) < 1999999943 := by decide
theorem cutIfV {tA : TT} {ta tb : TE} {σ : St} {H : Hp} {Q : V → Hp → Prop} (C : V → Prop) (k : ∀ v, C v → Q v H) (h : (∀ v, C v → Q v H) → tIf tA ta tb σ H Q) : tIf tA ta tb σ H Q := h k
theorem cutIf {tA : TT} {ta tb : TE} {σ : St} {H : Hp} {Q : V → Hp → Prop} (C : V → Hp → Prop) (k : ∀ v H', C v H' → Q v H') (h : (∀ v H', C v H' → Q v H') → tIf tA ta tb σ H Q) : tIf tA ta tb σ H Q := h k
section
variable {P : Program} {w : World} {K : PySem.W.Frag} {mg : Str → Option Value} {base : Heap}
abbrev nB : List Str := ["_law_script", "_law_k", "_law_own", "_law_mixed", "_law_entry"]
theorem scB : FnScope nB ["_law_script", "_law_k"] (defScope sBowl) := ⟨rfl, rfl, rfl, by decide +kernel, rfl, by decide +kernel, by decide +kernel⟩
theorem ok_bowl {f : Addr} {fd : FuncData} (F : Fun K "_law_bowl" "_law_bowl" sBowl f fd) (T : TxB mg) : FnOk P w K mg base CX0 1 f fd ["_law_script", "_law_k"] (spBowl K) := by
  refine F.ok scB (fun vs H Q E h => ?_) (fun cdv A outer s H vs Q E hr h => ?_)
  · obtain ⟨a, ns, k, rfl, _⟩ := h
    rfl
  · obtain ⟨a, ns, k, rfl, hS, hlen, h0, q⟩ := h
    refine ⟨_, pss_cons (ps_set (i := 2) scB.nd rfl (Or.inl rfl)
        (pe_ifExp (pt_cmpR op_lt (pv 1) (pe_callB call_len_seq (by rfl) T.len PySem.boot_len (pa_cons (pv 0) pa_nil)) (nomark _))
          (pe_callTy call_int1 (by rfl) T.int (by decide +kernel) (pa_cons (pe_ix ix_list (pv 0) (pv 1) (fun _ _ => rfl)) pa_nil))
          (pe_op op_add (pe_op op_mul pe_int (pv 1)) pe_int)))
      (pss_cons (ps_set (i := 3) scB.nd rfl (Or.inl rfl) (pe_op op_add pe_int (pe_op op_mul pe_int (pv 1))))
      (pss_cons (ps_for PassesOwn.never rfl (pi_list (pe_slice sl_list (pv 0) po_none (po_some pe_int))) (pg_name (i := 4) scB.nd rfl (Or.inl rfl))
          (pss_one (ps_set (i := 3) scB.nd rfl (Or.inl rfl)
            (pe_op op_mod (pe_callTy call_int1 (by rfl) T.int (by decide +kernel) (pa_cons (pe_op op_add (pe_op op_mul (pv 3) pe_int)
              (pe_op op_mod (pe_callTy call_int1 (by rfl) T.int (by decide +kernel) (pa_cons (pv 4) pa_nil)) pe_int)) pa_nil)) pe_int))))
      (pss_one (ps_ret (pe_lst (pa_cons (pe_op op_mod (pe_callTy call_int1 (by rfl) T.int (by decide +kernel) (pa_cons (pe_op op_add (pv 3) (pe_op op_mod (pv 2) pe_int)) pa_nil)) pe_int)
        (pa_cons (pe_ifExp (PW.pt (pw_or (pt_cmpR op_lt (pv 2) pe_int (nomark _)) (pw_or1 (pt_cmpR op_ge (pv 2) (pe_op op_pow pe_int pe_int) (nomark _)))))
            (pe_callB call_abs (by rfl) T.abs (by decide +kernel) (pa_cons (pv 2) pa_nil)) pe_int)
        (pa_cons pe_int pa_nil)))))))), ?_⟩
    refine cutIfV (fun v => ∃ u, v = .int u) ?_ (fun c => ?_)
    · rintro _ ⟨u, rfl⟩
      refine ⟨_, rfl, _, _, rfl, rfl, .inl ⟨by decide, by decide⟩, _, _, rfl, rfl, ?_⟩
      refine ⟨_, rfl, 12, rfl, a, _, rfl, hS, fun pl hpl => ?_⟩
      have s1 := same_upd (o := .lst (cutV (ns.map V.int) none (some 12))) hpl
      refine ⟨pl, rfl, ⟨_, SqL.of upd_same⟩, for_list (K := K) (a := pl) (xs := cutV (ns.map V.int) none (some 12))
        (fun i σ H' => H' = upd _ pl (.lst (cutV (ns.map V.int) none (some 12))) ∧ ∃ (z : Int) (v : Option V), σ = [some (.ref a), some (.int k), some (.int u), some (.int z), v]) ⟨rfl, _, _, rfl⟩ ?_ ?_ ?_⟩
      · rintro i σ H' _ ⟨rfl, _⟩
        exact SqL.of upd_same
      · rintro i y σ H' hi ⟨rfl, z, v, rfl⟩
        obtain ⟨e, rfl⟩ := cut_int hi
        refine ⟨_, rfl, _, _, rfl, rfl, .inr ⟨by decide, by decide⟩, ?_⟩
        refine ⟨_, rfl, .inl ⟨_, rfl, _, _, rfl, rfl, pos1, _, _, rfl, rfl, .inl ⟨_, rfl, _, _, rfl, rfl, pos1, rfl, _, _, rfl⟩⟩⟩
      · rintro σ H' ⟨rfl, z, v, rfl⟩
        refine ⟨_, rfl, _, rfl, _, _, rfl, rfl, pos1, _, _, rfl, rfl, .inl ⟨_, rfl, _, _, rfl, rfl, pos1, ?_⟩⟩
        refine cutIfV (fun v => ∃ u, v = .int u) ?_ (fun c => ?_)
        · rintro _ ⟨y, rfl⟩
          refine ⟨by show 3 ≤ sizeLine; decide, fun p hp => ?_⟩
          refine q _ p (s1.trans (same_upd hp)) (s1.free hp) ⟨_, _, _, upd_same⟩
        · refine ⟨_, rfl, _, _, rfl, rfl, _, rfl, ?_⟩
          refine ite2 (fun h => ?_) (fun h => ?_)
          · refine iteT ⟨_, rfl, _, rfl, c _ ⟨_, rfl⟩⟩
          · refine ⟨_, rfl, _, _, rfl, rfl, ⟨by decide, by decide, by decide⟩, _, _, rfl, rfl, _, rfl, ?_⟩
            refine ite2 (fun h => ?_) (fun h => ?_)
            · exact ⟨_, rfl, _, rfl, c _ ⟨_, rfl⟩⟩
            · exact c _ ⟨_, rfl⟩
    · refine ⟨_, rfl, _, rfl, a, _, rfl, .inl hS, _, _, rfl, rfl, _, rfl, ?_⟩
      refine ite2 (fun h => ?_) (fun h => ?_)
      · have h' : k < ns.length := by
          have := of_decide_eq_true h
          rw [List.length_map] at this
          exact this
        obtain ⟨e, he⟩ := int_at h0 h'
        exact ⟨_, rfl, _, rfl, a, _, _, _, rfl, rfl, hS, he, .inl ⟨_, rfl, c _ ⟨_, rfl⟩⟩⟩
      · exact ⟨_, rfl, _, _, rfl, rfl, .inl ⟨by decide, by decide⟩, _, _, rfl, rfl, c _ ⟨_, rfl⟩⟩
abbrev nD : List Str := ["_law_bowl_here", "_law_many", "_law_digit"]
theorem scD : FnScope nD ["_law_bowl_here", "_law_many"] (defScope sDip) := ⟨rfl, rfl, rfl, by decide +kernel, rfl, by decide +kernel, by decide +kernel⟩
theorem ok_dip {f : Addr} {fd : FuncData} (F : Fun K "_law_dip" "_law_dip" sDip f fd) (T : TxB mg) : FnOk P w K mg base CX0 1 f fd ["_law_bowl_here", "_law_many"] spDip := by
  refine F.ok scD (fun vs H Q E h => ?_) (fun cdv A outer s H vs Q E hr h => ?_)
  · obtain ⟨p, m, rfl, _⟩ := h
    rfl
  · obtain ⟨p, m, rfl, ⟨x, y, z, hp⟩, hm0, hm1, q⟩ := h
    refine ⟨_, pss_cons (ps_asg (pe_op op_add (pe_ix ix_list (pv 0) pe_int (fun _ _ => rfl)) pe_int) (pg_sub (pv 0) pe_int set_list))
      (pss_cons (ps_if (pt_cmpR op_gt (pe_ix ix_list (pv 0) pe_int (fun _ _ => rfl)) pe_int (nomark _))
        (pss_cons (ps_asg (pe_callB call_divmod (by rfl) T.divmod (by decide +kernel) (pa_cons (pe_callTy call_int1 (by rfl) T.int (by decide +kernel) (pa_cons (pe_ix ix_list (pv 0) pe_int (fun _ _ => rfl)) pa_nil)) (pa_cons (pv 1) pa_nil)))
            (pg_tup (by rfl) (pgs_cons (pg_sub (pv 0) pe_int set_list) (pgs_cons (pg_name (i := 2) scD.nd rfl (Or.inl rfl)) pgs_nil))))
          (pss_one (ps_ret (pv 2)))) pss_nil)
      (pss_cons (ps_asg (pe_op op_mod (pe_callTy call_int1 (by rfl) T.int (by decide +kernel) (pa_cons (pe_op op_add (pe_op op_add (pe_op op_mul (pe_ix ix_list (pv 0) pe_int (fun _ _ => rfl)) pe_int)
            (pe_op op_mul (pe_ix ix_list (pv 0) pe_int (fun _ _ => rfl)) pe_int))
            (pe_op op_mul (pe_op op_fdiv (pe_ix ix_list (pv 0) pe_int (fun _ _ => rfl)) pe_int) pe_int)) pa_nil)) pe_int) (pg_sub (pv 0) pe_int set_list))
      (pss_one (ps_ret (pe_op op_mod (pe_callTy call_int1 (by rfl) T.int (by decide +kernel) (pa_cons (pe_op op_fdiv (pe_ix ix_list (pv 0) pe_int (fun _ _ => rfl)) pe_int) pa_nil)) (pv 1)))))), ?_⟩
    refine ⟨_, rfl, p, _, 2, _, rfl, rfl, SqL.of hp, rfl, _, _, rfl, rfl, _, rfl, p, _, 2, 2, rfl, rfl, hp, rfl, ?_⟩
    have h1 : upd H p (.lst [.int x, .int y, .int (z + 1)]) p = some (.lst [.int x, .int y, .int (z + 1)]) := upd_same
    refine ⟨_, rfl, p, _, 1, _, rfl, rfl, SqL.of h1, rfl, _, _, rfl, rfl, _, rfl, ?_⟩
    refine ite2 (fun h => ?_) (fun h => ?_)
    · refine ⟨_, rfl, p, _, 1, _, rfl, rfl, SqL.of h1, rfl, .inl ⟨_, rfl, _, rfl, _, _, rfl, ⟨hm0, hm1⟩, fun t ht => ?_⟩⟩
      have ntp : t ≠ p := fun e => by rw [e] at ht; exact absurd (h1.symm.trans ht) (by simp)
      refine ⟨t, _, rfl, SqT.of upd_same, rfl, _, _, rfl, _, rfl, p, _, 1, 1, rfl, rfl, ((upd_ne ntp.symm).trans h1), rfl, ?_⟩
      refine ⟨_, _, rfl, rfl, _, rfl, ?_⟩
      exact q _ _ (((stir_upd H p _ _ _).same (same_upd ht)).trans (stir_upd _ p _ _ _)) (Int.emod_nonneg _ (by omega)) (Int.emod_lt_of_pos _ hm0)
    · refine ⟨_, rfl, p, _, 0, _, rfl, rfl, SqL.of h1, rfl, _, _, rfl, rfl, .inr ⟨by decide, by decide⟩, _, rfl, p, _, 2, _, rfl, rfl, SqL.of h1, rfl, _, _, rfl, rfl, .inr ⟨by decide, by decide⟩, _, _, rfl, rfl, _, rfl, p, _, 0, _, rfl, rfl, SqL.of h1, rfl, _, _, rfl, rfl, ⟨by decide, by decide⟩, _, _, rfl, rfl, .inr ⟨by decide, by decide⟩, _, _, rfl, rfl, .inl ⟨_, rfl, _, _, rfl, rfl, pos1, _, rfl, p, _, 0, 0, rfl, rfl, h1, rfl, _, rfl, p, _, 0, _, rfl, rfl, SqL.of upd_same, rfl, _, _, rfl, rfl, ⟨by decide, by decide⟩, .inl ⟨_, rfl, _, rfl, _, _, rfl, rfl, hm0, ?_⟩⟩⟩
      exact q _ _ ((stir_upd H p _ _ _).trans (stir_upd _ p _ _ _)) (Int.emod_nonneg _ (by omega)) (Int.emod_lt_of_pos _ hm0)
end
end Gm

/-! defs that are called where nothing is being shown, so that they may ask for the repr of lists -/
namespace L2
open PySem PySem.Spec PyProof.Rows
/-- FnOk for calls where no repr is under way -/
structure FnG (P : Program) (w : World) (K : PySem.W.Frag) (mg : Str → Option Value) (base : Heap) (CX : CXT) (k : Nat) (f : Addr) (fd : FuncData) (ps : List Str) (sp : Sp) : Prop where
  many : ∀ {vs H Q E}, sp vs H Q E → vs.length = ps.length
  goes : ∀ {A : Around} {outer : List Env} {s : Shared} {H : Hp} {args : Args} {us : List Value} {vs : List V} {Q : VK} {E : XK}, A.guards = some [] → Room k A → Env0 P w K mg base A outer s H →
    BindsTo s fd args (ps.zip us) → Vals vs us → sp vs H Q E → codeAny (model P w) A (.call (.ref f) args) (CR CX outer P w H s Q E) s
theorem FnOk.toG {P : Program} {w : World} {K : PySem.W.Frag} {mg : Str → Option Value} {base : Heap} {CX : CXT} {k : Nat} {f : Addr} {fd : FuncData} {ps : List Str} {sp : Sp} (F : FnOk P w K mg base CX k f fd ps sp) : FnG P w K mg base CX k f fd ps sp :=
  ⟨fun h => F.len _ _ _ _ h, fun _ hr e b r h => F.run _ _ _ _ _ _ _ _ _ hr e b r h⟩
theorem Fun.okG {P : Program} {w : World} {K : PySem.W.Frag} {mg : Str → Option Value} {base : Heap} {x qual : Str} {st : Stmt} {f : Addr} {fd : FuncData} {N ps : List Str} {k : Nat} {sp : Sp} (F : Fun K x qual st f fd) (S : FnScope N ps (defScope st))
    (many : ∀ vs H Q E, sp vs H Q E → vs.length = ps.length)
    (body : ∀ (cdv : Value) (A : Around) (outer : List Env) (s : Shared) (H : Hp) (vs : List V) (Q : VK) (E : XK), A.guards = some [] → Room k (A.deeper (envOfC qual (defScope st) s.heap.objs.size f cdv)) → sp vs H Q E →
      ∃ t, PSs (cxOf CX0 P w K mg base N qual (defScope st) f cdv A outer s H E).nox (defBody st) t ∧ t { nx := fun _ H' => Q .non H', rt := Q } (start N vs) H) : FnG P w K mg base CX0 (k + 1) f fd ps sp := by
  obtain ⟨oc, od, kV, doc, pm, an, cdv, ct, osl, rfl, lk, hcd⟩ := F.ex
  refine ⟨fun h => many _ _ _ _ h, fun {A outer s H args us vs Q E} g hr e b r h => ?_⟩
  refine LamX.run_ofS lk hcd S hr e b r (many _ _ _ _ h) fun hr' => ?_
  obtain ⟨t, ht, q⟩ := body cdv A outer s H vs Q E g hr' h
  exact ⟨t, ht.nox, q⟩
section
variable {X : Cx} {CX : CXT} {k : Nat} {f : Addr} {fd : FuncData} {ps : List Str} {sp : Sp} {E : XK} {x : Str} {p pos : Pos} {e : Expr} {es : List Expr} {t : TA}
theorem pe_callG (F : FnG X.prog X.w X.K X.mg X.base CX k f fd ps sp) (g : X.A.guards = some []) (hr : Room k X.A) (hg : Gl X x) (hm : X.mg x = some (.ref f)) (hk : PySem.W.keepIn X.K (.ref f) = true) (hb : Binds X.K fd ps []) (hx : Passes CX X E) (ha : PA X (e :: es) t)
    (hdb : (x == ("__debug__" : Str)) = false := by decide) (he : starEach (e :: es) X.env = (false, eval e X.env) :: starEach es X.env := by rfl) (hpl : (backTo pos (starEach es X.env)).any (·.1) = false := by rfl) :
    PE X (.Call (.Name x p) (e :: es) [] pos) (tCall sp [] E t) := by
  constructor
  intro pins s σ H Q I h
  apply wpAny_Call_Name_kw
  apply ld_glob I hg hm _ hdb
  refine PySem.W.callWith_K (h₀ := X.base) I.ok.mod.kin hk (thn (ha.run pos pins s σ H _ I h) fun us s1 hh => ?_) he hpl
  obtain ⟨vs, H1, I1, r, q⟩ := hh
  refine ⟨I1.kIn, wpAny_call (codeAny_mono (F.goes g hr I1.env0 (us := us) ?_ r (by simpa using q)) fun r s' hq => ?_)⟩
  · have hl : (us ++ []).length = ps.length := by
      rw [List.append_nil, ← r.length]
      exact F.many (by simpa using q)
    simpa using hb s1 us I1.kIn hl
  · match r, hq with
    | .error e, hq => exact hx pins σ H1 s1 e s' I1 hq
    | .ok (.ret u), hq => exact I1.after hq
end
/-! ### repr of data -/
mutual
/-- as Dp, with the empty dict besides -/
inductive Dq (K : PySem.W.Frag) (H : Hp) : V → PyData → Prop
  | non : Dq K H .non .none
  | bl (b : Bool) : Dq K H (.bl b) (.bool b)
  | int (i : Int) : Dq K H (.int i) (.int i)
  | str (x : Str) : Dq K H (.str x) (.str x)
  | lst {a : Addr} {xs : List V} {ds : List PyData} : SqL K H a xs → DqAll K H xs ds → Dq K H (.ref a) (.list ds)
  | tup {a : Addr} {xs : List V} {ds : List PyData} : SqT K H a xs → DqAll K H xs ds → Dq K H (.ref a) (.tuple ds)
  | dic {a : Addr} : H a = some (.dK []) → Dq K H (.ref a) (.dict [])
inductive DqAll (K : PySem.W.Frag) (H : Hp) : List V → List PyData → Prop
  | nil : DqAll K H [] []
  | cons {v : V} {vs : List V} {d : PyData} {ds : List PyData} : Dq K H v d → DqAll K H vs ds → DqAll K H (v :: vs) (d :: ds)
end
section
variable {X : Cx} {pins : List (Addr × Obj)} {σ : St} {H : Hp} {s : Shared}
theorem no_mods {a : Addr} {o : Obj} {vs : Array Value} {n : Nat} {h : Heap} {mm : Str → Option Value} (hm : h.Ns sysModules mm) (ho : h.get? a = some o) (hd : o.data = .seq vs n) : sysModules ≠ a := fun z => by
  obtain ⟨o', es, ep, e, d, _⟩ := hm
  rw [z, ho] at e
  cases e
  rw [hd] at d
  cases d
mutual
theorem Dq.reads {mm : Str → Option Value} (hm : s.heap.Ns sysModules mm) (I : Inv X pins σ H s) : ∀ (d : PyData) (v : V) (u : Value), Dq X.K H v d → RelV v u → ∃ as, Reads s.heap u d as ∧ sysModules ∉ as
  | .none, _, _, h, r => by
    cases h; cases r
    exact ⟨_, .none, List.not_mem_nil⟩
  | .bool b, _, _, h, r => by
    cases h; cases r
    exact ⟨_, .bool b, List.not_mem_nil⟩
  | .int i, _, _, h, r => by
    cases h; obtain ⟨t, rfl⟩ := r
    exact ⟨_, .int i t, List.not_mem_nil⟩
  | .str x, _, _, h, r => by
    cases h; obtain ⟨t, rfl⟩ := r
    exact ⟨_, .str x t, List.not_mem_nil⟩
  | .list ds, _, _, h, r => by
    cases h with
    | lst hs ha =>
      cases r
      obtain ⟨its, rv, ⟨o, n, ho, hc, _, hd⟩, _⟩ := I.list hs
      obtain ⟨as, hr, nm⟩ := Dq.readsAll hm I ds _ its ha rv
      refine ⟨_, .list ho hc hd hr, fun z => ?_⟩
      rcases List.mem_cons.mp z with z | z
      · exact no_mods hm ho hd z
      · exact nm z
  | .tuple ds, _, _, h, r => by
    cases h with
    | tup hs ha =>
      cases r
      obtain ⟨its, rv, ⟨o, ho, hc, n, hd⟩, _⟩ := I.tuple hs
      obtain ⟨as, hr, nm⟩ := Dq.readsAll hm I ds _ its ha rv
      exact ⟨_, .tuple ho hc hd hr, nm⟩
  | .dict ks, _, _, h, r => by
    cases h with
    | dic e =>
      cases r
      obtain ⟨_, nd, vs, kv, dd⟩ := dk_of I.hok e
      cases kv
      obtain ⟨o, es, ep, ho, hx, hd, _, he, _⟩ := dd
      have e0 : es.toList = [] := by cases hl : es.toList with | nil => rfl | cons a b => (rw [hl] at he; cases he)
      refine ⟨_, .dict (as := []) (bs := []) ho hx.1 hd (by rw [e0]; exact .nil) (by rw [e0]; exact .nil), fun z => ?_⟩
      rcases List.mem_cons.mp z with z | z
      · rw [← z] at nd
        simp at nd
      · simp at z
theorem Dq.readsAll {mm : Str → Option Value} (hm : s.heap.Ns sysModules mm) (I : Inv X pins σ H s) : ∀ (ds : List PyData) (vs : List V) (us : List Value), DqAll X.K H vs ds → Vals vs us → ∃ as, ReadsAll s.heap us ds as ∧ sysModules ∉ as
  | [], _, _, h, r => by
    cases h; cases r
    exact ⟨_, .nil, List.not_mem_nil⟩
  | d :: ds, _, _, h, r => by
    cases h with
    | cons h1 h2 =>
      cases r with
      | cons r1 r2 =>
        obtain ⟨as, q1, n1⟩ := Dq.reads hm I d _ _ h1 r1
        obtain ⟨bs, q2, n2⟩ := Dq.readsAll hm I ds _ _ h2 r2
        exact ⟨_, .cons q1 q2, fun z => (List.mem_append.mp z).elim n1 n2⟩
end
/-- what repr wants of data: it can be shown, in so much room -/
structure Sh (d : PyData) (n m : Nat) : Prop where
  ok : d.showable = true
  long : d.shown.length ≤ n
  deep : d.depth ≤ m
theorem call_reprD (g : X.A.guards = some []) (hu : X.A.units + 64 < cLine) (hm : ∃ mm, X.base.Ns sysModules mm) :
    CallR X (.builtin "repr") (fun xs H Q => ∃ (a : Addr) (d : PyData), xs = [.ref a] ∧ Dq X.K H (.ref a) d ∧ Sh d 16777216 60 ∧ Q (.str d.shown) H) := by
  intro pins s σ H xs us Q I r h
  obtain ⟨a, d, rfl, hd, hs, q⟩ := h
  obtain ⟨mm, hm⟩ := hm
  cases r with
  | cons r1 r2 =>
    cases r2
    cases r1
    obtain ⟨as, rd, nm⟩ := Dq.reads (hm.keeps I.bk) I d _ _ hd rfl
    refine repr_of_reads' rd hs.ok (fun _ => nm) g ?_ (fun _ _ e => e) (fun h' u tk k => ?_) ?_
    · have := hs.deep
      omega
    · exact ⟨.str d.shown, H, I.kept (t' := tk) k, ⟨_, rfl⟩, q⟩
    · rw [sizeLine_eq]
      exact hs.long
end
end L2

/-! several except clauses, each with a name -/
namespace L2
open PySem PySem.Spec PyProof.Rows
abbrev Clause := Value × Nat × (Addr → Value → Option Addr → TS)
/-- ends behind a suite: the clause's name is gone -/
def endsGone (D : Ends) (i : Nat) : Ends := { nx := fun σ H => D.nx (σ.set i none) H, rt := D.rt, bk := fun σ H => D.bk (σ.set i none) H, ct := fun σ H => D.ct (σ.set i none) H }
def wNamed (K : PySem.W.Frag) (Wo : WX) (D : Ends) : List Clause → WX
  | [] => Wo
  | k :: r => fun cl d σ H => ∃ b, PySem.W.exmOne K cl k.1 = some b ∧ (b = true → ∀ a, H a = none → k.2.2 a cl d (endsGone D k.2.1) (σ.set k.2.1 (some (.ref a))) H) ∧ (b = false → wNamed K Wo D r cl d σ H)
def wLen (n : Nat) (W : WX) : WX := fun cl d σ H => σ.length = n → W cl d σ H
structure ClauseOk (X : Cx) (x n : Str) (suite : List Stmt) (k : Clause) : Prop where
  names : Names X x k.1
  at_ : X.N[k.2.1]? = some n
  loc : X.env.kindOf n = some .local
  run : ∀ (a : Addr) (o : Obj) (cl : Value) (d : Option Addr) (pn : List (Addr × Obj)), Zc cl d o → (∃ vs, o.data = .fields vs) → PSs (X.suite a ((a, o) :: pn)) suite (k.2.2 a cl d)
inductive NamedOk (X : Cx) : List ExceptHandler → List Clause → Prop
  | nil : NamedOk X [] []
  | cons {x n : Str} {k : Clause} {b : Stmt} {su : List Stmt} {p1 p2 : Pos} {hd : List ExceptHandler} {l : List Clause} (ok : ClauseOk X x n (b :: su) k) (r : NamedOk X hd l) : NamedOk X (.ExceptHandler (some (.Name x p1)) (some n) (b :: su) p2 :: hd) (k :: l)
section
variable {X : Cx} {hd0 : ExceptHandler} {hds : List ExceptHandler} {l : List Clause} {pos : Pos} {body : List Stmt} {tb : WX → TS} {Wo : WX} {pins : List (Addr × Obj)} {σ : L2.St} {H : Hp} {D : Ends}
/-- try: body, then except C as n: .. clauses, each by a name of its own -/
theorem ps_try_named (st : X.stack = X.env :: X.outer) (fr : X.env.frame = some X.env.locals) (nd : X.N.Nodup) (take : Takes X Wo)
    (run : ∀ (W : WX) (pn : List (Addr × Obj)) (xe : Value → Shared → Prop), Takes (X.tr pn xe) W → PassesOwn (model X.prog X.w) X.A X.env xe → PSs (X.tr pn xe) body (tb W)) (all : NamedOk X (hd0 :: hds) l) :
    PS X (.Try body (hd0 :: hds) [] [] pos) (fun D σ H => tb (wLen X.N.length (wNamed X.K Wo D l)) D σ H) := by
  constructor
  intro pins s σ H D I h
  have okX := I.ok
  have frs_eq : X.A.frames = some (X.env :: X.outer) := okX.frames.trans (congrArg some st)
  apply wpAny_Try_except
  refine wpAny_mono ((run (wLen X.N.length (wNamed X.K Wo D l)) (X.pn ++ pins) (fun e r1 => wpAny (model X.prog X.w) X.A (noteFrame e X.env) (fun _ r2 => wpAny (model X.prog X.w) X.A (setFlight e none) (fun _ r3 => wpAny (model X.prog X.w) X.A (handleBy e X.env (hd0 :: hds)) (SP X pins D) X.xe r3) X.xe r2) X.xe r1) (fun u s' x => ?_) PassesOwn.looking).run [] s σ H D (I.toTry _) h) (fun f s1 e => ?_) (fun _ _ z => z)
  · obtain ⟨a, B, sI, ps', τ, G, cl, d, rfl, J0, nb, up, sk, ga, eo, ag, wish⟩ := x
    have J : Inv X pins τ G sI := J0.ofTry okX
    rw [st] at sk
    show wpAny (model X.prog X.w) X.A (noteFrame (.ref a) X.env) _ _ _
    refine Sky.land Zc.steady frs_eq fr sk fun g3 dn up3 => ?_
    have J3 : Inv X pins τ G { s' with heap := g3 } := J.landed nb dn.1 (up.trans up3) eo ag
    obtain ⟨o3, v3, ho, zo, fo⟩ := dn.there
    have off : a ∉ frs (X.env :: X.outer) := fun m => by
      obtain ⟨_, o', ho', no⟩ := dn.2.2.1.mem m
      exact no _ ((Option.some.inj (ho.symm.trans ho')) ▸ fo)
    have aL : a ≠ X.env.locals := fun z => off (List.mem_filterMap.mpr ⟨X.env, List.mem_cons_self, z ▸ fr⟩)
    have aF : a ∉ X.fs := fun m => by
      obtain ⟨e, i, q⟩ := List.mem_filterMap.mp m
      exact off (List.mem_filterMap.mpr ⟨e, List.mem_cons_of_mem _ i, q⟩)
    have S3 := J3.suite ho fo ga aL aF
    have each : ∀ {hd : List ExceptHandler} {l : List Clause}, NamedOk X hd l → wNamed X.K Wo D l cl d τ G → wpAny (model X.prog X.w) X.A (handleBy (.ref a) X.env hd) (SP X pins D) X.xe { s' with heap := g3 } := by
      intro hd l m
      induction m with
      | nil =>
        intro wish
        apply wpAny_handleBy_nil
        obtain ⟨k1, k2, k3, oe, vs, T, oT, t', e1, e2, e3, e4, e5⟩ := id dn
        unfold PySem.passOn
        refine wpAny_bind (wpAny_field e1 e3 e4 ?_)
        rw [if_neg (show ¬ ((Value.ref T == Value.none) = true) from by simp)]
        have out : wpAny (model X.prog X.w) X.A (setFlight (.ref a) X.env.frame) (fun _ r => wpAny (model X.prog X.w) X.A (throw (.ref a) : Sem Flow) (SP X pins D) X.xe r) X.xe { s' with heap := g3 } := by
          rw [fr]
          exact HandSPX.setFlight_upZ dn fun g4 k4 up4 => wpAny_throw (take _ _ ⟨a, B, sI, pins, τ, G, cl, d, rfl, J, nb, (up.trans up3).trans up4, .inr (.inr (st ▸ k4)), ga, eo, ag, wish⟩)
        first | exact wpAny_bind (wpAny_pure (wpAny_bind out)) | exact wpAny_bind out
      | @cons x n k b su p1 p2 hd2 l2 C m2 ih =>
        intro wish
        obtain ⟨v, isK, yes, no⟩ := wish
        refine wpAny_handleBy_cons (codeAny_handlers_test ?_) nofun
        have tyA : PySem.W.Looks (model X.prog X.w) g3 (typeOf (.ref a)) cl := fun A Q E r k q => wpAny_typeOf_ref (k _ _ ho) (zo.1.symm ▸ q)
        have ans := PySem.W.exm_one (M := model X.prog X.w) (J3.kIn) tyA isK
        have reads : ∀ {Q E : Value → Shared → Prop}, Q k.1 { s' with heap := g3 } → wpAny (model X.prog X.w) (X.A.mark (some (.ref a))) (eval (.Name x p1) X.env) Q E { s' with heap := g3 } := fun {Q E} q => by
          rcases C.names with ⟨n1, n2, n3 | ⟨n3, n4, n5⟩⟩
          · exact ld_glob (X := X.suite a ((a, o3) :: (X.pn ++ pins))) S3 n1 n3 q n2
          · exact ld_blt (X := X.suite a ((a, o3) :: (X.pn ++ pins))) S3 n1 n3 n4 q n5 n2
        refine reads (ans.here ?_)
        cases v with
        | false => exact ih (no rfl)
        | true =>
          apply codeAny_handlers_suite_as
          refine HandSPX.lands_againZ dn fun g4 dn4 up4 => ?_
          have J4 : Inv X pins τ G { s' with heap := g4 } := J.landed nb dn4.1 ((up.trans up3).trans up4) eo ag
          obtain ⟨o4, v4, h4, z4, f4⟩ := dn4.there
          refine store_ok (X := X.suite a ((a, o4) :: (X.pn ++ pins))) (v := .ref a) (J4.suite h4 f4 ga aL aF) nd C.at_ (.inl C.loc) rfl (fun s5 S5 => ?_) (.inr C.loc)
          refine wpAny_mono ((C.run a o4 cl d (X.pn ++ pins) z4 ⟨_, f4⟩).run [] s5 _ G _ S5 (yes rfl a ga)) (fun f s6 e => ?_) (fun _ _ z => z.elim)
          have bye : ∀ {σ6 : L2.St} {H6 : Hp} {Q : Shared → Prop}, Inv (X.suite a ((a, o4) :: (X.pn ++ pins))) [] σ6 H6 s6 → (∀ s7, Inv X pins (σ6.set k.2.1 none) H6 s7 → Q s7) →
              wpAny (model X.prog X.w) X.A (do bindName X.env n .none; unbindBehindTheSuite X.env n p2) (fun _ s7 => Q s7) X.xe s6 := fun S6 q => gone_ok (S6.unsuite okX) nd C.at_ C.loc q
          cases f with
          | ret u =>
            obtain ⟨v6, σ6, H6, S6, r6, q6⟩ := e
            exact bye S6 fun s7 J7 => ⟨_, _, _, J7, r6, q6⟩
          | _ =>
            obtain ⟨σ6, H6, S6, q6⟩ := e
            exact bye S6 fun s7 J7 => ⟨_, _, J7, q6⟩
    exact each all (wish J.len)
  · cases f with
    | next =>
      obtain ⟨τ, G, J, q⟩ := e
      exact wpAny_execs_nil ⟨τ, G, J.ofTry okX, q⟩
    | ret u =>
      obtain ⟨v, τ, G, J, r, q⟩ := e
      exact ⟨v, τ, G, J.ofTry okX, r, q⟩
    | _ =>
      obtain ⟨τ, G, J, q⟩ := e
      exact ⟨τ, G, J.ofTry okX, q⟩
end
end L2

/-! error classes of the program that keep their argument: made, raised, caught, asked for their class -/
namespace L2
open PySem PySem.Spec PyProof.Rows
/-- what stands of an error class C with the field f; its __init__ at fI -/
structure ErrC (K : PySem.W.Frag) (mg : Str → Option Value) (x f : Str) (C fI : Addr) : Prop where
  gC : mg x = some (.ref C)
  ox : OexC K C
  no : PySem.W.findIn K (.ref C) f = some none
  iC : PySem.W.findIn K (.ref C) "__init__" = some (some (.ref fI))
  tI : PySem.W.typeIn K (.ref fI) = some (.type "function")
  ga : PySem.W.findIn K (.ref C) "__getattribute__" = some (some (.builtin "BaseException.__getattribute__"))
  gg : PySem.W.findIn K (.ref C) "__getattr__" = some none
  hd : PySem.W.hasDictIn K C = true
  ac : PySem.W.findIn K (.ref C) "__class__" = some (some (.builtin "object.__class__"))
  gt : PySem.W.specialIn K (.builtin "object.__class__") "__get__" = some (some (.builtin "getset_descriptor.__get__"))
  tk : PySem.W.takesIn K (.builtin "object.__class__") = some true
  ob : PySem.W.mroIn K C (.type "object") = some true
theorem ErrC.xf {K : PySem.W.Frag} {mg : Str → Option Value} {x f : Str} {C fI : Addr} (T : ErrC K mg x f C fI) : XfC K C := ⟨T.ga, T.gg, T.ox.exC, T.hd⟩
theorem ErrC.cl {K : PySem.W.Frag} {mg : Str → Option Value} {x f : Str} {C fI : Addr} (T : ErrC K mg x f C fI) : (PySem.W.clsIn K C).isSome = true := by
  obtain ⟨cd, hc, _⟩ := PySem.W.any_some T.hd
  rw [hc]
  rfl
def spErr (C : Addr) (f : Str) : Sp := fun vs H Q _ => ∃ (a : Addr) (v : V), vs = [.ref a, v] ∧ H a = some (exo a C none) ∧ ∀ dx, H dx = none → dx ≠ a → Q .non (upd (upd H dx (exd dx [(f, v)])) a (exo a C (some dx)))
theorem ok_err {P : Program} {w : World} {K : PySem.W.Frag} {mg : Str → Option Value} {base : Heap} {qual f x par : Str} {st : Stmt} {fI C : Addr} {fd : FuncData} {p1 p2 p3 p4 : Pos} (F : Fun K "__init__" qual st fI fd) (T : ErrC K mg x f C fI)
    (hB : defBody st = [.Assign [.Attribute (.Name "self" p1) f p2] (.Name par p3) p4]) (S : FnScope ["self", par] ["self", par] (defScope st)) (v0 : Vis (defScope st) "self") (v1 : Vis (defScope st) par)
    (d0 : (par == ("__debug__" : Str)) = false := by decide) (d1 : (par == ("__classdict__" : Str)) = false := by decide) : FnOk P w K mg base CX0 1 fI fd ["self", par] (spErr C f) := by
  refine F.ok S (fun vs H Q E h => ?_) (fun cdv A outer s H vs Q E hr h => ?_)
  · obtain ⟨a, v, rfl, _⟩ := h
    rfl
  · obtain ⟨a, v, rfl, e, q⟩ := h
    rw [hB]
    refine ⟨_, pss_one (ps_ost (pe_var (i := 0) rfl v0 (by decide) (by decide)) (pe_var (i := 1) rfl v1 d0 d1)), ?_⟩
    exact ⟨_, rfl, _, rfl, a, C, rfl, T.ox, T.no, .inl ⟨e, fun dx n ne => q dx n ne⟩⟩
theorem mkErr {C : Addr} {f : Str} {v : V} {H1 : Hp} {Q : XK} (h : ∀ H' d, Same H1 H' → H1 d = none → H' d = some (.xd [(f, v)]) → Q (.ref C) (some d) H') :
    [v].length ≤ 1000 ∧ ∀ a, H1 a = none → spErr C f (.ref a :: ([v] ++ [])) (upd H1 a (exo a C none))
      (fun u H2 => u = .non ∧ ∃ (d : Addr) (fs : List (Str × V)), H2 a = some (exo a C (some d)) ∧ H2 d = some (exd d fs) ∧ H1 d = none ∧ Q (.ref C) (some d) (upd (del H2 a) d (.xd fs))) (fun _ _ _ => False) := by
  refine ⟨(by decide : 1 ≤ 1000), fun a na => ⟨a, v, rfl, upd_same, fun dx nd ne => ⟨rfl, dx, [(f, v)], upd_same, (upd_ne ne).trans upd_same, ?_, ?_⟩⟩⟩
  · rwa [upd_ne ne] at nd
  · rw [upd_ne ne] at nd
    refine h _ dx (fun b o e => ?_) nd upd_same
    have n1 : b ≠ a := ne_of_none e na
    have n2 : b ≠ dx := ne_of_none e nd
    rw [upd_ne n2, del_ne n1, upd_ne n1, upd_ne n2, upd_ne n1]
    exact e
/-- isinstance(e, c) of the caught error with its dict -/
def rIsX (K : PySem.W.Frag) (D a : Addr) (cls : Value) (d : Option Addr) : List V → Hp → VK → Prop := fun xs H Q =>
  ∃ (c : V) (cv : Value) (b : Bool) (dd : Addr) (fs : List (Str × V)), xs = [.ref a, c] ∧ ClsV c cv ∧ cls = .ref D ∧ d = some dd ∧ H dd = some (.xd fs) ∧ PySem.W.kitOne K (.ref D) cv = some b ∧ Q (.bl b) H
theorem call_isX {X : Cx} {a D fI : Addr} {x f : Str} {oe : Obj} {cls : Value} {d : Option Addr} {pn : List (Addr × Obj)} (T : ErrC X.K X.mg x f D fI) (hz : Zc cls d oe) (hf : ∃ vs, oe.data = .fields vs) :
    CallR (X.suite a ((a, oe) :: pn)) (.builtin "isinstance") (rIsX X.K D a cls d) := by
  intro pins s σ H xs us Q I r h
  obtain ⟨c, cv, b, dd, fs, rfl, k, rfl, rfl, hd, e, q⟩ := h
  cases r with
  | cons rx rr =>
    cases rr with
    | cons rt rr =>
      cases rr
      cases rx
      have ec := k.eq rt
      subst ec
      obtain ⟨hget, _⟩ := I.pin (a, oe) (List.mem_append_left _ List.mem_cons_self)
      obtain ⟨vs, hv⟩ := hf
      have hx : ObjOk X.prog X.w H s.heap dd (.xd fs) := I.hok dd _ hd
      obtain ⟨mA, hns, _⟩ := hx
      obtain ⟨od, ho, _⟩ := lookIn_ns hns
      have J : PySem.W.InstAt s.heap a oe D (some od) := ⟨hget, hz.1, by unfold PySem.W.notCls; rw [hv] <;> rfl, by rw [hz.2]; exact ho⟩
      exact PySem.W.kia_one (PySem.W.kitx_exc T.cl T.ga T.gg T.ox.exC T.ac T.gt T.tk T.ob) I.kIn J e (fun z => nomatch z) fun tk => ⟨.bl b, H, I.kept (t' := tk) fun _ _ z => z, rfl, q⟩
theorem TyX.same {K : PySem.W.Frag} {H H' : Hp} {v : V} {t : Value} (ty : TyX K H v t) (s : Same H H') : TyX K H' v t := by
  cases ty with
  | base b =>
    cases b with
    | non => exact .base .non
    | bl y => exact .base (.bl y)
    | int i => exact .base (.int i)
    | str y => exact .base (.str y)
    | flt y => exact .base (.flt y)
    | lst e => exact .base (.lst (s _ _ e))
    | frz e => exact .base (.frz (s _ _ e))
    | tup e => exact .base (.tup (s _ _ e))
    | dK e => exact .base (.dK (s _ _ e))
    | dT e => exact .base (.dT (s _ _ e))
    | ins e cl ha hn htk hm => exact .base (.ins (s _ _ e) cl ha hn htk hm)
  | byt b => exact .byt b
  | set e => exact .set (s _ _ e)
  | kList e c => exact .kList e c
  | kTuple e c => exact .kTuple e c
  | kDict e c => exact .kDict e c
  | fTuple e => exact .fTuple (s _ _ e)
  | fDict e => exact .fDict (s _ _ e)
end L2

/-! error classes over any built-in error: made, raised, caught, asked for their class (X0 has those over ValueError) -/
namespace PySem.HandSPX
open PySem PySem.W PySem.Calls PyProof.Rows Builtin Builtin.ObjectAttr
theorem passAE (self : Value) : refuseLoop self "__setattr__" [.type "ArithmeticError", .type "Exception", .type "BaseException", .type "object"] = pure () := by kernel_rfl
theorem passLE (self : Value) : refuseLoop self "__setattr__" [.type "LookupError", .type "Exception", .type "BaseException", .type "object"] = pure () := by kernel_rfl
section
variable {prog : Program} {w : World} {A : Around} {R : Result → Shared → Prop} {hp : Heap} {g : Array GenState} {dr : Drawn} {tk0 : Nat} {os : OsState}
/-- the first attribute of an error, whatever built-in error its class is over -/
theorem gm_store {K : W.Frag} {nm : Str} {tk : Tok} {v : Value} {x C : Addr} {fv : Array Value} {cd : ClassData} (X : K.In hp) (hx : hp.get? x = some { cls := .ref C, data := .fields fv }) (hcd : W.clsIn K C = some cd)
    (full : cd.mro.isEmpty = false) (hob : cd.mro.contains (.type "object") = true) (pass : refuseLoop (.ref x) "__setattr__" cd.mro = pure ()) (hh : cd.hasDict = true) (ha : W.findIn K (.ref C) nm = some none)
    (done : ∀ h1 tk1 dx, (∀ b o, b ≠ x → hp.get? b = some o → h1.get? b = some o) → hp.objs.size ≤ dx → dx ≠ x → h1.get? x = some { cls := .ref C, dict := some dx, data := .fields fv } → h1.Ns1 dx (fun y => if y = nm then some v else none) → R (.ok (.ret .none)) ⟨h1, g, dr, tk1, os⟩) :
    codeAny (model prog w) A (.call (.builtin "object.__setattr__") ⟨[.ref x, .str nm tk, v], []⟩) R ⟨hp, g, dr, tk0, os⟩ := by
  have J : W.InstAt hp x { cls := .ref C, data := .fields fv } C none := ⟨hx, rfl, rfl, trivial⟩
  have S := F.store_object
  have off : x ≠ hp.objs.size := Nat.ne_of_lt (Heap.lt_size hx)
  have mroO : W.mroIn K C (.type "object") = some true := by
    unfold W.mroIn
    rw [hcd, Option.bind_some, if_neg (by rw [full]; decide), hob]
  have isO : W.Looks (model prog w) hp (isInstance (.ref x) (.type "object")) true := J.type.andThen (W.looks_mroIn X mroO)
  refine codeAny_call_builtin S.slot.plain S.entry (@W.check_slot (model prog w) _ _ ⟨hp, g, dr, tk0, os⟩ "object.__setattr__" "object" "__setattr__" (.ref x) [.str nm tk, v] [] _ S.kind S.split isO (S.args (.ref x) (.str nm tk) v) ?_)
  have look : W.Looks (model prog w) hp (classData C) cd := W.looks_clsIn X hcd
  have order : W.Looks (model prog w) hp (mroOf (.ref C)) cd.mro := look.andThen .now
  have none3 : W.Looks (model prog w) hp (storeTaker? none) none := .now
  rw [W.osa_eq, refuse_eq]
  refine wpAny_bind <| wpAny_bind <| J.type.at <| wpAny_bind <| order.at ?_
  rw [pass]
  refine wpAny_pure <| wpAny_bind <| J.type.at <| wpAny_bind <| (W.looks_findIn X ha).at <| wpAny_bind <| none3.at ?_
  show wpAny _ _ (storeInOwnDict (.ref x) (.ref C) (.str nm tk) nm v false) _ _ _
  obtain ⟨c1, c2, c3, c4, c5, c6, c7, c8, c9, c10, c11⟩ := cd
  dsimp only at hh
  subst hh
  unfold storeInOwnDict ownDictForStores
  repeat (first | (with_reducible refine store_in_new ?_ ?_) | (with_reducible refine wpAny_loadPart_at hx ?_) | (with_reducible refine look.at ?_) | wp_step)
  · exact ⟨_, #[], _, (Heap.get?_update_ne _ _ _ _ off.symm).trans (Heap.get?_push_at rfl rfl), rfl, (fun e he => absurd he (by simp)), fun _ => rfl⟩
  intro h1 tk1 hn1 same
  have hx1 : (hp.push { cls := .type "dict", data := .dict #[] }).get? x = some { cls := .ref C, data := .fields fv } := Heap.get?_push_of_some _ hx
  refine done h1 tk1 hp.objs.size (fun b o nb e => ?_) (Nat.le_refl _) off.symm ?_ hn1
  · exact (same.2 b (Nat.ne_of_lt (Heap.lt_size e))).trans ((Heap.get?_update_ne _ _ _ _ nb).trans (Heap.get?_push_of_some _ e))
  · exact (same.2 x off).trans (Heap.get?_update_self _ hx1 rfl)
end
end PySem.HandSPX
namespace L2
open PySem PySem.Spec PyProof.Rows
/-- what the written part says of an error class over some built-in error -/
structure OexB (K : PySem.W.Frag) (C : Addr) : Prop where
  cls : ∃ (nm q : Str) (N : Addr) (bs bm sub bmB : List Value) (sn : List Str) (ab : Bool) (col : Option Bool) (dd : Option Addr) (k0 k1 k2 k3 k5 : Option Value) (B newId initId : String),
    K.lookup C = some (excClassObj nm q C N bs bm true sn sub ab col dd k0 k1 k2 k3 k5 newId) ∧ ExcBaseFacts B newId initId bmB ∧ (∀ Y : String, bm.contains (.type Y) = bmB.contains (.type Y)) ∧ (∀ self : Value, refuseLoop self "__setattr__" bm = pure ()) ∧ bmB.contains (.type "object") = true
  sa : PySem.W.findIn K (.ref C) "__setattr__" = some (some (.builtin "object.__setattr__"))
  exC : PySem.W.subIn K (.ref C) (.type "BaseException") = some true
  tyC : PySem.W.typeIn K (.ref C) = some (.type "type")
  kC : PySem.W.keepIn K (.ref C) = true
theorem OexC.toB {K : PySem.W.Frag} {C : Addr} (T : OexC K C) : OexB K C := by
  obtain ⟨nm, q, N, bs, bm, sn, sub, ab, col, dd, k0, k1, k2, k3, k5, hC, hbm⟩ := T.cls
  exact ⟨⟨nm, q, N, bs, bm, sub, _, sn, ab, col, dd, k0, k1, k2, k3, k5, _, _, _, hC, PySem.F.excBase_ValueError, fun Y => PySem.HandSPX.refsVE_contains Y bm hbm, fun self => PySem.HandSPX.refsVE_pass self bm hbm, by decide +kernel⟩, T.sa, T.exC, T.tyC, T.kC⟩
section
variable {X : Cx} {pins : List (Addr × Obj)} {σ : St} {H : Hp} {s : Shared} {a C : Addr} {f : Str} {y : V} {u : Value} {Q : Unit → Shared → Prop} {E : Value → Shared → Prop} {A : Around}
theorem gm_first (T : OexB X.K C) (I : Inv X pins σ H s) (e : H a = some (exo a C none)) (hno : PySem.W.findIn X.K (.ref C) f = some none) (ry : RelV y u)
    (h : ∀ dx s', H dx = none → dx ≠ a → Inv X pins σ (upd (upd H dx (exd dx [(f, y)])) a (exo a C (some dx))) s' → Q () s') : wpAny (model X.prog X.w) A (setAttr (.ref a) f u) Q E s := by
  obtain ⟨nm, q, N, bs, bm, sub, bmB, sn, ab, col, dd, k0, k1, k2, k3, k5, B, n1, n2, hC, FB, has, pass, ob⟩ := T.cls
  have hcl : PySem.W.clsIn X.K C = some { name := nm, bases := bs, mro := .ref C :: bm, ns := N, qualname := q, hasDict := true, slotNames := sn, subclasses := sub, abstract := ab, collection := col, hasDel := false } := by
    unfold PySem.W.clsIn
    rw [hC] <;> rfl
  obtain ⟨t1, ho⟩ := exo_at I.hok e
  obtain ⟨hp, g, d, t, os⟩ := s
  refine PySem.W.set_plain I.kIn (od := none) (ox := { cls := .ref C, dict := none, data := .fields #[.ref t1, .none, .none, .none, .bool false, .none] }) ⟨ho, rfl, rfl, trivial⟩ T.sa ?_
  refine PySem.HandSPX.gm_store I.kIn ho hcl rfl (show (Value.ref C :: bm).contains (.type "object") = true from by rw [List.contains_cons, has, ob, Bool.or_true]) ((PySem.refuseLoop_ref _ _ C bm).trans (pass _)) rfl hno fun h' tk' dx k dn dne hx hn => ?_
  have hnd : H dx = none := I.hok.fresh dn
  have nd : ∀ {b : Addr} {o : Obj}, hp.get? b = some o → b ≠ dx := fun {b o} z => Nat.ne_of_lt (Nat.lt_of_lt_of_le (Heap.lt_size z) dn)
  have na : ∀ {b : Addr}, H b = none → b ≠ a := fun {b} n z => by
    rw [z, e] at n
    cases n
  have U : Un X.fs [] H (upd (upd H dx (exd dx [(f, y)])) a (exo a C (some dx))) hp h' := by
    constructor
    · intro b o z n _ _
      exact k b o (na n) z
    · intro b o z n _ _
      exact ⟨o.slots, k b o (na n) z⟩
    · intro b o z n _
      rw [upd_ne (na n), upd_ne (nd z)]
      exact n
    · intro b o z _
      by_cases hb : b = a
      · rw [hb]
        exact ⟨_, hx⟩
      · exact ⟨o, k b o hb z⟩
    · intro b xs z
      rw [upd_ne (at_ne e z exo_tup), upd_ne (ne_of_none z hnd)]
      exact z
    · intro b o v z
      rw [upd_ne (at_ne e z exo_frz), upd_ne (ne_of_none z hnd)]
      exact z
    · intro b ps z
      refine ⟨#[], ?_⟩
      rw [upd_ne (at_ne e z exo_tbl), upd_ne (ne_of_none z hnd), z]
      simp
  refine h dx _ hnd dne (I.un (t' := tk') U fun b o z => ?_)
  by_cases hb : b = a
  · subst hb
    rw [upd_same] at z
    cases z
    exact exo_ok hx
  rw [upd_ne hb] at z
  by_cases hd : b = dx
  · subst hd
    rw [upd_same] at z
    cases z
    exact exd_ok hn (relO_put (fs := []) ry fun _ => True.intro)
  rw [upd_ne hd] at z
  refine (I.hok b o z).stay (fun c v hc y => k c v ?_ y) (fun c hc => ?_) (fun c xs hc => ?_)
  · rcases hc with hc | hc
    · rw [hc]
      exact hb
    · exact at_ne e hc exo_own
  · rw [upd_ne (at_ne e hc exo_own), upd_ne (ne_of_none hc hnd)]
    exact hc
  · rw [upd_ne (at_ne e hc exo_tup), upd_ne (ne_of_none hc hnd)]
    exact hc
end
/-- self.f = e, the first attribute of an error -/
def tOstB (K : PySem.W.Frag) (f : Str) (to te : TE) : TS := fun D σ H => te σ H fun y H1 => to σ H1 fun x H2 => ∃ a C : Addr, x = .ref a ∧ OexB K C ∧ PySem.W.findIn K (.ref C) f = some none ∧
  H2 a = some (exo a C none) ∧ ∀ dx, H2 dx = none → dx ≠ a → D.nx σ (upd (upd H2 dx (exd dx [(f, y)])) a (exo a C (some dx)))
section
variable {X : Cx} {o e : Expr} {es : List Expr} {to te : TE} {ta : TA} {f : Str} {p p' pos : Pos}
theorem ps_ostB (ho : PE X o to) (he : PE X e te) (hs : swapsWith e (some (.Attribute o f p')) pos.line X.env = pure false := by rfl) : PS X (.Assign [.Attribute o f p'] e pos) (tOstB X.K f to te) := by
  constructor
  intro pins s σ H D I h
  refine plainObj_wpAny_Assign_Attribute (thn (he.run pins s σ H _ I h) fun v s1 h1 => ?_) hs
  obtain ⟨y, H1, I1, r1, q1⟩ := h1
  refine thn (ho.run pins s1 σ H1 _ I1 q1) fun u s2 h2 => ?_
  obtain ⟨x, H2, I2, r2, a, C, rfl, T, hno, ea, q⟩ := h2
  obtain rfl : u = Value.ref a := r2
  exact gm_first T I2 ea hno r1 fun dx s' n ne J => ⟨σ, _, J, q dx n ne⟩
theorem pmk_oexB {CX : CXT} {x : Str} {C fI : Addr} {k : Nat} {fd : FuncData} {ps : List Str} {sp : Sp} (T : OexB X.K C) (iC : PySem.W.findIn X.K (.ref C) "__init__" = some (some (.ref fI))) (tI : PySem.W.typeIn X.K (.ref fI) = some (.type "function"))
    (F1 : FnOk X.prog X.w X.K X.mg X.base CX k fI fd ps sp) (hr : Room (k + 1) X.A) (hb : Binds X.K fd ps []) (hx : Passes CX X (fun _ _ _ => False)) (hg : Gl X x) (hm : X.mg x = some (.ref C)) (ha : PA X (e :: es) ta)
    (hdb : (x == ("__debug__" : Str)) = false := by decide) (he : starEach (e :: es) X.env = (false, eval e X.env) :: starEach es X.env := by rfl) (hpl : (backTo pos (starEach es X.env)).any (·.1) = false := by rfl) :
    PMk X (.Call (.Name x p) (e :: es) [] pos) (tMkO C sp [] ta) := by
  intro pins s σ H Q I h
  obtain ⟨nm, q, N, bs, bm, sub, bmB, sn, ab, col, dd, k0, k1, k2, k3, k5, B, n1, n2, hC, FB, has, pass, ob⟩ := T.cls
  refine wpAny_Call_Name_kw (ld_glob I hg hm ?_ hdb)
  refine PySem.W.callWith_K (h₀ := X.base) I.ok.mod.kin T.kC (thn (ha.run pos pins s σ H _ I h) fun us s1 h1 => ?_) he hpl
  obtain ⟨vs, H1, I1, r1, hz, q1⟩ := h1
  refine ⟨I1.kIn, ?_⟩
  show wpAny _ _ (call (.ref C) us) _ _ _
  obtain ⟨hp, g, dr, tk, os⟩ := s1
  obtain ⟨top, etop⟩ : ∃ z, z = hp.objs.size + 1 := ⟨_, rfl⟩
  have hsz : hp.objs.size ≤ top := etop ▸ Nat.le_succ _
  have hq := q1 top (I1.hok.fresh hsz)
  have kk : ∀ b o, hp.get? b = some o → ((hp.push (PySem.W.kdv_tup us)).push (PySem.HandSPX.excO C hp.objs.size)).get? b = some o := fun b o z => Heap.get?_push_of_some _ (Heap.get?_push_of_some _ z)
  have hget : ((hp.push (PySem.W.kdv_tup us)).push (PySem.HandSPX.excO C hp.objs.size)).get? top = some (PySem.HandSPX.excO C hp.objs.size) := by
    rw [etop]
    heap_get
  have I2 : Inv X pins σ (upd H1 top (exo top C none)) ⟨(hp.push (PySem.W.kdv_tup us)).push (PySem.HandSPX.excO C hp.objs.size), g, dr, tk, os⟩ := I1.laid (t' := tk) kk hsz (exo_ok hget)
  have r2 : Vals (V.ref top :: (vs ++ [])) (Value.ref top :: (us ++ [])) := .cons rfl (r1.append .nil)
  have hl : (Value.ref top :: us ++ []).length = ps.length := by
    have z := r2.length
    rw [F1.len _ _ _ _ hq] at z
    exact z.symm
  have hus : us.length ≤ sizeLine := by
    rw [← Paired.length r1, sizeLine_eq]
    omega
  have bound : BindsTo ⟨(hp.push (PySem.W.kdv_tup us)).push (PySem.HandSPX.excO C hp.objs.size), g, dr, tk, os⟩ fd ⟨Value.ref top :: us, []⟩ (ps.zip (Value.ref top :: us ++ [])) := hb _ (Value.ref top :: us) I2.kIn hl
  have run := F1.run _ X.stack _ _ ⟨Value.ref top :: us, []⟩ (Value.ref top :: us ++ []) _ _ (fun _ _ _ => False) (hr.make C us []) (I2.env0.make C us []) bound r2 hq
  subst etop
  refine wpAny_call (PySem.HandSPX.call_own FB has (I1.kIn _ _ hC) (PySem.W.looks_findIn I1.kIn iC) (fun self => PySem.W.bind_fn I1.kIn self tI) hus (codeAny_mono run fun r s' hq' => ?_))
  match r, hq' with
  | .error er, hq' => exact hx pins σ _ _ er s' I2 hq'
  | .ok (.ret u), hq' =>
    obtain ⟨v, H2, os2, bare2, un2, hok2, rv, ev, d, fs, ea, ed, hd1, q2⟩ := hq'
    subst ev
    obtain ⟨h2, g2, d2, t2, os'⟩ := s'
    exact ⟨rv, mk_end (raises_own T.exC T.tyC) I1 hsz kk un2 hok2 os2 bare2 ea ed hd1 q2⟩
end
/-- an error class with one attribute, over any built-in error -/
structure ErrB (K : PySem.W.Frag) (mg : Str → Option Value) (x f : Str) (C fI : Addr) : Prop where
  gC : mg x = some (.ref C)
  ox : OexB K C
  no : PySem.W.findIn K (.ref C) f = some none
  iC : PySem.W.findIn K (.ref C) "__init__" = some (some (.ref fI))
  tI : PySem.W.typeIn K (.ref fI) = some (.type "function")
  ga : PySem.W.findIn K (.ref C) "__getattribute__" = some (some (.builtin "BaseException.__getattribute__"))
  gg : PySem.W.findIn K (.ref C) "__getattr__" = some none
  hd : PySem.W.hasDictIn K C = true
  ac : PySem.W.findIn K (.ref C) "__class__" = some (some (.builtin "object.__class__"))
  gt : PySem.W.specialIn K (.builtin "object.__class__") "__get__" = some (some (.builtin "getset_descriptor.__get__"))
  tk : PySem.W.takesIn K (.builtin "object.__class__") = some true
  ob : PySem.W.mroIn K C (.type "object") = some true
section
variable {K : PySem.W.Frag} {mg : Str → Option Value} {x f : Str} {C fI : Addr}
theorem ErrC.toB (T : ErrC K mg x f C fI) : ErrB K mg x f C fI := ⟨T.gC, T.ox.toB, T.no, T.iC, T.tI, T.ga, T.gg, T.hd, T.ac, T.gt, T.tk, T.ob⟩
theorem ErrB.xf (T : ErrB K mg x f C fI) : XfC K C := ⟨T.ga, T.gg, T.ox.exC, T.hd⟩
theorem ErrB.cl (T : ErrB K mg x f C fI) : (PySem.W.clsIn K C).isSome = true := by
  obtain ⟨cd, hc, _⟩ := PySem.W.any_some T.hd
  rw [hc]
  rfl
end
theorem ok_errB {P : Program} {w : World} {K : PySem.W.Frag} {mg : Str → Option Value} {base : Heap} {qual f x par : Str} {st : Stmt} {fI C : Addr} {fd : FuncData} {p1 p2 p3 p4 : Pos} (F : Fun K "__init__" qual st fI fd) (T : ErrB K mg x f C fI)
    (hB : defBody st = [.Assign [.Attribute (.Name "self" p1) f p2] (.Name par p3) p4]) (S : FnScope ["self", par] ["self", par] (defScope st)) (v0 : Vis (defScope st) "self") (v1 : Vis (defScope st) par)
    (d0 : (par == ("__debug__" : Str)) = false := by decide) (d1 : (par == ("__classdict__" : Str)) = false := by decide) : FnOk P w K mg base CX0 1 fI fd ["self", par] (spErr C f) := by
  refine F.ok S (fun vs H Q E h => ?_) (fun cdv A outer s H vs Q E hr h => ?_)
  · obtain ⟨a, v, rfl, _⟩ := h
    rfl
  · obtain ⟨a, v, rfl, e, q⟩ := h
    rw [hB]
    refine ⟨_, pss_one (ps_ostB (pe_var (i := 0) rfl v0 (by decide) (by decide)) (pe_var (i := 1) rfl v1 d0 d1)), ?_⟩
    exact ⟨_, rfl, _, rfl, a, C, rfl, T.ox, T.no, e, fun dx n ne => q dx n ne⟩
theorem call_isXB {X : Cx} {a D fI : Addr} {x f : Str} {oe : Obj} {cls : Value} {d : Option Addr} {pn : List (Addr × Obj)} (T : ErrB X.K X.mg x f D fI) (hz : Zc cls d oe) (hf : ∃ vs, oe.data = .fields vs) :
    CallR (X.suite a ((a, oe) :: pn)) (.builtin "isinstance") (rIsX X.K D a cls d) := by
  intro pins s σ H xs us Q I r h
  obtain ⟨c, cv, b, dd, fs, rfl, k, rfl, rfl, hd, e, q⟩ := h
  cases r with
  | cons rx rr =>
    cases rr with
    | cons rt rr =>
      cases rr
      cases rx
      have ec := k.eq rt
      subst ec
      obtain ⟨hget, _⟩ := I.pin (a, oe) (List.mem_append_left _ List.mem_cons_self)
      obtain ⟨vs, hv⟩ := hf
      have hx : ObjOk X.prog X.w H s.heap dd (.xd fs) := I.hok dd _ hd
      obtain ⟨mA, hns, _⟩ := hx
      obtain ⟨od, ho, _⟩ := lookIn_ns hns
      have J : PySem.W.InstAt s.heap a oe D (some od) := ⟨hget, hz.1, by unfold PySem.W.notCls; rw [hv] <;> rfl, by rw [hz.2]; exact ho⟩
      exact PySem.W.kia_one (PySem.W.kitx_exc T.cl T.ga T.gg T.ox.exC T.ac T.gt T.tk T.ob) I.kIn J e (fun z => nomatch z) fun tk => ⟨.bl b, H, I.kept (t' := tk) fun _ _ z => z, rfl, q⟩
end L2

/-! errors as values: made by position and by keyword, asked for their class, read -/
namespace PySem.HandSPX
open PySem PySem.W PySem.Calls PyProof.Rows Builtin Builtin.ObjectAttr
section
variable {M : Model} {A : Around} {E : Value → Shared → Prop} {h : Heap} {g : Array GenState} {d : Drawn} {t : Nat} {os : OsState}
variable {nm q : Str} {C N : Addr} {bs bm bmB : List Value} {hdct : Bool} {sn : List Str} {sub : List Value} {ab : Bool} {col : Option Bool} {dd : Option Addr} {k0 k1 k2 k3 k5 : Option Value} {B newId initId : String}
theorem gm_checkKw (F : ExcBaseFacts B newId initId bmB) (hT : ∀ X : String, bm.contains (.type X) = bmB.contains (.type X)) {kw : List (Str × Value)} {Q : Unit → Shared → Prop}
    (hC : h.get? C = some (excClassObj nm q C N bs bm hdct sn sub ab col dd k0 k1 k2 k3 k5 newId)) (hq : Q () ⟨h, g, d, t, os⟩) : wpAny M A (checkBuiltinCall newId ⟨[.ref C], kw⟩) Q E ⟨h, g, d, t, os⟩ := by
  have inB : (Value.ref C :: bm).contains (.type B) = true := by rw [List.contains_cons, hT, F.hasB, Bool.or_true]
  have st := F.noStar
  simp only [checkBuiltinCall, F.newKind, F.newSplit, F.newRow]
  repeat (first | (refine wpAny_loadPart_at hC ?_) | ((refine wpAny_isSubtype_exc hC ?_); rw [inB]) | (refine wpAny_staticBase_exc hC ?_) | (refine wpAny_madeBy_exc hC ?_) | (simp only [bne_self_eq_false, Bool.false_eq_true, if_false]) | wp_step)
  exact hq
end
section
variable {prog : Program} {w : World} {A : Around} {E : Value → Shared → Prop} {R : Result → Shared → Prop} {h : Heap} {g : Array GenState} {d : Drawn} {t : Nat} {os : OsState}
variable {nm q : Str} {C N : Addr} {bs bm bmB : List Value} {hdct : Bool} {sn : List Str} {sub : List Value} {ab : Bool} {col : Option Bool} {dd : Option Addr} {k0 k1 k2 k3 k5 : Option Value} {B newId initId : String}
theorem gm_newKw (F : ExcBaseFacts B newId initId bmB) (hT : ∀ X : String, bm.contains (.type X) = bmB.contains (.type X)) {kw : List (Str × Value)}
    (hC : h.get? C = some (excClassObj nm q C N bs bm hdct sn sub ab col dd k0 k1 k2 k3 k5 newId))
    (hq : R (.ok (.ret (.ref (h.objs.size + 1)))) ⟨(h.push { cls := .type "tuple", data := .seq ([] : List Value).toArray }).push { cls := .ref C, data := .fields #[.ref h.objs.size, .none, .none, .none, .bool false, .none] }, g, d, t, os⟩) :
    codeAny (model prog w) A (.builtin newId ⟨[.ref C], kw⟩) R ⟨h, g, d, t, os⟩ := by
  have en := F.ends
  have inB : (Value.ref C :: bm).contains (.type B) = true := by rw [List.contains_cons, hT, F.hasB, Bool.or_true]
  have inA : (Value.ref C :: bm).contains (.type "AttributeError") = false := by rw [List.contains_cons, hT, F.noAttr] <;> rfl
  have inN : (Value.ref C :: bm).contains (.type "NameError") = false := by rw [List.contains_cons, hT, F.noName] <;> rfl
  refine codeAny_builtinAt F.entry ?_
  unfold Builtin.«BaseException.__new__»
  refine wpAt_bind ?_
  show wpAt _ _ _ (stack >>= _) _ _ _
  refine wpAt_bind (wpAt_stack fun p below => wpAt_of_wpAny ?_)
  wp_walk
  refine wpAt_of_wpAny ?_
  rw [F.owner]
  have hrest : ([] : List Value).length ≤ sizeLine := Nat.zero_le _
  repeat (first | (with_reducible refine wpAny_madeHere_exc F.canon hC ?_) | (with_reducible refine wpAny_loadPart_at hC ?_) | ((with_reducible refine wpAny_isSubtype_exc hC ?_); first | rw [inB] | rw [inA] | rw [inN]) | wp_step)
  show R _ _
  rw [Heap.size_push]
  exact hq
theorem gm_checkType {M : Model} {kw : List (Str × Value)} {Q : Unit → Shared → Prop} (hC : h.get? C = some (excClassObj nm q C N bs bm hdct sn sub ab col dd k0 k1 k2 k3 k5 newId)) (hq : Q () ⟨h, g, d, t, os⟩) :
    wpAny M A (checkBuiltinCall "type.__call__" ⟨[.ref C], kw⟩) Q E ⟨h, g, d, t, os⟩ := by
  have f3 := tc_sub
  have isT : (⟨h, g, d, t, os⟩ : Shared).TypeIs (.ref C) "type" := ⟨_, hC, rfl⟩
  simp only [checkBuiltinCall, tc_kind, tc_split]
  repeat (any_goals (first | assumption | (with_reducible refine wpAny_loadPart_at hC ?_) | (with_reducible refine wpAny_onRaise ?_) | (with_reducible refine wpAny_map ?_) | wp_step))
theorem gm_typeKw (F : ExcBaseFacts B newId initId bmB) (hT : ∀ X : String, bm.contains (.type X) = bmB.contains (.type X)) {kw : List (Str × Value)} {fI : Addr} {Q : Fin → Shared → Prop}
    (hC : h.get? C = some (excClassObj nm q C N bs bm hdct sn sub ab col dd k0 k1 k2 k3 k5 newId))
    (hi : W.Looks (model prog w) h (typeLookup (.ref C) "__init__") (some (.ref fI))) (hb : ∀ self, W.Looks (model prog w) h (bindSpecial (.ref fI) self) (.ref fI, [self]))
    (hq : codeAny (model prog w) A (.call (.ref fI) ⟨[.ref (h.objs.size + 1)], kw⟩)
      (fun r s' => match r with | .ok (.ret v) => v = .none ∧ Q (.done (.ret (.ref (h.objs.size + 1)))) s' | .ok _ => False | .error e => E e s')
      ⟨(h.push (W.kdv_tup [])).push (excO C h.objs.size), g, d, t, os⟩) :
    wpAny (model prog w) A (Builtin.«type.__call__» ⟨[.ref C], kw⟩) Q E ⟨h, g, d, t, os⟩ := by
  repeat (first | (with_reducible refine wpAny_loadPart_at hC ?_) | (with_reducible refine wpAny_madeBy_exc hC ?_) | wp_step)
  refine codeAny_call_builtin_code (Code.quiet_builtin _ F.quiet) (gm_checkKw F hT hC ?_)
  refine gm_newKw F hT hC ?_
  show wpAny _ _ _ _ _ _
  have k : ∀ b o, h.get? b = some o → ((h.push (W.kdv_tup [])).push (excO C h.objs.size)).get? b = some o := fun b o z => Heap.get?_push_of_some _ (Heap.get?_push_of_some _ z)
  have hC1 := k _ _ hC
  have at1 : ((h.push (W.kdv_tup [])).push (excO C h.objs.size)).get? (h.objs.size + 1) = some (excO C h.objs.size) := by heap_get
  have inC : (Value.ref C :: bm).contains (.ref C) = true := by simp
  have i1 := hi.keeps k
  have b1 := (hb (.ref (h.objs.size + 1))).keeps k
  unfold isInstance
  repeat (first | (with_reducible refine wpAny_loadPart_at at1 ?_) | ((with_reducible refine wpAny_isSubtype_exc hC1 ?_); rw [inC]) | wp_step)
  show wpAny _ _ (typeLookup (.ref C) _) _ _ _
  refine i1.at ?_
  refine wpAny_holding (wpAny_bind (b1.at ?_))
  refine wpAny_bind (wpAny_call (codeAny_mono hq fun r s' z => ?_))
  match r, z with
  | .error e, z => exact z
  | .ok (.ret v), z =>
    obtain ⟨rfl, z⟩ := z
    first
      | exact wpAny_pure (wpAny_pure z)
      | (wp_walk; exact z)
theorem gm_callKw (F : ExcBaseFacts B newId initId bmB) (hT : ∀ X : String, bm.contains (.type X) = bmB.contains (.type X)) {kw : List (Str × Value)} {fI : Addr}
    (hC : h.get? C = some (excClassObj nm q C N bs bm hdct sn sub ab col dd k0 k1 k2 k3 k5 newId))
    (hi : W.Looks (model prog w) h (typeLookup (.ref C) "__init__") (some (.ref fI))) (hb : ∀ self, W.Looks (model prog w) h (bindSpecial (.ref fI) self) (.ref fI, [self]))
    (hq : codeAny (model prog w) (A.under (.builtin "type.__call__" ⟨[.ref C], kw⟩)) (.call (.ref fI) ⟨[.ref (h.objs.size + 1)], kw⟩) (W.InitBack (h.objs.size + 1) R) ⟨(h.push (W.kdv_tup [])).push (excO C h.objs.size), g, d, t, os⟩) :
    codeAny (model prog w) A (.call (.ref C) ⟨[], kw⟩) R ⟨h, g, d, t, os⟩ := by
  have f1 := tc_lookup
  have f2 := tc_bind (.ref C)
  have isT : (⟨h, g, d, t, os⟩ : Shared).TypeIs (.ref C) "type" := ⟨_, hC, rfl⟩
  refine codeAny_of_tree ?_
  show wpAny _ _ (callAny (.ref C) _) _ _ _
  repeat (any_goals (first | assumption | (with_reducible refine wpAny_loadPart_at hC ?_) | wp_step))
  refine ⟨rfl, ?_⟩
  refine codeAny_call_builtin_at (Code.quiet_builtin _ (by decide +kernel)) entry_typeCall (gm_checkType hC (gm_typeKw F hT hC hi hb ?_))
  refine codeAny_mono hq fun r s' z => ?_
  rcases r with e | (v | _ | _ | _) <;> exact z
end
end PySem.HandSPX

/-! errors as values: made by position and by keyword, asked for their class, read -/
namespace L2
open PySem PySem.Spec PyProof.Rows
/-- C(e, ..), as a value -/
def tMkV (C : Addr) (sp : Sp) (ta : TA) : TE := fun σ H Q => ta σ H fun vs H1 => vs.length ≤ 1000 ∧ ∀ a, H1 a = none → sp (.ref a :: (vs ++ [])) (upd H1 a (exo a C none)) (fun v H2 => v = .non ∧ Q (.ref a) H2) (fun _ _ _ => False)
/-- C(k = v), as a value -/
def tMkVK (C : Addr) (m : Nat) (sp : Sp) (gV : List V → List V → List V) (tk : TA) : TE := fun σ H Q => tk σ H fun zs H1 => zs.length = m ∧ ∀ a, H1 a = none → sp (gV [.ref a] zs) (upd H1 a (exo a C none)) (fun v H2 => v = .non ∧ Q (.ref a) H2) (fun _ _ _ => False)
section
variable {X : Cx} {CX : CXT} {x : Str} {C fI : Addr} {k : Nat} {fd : FuncData} {ps ks : List Str} {sp : Sp} {e : Expr} {es : List Expr} {kws : List Keyword} {ta tk : TA} {p pos : Pos} {g : List Value → List Value → List Value} {gV : List V → List V → List V}
theorem pe_mkV (T : OexB X.K C) (iC : PySem.W.findIn X.K (.ref C) "__init__" = some (some (.ref fI))) (tI : PySem.W.typeIn X.K (.ref fI) = some (.type "function"))
    (F1 : FnOk X.prog X.w X.K X.mg X.base CX k fI fd ps sp) (hr : Room (k + 1) X.A) (hb : Binds X.K fd ps []) (hx : Passes CX X (fun _ _ _ => False)) (hg : Gl X x) (hm : X.mg x = some (.ref C)) (ha : PA X (e :: es) ta)
    (hdb : (x == ("__debug__" : Str)) = false := by decide) (he : starEach (e :: es) X.env = (false, eval e X.env) :: starEach es X.env := by rfl) (hpl : (backTo pos (starEach es X.env)).any (·.1) = false := by rfl) :
    PE X (.Call (.Name x p) (e :: es) [] pos) (tMkV C sp ta) := by
  refine ⟨fun pins s σ H Q I h => ?_⟩
  obtain ⟨nm, q, N, bs, bm, sub, bmB, sn, ab, col, dd, k0, k1, k2, k3, k5, B, n1, n2, hC, FB, has, pass, ob⟩ := T.cls
  refine wpAny_Call_Name_kw (ld_glob I hg hm ?_ hdb)
  refine PySem.W.callWith_K (h₀ := X.base) I.ok.mod.kin T.kC (thn (ha.run pos pins s σ H _ I h) fun us s1 h1 => ?_) he hpl
  obtain ⟨vs, H1, I1, r1, hz, q1⟩ := h1
  refine ⟨I1.kIn, ?_⟩
  show wpAny _ _ (call (.ref C) us) _ _ _
  obtain ⟨hp, gg, dr, tk0, os⟩ := s1
  have hsz : hp.objs.size ≤ hp.objs.size + 1 := Nat.le_succ _
  have hq := q1 (hp.objs.size + 1) (I1.hok.fresh hsz)
  have kk : ∀ b o, hp.get? b = some o → ((hp.push (PySem.W.kdv_tup us)).push (PySem.HandSPX.excO C hp.objs.size)).get? b = some o := fun b o z => Heap.get?_push_of_some _ (Heap.get?_push_of_some _ z)
  have hget : ((hp.push (PySem.W.kdv_tup us)).push (PySem.HandSPX.excO C hp.objs.size)).get? (hp.objs.size + 1) = some (PySem.HandSPX.excO C hp.objs.size) := by heap_get
  have I2 : Inv X pins σ (upd H1 (hp.objs.size + 1) (exo (hp.objs.size + 1) C none)) ⟨(hp.push (PySem.W.kdv_tup us)).push (PySem.HandSPX.excO C hp.objs.size), gg, dr, tk0, os⟩ := I1.laid (t' := tk0) kk hsz (exo_ok hget)
  have r2 : Vals (V.ref (hp.objs.size + 1) :: (vs ++ [])) (Value.ref (hp.objs.size + 1) :: (us ++ [])) := .cons rfl (r1.append .nil)
  have hl : (Value.ref (hp.objs.size + 1) :: us ++ []).length = ps.length := by
    have z := r2.length
    rw [F1.len _ _ _ _ hq] at z
    exact z.symm
  have hus : us.length ≤ sizeLine := by
    rw [← Paired.length r1, sizeLine_eq]
    omega
  have bound : BindsTo ⟨(hp.push (PySem.W.kdv_tup us)).push (PySem.HandSPX.excO C hp.objs.size), gg, dr, tk0, os⟩ fd ⟨Value.ref (hp.objs.size + 1) :: us, []⟩ (ps.zip (Value.ref (hp.objs.size + 1) :: us ++ [])) := hb _ (Value.ref (hp.objs.size + 1) :: us) I2.kIn hl
  have run := F1.run _ X.stack _ _ ⟨Value.ref (hp.objs.size + 1) :: us, []⟩ (Value.ref (hp.objs.size + 1) :: us ++ []) _ _ (fun _ _ _ => False) (hr.make C us []) (I2.env0.make C us []) bound r2 hq
  refine wpAny_call (PySem.HandSPX.call_own FB has (I1.kIn _ _ hC) (PySem.W.looks_findIn I1.kIn iC) (fun self => PySem.W.bind_fn I1.kIn self tI) hus (codeAny_mono run fun r s' hq' => ?_))
  match r, hq' with
  | .error er, hq' => exact hx pins σ _ _ er s' I2 hq'
  | .ok (.ret u), hq' =>
    obtain ⟨v, H', I3, rv, ev, q3⟩ := I2.after hq'
    subst ev
    exact ⟨rv, ⟨V.ref (hp.objs.size + 1), H', I3, rfl, q3⟩⟩
theorem pe_mkVK (T : OexB X.K C) (iC : PySem.W.findIn X.K (.ref C) "__init__" = some (some (.ref fI))) (tI : PySem.W.typeIn X.K (.ref fI) = some (.type "function"))
    (F1 : FnOk X.prog X.w X.K X.mg X.base CX k fI fd ps sp) (hr : Room (k + 1) X.A) (hb : KBn X.K fd ps 1 ks g gV) (hx : Passes CX X (fun _ _ _ => False)) (hg : Gl X x) (hm : X.mg x = some (.ref C)) (hkw : PK X kws tk)
    (hall : (backToKw pos (keywordEach kws X.env)).all (·.1.isSome) = true := by rfl) (hks : (backToKw pos (keywordEach kws X.env)).filterMap (·.1) = ks := by rfl) (hdb : (x == ("__debug__" : Str)) = false := by decide)
    (hpl : ((backTo pos (starEach [] X.env)).any (·.1) || (backToKw pos (keywordEach kws X.env)).any (·.1.isNone)) = false := by rfl) :
    PE X (.Call (.Name x p) [] kws pos) (tMkVK C ks.length sp gV tk) := by
  refine ⟨fun pins s σ H Q I h => ?_⟩
  obtain ⟨nm, q, N, bs, bm, sub, bmB, sn, ab, col, dd, k0, k1, k2, k3, k5, B, n1, n2, hC, FB, has, pass, ob⟩ := T.cls
  refine wpAny_Call_Name_kw (ld_glob I hg hm ?_ hdb)
  refine PySem.W.callWith_KW0 (h₀ := X.base) I.ok.mod.kin T.kC hall ?_ hpl
  refine thn (hkw.run pos pins s σ H _ I h) fun ws s1 ⟨zs, H1, I1, rz, l1, q1⟩ => ⟨I1.kIn, ?_⟩
  rw [hks]
  show wpAny _ _ (call (.ref C) [] (ks.zip ws)) _ _ _
  obtain ⟨hp, gg, dr, tk0, os⟩ := s1
  have hsz : hp.objs.size ≤ hp.objs.size + 1 := Nat.le_succ _
  have hq := q1 (hp.objs.size + 1) (I1.hok.fresh hsz)
  have kk : ∀ b o, hp.get? b = some o → ((hp.push (PySem.W.kdv_tup [])).push (PySem.HandSPX.excO C hp.objs.size)).get? b = some o := fun b o z => Heap.get?_push_of_some _ (Heap.get?_push_of_some _ z)
  have hget : ((hp.push (PySem.W.kdv_tup [])).push (PySem.HandSPX.excO C hp.objs.size)).get? (hp.objs.size + 1) = some (PySem.HandSPX.excO C hp.objs.size) := by heap_get
  have I2 : Inv X pins σ (upd H1 (hp.objs.size + 1) (exo (hp.objs.size + 1) C none)) ⟨(hp.push (PySem.W.kdv_tup [])).push (PySem.HandSPX.excO C hp.objs.size), gg, dr, tk0, os⟩ := I1.laid (t' := tk0) kk hsz (exo_ok hget)
  have r1 : Vals [V.ref (hp.objs.size + 1)] [Value.ref (hp.objs.size + 1)] := .cons rfl .nil
  have r2 := hb.rel r1 rz
  have bound := hb.to _ [Value.ref (hp.objs.size + 1)] ws I2.kIn rfl (rz.length.symm.trans l1)
  have run := F1.run _ X.stack _ _ ⟨[Value.ref (hp.objs.size + 1)], ks.zip ws⟩ (g [Value.ref (hp.objs.size + 1)] ws) _ _ (fun _ _ _ => False) (hr.make C [] (ks.zip ws)) (I2.env0.make C [] (ks.zip ws)) bound r2 hq
  refine wpAny_call (PySem.HandSPX.gm_callKw FB has (I1.kIn _ _ hC) (PySem.W.looks_findIn I1.kIn iC) (fun self => PySem.W.bind_fn I1.kIn self tI) (codeAny_mono run fun r s' hq' => ?_))
  match r, hq' with
  | .error er, hq' => exact hx pins σ _ _ er s' I2 hq'
  | .ok (.ret u), hq' =>
    obtain ⟨v, H', I3, rv, ev, q3⟩ := I2.after hq'
    subst ev
    exact ⟨rv, ⟨V.ref (hp.objs.size + 1), H', I3, rfl, q3⟩⟩
/-- C(), a class without own __init__ -/
theorem pe_mkV0 {bmB : List Value} {B newId initId : String} (F : ExcBaseFacts B newId initId bmB) (q : PySem.W.excIn X.K C bmB newId = true) (gC : X.mg x = some (.ref C)) (kC : PySem.W.keepIn X.K (.ref C) = true) (hg : Gl X x)
    (hdb : (x == ("__debug__" : Str)) = false := by decide) :
    PE X (.Call (.Name x p) [] [] pos) (fun σ H Q => ∀ a, H a = none → Q (.ref a) (upd H a (ExO (.ref C) a))) := by
  refine ⟨fun pins s σ H Q I h => ?_⟩
  refine wpAny_Call_Name_kw (ld_glob I hg gC ?_ hdb)
  refine PySem.W.callWith_K0 (I.tok _).kIn kC ?_
  show wpAny _ _ (call (.ref C) []) _ _ _
  obtain ⟨bm, N, nm, qn, bs, hdct, sn, sub, ab, col, dd, k0, k1, k2, k3, k5, mN, hC, hN, hni, T⟩ := exc_obj (I.tok _).kIn q
  refine wpAny_call_exc_subT F T hC hN hni (fun h' a hm => ?_) (Nat.zero_le _)
  have hn : H a = none := I.hok.gone hm.new
  obtain ⟨t, ht, _, _⟩ := hm.there
  exact ⟨.ref a, upd H a (ExO (.ref C) a), I.laidN hm.keeps hm.new hn (exO_ok ht ⟨rfl, rfl⟩ rfl rfl rfl (show 4 < 6 by decide)), rfl, h a hn⟩
end
/-- at a stands an error of the class C with these attributes -/
def ErAt (H : Hp) (a C : Addr) (fs : List (Str × V)) : Prop := (fs = [] ∧ H a = some (ExO (.ref C) a)) ∨ ∃ dx, H a = some (exo a C (some dx)) ∧ H dx = some (exd dx fs)
/-- what a class of errors has for its instances to be asked and read -/
structure ErI (K : PySem.W.Frag) (C : Addr) : Prop where
  cl : (PySem.W.clsIn K C).isSome = true
  ga : PySem.W.findIn K (.ref C) "__getattribute__" = some (some (.builtin "BaseException.__getattribute__"))
  gg : PySem.W.findIn K (.ref C) "__getattr__" = some none
  ex : PySem.W.subIn K (.ref C) (.type "BaseException") = some true
  hd : PySem.W.hasDictIn K C = true
  ac : PySem.W.findIn K (.ref C) "__class__" = some (some (.builtin "object.__class__"))
  gt : PySem.W.specialIn K (.builtin "object.__class__") "__get__" = some (some (.builtin "getset_descriptor.__get__"))
  tk : PySem.W.takesIn K (.builtin "object.__class__") = some true
  ob : PySem.W.mroIn K C (.type "object") = some true
theorem ErrB.erI {K : PySem.W.Frag} {mg : Str → Option Value} {x f : Str} {C fI : Addr} (T : ErrB K mg x f C fI) : ErI K C := ⟨T.cl, T.ga, T.gg, T.ox.exC, T.hd, T.ac, T.gt, T.tk, T.ob⟩
section
variable {X : Cx} {pins : List (Addr × Obj)} {σ : St} {H : Hp} {s : Shared} {a C : Addr} {fs : List (Str × V)}
theorem er_inst (I : Inv X pins σ H s) (h : ErAt H a C fs) : ∃ (oe : Obj) (od : Option Obj), PySem.W.InstAt s.heap a oe C od ∧ ∀ f v, fs.lookup f = some v → ∃ o u, od = some o ∧ PySem.W.lookIn f o = some (some u) ∧ RelV v u := by
  rcases h with ⟨rfl, e⟩ | ⟨dx, e, ed⟩
  · obtain ⟨⟨oe, vs, ho, hz, hd, _⟩, _, _⟩ := I.hok a _ e
    obtain ⟨oc, od, oda, osl⟩ := oe
    obtain ⟨h1, h2⟩ := hz
    dsimp only at h1 h2 hd
    subst h1 h2 hd
    exact ⟨_, none, ⟨ho, rfl, rfl, trivial⟩, fun f v z => nomatch z⟩
  · obtain ⟨t1, ho⟩ := exo_at I.hok e
    obtain ⟨mA, hns, rel⟩ := exd_at I.hok ed
    obtain ⟨od, ho2, hl⟩ := lookIn_ns hns
    refine ⟨_, some od, ⟨ho, rfl, rfl, ho2⟩, fun f v z => ?_⟩
    obtain ⟨u, hu, ru⟩ := RelO.some_of (v := v) (o := mA f) (by rw [← z]; exact rel f)
    exact ⟨od, u, rfl, by rw [hl, hu], ru⟩
/-- isinstance(e, c) of an error that is held -/
def rErI (K : PySem.W.Frag) : List V → Hp → VK → Prop := fun xs H Q =>
  ∃ (a C : Addr) (fs : List (Str × V)) (c : V) (cv : Value) (b : Bool), xs = [.ref a, c] ∧ ErAt H a C fs ∧ ErI K C ∧ ClsV c cv ∧ PySem.W.kitOne K (.ref C) cv = some b ∧ Q (.bl b) H
theorem call_erI : CallR X (.builtin "isinstance") (rErI X.K) := by
  intro pins s σ H xs us Q I r h
  obtain ⟨a, C, fs, c, cv, b, rfl, hat, T, k, e, q⟩ := h
  cases r with
  | cons rx rr =>
    cases rr with
    | cons rt rr =>
      cases rr
      cases rx
      have ec := k.eq rt
      subst ec
      obtain ⟨oe, od, J, _⟩ := er_inst I hat
      exact PySem.W.kia_one (PySem.W.kitx_exc T.cl T.ga T.gg T.ex T.ac T.gt T.tk T.ob) I.kIn J e (fun z => nomatch z) fun tk => ⟨.bl b, H, I.kept (t' := tk) fun _ _ z => z, rfl, q⟩
/-- e.f of an error that is held -/
def tErF (K : PySem.W.Frag) (f : Str) (te : TE) : TE := fun σ H Q => te σ H fun x H1 => ∃ (a C : Addr) (fs : List (Str × V)) (v : V), x = .ref a ∧ ErAt H1 a C fs ∧ ErI K C ∧ PySem.W.findIn K (.ref C) f = some none ∧ fs.lookup f = some v ∧ Q v H1
theorem pe_erF {e : Expr} {te : TE} {pos : Pos} {n : Str} (he : PE X e te) (hb : attributeBase e n X.env (eval e X.env) = eval e X.env := by rfl) : PE X (.Attribute e n pos) (tErF X.K n te) := by
  refine ⟨fun pins s σ H Q I h => ?_⟩
  refine attr_of hb (thn (he.run pins s σ H _ I h) fun u s1 hh => ?_)
  obtain ⟨x, H1, I1, rx, a, C, fs, v, ex, hat, T, hno, l, q⟩ := hh
  subst ex
  obtain rfl : u = Value.ref a := rx
  obtain ⟨oe, od, J, hl⟩ := er_inst I1 hat
  obtain ⟨o, u, rfl, hu, ru⟩ := hl n v l
  exact PySem.HandSPX.exc_get I1.kIn J T.ga T.gg T.ex (PySem.W.findObj_own T.hd hno rfl hu) (handed_of ru) ⟨v, H1, I1.tok _, ru, q⟩
end
end L2

/-! o.m(k = v, ..); C(e, .., *y) -/
namespace L2
open PySem PySem.Spec PyProof.Rows
section
variable {X : Cx} {CX : CXT} {k : Nat} {f C : Addr} {fd : FuncData} {ps ks : List Str} {sp : Sp} {E : XK} {x m : Str} {o e : Expr} {es : List Expr} {kws : List Keyword} {ta : TE} {t tk : TA} {p pos apos : Pos} {g : List Value → List Value → List Value} {gV : List V → List V → List V}
def tMethK (C : Addr) (m : Str) (n : Nat) (sp : Sp) (gV : List V → List V → List V) (E : XK) (ta : TE) (tk : TA) : TE := fun σ H Q => ta σ H fun x H1 => ∃ a dx fs, x = .ref a ∧ H1 a = some (.ins C dx fs) ∧ fs.lookup m = none ∧
  tk σ H1 fun zs H2 => zs.length = n ∧ sp (gV [x] zs) H2 Q E
/-- o.m(k = v, ..), keywords alone -/
theorem pe_methK0 {pl : Sem Bool} (he : PE X o ta) (c : Cls X.K C) (hm : Meth X.K C m f) (F : FnOk X.prog X.w X.K X.mg X.base CX k f fd ps sp) (hr : Room k X.A) (hb : KBn X.K fd ps 1 ks g gV) (hx : Passes CX X E) (hkw : PK X kws tk)
    (hall : (backToKw pos (keywordEach kws X.env)).all (·.1.isSome) = true := by rfl) (hks : (backToKw pos (keywordEach kws X.env)).filterMap (·.1) = ks := by rfl)
    (hpl : ((backTo pos (starEach [] X.env)).any (·.1) || (backToKw pos (keywordEach kws X.env)).any (·.1.isNone)) = false := by rfl)
    (ht : eval (.Call (.Attribute o m apos) [] kws pos) X.env = (do
      let ov ← eval o X.env
      standAt apos.atName
      let (f, first) ← holding [ov] (getMethod ov m pl)
      callWith pos f first (backTo pos (starEach [] X.env)) (backToKw pos (keywordEach kws X.env))) := by rfl) :
    PE X (.Call (.Attribute o m apos) [] kws pos) (tMethK C m ks.length sp gV E ta tk) := by
  constructor
  intro pins s σ H Q I h
  refine PySem.W.methodCall_KW (pl := pl) (thn (he.run pins s σ H _ I h) fun u s1 hh => ?_) ht
  obtain ⟨y, H1, I1, ry, a, dx, fs, rfl, ea, l, q⟩ := hh
  obtain rfl : u = Value.ref a := ry
  refine getmeth_ok I1 ea c hm l ?_
  refine PySem.W.callWith_KW0 (first := [.ref a]) (h₀ := X.base) I.ok.mod.kin hm.kp hall (thn (hkw.run pos pins s1 σ H1 _ I1 q) fun ws s2 h2 => ?_) hpl
  obtain ⟨zs, H2, I2, rz, lz, q2⟩ := h2
  refine ⟨I2.kIn, ?_⟩
  rw [hks]
  exact run_fnN (us := [.ref a]) (vs := [.ref a]) F hr hb hx I2 (.cons rfl .nil) rz rfl lz q2
/-- C(e, .., *y, ..) -/
theorem pe_makeS2 (M : Mk X.K C f) (F : FnR X.prog X.w X.K X.mg X.base CX k f sp) (hr : Room (k + 1) X.A) (hg : Gl X x) (hm : X.mg x = some (.ref C)) (hx : Passes CX X E) (ha : PA X (e :: es) t) (hdb : (x == ("__debug__" : Str)) = false := by decide)
    (he : starEach (e :: es) X.env = (false, eval e X.env) :: starEach es X.env := by rfl) (hst : (backTo pos (starEach es X.env)).any (·.1) = true := by rfl) : PE X (.Call (.Name x p) (e :: es) [] pos) (StX.tMakeR C sp E t) := by
  constructor
  intro pins s σ H Q I h
  refine wpAny_Call_Name_kw (ld_glob I hg hm ?_ hdb)
  refine PySem.W.callWith_S2 (h₀ := X.base) I.ok.mod.kin M.kp (thn (ha.run pos pins s σ H _ I h) fun us s1 hh => ?_) he hst
  obtain ⟨vs, H1, I1, r, q⟩ := hh
  exact ⟨I1.kIn, StX.run_makeR M F hr hx I1 r q⟩
end
end L2

/-! lists of errors, lists of answers of isinstance, how often True stands in a list -/
namespace L2
open PySem PySem.Spec PyProof.Rows
theorem ErAt.same {H H' : Hp} {a C : Addr} {fs : List (Str × V)} (h : ErAt H a C fs) (s : Same H H') : ErAt H' a C fs := by
  rcases h with ⟨rfl, e⟩ | ⟨dx, e, ed⟩
  · exact .inl ⟨rfl, s _ _ e⟩
  · exact .inr ⟨dx, s _ _ e, s _ _ ed⟩
/-- at these places stand errors of these classes, all with the one attribute's value v -/
inductive Ers (H : Hp) (v : V) : List Addr → List (Addr × Str) → Prop
  | nil : Ers H v [] []
  | cons {a C : Addr} {f : Str} {as : List Addr} {L : List (Addr × Str)} : ErAt H a C [(f, v)] → Ers H v as L → Ers H v (a :: as) ((C, f) :: L)
section
variable {H H' : Hp} {v : V} {as bs : List Addr} {L L' : List (Addr × Str)}
theorem Ers.same (h : Ers H v as L) (s : Same H H') : Ers H' v as L := by
  induction h with
  | nil => exact .nil
  | cons a _ ih => exact .cons (a.same s) ih
theorem Ers.app (h : Ers H v as L) (k : Ers H v bs L') : Ers H v (as ++ bs) (L ++ L') := by
  induction h with
  | nil => exact k
  | cons a _ ih => exact .cons a ih
theorem Ers.length (h : Ers H v as L) : as.length = L.length := by
  induction h with
  | nil => rfl
  | cons _ _ ih => rw [List.length_cons, List.length_cons, ih]
theorem Ers.get (h : Ers H v as L) {i : Nat} {a : Addr} (e : as[i]? = some a) : ∃ C f, (C, f) ∈ L ∧ ErAt H a C [(f, v)] := by
  induction h generalizing i with
  | nil => simp at e
  | @cons b C f as L x _ ih =>
    cases i with
    | zero =>
      simp at e
      subst e
      exact ⟨C, f, List.mem_cons_self, x⟩
    | succ i =>
      obtain ⟨C', f', m, y⟩ := ih (i := i) (by simpa using e)
      exact ⟨C', f', List.mem_cons_of_mem _ m, y⟩
end
theorem mkE {C : Addr} {f : Str} {v : V} {H1 : Hp} {Q : VK} (h : ∀ H' a, Same H1 H' → ErAt H' a C [(f, v)] → Q (.ref a) H') : ∀ a, H1 a = none → spErr C f [.ref a, v] (upd H1 a (exo a C none)) (fun u H2 => u = .non ∧ Q (.ref a) H2) (fun _ _ _ => False) := by
  intro a na
  refine ⟨a, v, rfl, upd_same, fun dx nd ne => ⟨rfl, ?_⟩⟩
  rw [upd_ne ne] at nd
  refine h _ a (fun b o e => ?_) (.inr ⟨dx, upd_same, (upd_ne ne).trans upd_same⟩)
  have n1 := ne_of_none e na
  have n2 := ne_of_none e nd
  rw [upd_ne n1, upd_ne n2, upd_ne n1]
  exact e
/-- C(x), x the local i -/
def tMk1 (i : Nat) (C : Addr) (f : Str) : TE := fun σ H Q => ∃ v, σ[i]? = some (some v) ∧ ∀ H' a, Same H H' → ErAt H' a C [(f, v)] → Q (.ref a) H'
def tMks (i : Nat) (L : List (Addr × Str)) : TA := fun σ H Q => ∃ v, σ[i]? = some (some v) ∧ ∀ H' as, Same H H' → Ers H' v as L → Q (as.map V.ref) H'
/-- [C(x), ..] -/
def tMkL (i : Nat) (L : List (Addr × Str)) : TE := fun σ H Q => ∃ v, σ[i]? = some (some v) ∧ ∀ H' as p, Same H H' → H p = none → H' p = some (.lst (as.map V.ref)) → Ers H' v as L → Q (.ref p) H'
/-- l + [C(x), ..], l the local j -/
def tMkC (j i : Nat) (L : List (Addr × Str)) : TE := fun σ H Q => ∃ v p as0 L0, σ[i]? = some (some v) ∧ σ[j]? = some (some (.ref p)) ∧ H p = some (.lst (as0.map V.ref)) ∧ Ers H v as0 L0 ∧ L0.length ≤ 1000 ∧
  ∀ H' as q, Same H H' → H q = none → H' q = some (.lst (as.map V.ref)) → Ers H' v as (L0 ++ L) → Q (.ref q) H'
theorem same_upd0 {H : Hp} {a : Addr} {o : HO} (n : H a = none) : Same H (upd H a o) := fun b u e => by rw [upd_ne (ne_of_none e n)]; exact e
theorem Same.thru {A B C : Hp} (x : Same A B) (y : Same B C) : Same A C := fun b o e => y _ _ (x _ _ e)
theorem sfree {A B : Hp} (x : Same A B) {p : Addr} (n : B p = none) : A p = none := by
  cases e : A p with
  | none => rfl
  | some o =>
    have := x _ _ e
    rw [n] at this
    cases this
section
variable {X : Cx} {i j : Nat} {x f n par : Str} {C fI : Addr} {fd : FuncData} {p1 p pos : Pos} {e e2 : Expr} {es : List Expr} {L : List (Addr × Str)}
theorem pe_mk1 (T : ErrB X.K X.mg x f C fI) (F1 : FnOk X.prog X.w X.K X.mg X.base CX0 1 fI fd ["self", par] (spErr C f)) (hr : Room 2 X.A) (hb : Binds X.K fd ["self", par] []) (hg : Gl X x) (hv : PE X (.Name n p1) (tVar i)) (hdb : (x == ("__debug__" : Str)) = false := by decide) :
    PE X (.Call (.Name x p) [.Name n p1] [] pos) (tMk1 i C f) := by
  refine ⟨fun pins s σ H Q I ⟨v, hi, q⟩ => ?_⟩
  refine (pe_mkV T.ox T.iC T.tI F1 hr hb pass0 hg T.gC (pa_cons hv pa_nil) hdb).run pins s σ H Q I ?_
  exact ⟨v, hi, (by show 1 ≤ 1000; decide), mkE fun H' a s' h => q H' a s' h⟩
theorem pe_mkK1 {g : List Value → List Value → List Value} (T : ErrB X.K X.mg x f C fI) (F1 : FnOk X.prog X.w X.K X.mg X.base CX0 1 fI fd ["self", par] (spErr C f)) (hr : Room 2 X.A) {gV : List V → List V → List V} (gv : ∀ a v, gV [.ref a] [v] = [.ref a, v]) (hb : KBn X.K fd ["self", par] 1 [par] g gV) (hg : Gl X x) (hv : PE X (.Name n p1) (tVar i)) (kp : Pos)
    (hall : (backToKw pos (keywordEach [⟨some par, .Name n p1, kp⟩] X.env)).all (·.1.isSome) = true := by rfl) (hks : (backToKw pos (keywordEach [⟨some par, .Name n p1, kp⟩] X.env)).filterMap (·.1) = [par] := by rfl) (hdb : (x == ("__debug__" : Str)) = false := by decide)
    (hpl : ((backTo pos (starEach [] X.env)).any (·.1) || (backToKw pos (keywordEach [⟨some par, .Name n p1, kp⟩] X.env)).any (·.1.isNone)) = false := by rfl) :
    PE X (.Call (.Name x p) [] [⟨some par, .Name n p1, kp⟩] pos) (tMk1 i C f) := by
  refine ⟨fun pins s σ H Q I ⟨v, hi, q⟩ => ?_⟩
  refine (pe_mkVK T.ox T.iC T.tI F1 hr hb pass0 hg T.gC (pk_cons hv pk_nil) hall hks hdb hpl).run pins s σ H Q I ?_
  refine ⟨v, hi, rfl, ?_⟩
  intro a na
  show spErr C f (gV [.ref a] [v]) _ _ _
  rw [gv]
  exact mkE (fun H' a s' h => q H' a s' h) a na
theorem pa_mk0 : PA X [] (tMks i []) := ⟨fun pos pins s σ H Q I ⟨v, hi, q⟩ => (pa_nil).run pos pins s σ H Q I (q H [] (fun _ _ e => e) .nil)⟩
theorem pa_mk (h : PE X e (tMk1 i C f)) (hs : PA X es (tMks i L)) (hst : starEach (e :: es) X.env = (false, eval e X.env) :: starEach es X.env := by rfl) : PA X (e :: es) (tMks i ((C, f) :: L)) :=
  ⟨fun pos pins s σ H Q I ⟨v, hi, q⟩ => (pa_cons h hs hst).run pos pins s σ H Q I ⟨v, hi, fun H1 a s1 h1 => ⟨v, hi, fun H2 as s2 h2 => q H2 (a :: as) (s1.thru s2) (.cons (h1.same s2) h2)⟩⟩⟩
theorem pe_mkL (hs : PA X es (tMks i L)) (hL : L.length ≤ 1000 := by decide) : PE X (.List es pos) (tMkL i L) :=
  ⟨fun pins s σ H Q I ⟨v, hi, q⟩ => (pe_lst hs).run pins s σ H Q I ⟨v, hi, fun H1 as s1 h1 => ⟨by rw [List.length_map, h1.length, sizeLine_eq]; omega, fun p np => q _ as p (s1.thru (same_upd0 np)) (sfree s1 np) upd_same (h1.same (same_upd0 np))⟩⟩⟩
theorem pe_mkC (ha : PE X e (tVar j)) (hs : PE X e2 (tMkL i L)) (hL : L.length ≤ 1000 := by decide) : PE X (.BinOp e .Add e2 pos) (tMkC j i L) :=
  ⟨fun pins s σ H Q I ⟨v, p, as0, L0, hi, hj, hp, h0, hn, q⟩ => (pe_op op_cat ha hs).run pins s σ H Q I
    ⟨.ref p, hj, v, hi, fun H1 as r s1 n1 hr h1 => ⟨p, r, _, _, rfl, rfl, s1 _ _ hp, hr, by rw [List.length_map, List.length_map, h0.length, h1.length, sizeLine_eq]; omega, fun z nz => q _ (as0 ++ as) z (s1.thru (same_upd0 nz)) (sfree s1 nz) (by rw [upd_same, List.map_append]) (((h0.same s1).app h1).same (same_upd0 nz))⟩⟩⟩
end
/-! isinstance(e, c), .. -/
def Kit (K : PySem.W.Frag) (C : Addr) (f : V → Bool) (ts : List V) : Prop := ∀ t ∈ ts, ∃ cv, ClsV t cv ∧ PySem.W.kitOne K (.ref C) cv = some (f t)
def tI1 (K : PySem.W.Frag) (i : Nat) (t : V) : TE := fun σ H Q => ∃ a C fs f, σ[i]? = some (some (.ref a)) ∧ ErAt H a C fs ∧ ErI K C ∧ Kit K C f [t] ∧ Q (.bl (f t)) H
def tIs (K : PySem.W.Frag) (i : Nat) (ts : List V) : TA := fun σ H Q => ∃ a C fs f, σ[i]? = some (some (.ref a)) ∧ ErAt H a C fs ∧ ErI K C ∧ Kit K C f ts ∧ Q (ts.map fun t => .bl (f t)) H
def tIL (K : PySem.W.Frag) (i : Nat) (ts : List V) : TE := fun σ H Q => ∃ a C fs f, σ[i]? = some (some (.ref a)) ∧ ErAt H a C fs ∧ ErI K C ∧ Kit K C f ts ∧ ∀ p, H p = none → Q (.ref p) (upd H p (.lst (ts.map fun t => .bl (f t))))
def tIC (K : PySem.W.Frag) (j i : Nat) (ts : List V) : TE := fun σ H Q => ∃ a C fs f p xs, σ[i]? = some (some (.ref a)) ∧ σ[j]? = some (some (.ref p)) ∧ H p = some (.lst xs) ∧ xs.length ≤ 1000 ∧ ErAt H a C fs ∧ ErI K C ∧ Kit K C f ts ∧
  ∀ H' q, Same H H' → H q = none → H' q = some (.lst (xs ++ ts.map fun t => .bl (f t))) → Q (.ref q) H'
section
variable {X : Cx} {i j : Nat} {n : Str} {p p1 pos : Pos} {e e2 : Expr} {es : List Expr} {t : V} {ts : List V}
theorem pe_i1 (hg : Gl X "isinstance") (hm : X.mg "isinstance" = none) (hv : PE X (.Name n p1) (tVar i)) (ht : PE X e (tC t)) (hst : starEach [e] X.env = (false, eval e X.env) :: starEach [] X.env := by rfl) : PE X (.Call (.Name "isinstance" p) [.Name n p1, e] [] pos) (tI1 X.K i t) :=
  ⟨fun pins s σ H Q I ⟨a, C, fs, f, hi, h, T, k, q⟩ => (pe_callB call_erI hg hm (by decide +kernel) (pa_cons hv (pa_cons ht pa_nil hst) (by rfl)) (hpl := by rw [hst]; rfl)).run pins s σ H Q I
    (by
      obtain ⟨cv, k1, k2⟩ := k t (List.mem_singleton.mpr rfl)
      exact ⟨_, hi, a, C, fs, t, cv, f t, rfl, h, T, k1, k2, q⟩)⟩
theorem pa_i0 : PA X [] (tIs X.K i []) := ⟨fun pos pins s σ H Q I ⟨a, C, fs, f, hi, h, T, k, q⟩ => (pa_nil).run pos pins s σ H Q I q⟩
theorem pa_i (h : PE X e (tI1 X.K i t)) (hs : PA X es (tIs X.K i ts)) (hst : starEach (e :: es) X.env = (false, eval e X.env) :: starEach es X.env := by rfl) : PA X (e :: es) (tIs X.K i (t :: ts)) :=
  ⟨fun pos pins s σ H Q I ⟨a, C, fs, f, hi, he, T, k, q⟩ => (pa_cons h hs hst).run pos pins s σ H Q I
    ⟨a, C, fs, f, hi, he, T, fun t' m => k t' (List.mem_cons.mpr (.inl (List.mem_singleton.mp m))), a, C, fs, f, hi, he, T, fun t' m => k t' (List.mem_cons_of_mem _ m), q⟩⟩
theorem pe_iL (hs : PA X es (tIs X.K i ts)) (hL : ts.length ≤ 1000 := by decide) : PE X (.List es pos) (tIL X.K i ts) :=
  ⟨fun pins s σ H Q I ⟨a, C, fs, f, hi, he, T, k, q⟩ => (pe_lst hs).run pins s σ H Q I ⟨a, C, fs, f, hi, he, T, k, by rw [List.length_map, sizeLine_eq]; omega, fun p np => q p np⟩⟩
theorem pe_iC (ha : PE X e (tVar j)) (hs : PE X e2 (tIL X.K i ts)) (hL : ts.length ≤ 1000 := by decide) : PE X (.BinOp e .Add e2 pos) (tIC X.K j i ts) :=
  ⟨fun pins s σ H Q I ⟨a, C, fs, f, p, xs, hi, hj, hp, hn, he, T, k, q⟩ => (pe_op op_cat ha hs).run pins s σ H Q I
    ⟨.ref p, hj, a, C, fs, f, hi, he, T, k, fun r nr => ⟨p, r, _, _, rfl, rfl, same_upd0 nr _ _ hp, upd_same, by rw [List.length_map, sizeLine_eq]; omega, fun z nz => q _ z ((same_upd0 nr).thru (same_upd0 nz)) (sfree (same_upd0 nr) nz) upd_same⟩⟩⟩
end
/-! l.count(True) -/
def eqT (v : Value) : Bool := match v with
  | .bool b => b
  | _ => false
theorem bools_of {bs : List Bool} : ∀ {us : List Value}, Vals (bs.map V.bl) us → us = bs.map Value.bool := by
  induction bs with
  | nil => intro us r; cases r; rfl
  | cons b bs ih =>
    intro us r
    cases r with
    | cons a r =>
      have h := ih r
      have h2 : _ = Value.bool b := a
      rw [h, h2]
      rfl
def rCntT (K : PySem.W.Frag) : V → List V → Hp → VK → Prop := fun x xs H Q => ∃ (p : Addr) (bs : List Bool), x = .ref p ∧ xs = [.bl true] ∧ SqL K H p (bs.map V.bl) ∧ Q (.int (bs.count true : Nat)) H
theorem mt_countT {X : Cx} : MtR X "list.count" (rCntT X.K) := by
  intro pins s σ H x xs v us Q I rx rxs h
  obtain ⟨p, bs, rfl, rfl, hs, q⟩ := h
  cases rx
  obtain ⟨u, rfl, ru⟩ := rxs.one
  obtain rfl : u = Value.bool true := ru
  obtain ⟨its, rv, ⟨⟨cls, dd, data, sl⟩, n, ho, hc, hdn, hd⟩, hlen⟩ := I.list hs
  simp only at hc hd
  subst hc hd
  have hi := bools_of rv
  refine call_meets PySem.F.slot_list_count ⟨_, ho, rfl⟩ PySem.F.entry_list_count (PySem.F.args_list_count_2 _ _)
    (SeqAt.list_countAt p its.toArray n dd sl (.bool true) eqT) ⟨ho, fun y hy => ?_, ?_⟩
  · have m : y ∈ its := by simpa using hy
    rw [hi] at m
    obtain ⟨b, _, rfl⟩ := List.mem_map.mp m
    have e : eqT (.bool b) = (b == true) := by cases b <;> rfl
    rw [e]
    exact SeqAt.EqAt.bool_bool b true
  · have ec : its.toArray.toList.countP eqT = bs.count true := by
      rw [List.toList_toArray, hi, List.countP_map]
      refine List.countP_congr fun b _ => ?_
      cases b <;> simp [eqT]
    refine ⟨.int (bs.count true : Nat), H, I.tok _, ⟨s.toks, ?_⟩, q⟩
    show Value.int ((its.toArray.toList.countP eqT : Nat) : Int) s.toks = Value.int ((bs.count true : Nat) : Int) s.toks
    rw [ec]
end L2

/-! things of any kind, as menus hold them -/
namespace L2
open PySem PySem.Spec PyProof.Rows
inductive Flat : V → PyData → Prop
  | non : Flat .non .none
  | bl (b : Bool) : Flat (.bl b) (.bool b)
  | int (i : Int) : Flat (.int i) (.int i)
  | str (x : Str) : Flat (.str x) (.str x)
inductive Flats : List V → List PyData → Prop
  | nil : Flats [] []
  | cons {v : V} {vs : List V} {d : PyData} {ds : List PyData} : Flat v d → Flats vs ds → Flats (v :: vs) (d :: ds)
/-- a thing that is not at p: its value, its data, its kind -/
inductive Thing (p : Addr) (H : Hp) : V → PyData → String → Prop
  | non : Thing p H .non .none "NoneType"
  | bl (b : Bool) : Thing p H (.bl b) (.bool b) "bool"
  | int (i : Int) : Thing p H (.int i) (.int i) "int"
  | str (x : Str) : Thing p H (.str x) (.str x) "str"
  | tup {a : Addr} {xs : List V} {ds : List PyData} : a ≠ p → H a = some (.tup xs) → Flats xs ds → Thing p H (.ref a) (.tuple ds) "tuple"
  | lst {a : Addr} {xs : List V} {ds : List PyData} : a ≠ p → H a = some (.lst xs) → Flats xs ds → Thing p H (.ref a) (.list ds) "list"
  | dic {a : Addr} : a ≠ p → H a = some (.dK []) → Thing p H (.ref a) (.dict []) "dict"
theorem Flat.dq {K : PySem.W.Frag} {H : Hp} {v : V} {d : PyData} (h : Flat v d) : Dq K H v d := by
  cases h with
  | non => exact .non
  | bl b => exact .bl b
  | int i => exact .int i
  | str x => exact .str x
theorem Flats.dq {K : PySem.W.Frag} {H : Hp} {vs : List V} {ds : List PyData} (h : Flats vs ds) : DqAll K H vs ds := by
  induction h with
  | nil => exact .nil
  | cons a _ ih => exact .cons a.dq ih
section
variable {K : PySem.W.Frag} {p : Addr} {H H' : Hp} {v : V} {d : PyData} {t : String}
/-- all but p and the tables of code objects stands as it stood -/
def Kp (p : Addr) (H H' : Hp) : Prop := ∀ b o, b ≠ p → (∀ ps, o ≠ .tbl ps) → H b = some o → H' b = some o
theorem Kp.refl : Kp p H H := fun _ _ _ _ e => e
theorem Kp.trans {H1 H2 H3 : Hp} (a : Kp p H1 H2) (b : Kp p H2 H3) : Kp p H1 H3 := fun c o n t e => b c o n t (a c o n t e)
theorem Kp.of (s : Same H H') : Kp p H H' := fun b o _ _ e => s b o e
theorem Kp.ext (s : LamX.ExtN H H') : Kp p H H' := fun b o _ t e => s b o e t
theorem Kp.but (s : ∀ b o, b ≠ p → H b = some o → H' b = some o) : Kp p H H' := fun b o n _ e => s b o n e
theorem Kp.new {q : Addr} {o : HO} (s : Kp p H H') (n : H q = none) : Kp p H (upd H' q o) := fun b u nb t e => by rw [upd_ne (ne_of_none e n)]; exact s b u nb t e
theorem Thing.keep (h : Thing p H v d t) (k : Kp p H H') : Thing p H' v d t := by
  cases h with
  | non => exact .non
  | bl b => exact .bl b
  | int i => exact .int i
  | str x => exact .str x
  | tup n e f => exact .tup n (k _ _ n (fun _ z => by cases z) e) f
  | lst n e f => exact .lst n (k _ _ n (fun _ z => by cases z) e) f
  | dic n e => exact .dic n (k _ _ n (fun _ z => by cases z) e)
theorem Thing.same (h : Thing p H v d t) (s : Same H H') : Thing p H' v d t := h.keep (.of s)
theorem Thing.ty (h : Thing p H v d t) : TyX K H v (.type t) := by
  cases h with
  | non => exact .base .non
  | bl b => exact .base (.bl b)
  | int i => exact .base (.int i)
  | str x => exact .base (.str x)
  | tup n e f => exact .base (.tup e)
  | lst n e f => exact .base (.lst e)
  | dic n e => exact .base (.dK e)
theorem Thing.dq (h : Thing p H v d t) : Dq K H v d := by
  cases h with
  | non => exact .non
  | bl b => exact .bl b
  | int i => exact .int i
  | str x => exact .str x
  | tup n e f => exact .tup (SqT.of e) f.dq
  | lst n e f => exact .lst (SqL.of e) f.dq
  | dic n e => exact .dic e
end
theorem Thing.free (h : Thing p H v d t) {q : Addr} (n : H q = none) : v ≠ .ref q := fun z => by
  cases h with
  | tup _ e f => cases z; rw [n] at e; cases e
  | lst _ e f => cases z; rw [n] at e; cases e
  | dic _ e => cases z; rw [n] at e; cases e
  | _ => cases z
/-! sizes of what repr shows -/
structure ShAll (ds : List PyData) (n m : Nat) : Prop where
  ok : PyData.showableAll ds = true
  long : ((PyData.shownAll ds).map (·.length)).sum + 2 * ds.length ≤ n
  deep : PyData.depthAll ds ≤ m
theorem ShAll.nil {m : Nat} : ShAll [] 0 m := ⟨by simp [PyData.showableAll], by simp [PyData.shownAll], by simp [PyData.depthAll]⟩
theorem ShAll.cons {d : PyData} {ds : List PyData} {n k m : Nat} (h : Sh d n m) (hs : ShAll ds k m) : ShAll (d :: ds) (n + 2 + k) m := by
  refine ⟨?_, ?_, ?_⟩
  · simp only [PyData.showableAll, h.ok, hs.ok, Bool.and_self]
  · have a := h.long
    have b := hs.long
    simp only [PyData.shownAll, List.map_cons, List.sum_cons, List.length_cons]
    omega
  · have a := h.deep
    have b := hs.deep
    simp only [PyData.depthAll]
    omega
theorem Sh.lst {ds : List PyData} {n m : Nat} (h : ShAll ds n m) : Sh (.list ds) (n + 3) (m + 1) := by
  refine ⟨?_, ?_, ?_⟩
  · simp only [PyData.showable, h.ok]
  · have a := h.long
    have b := listText_len_le (PyData.shownAll ds)
    rw [PyData.shownAll_length] at b
    simp only [PyData.shown]
    omega
  · have a := h.deep
    simp only [PyData.depth]
    omega
theorem Sh.tup {ds : List PyData} {n m : Nat} (h : ShAll ds n m) : Sh (.tuple ds) (n + 3) (m + 1) := by
  refine ⟨?_, ?_, ?_⟩
  · simp only [PyData.showable, h.ok]
  · have a := h.long
    have b := tupleText_len_le (PyData.shownAll ds)
    rw [PyData.shownAll_length] at b
    simp only [PyData.shown]
    omega
  · have a := h.deep
    simp only [PyData.depth]
    omega
theorem Sh.le {d : PyData} {n n' m m' : Nat} (h : Sh d n m) (hn : n ≤ n') (hm : m ≤ m') : Sh d n' m' := ⟨h.ok, Nat.le_trans h.long hn, Nat.le_trans h.deep hm⟩
theorem Sh.bl (b : Bool) {m : Nat} : Sh (.bool b) 5 m := ⟨by simp only [PyData.showable], by cases b <;> (simp only [PyData.shown]; decide), by simp only [PyData.depth]; omega⟩
theorem Sh.non {m : Nat} : Sh .none 4 m := ⟨by simp only [PyData.showable], by simp only [PyData.shown]; decide, by simp only [PyData.depth]; omega⟩
theorem Sh.str (x : Str) {n m : Nat} (h : (reprText x).length ≤ n) : Sh (.str x) n m := ⟨by simp only [PyData.showable], by simp only [PyData.shown]; exact h, by simp only [PyData.depth]; omega⟩
theorem Sh.int (i : Int) {n m : Nat} (h : i.natAbs.log2 < 1920) (h2 : ((toString i : String) : Str).length ≤ n) : Sh (.int i) n m := ⟨by simp only [PyData.showable]; exact decide_eq_true h, by simp only [PyData.shown]; exact h2, by simp only [PyData.depth]; omega⟩
theorem Sh.dic {m : Nat} : Sh (.dict []) 10 (m + 1) := ⟨by simp only [PyData.showable, PyData.showableKv], by simp only [PyData.shown, PyData.shownKv]; decide +kernel, by simp only [PyData.depth, PyData.depthKv]; omega⟩
/-- an item of a menu: a thing that can be shown, of which C holds -/
def Item (p : Addr) (H : Hp) (C : V → Prop) (v : V) : Prop := ∃ d t, Thing p H v d t ∧ Sh d 300 2 ∧ C v
section
variable {p : Addr} {H H' : Hp} {C : V → Prop}
theorem Item.keep {v : V} (h : Item p H C v) (k : Kp p H H') : Item p H' C v := let ⟨d, t, a, b, c⟩ := h; ⟨d, t, a.keep k, b, c⟩
theorem item_non (c : C .non) : Item p H C .non := ⟨_, _, .non, (Sh.non (m := 0)).le (by decide) (by decide), c⟩
theorem item_bl (b : Bool) (c : C (.bl b)) : Item p H C (.bl b) := ⟨_, _, .bl b, (Sh.bl b).le (by decide) (Nat.le_refl _), c⟩
theorem item_int (i : Int) (h : i.natAbs.log2 < 1920) (h2 : ((toString i : String) : Str).length ≤ 300) (c : C (.int i)) : Item p H C (.int i) := ⟨_, _, .int i, .int i h h2, c⟩
theorem item_str (x : Str) (h : (reprText x).length ≤ 300) (c : C (.str x)) : Item p H C (.str x) := ⟨_, _, .str x, .str x h, c⟩
theorem item_dic {a : Addr} (n : a ≠ p) (e : H a = some (.dK [])) (c : C (.ref a)) : Item p H C (.ref a) := ⟨_, _, .dic n e, (Sh.dic (m := 0)).le (by decide) (by decide), c⟩
theorem item_tup {a : Addr} {xs : List V} {ds : List PyData} {k : Nat} (n : a ≠ p) (e : H a = some (.tup xs)) (f : Flats xs ds) (s : ShAll ds k 0) (hk : k + 3 ≤ 300) (c : C (.ref a)) : Item p H C (.ref a) := ⟨_, _, .tup n e f, (Sh.tup s).le hk (by decide), c⟩
theorem item_lst {a : Addr} {xs : List V} {ds : List PyData} {k : Nat} (n : a ≠ p) (e : H a = some (.lst xs)) (f : Flats xs ds) (s : ShAll ds k 0) (hk : k + 3 ≤ 300) (c : C (.ref a)) : Item p H C (.ref a) := ⟨_, _, .lst n e f, (Sh.lst s).le hk (by decide), c⟩
end
end L2

/-! the end of a law whose defs are FnG -/
namespace L2
open PySem PySem.Spec PyProof.Rows LamX
/-- what stands behind the top; cs: code objects with their tables -/
structure Ready (K : PySem.W.Frag) (mg mb : Str → Option Value) (z : Shared) (cs : List (Addr × Addr)) : Prop where
  kin : K.In z.heap
  glob : z.heap.Ns mainGlobals mg
  blt : z.heap.Ns builtinsNs mb
  boot : ∀ x : Str, x ≠ "__name__" → mb x = bootBuiltins x
  lim : z.heap.NoLimit
  mods : ∃ mm, z.heap.Ns sysModules mm
  gens : z.gens = #[]
  tabs : ∀ p ∈ cs, z.heap.get? p.2 = some { cls := .none, data := .fields #[] }
  tabK : ∀ p ∈ cs, K.lookup p.2 = none
  code : ∀ p ∈ cs, PySem.W.CodeHd z.heap p.1 p.2
  main : ∃ (bm : Addr) (ob : Obj), mg "__builtins__" = some (.ref bm) ∧ bm ≠ builtinsNs ∧ z.heap.get? bm = some ob ∧ ob.cls = .type "module" ∧ ob.dict = some builtinsNs ∧ ob.data = .plain
/-- the abstract heap at the law's entry: the tables, and the script if it is no object of the module -/
def hp0 (K : PySem.W.Frag) (cs : List (Addr × Addr)) (a : Addr) (o : Obj) (ns : List Int) : Hp := fun b =>
  if b ∈ cs.map (·.2) then some (.tbl #[]) else if b = a ∧ K.lookup a = none then some (.frz o (.lst (ns.map V.int))) else none
section
variable {P : Program} {w : World} {K : PySem.W.Frag} {mg mb : Str → Option Value} {z : Shared} {cs : List (Addr × Addr)} {a : Addr} {vs : List Value} {ns : List Int}
abbrev scr (vs : List Value) : Obj := { cls := .type "list", data := .seq vs.toArray }
theorem hp0_tab {o : Obj} {p : Addr × Addr} (m : p ∈ cs) : hp0 K cs a o ns p.2 = some (.tbl #[]) := if_pos (List.mem_map.mpr ⟨p, m, rfl⟩)
theorem hp0_of {o : Obj} {b : Addr} {u : HO} (e : hp0 K cs a o ns b = some u) : (∃ p ∈ cs, p.2 = b ∧ u = .tbl #[]) ∨ (b = a ∧ K.lookup a = none ∧ u = .frz o (.lst (ns.map V.int))) := by
  unfold hp0 at e
  split at e
  · rename_i m
    obtain ⟨p, hp, q⟩ := List.mem_map.mp m
    exact .inl ⟨p, hp, q, (Option.some.inj e).symm⟩
  · split at e
    · rename_i m
      exact .inr ⟨m.1, m.2, (Option.some.inj e).symm⟩
    · cases e
theorem Ready.quiet (R : Ready K mg mb z cs) (ha : z.heap.get? a = some (scr vs)) {b : Addr} {o : Obj} (e : z.heap.get? b = some o) (n1 : ∀ us n, o.data ≠ .seq us n) (n2 : o.data ≠ .fields #[]) : hp0 K cs a (scr vs) ns b = none := by
  cases q : hp0 K cs a (scr vs) ns b with
  | none => rfl
  | some u =>
    rcases hp0_of q with ⟨p, hp, rfl, _⟩ | ⟨rfl, _, _⟩
    · rw [R.tabs p hp] at e
      cases e
      exact absurd rfl n2
    · rw [ha] at e
      cases e
      exact absurd rfl (n1 _ _)
theorem Ready.hok (R : Ready K mg mb z cs) (ha : z.heap.get? a = some (scr vs)) (hi : IntsAre vs ns) (hl : ns.length ≤ sizeLine) : HOk P w (hp0 K cs a (scr vs) ns) z.heap := fun b u q => by
  rcases hp0_of q with ⟨p, hp, rfl, rfl⟩ | ⟨rfl, _, rfl⟩
  · exact R.tabs p hp
  · exact ⟨ha, by rw [List.length_map]; exact hl, vs, _, vals_ints hi, ha⟩
theorem Ready.seq (R : Ready K mg mb z cs) (ha : z.heap.get? a = some (scr vs)) (hi : IntsAre vs ns) (hl : ns.length ≤ sizeLine) : SqL K (hp0 K cs a (scr vs) ns) a (ns.map V.int) := by
  cases hk : K.lookup a with
  | some o =>
    have e := R.kin a o hk
    rw [ha] at e
    cases e
    have rv := vals_ints hi
    exact .inr ⟨_, vs.toArray, _, hk, rfl, rfl, rfl, by rw [List.size_toArray, hi.length]; exact hl, by simpa using rv⟩
  | none =>
    have nt : a ∉ cs.map (·.2) := fun m => by
      obtain ⟨p, hp, e⟩ := List.mem_map.mp m
      have q := R.tabs p hp
      rw [e, ha] at q
      have q' : Data.seq vs.toArray _ = Data.fields #[] := congrArg Obj.data (Option.some.inj q)
      cases q'
    exact .inl (.inr ⟨scr vs, (if_neg nt).trans (if_pos ⟨rfl, hk⟩)⟩)
theorem Ready.space (R : Ready K mg mb z cs) (ha : z.heap.get? a = some (scr vs)) {b : Addr} {m : Str → Option Value} (x : z.heap.Ns b m) : (hidT z.heap (hp0 K cs a (scr vs) ns)).Ns b m := by
  obtain ⟨o, es, ep, e, d, r⟩ := x
  refine ⟨o, es, ep, hidT_get e (R.quiet ha e (fun us n q => ?_) fun q => ?_), d, r⟩ <;> (rw [d] at q; cases q)
theorem Ready.mod (R : Ready K mg mb z cs) (ha : z.heap.get? a = some (scr vs)) : L2.Mod K mg (hidT z.heap (hp0 K cs a (scr vs) ns)) := by
  refine ⟨fun b o e => hidT_get (R.kin b o e) ?_, R.space ha R.glob, ⟨mb, R.space ha R.blt, R.boot⟩, ?_⟩
  · cases q : hp0 K cs a (scr vs) ns b with
    | none => rfl
    | some u =>
      rcases hp0_of q with ⟨p, hp, rfl, _⟩ | ⟨rfl, n, _⟩
      · have t := R.tabK p hp
        rw [e] at t
        cases t
      · rw [e] at n
        cases n
  · obtain ⟨mc, h1, h2⟩ := R.lim
    exact ⟨mc, R.space ha h1, h2⟩
theorem Ready.tabB (R : Ready K mg mb z cs) (ha : z.heap.get? a = some (scr vs)) {p : Addr × Addr} (hp : p ∈ cs) : TabB (hidT z.heap (hp0 K cs a (scr vs) ns)) mg p.1 p.2 := by
  have tp := R.tabs p hp
  obtain ⟨og, eg, epg, gg, gd, _⟩ := R.glob
  refine ⟨?_, ?_, fun q => ?_⟩
  · obtain ⟨o, us, file, tf, flags, tg, inF, text, tt, e1, r1, r2, r3, r⟩ := R.code p hp
    refine ⟨o, us, file, tf, flags, tg, inF, text, tt, hidT_get e1 (R.quiet ha e1 (fun us n q => ?_) fun q => ?_), r1, r2, r3, r⟩
    · rw [r2] at q
      cases q
    · rw [r2] at q
      cases q
      simp at r3
  · obtain ⟨bm, ob, b1, b2, b3, b4, b5, b6⟩ := R.main
    refine ⟨bm, ob, b1, b2, fun q => ?_, fun q => ?_, hidT_get b3 (R.quiet ha b3 (fun us n q => ?_) fun q => ?_), b4, b5, b6⟩
    · rw [q, gg] at b3
      cases b3
      rw [gd] at b6
      cases b6
    · rw [q, tp] at b3
      cases b3
      cases b6
    · rw [b6] at q
      cases q
    · rw [b6] at q
      cases q
  · rw [q, tp] at gg
    cases gg
    cases gd
theorem callG {k : Nat} {fa : Addr} {fd : FuncData} {x : Str} {sp : Sp} (R : Ready K mg mb z cs) (ha : z.heap.get? a = some (scr vs)) (hi : IntsAre vs ns) (hl : ns.length ≤ sizeLine) (hr : Room k callerA)
    (F : ∀ base : Heap, K.In base → base.Ns mainGlobals mg → (∃ mm, base.Ns sysModules mm) → (∀ p ∈ cs, TabB base mg p.1 p.2) → FnG P w K mg base CX0 k fa fd [x] sp) (hb : ∀ (s : Shared) (u : Value), BindsTo s fd ⟨[u], []⟩ [(x, u)])
    (hsp : ∀ H : Hp, (∀ p ∈ cs, H p.2 = some (.tbl #[])) → SqL K H a (ns.map V.int) → sp [.ref a] H (fun v _ => v = .bl true) fun _ _ _ => False) :
    codeAny (model P w) callerA (.call (.ref fa) ⟨[.ref a], []⟩) (fun r s' => r = .ok (.ret (.bool true)) ∧ OldK z.heap s'.heap ∧ s'.os = z.os ∧ AllBare s'.gens) z := by
  obtain ⟨H, eH⟩ : ∃ H, H = hp0 K cs a (scr vs) ns := ⟨_, rfl⟩
  have M := R.mod (ns := ns) ha
  have hok : HOk P w H z.heap := eH ▸ R.hok ha hi hl
  have tabH : ∀ p ∈ cs, H p.2 = some (.tbl #[]) := fun p hp => eH ▸ hp0_tab hp
  have G := F _ M.kin M.glob (R.mods.imp fun mm h => R.space (ns := ns) ha h) (fun p hp => R.tabB (ns := ns) ha hp)
  have e0 : Env0 P w K mg (hidT z.heap (hp0 K cs a (scr vs) ns)) callerA [] z H := ⟨rfl, M, fun b o e => eH ▸ of_hidT e, Nat.le_of_eq (hidT_size _ _), trivial, nofun, hok, .of_eq R.gens⟩
  refine codeAny_mono (G.goes (us := [.ref a]) (vs := [.ref a]) rfl hr e0 (hb z (.ref a)) (.cons rfl .nil) (hsp H tabH (eH ▸ R.seq ha hi hl))) fun r s' h => ?_
  match r, h with
  | .ok (.ret u), h =>
    obtain ⟨v, H', os, bare, un, hok', rv, q⟩ := h
    have q' : v = .bl true := q
    subst q'
    obtain rfl : u = Value.bool true := rv
    have kept : ∀ {b : Addr} {o : Obj}, (∀ p ∈ cs, p.2 ≠ b) → z.heap.get? b = some o → s'.heap.get? b = some o := fun {b o} nb e => by
      cases q : H b with
      | none => exact un.keep b o e q nofun (by simp)
      | some u =>
        rw [eH] at q
        rcases hp0_of q with ⟨p, hp, e2, _⟩ | ⟨_, _, rfl⟩
        · exact absurd e2 (nb p hp)
        · have z2 := un.frzs b _ _ (eH ▸ q)
          obtain ⟨e1, _⟩ := hok b _ (eH ▸ q)
          obtain ⟨e3, _⟩ := hok' b _ z2
          rw [e] at e1
          cases e1
          exact e3
    have grown : ∀ p ∈ cs, ∃ more : Array Value, s'.heap.get? p.2 = some { cls := .none, data := .fields more } := fun p hp => by
      obtain ⟨more, zz⟩ := un.tbls p.2 #[] (tabH p hp)
      exact ⟨_, hok' p.2 _ zz⟩
    refine ⟨rfl, ⟨fun b o e => ?_, fun b o e => ?_⟩, os, bare⟩
    · by_cases hm : ∃ p ∈ cs, p.2 = b
      · obtain ⟨p, hp, rfl⟩ := hm
        obtain ⟨more, hm⟩ := grown p hp
        have tp := R.tabs p hp
        rw [tp] at e
        cases e
        exact .inr (.inl ⟨((R.code p hp).tab tp).isCodeTable, rfl, #[], more, rfl, by rw [Array.empty_append]; exact hm⟩)
      · exact .inl (kept (fun p hp q => hm ⟨p, hp, q⟩) e)
    · by_cases hm : ∃ p ∈ cs, p.2 = b
      · obtain ⟨p, hp, rfl⟩ := hm
        obtain ⟨more, hm⟩ := grown p hp
        exact ⟨_, hm⟩
      · exact ⟨o, kept (fun p hp q => hm ⟨p, hp, q⟩) e⟩
/-- the goal that k_head leaves -/
theorem walkG {l : PySem.W.OpenLaw} {n k : Nat} {q : Program} {loose : List Str} {XP : (Str → Option Value) → Heap → Prop} {YP : World → Heap → Prop} {d : DefRec} {K : Params → PySem.W.Frag} {x : Str} {sp : PySem.W.Frag → Sp}
    (hn : l.most = some n) (hn2 : n ≤ sizeLine) (hdf : d.params.defaults = []) (hr : Room k callerA) (him : importsNone q = true) (hY : ∀ (w : World) (h : Heap), YP w h → (K w.params).In h)
    (F : ∀ (w : World) (mg : Str → Option Value) (fa : Addr) (h : Heap), (K w.params).In h → h.Ns mainGlobals mg → mg d.name = some (.ref fa) →
      (∀ d ∈ recsOf q, ∃ a o fd c P, mg d.name = some (.ref a) ∧ h.get? a = some o ∧ o.data = .func fd ∧ fd.code = .ref c ∧ h.IsCode c P #[] ∧ h.TableAt c P #[]) →
      ∃ (fd : FuncData) (cs : List (Addr × Addr)), (∀ p ∈ cs, h.get? p.2 = some { cls := .none, data := .fields #[] } ∧ (K w.params).lookup p.2 = none ∧ PySem.W.CodeHd h p.1 p.2) ∧ (∀ (s : Shared) (u : Value), BindsTo s fd ⟨[u], []⟩ [(x, u)]) ∧
        ∀ base : Heap, (K w.params).In base → base.Ns mainGlobals mg → (∃ mm, base.Ns sysModules mm) → (∀ p ∈ cs, TabB base mg p.1 p.2) → FnG l.prog w (K w.params) mg base CX0 k fa fd [x] (fun vs H Q E => (∀ p ∈ cs, H p.2 = some (.tbl #[])) ∧ sp (K w.params) vs H Q E))
    (hsp : ∀ (K : PySem.W.Frag) (H : Hp) (a : Addr) (ns : List Int), ns.length ≤ n → SqL K H a (ns.map V.int) → sp K [.ref a] H (fun v _ => v = .bl true) fun _ _ _ => False) :
    PySem.W.WalkO q loose XP YP l.row.toRowW d [] (fun f vs => PySem.call f vs) := by
  refine Att.attach_call hn hdf fun w s₀ s₁ mg mb fa o pm cd doc a vs ns G Y ho hd hcd hmg hobj hints hlen hg => ?_
  have KX := hY w _ Y
  obtain ⟨fd, cs, C, hb, hF⟩ := F w mg fa _ KX G.T.g hmg G.T.tab
  obtain ⟨mm, hm, _⟩ := (G.T.seer him).mods
  exact callG (cs := cs) ⟨KX, G.T.g, G.T.b, G.T.builtins, G.T.nolimit, ⟨mm, hm⟩, hg, fun p hp => (C p hp).1, fun p hp => (C p hp).2.1, fun p hp => (C p hp).2.2, G.T.bmain⟩ hobj hints (Nat.le_trans hlen hn2) hr hF hb fun H hT hS => ⟨hT, hsp _ H a ns hlen hS⟩
end
end L2

namespace Gm
open PySem PySem.Spec PyProof.Rows L2 LamX
abbrev sVal : Stmt := top 36
abbrev sSta : Stmt := top 37
abbrev sIns : Stmt := top 38
abbrev sBas : Stmt := top 39
abbrev nVal : List Str := ["_law_thing", "_law_one", "_law_two", "_law_three", "_law_four"]
theorem scVal : FnScope nVal ["_law_thing"] (defScope sVal) := ⟨rfl, rfl, rfl, by decide +kernel, rfl, by decide +kernel, by decide +kernel⟩
abbrev nSta : List Str := ["_law_thing", "_law_one"]
theorem scSta : FnScope nSta ["_law_thing"] (defScope sSta) := ⟨rfl, rfl, rfl, by decide +kernel, rfl, by decide +kernel, by decide +kernel⟩
abbrev nIns : List Str := ["_law_e", "_law_seen"]
theorem scIns : FnScope nIns ["_law_e"] (defScope sIns) := ⟨rfl, rfl, rfl, by decide +kernel, rfl, by decide +kernel, by decide +kernel⟩
abbrev nBas : List Str := ["_law_e", "_law_seen", "_law_k"]
theorem scBas : FnScope nBas ["_law_e"] (defScope sBas) := ⟨rfl, rfl, rfl, by decide +kernel, rfl, by decide +kernel, by decide +kernel⟩
def gE {α : Type} (a b : List α) : List α := a ++ b
/-- an error class with one attribute, made by position or by name -/
structure Mk1 (P : Program) (w : World) (K : PySem.W.Frag) (mg : Str → Option Value) (base : Heap) (x f : Str) (C : Addr) : Prop where
  ex : ∃ (fI : Addr) (fd : FuncData), ErrB K mg x f C fI ∧ FnOk P w K mg base L2.CX0 1 fI fd ["self", f] (spErr C f) ∧ Binds K fd ["self", f] [] ∧ KBn K fd ["self", f] 1 [f] gE gE
section
variable {X : Cx} {i : Nat} {x f n : Str} {C : Addr} {p1 p pos kp : Pos}
theorem pe_m (T : Mk1 X.prog X.w X.K X.mg X.base x f C) (hr : Room 2 X.A) (hg : Gl X x) (hv : PE X (.Name n p1) (tVar i)) (hdb : (x == ("__debug__" : Str)) = false := by decide) :
    PE X (.Call (.Name x p) [.Name n p1] [] pos) (tMk1 i C f) := by
  obtain ⟨fI, fd, E, G, b, k⟩ := T.ex
  exact pe_mk1 E G hr b hg hv hdb
theorem pe_mK (T : Mk1 X.prog X.w X.K X.mg X.base x f C) (hr : Room 2 X.A) (hg : Gl X x) (hv : PE X (.Name n p1) (tVar i)) (hdb : (x == ("__debug__" : Str)) = false := by decide)
    (hall : (backToKw pos (keywordEach [⟨some f, .Name n p1, kp⟩] X.env)).all (·.1.isSome) = true := by rfl) (hks : (backToKw pos (keywordEach [⟨some f, .Name n p1, kp⟩] X.env)).filterMap (·.1) = [f] := by rfl)
    (hpl : ((backTo pos (starEach [] X.env)).any (·.1) || (backToKw pos (keywordEach [⟨some f, .Name n p1, kp⟩] X.env)).any (·.1.isNone)) = false := by rfl) :
    PE X (.Call (.Name x p) [] [⟨some f, .Name n p1, kp⟩] pos) (tMk1 i C f) := by
  obtain ⟨fI, fd, E, G, b, k⟩ := T.ex
  exact pe_mkK1 E G hr (fun _ _ => rfl) k hg hv kp hall hks hdb hpl
end
/-- the classes that this law names -/
structure TxX (P : Program) (w : World) (K : PySem.W.Frag) (mg : Str → Option Value) (base : Heap) (c : Nat → Addr) (ci cs cz : Addr) : Prop where
  isi : mg "isinstance" = none
  range : mg "range" = none
  pV : mg "ValueError" = none
  pL : mg "LookupError" = none
  pA : mg "ArithmeticError" = none
  gi : mg "InputError" = some (.ref ci)
  gs : mg "StateError" = some (.ref cs)
  gz : mg "SizeError" = some (.ref cz)
  g0 : mg "NotABoard" = some (.ref (c 0))
  m0 : Mk1 P w K mg base "NotABoard" "value" (c 0)
  g1 : mg "NotAHistory" = some (.ref (c 1))
  m1 : Mk1 P w K mg base "NotAHistory" "value" (c 1)
  g2 : mg "NotAGame" = some (.ref (c 2))
  m2 : Mk1 P w K mg base "NotAGame" "value" (c 2)
  g3 : mg "InvalidLetters" = some (.ref (c 3))
  m3 : Mk1 P w K mg base "InvalidLetters" "value" (c 3)
  g4 : mg "InvalidLength" = some (.ref (c 4))
  m4 : Mk1 P w K mg base "InvalidLength" "value" (c 4)
  g5 : mg "InvalidWord" = some (.ref (c 5))
  m5 : Mk1 P w K mg base "InvalidWord" "value" (c 5)
  g6 : mg "InvalidMarks" = some (.ref (c 6))
  m6 : Mk1 P w K mg base "InvalidMarks" "value" (c 6)
  g7 : mg "InvalidFact" = some (.ref (c 7))
  m7 : Mk1 P w K mg base "InvalidFact" "value" (c 7)
  g8 : mg "InvalidNumber" = some (.ref (c 8))
  m8 : Mk1 P w K mg base "InvalidNumber" "value" (c 8)
  g9 : mg "InvalidPlace" = some (.ref (c 9))
  m9 : Mk1 P w K mg base "InvalidPlace" "value" (c 9)
  g10 : mg "InvalidLine" = some (.ref (c 10))
  m10 : Mk1 P w K mg base "InvalidLine" "value" (c 10)
  g11 : mg "InvalidRows" = some (.ref (c 11))
  m11 : Mk1 P w K mg base "InvalidRows" "index" (c 11)
  g12 : mg "InvalidFacts" = some (.ref (c 12))
  m12 : Mk1 P w K mg base "InvalidFacts" "index" (c 12)
  g13 : mg "InvalidGuesses" = some (.ref (c 13))
  m13 : Mk1 P w K mg base "InvalidGuesses" "index" (c 13)
  g14 : mg "InvalidDeeds" = some (.ref (c 14))
  m14 : Mk1 P w K mg base "InvalidDeeds" "index" (c 14)
  g15 : mg "Mismatch" = some (.ref (c 15))
  g16 : mg "NoWord" = some (.ref (c 16))
  g17 : mg "NothingToUndo" = some (.ref (c 17))
  g18 : mg "Busy" = some (.ref (c 18))
  g19 : mg "WordNotLeft" = some (.ref (c 19))
  m19 : Mk1 P w K mg base "WordNotLeft" "value" (c 19)
  g20 : mg "GuessNotLeft" = some (.ref (c 20))
  m20 : Mk1 P w K mg base "GuessNotLeft" "value" (c 20)
  g21 : mg "TooManyRows" = some (.ref (c 21))
  m21 : Mk1 P w K mg base "TooManyRows" "limit" (c 21)
abbrev lVal (c : Nat → Addr) : List (Addr × Str) := [(c 0, "value"), (c 1, "value"), (c 2, "value"), (c 3, "value"), (c 4, "value"), (c 5, "value"), (c 6, "value"), (c 7, "value"), (c 8, "value"), (c 9, "value"), (c 10, "value"), (c 0, "value"), (c 1, "value"), (c 2, "value"), (c 3, "value"), (c 4, "value"), (c 5, "value"), (c 6, "value"), (c 7, "value"), (c 8, "value"), (c 9, "value"), (c 10, "value")]
abbrev lPla (c : Nat → Addr) : List (Addr × Str) := [(c 11, "index"), (c 12, "index"), (c 13, "index"), (c 14, "index"), (c 11, "index"), (c 12, "index"), (c 13, "index"), (c 14, "index")]
abbrev lNam (c : Nat → Addr) : List (Addr × Str) := [(c 19, "value"), (c 20, "value"), (c 19, "value"), (c 20, "value")]
abbrev lSiz (c : Nat → Addr) : List (Addr × Str) := [(c 21, "limit"), (c 21, "limit")]
abbrev cAll (c : Nat → Addr) : List Addr := [c 0, c 1, c 2, c 3, c 4, c 5, c 6, c 7, c 8, c 9, c 10, c 11, c 12, c 13, c 14, c 15, c 16, c 17, c 18, c 19, c 20, c 21]
def spTwo (L1 L2 : List (Addr × Str)) : Sp := fun vs H Q _ => ∃ v, vs = [v] ∧ ∀ H' t q r as bs, Same H H' → H' t = some (.tup [.ref q, .ref r]) → H' q = some (.lst (as.map V.ref)) → H' r = some (.lst (bs.map V.ref)) → Ers H' v as L1 → Ers H' v bs L2 → Q (.ref t) H'
theorem le_of {a b : Nat} (h : Nat.ble a b = true) : a ≤ b := Nat.le_of_ble_eq_true h
section
variable {P : Program} {w : World} {K : PySem.W.Frag} {mg : Str → Option Value} {base : Heap} {c : Nat → Addr} {ci cs cz : Addr}
theorem ok_val {f : Addr} {fd : FuncData} (F : Fun K "_law_value_errors" "_law_value_errors" sVal f fd) (T : TxX P w K mg base c ci cs cz) : FnOk P w K mg base L2.CX0 3 f fd ["_law_thing"] (spTwo (lVal c) (lPla c)) := by
  refine F.ok scVal (fun vs H Q E h => ?_) (fun cdv A outer s H vs Q E hr h => ?_)
  · obtain ⟨v, rfl, _⟩ := h
    rfl
  · obtain ⟨v, rfl, qq⟩ := h
    have nd := scVal.nd
    refine ⟨_, (pss_cons (ps_set (i := 1) nd rfl (Or.inl rfl) (pe_mkL (L := [(c 0, "value"), (c 1, "value"), (c 2, "value"), (c 3, "value")]) (pa_mk (pe_m T.m0 hr (by rfl) (pv 0)) (pa_mk (pe_m T.m1 hr (by rfl) (pv 0)) (pa_mk (pe_m T.m2 hr (by rfl) (pv 0)) (pa_mk (pe_m T.m3 hr (by rfl) (pv 0)) pa_mk0)))) (le_of rfl)))
      (pss_cons (ps_set (i := 1) nd rfl (Or.inl rfl) (pe_mkC (pv 1) (pe_mkL (L := [(c 4, "value"), (c 5, "value"), (c 6, "value"), (c 7, "value")]) (pa_mk (pe_m T.m4 hr (by rfl) (pv 0)) (pa_mk (pe_m T.m5 hr (by rfl) (pv 0)) (pa_mk (pe_m T.m6 hr (by rfl) (pv 0)) (pa_mk (pe_m T.m7 hr (by rfl) (pv 0)) pa_mk0)))) (le_of rfl)) (le_of rfl)))
      (pss_cons (ps_set (i := 1) nd rfl (Or.inl rfl) (pe_mkC (pv 1) (pe_mkL (L := [(c 8, "value"), (c 9, "value"), (c 10, "value")]) (pa_mk (pe_m T.m8 hr (by rfl) (pv 0)) (pa_mk (pe_m T.m9 hr (by rfl) (pv 0)) (pa_mk (pe_m T.m10 hr (by rfl) (pv 0)) pa_mk0))) (le_of rfl)) (le_of rfl)))
      (pss_cons (ps_set (i := 2) nd rfl (Or.inl rfl) (pe_mkL (L := [(c 0, "value"), (c 1, "value"), (c 2, "value")]) (pa_mk (pe_mK T.m0 hr (by rfl) (pv 0)) (pa_mk (pe_mK T.m1 hr (by rfl) (pv 0)) (pa_mk (pe_mK T.m2 hr (by rfl) (pv 0)) pa_mk0))) (le_of rfl)))
      (pss_cons (ps_set (i := 2) nd rfl (Or.inl rfl) (pe_mkC (pv 2) (pe_mkL (L := [(c 3, "value"), (c 4, "value"), (c 5, "value")]) (pa_mk (pe_mK T.m3 hr (by rfl) (pv 0)) (pa_mk (pe_mK T.m4 hr (by rfl) (pv 0)) (pa_mk (pe_mK T.m5 hr (by rfl) (pv 0)) pa_mk0))) (le_of rfl)) (le_of rfl)))
      (pss_cons (ps_set (i := 2) nd rfl (Or.inl rfl) (pe_mkC (pv 2) (pe_mkL (L := [(c 6, "value"), (c 7, "value"), (c 8, "value")]) (pa_mk (pe_mK T.m6 hr (by rfl) (pv 0)) (pa_mk (pe_mK T.m7 hr (by rfl) (pv 0)) (pa_mk (pe_mK T.m8 hr (by rfl) (pv 0)) pa_mk0))) (le_of rfl)) (le_of rfl)))
      (pss_cons (ps_set (i := 2) nd rfl (Or.inl rfl) (pe_mkC (pv 2) (pe_mkL (L := [(c 9, "value"), (c 10, "value")]) (pa_mk (pe_mK T.m9 hr (by rfl) (pv 0)) (pa_mk (pe_mK T.m10 hr (by rfl) (pv 0)) pa_mk0)) (le_of rfl)) (le_of rfl)))
      (pss_cons (ps_set (i := 3) nd rfl (Or.inl rfl) (pe_mkL (L := [(c 11, "index"), (c 12, "index"), (c 13, "index"), (c 14, "index")]) (pa_mk (pe_m T.m11 hr (by rfl) (pv 0)) (pa_mk (pe_m T.m12 hr (by rfl) (pv 0)) (pa_mk (pe_m T.m13 hr (by rfl) (pv 0)) (pa_mk (pe_m T.m14 hr (by rfl) (pv 0)) pa_mk0)))) (le_of rfl)))
      (pss_cons (ps_set (i := 4) nd rfl (Or.inl rfl) (pe_mkL (L := [(c 11, "index"), (c 12, "index"), (c 13, "index")]) (pa_mk (pe_mK T.m11 hr (by rfl) (pv 0)) (pa_mk (pe_mK T.m12 hr (by rfl) (pv 0)) (pa_mk (pe_mK T.m13 hr (by rfl) (pv 0)) pa_mk0))) (le_of rfl)))
      (pss_cons (ps_set (i := 4) nd rfl (Or.inl rfl) (pe_mkC (pv 4) (pe_mkL (L := [(c 14, "index")]) (pa_mk (pe_mK T.m14 hr (by rfl) (pv 0)) pa_mk0) (le_of rfl)) (le_of rfl)))
      (pss_one (ps_ret (pe_tup (pa_cons (pe_op op_cat (pv 1) (pv 2)) (pa_cons (pe_op op_cat (pv 3) (pv 4)) pa_nil))))))))))))))), ?_⟩
    have s0 : Same H H := fun _ _ e => e
    refine ⟨v, rfl, fun H1 as1 p1 t1 n1 l1 e1 => ?_⟩
    have s1 := s0.thru t1
    refine ⟨v, p1, as1, _, rfl, rfl, l1, e1, le_of rfl, fun H2 as2 p2 t2 n2 l2 e2 => ?_⟩
    have s2 := s1.thru t2
    refine ⟨v, p2, as2, _, rfl, rfl, l2, e2, le_of rfl, fun H3 as3 p3 t3 n3 l3 e3 => ?_⟩
    have s3 := s2.thru t3
    refine ⟨v, rfl, fun H4 as4 p4 t4 n4 l4 e4 => ?_⟩
    have s4 := s3.thru t4
    have l3 := t4 _ _ l3
    have e3 := e3.same t4
    refine ⟨v, p4, as4, _, rfl, rfl, l4, e4, le_of rfl, fun H5 as5 p5 t5 n5 l5 e5 => ?_⟩
    have s5 := s4.thru t5
    have l3 := t5 _ _ l3
    have e3 := e3.same t5
    refine ⟨v, p5, as5, _, rfl, rfl, l5, e5, le_of rfl, fun H6 as6 p6 t6 n6 l6 e6 => ?_⟩
    have s6 := s5.thru t6
    have l3 := t6 _ _ l3
    have e3 := e3.same t6
    refine ⟨v, p6, as6, _, rfl, rfl, l6, e6, le_of rfl, fun H7 as7 p7 t7 n7 l7 e7 => ?_⟩
    have s7 := s6.thru t7
    have l3 := t7 _ _ l3
    have e3 := e3.same t7
    refine ⟨v, rfl, fun H8 as8 p8 t8 n8 l8 e8 => ?_⟩
    have s8 := s7.thru t8
    have l3 := t8 _ _ l3
    have e3 := e3.same t8
    have l7 := t8 _ _ l7
    have e7 := e7.same t8
    refine ⟨v, rfl, fun H9 as9 p9 t9 n9 l9 e9 => ?_⟩
    have s9 := s8.thru t9
    have l3 := t9 _ _ l3
    have e3 := e3.same t9
    have l7 := t9 _ _ l7
    have e7 := e7.same t9
    have l8 := t9 _ _ l8
    have e8 := e8.same t9
    refine ⟨v, p9, as9, _, rfl, rfl, l9, e9, le_of rfl, fun H10 as10 p10 t10 n10 l10 e10 => ?_⟩
    have s10 := s9.thru t10
    have l3 := t10 _ _ l3
    have e3 := e3.same t10
    have l7 := t10 _ _ l7
    have e7 := e7.same t10
    have l8 := t10 _ _ l8
    have e8 := e8.same t10
    have z : sizeLine = 16777216 := sizeLine_eq
    refine ⟨_, rfl, _, rfl, p3, p7, _, _, rfl, rfl, l3, l7, by rw [List.length_map, List.length_map, e3.length, e7.length, z]; exact le_of rfl, fun q nq => ?_⟩
    have u1 := same_upd0 (o := .lst (as3.map V.ref ++ as7.map V.ref)) nq
    refine ⟨_, rfl, _, rfl, p8, p10, _, _, rfl, rfl, u1 _ _ l8, u1 _ _ l10, by rw [List.length_map, List.length_map, e8.length, e10.length, z]; exact le_of rfl, fun r nr => ?_⟩
    have u2 := same_upd0 (o := .lst (as8.map V.ref ++ as10.map V.ref)) nr
    refine ⟨by rw [z]; exact le_of rfl, fun t nt => ?_⟩
    have u3 := same_upd0 (o := .tup [.ref q, .ref r]) nt
    have u := (u1.thru u2).thru u3
    refine qq _ t q r (as3 ++ as7) (as8 ++ as10) (s10.thru u) upd_same ?_ ?_ (((e3.app e7)).same u) (((e8.app e10)).same u)
    · rw [List.map_append]
      exact u3 _ _ (u2 _ _ upd_same)
    · rw [List.map_append]
      exact u3 _ _ upd_same
theorem ok_sta {f : Addr} {fd : FuncData} (F : Fun K "_law_state_errors" "_law_state_errors" sSta f fd) (T : TxX P w K mg base c ci cs cz) : FnOk P w K mg base L2.CX0 3 f fd ["_law_thing"] (spTwo (lNam c) (lSiz c)) := by
  refine F.ok scSta (fun vs H Q E h => ?_) (fun cdv A outer s H vs Q E hr h => ?_)
  · obtain ⟨v, rfl, _⟩ := h
    rfl
  · obtain ⟨v, rfl, qq⟩ := h
    have nd := scSta.nd
    refine ⟨_, (pss_cons (ps_set (i := 1) nd rfl (Or.inl rfl) (pe_mkL (L := [(c 19, "value"), (c 20, "value"), (c 19, "value"), (c 20, "value")]) (pa_mk (pe_m T.m19 hr (by rfl) (pv 0)) (pa_mk (pe_m T.m20 hr (by rfl) (pv 0)) (pa_mk (pe_mK T.m19 hr (by rfl) (pv 0)) (pa_mk (pe_mK T.m20 hr (by rfl) (pv 0)) pa_mk0)))) (le_of rfl)))
      (pss_one (ps_ret (pe_tup (pa_cons (pv 1) (pa_cons (pe_mkL (L := [(c 21, "limit"), (c 21, "limit")]) (pa_mk (pe_m T.m21 hr (by rfl) (pv 0)) (pa_mk (pe_mK T.m21 hr (by rfl) (pv 0)) pa_mk0)) (le_of rfl)) pa_nil)))))), ?_⟩
    refine ⟨v, rfl, fun H1 as p s1 n1 l1 e1 => ?_⟩
    refine ⟨_, rfl, v, rfl, fun H2 bs r s2 n2 l2 e2 => ⟨by rw [sizeLine_eq]; exact le_of rfl, fun t nt => ?_⟩⟩
    have u := same_upd0 (o := .tup [.ref p, .ref r]) nt
    exact qq _ t p r as bs ((s1.thru s2).thru u) upd_same (u _ _ (s2 _ _ l1)) (u _ _ l2) ((e1.same s2).same u) (e2.same u)
def KitR (K : PySem.W.Frag) (C : Addr) (cl : List Addr) (f : V → Bool) : Prop := ∀ D ∈ cl, PySem.W.kitOne K (.ref C) (.ref D) = some (f (.ref D))
theorem KitR.kit {K : PySem.W.Frag} {C : Addr} {cl ds : List Addr} {f : V → Bool} (h : KitR K C cl f) (s : ∀ d ∈ ds, d ∈ cl) : Kit K C f (ds.map V.ref) := fun t m => by
  obtain ⟨D, hD, rfl⟩ := List.mem_map.mp m
  exact ⟨.ref D, .own D, h D (s D hD)⟩
/-- how many of the classes an error is of -/
def spIns (K : PySem.W.Frag) (cl : List Addr) : Sp := fun vs H Q _ => ∃ a C fs f, vs = [.ref a] ∧ ErAt H a C fs ∧ ErI K C ∧ KitR K C cl f ∧ ∀ H', Same H H' → Q (.int ((cl.map fun D => f (.ref D)).count true : Nat)) H'
theorem ok_ins {f : Addr} {fd : FuncData} (F : Fun K "_law_instances" "_law_instances" sIns f fd) (T : TxX P w K mg base c ci cs cz) : FnOk P w K mg base L2.CX0 2 f fd ["_law_e"] (spIns K (cAll c)) := by
  refine F.ok scIns (fun vs H Q E h => ?_) (fun cdv A outer s H vs Q E hr h => ?_)
  · obtain ⟨a, C, fs, g, rfl, _⟩ := h
    rfl
  · obtain ⟨a, C, fs, g, rfl, he, hI, hk, qq⟩ := h
    have nd := scIns.nd
    refine ⟨_, (pss_cons (ps_set (i := 1) nd rfl (Or.inl rfl) (pe_iL (ts := [.ref (c 0), .ref (c 1), .ref (c 2)]) (pa_i (pe_i1 (by rfl) T.isi (pv 0) (pe_glob (v := .ref (c 0)) (by rfl) T.g0 rfl)) (pa_i (pe_i1 (by rfl) T.isi (pv 0) (pe_glob (v := .ref (c 1)) (by rfl) T.g1 rfl)) (pa_i (pe_i1 (by rfl) T.isi (pv 0) (pe_glob (v := .ref (c 2)) (by rfl) T.g2 rfl)) pa_i0))) (le_of rfl)))
      (pss_cons (ps_set (i := 1) nd rfl (Or.inl rfl) (pe_iC (pv 1) (pe_iL (ts := [.ref (c 3), .ref (c 4), .ref (c 5)]) (pa_i (pe_i1 (by rfl) T.isi (pv 0) (pe_glob (v := .ref (c 3)) (by rfl) T.g3 rfl)) (pa_i (pe_i1 (by rfl) T.isi (pv 0) (pe_glob (v := .ref (c 4)) (by rfl) T.g4 rfl)) (pa_i (pe_i1 (by rfl) T.isi (pv 0) (pe_glob (v := .ref (c 5)) (by rfl) T.g5 rfl)) pa_i0))) (le_of rfl)) (le_of rfl)))
      (pss_cons (ps_set (i := 1) nd rfl (Or.inl rfl) (pe_iC (pv 1) (pe_iL (ts := [.ref (c 6), .ref (c 7), .ref (c 8)]) (pa_i (pe_i1 (by rfl) T.isi (pv 0) (pe_glob (v := .ref (c 6)) (by rfl) T.g6 rfl)) (pa_i (pe_i1 (by rfl) T.isi (pv 0) (pe_glob (v := .ref (c 7)) (by rfl) T.g7 rfl)) (pa_i (pe_i1 (by rfl) T.isi (pv 0) (pe_glob (v := .ref (c 8)) (by rfl) T.g8 rfl)) pa_i0))) (le_of rfl)) (le_of rfl)))
      (pss_cons (ps_set (i := 1) nd rfl (Or.inl rfl) (pe_iC (pv 1) (pe_iL (ts := [.ref (c 9), .ref (c 10), .ref (c 11)]) (pa_i (pe_i1 (by rfl) T.isi (pv 0) (pe_glob (v := .ref (c 9)) (by rfl) T.g9 rfl)) (pa_i (pe_i1 (by rfl) T.isi (pv 0) (pe_glob (v := .ref (c 10)) (by rfl) T.g10 rfl)) (pa_i (pe_i1 (by rfl) T.isi (pv 0) (pe_glob (v := .ref (c 11)) (by rfl) T.g11 rfl)) pa_i0))) (le_of rfl)) (le_of rfl)))
      (pss_cons (ps_set (i := 1) nd rfl (Or.inl rfl) (pe_iC (pv 1) (pe_iL (ts := [.ref (c 12), .ref (c 13), .ref (c 14)]) (pa_i (pe_i1 (by rfl) T.isi (pv 0) (pe_glob (v := .ref (c 12)) (by rfl) T.g12 rfl)) (pa_i (pe_i1 (by rfl) T.isi (pv 0) (pe_glob (v := .ref (c 13)) (by rfl) T.g13 rfl)) (pa_i (pe_i1 (by rfl) T.isi (pv 0) (pe_glob (v := .ref (c 14)) (by rfl) T.g14 rfl)) pa_i0))) (le_of rfl)) (le_of rfl)))
      (pss_cons (ps_set (i := 1) nd rfl (Or.inl rfl) (pe_iC (pv 1) (pe_iL (ts := [.ref (c 15), .ref (c 16), .ref (c 17)]) (pa_i (pe_i1 (by rfl) T.isi (pv 0) (pe_glob (v := .ref (c 15)) (by rfl) T.g15 rfl)) (pa_i (pe_i1 (by rfl) T.isi (pv 0) (pe_glob (v := .ref (c 16)) (by rfl) T.g16 rfl)) (pa_i (pe_i1 (by rfl) T.isi (pv 0) (pe_glob (v := .ref (c 17)) (by rfl) T.g17 rfl)) pa_i0))) (le_of rfl)) (le_of rfl)))
      (pss_cons (ps_set (i := 1) nd rfl (Or.inl rfl) (pe_iC (pv 1) (pe_iL (ts := [.ref (c 18), .ref (c 19), .ref (c 20)]) (pa_i (pe_i1 (by rfl) T.isi (pv 0) (pe_glob (v := .ref (c 18)) (by rfl) T.g18 rfl)) (pa_i (pe_i1 (by rfl) T.isi (pv 0) (pe_glob (v := .ref (c 19)) (by rfl) T.g19 rfl)) (pa_i (pe_i1 (by rfl) T.isi (pv 0) (pe_glob (v := .ref (c 20)) (by rfl) T.g20 rfl)) pa_i0))) (le_of rfl)) (le_of rfl)))
      (pss_cons (ps_set (i := 1) nd rfl (Or.inl rfl) (pe_iC (pv 1) (pe_iL (ts := [.ref (c 21)]) (pa_i (pe_i1 (by rfl) T.isi (pv 0) (pe_glob (v := .ref (c 21)) (by rfl) T.g21 rfl)) pa_i0) (le_of rfl)) (le_of rfl)))
      (pss_one (ps_ret (pe_bm PySem.F.plainAttrs_list PySem.F.slot_list_count PySem.F.type_list_count mt_countT (pv 1) (pa_cons pe_bl pa_nil)))))))))))), ?_⟩
    refine ⟨a, C, fs, g, rfl, he, hI, (hk.kit (ds := [c 0, c 1, c 2]) (by simp)), fun p0 n0 => ?_⟩
    have s0 := same_upd0 (o := .lst (([.ref (c 0), .ref (c 1), .ref (c 2)] : List V).map fun t => V.bl (g t))) n0
    have l0 : upd H p0 (.lst (([.ref (c 0), .ref (c 1), .ref (c 2)] : List V).map fun t => V.bl (g t))) p0 = some (.lst (([.ref (c 0), .ref (c 1), .ref (c 2)] : List V).map fun t => V.bl (g t))) := upd_same
    have he0 := he.same s0
    refine ⟨a, C, fs, g, p0, _, rfl, rfl, l0, le_of rfl, he0, hI, (hk.kit (ds := [c 3, c 4, c 5]) (by simp)), fun H1 p1 t1 n1 l1 => ?_⟩
    have s1 := s0.thru t1
    have he1 := he0.same t1
    refine ⟨a, C, fs, g, p1, _, rfl, rfl, l1, le_of rfl, he1, hI, (hk.kit (ds := [c 6, c 7, c 8]) (by simp)), fun H2 p2 t2 n2 l2 => ?_⟩
    have s2 := s1.thru t2
    have he2 := he1.same t2
    refine ⟨a, C, fs, g, p2, _, rfl, rfl, l2, le_of rfl, he2, hI, (hk.kit (ds := [c 9, c 10, c 11]) (by simp)), fun H3 p3 t3 n3 l3 => ?_⟩
    have s3 := s2.thru t3
    have he3 := he2.same t3
    refine ⟨a, C, fs, g, p3, _, rfl, rfl, l3, le_of rfl, he3, hI, (hk.kit (ds := [c 12, c 13, c 14]) (by simp)), fun H4 p4 t4 n4 l4 => ?_⟩
    have s4 := s3.thru t4
    have he4 := he3.same t4
    refine ⟨a, C, fs, g, p4, _, rfl, rfl, l4, le_of rfl, he4, hI, (hk.kit (ds := [c 15, c 16, c 17]) (by simp)), fun H5 p5 t5 n5 l5 => ?_⟩
    have s5 := s4.thru t5
    have he5 := he4.same t5
    refine ⟨a, C, fs, g, p5, _, rfl, rfl, l5, le_of rfl, he5, hI, (hk.kit (ds := [c 18, c 19, c 20]) (by simp)), fun H6 p6 t6 n6 l6 => ?_⟩
    have s6 := s5.thru t6
    have he6 := he5.same t6
    refine ⟨a, C, fs, g, p6, _, rfl, rfl, l6, le_of rfl, he6, hI, (hk.kit (ds := [c 21]) (by simp)), fun H7 p7 t7 n7 l7 => ?_⟩
    have s7 := s6.thru t7
    have he7 := he6.same t7
    exact ⟨_, rfl, .inl ⟨rfl, _, SqL.of l7⟩, p7, (cAll c).map fun D => g (.ref D), rfl, rfl, SqL.of l7, qq _ s7⟩
/-- of which of the three kinds an error is -/
def KitB (K : PySem.W.Frag) (C ci cs cz : Addr) (j : Nat) : Prop := PySem.W.kitOne K (.ref C) (.ref ci) = some (j == 0) ∧ PySem.W.kitOne K (.ref C) (.ref cs) = some (j == 1) ∧ PySem.W.kitOne K (.ref C) (.ref cz) = some (j == 2) ∧
  PySem.W.kitOne K (.ref C) (.type "ValueError") = some (j == 0) ∧ PySem.W.kitOne K (.ref C) (.type "LookupError") = some (j == 1) ∧ PySem.W.kitOne K (.ref C) (.type "ArithmeticError") = some (j == 2)
def spBas (K : PySem.W.Frag) (ci cs cz : Addr) : Sp := fun vs H Q _ => ∃ a C fs j, vs = [.ref a] ∧ ErAt H a C fs ∧ ErI K C ∧ j < 3 ∧ KitB K C ci cs cz j ∧ ∀ H' q, Same H H' → H' q = some (.lst [.int (j : Nat), .int ((j + 3 : Nat) : Int)]) → Q (.ref q) H'
def accB (j n : Nat) : List V := ((List.range n).filter fun k => k % 3 == j).map fun (k : Nat) => V.int (k : Nat)
theorem ok_bas {f : Addr} {fd : FuncData} (F : Fun K "_law_bases" "_law_bases" sBas f fd) (T : TxX P w K mg base c ci cs cz) (d1 : ci ≠ cs) (d2 : ci ≠ cz) (d3 : cs ≠ cz) : FnOk P w K mg base L2.CX0 2 f fd ["_law_e"] (spBas K ci cs cz) := by
  refine F.ok scBas (fun vs H Q E h => ?_) (fun cdv A outer s H vs Q E hr h => ?_)
  · obtain ⟨a, C, fs, j, rfl, _⟩ := h
    rfl
  · obtain ⟨a, C, fs, j, rfl, he, hI, hj, ⟨k1, k2, k3, k4, k5, k6⟩, qq⟩ := h
    have nd := scBas.nd
    let g : V → Bool := fun v => if v = .ref ci ∨ v = .ty "ValueError" then j == 0 else if v = .ref cs ∨ v = .ty "LookupError" then j == 1 else j == 2
    have g1 : g (.ref ci) = (j == 0) := by simp [g]
    have g2 : g (.ref cs) = (j == 1) := by simp [g, Ne.symm d1]
    have g3 : g (.ref cz) = (j == 2) := by simp [g, Ne.symm d2, Ne.symm d3]
    have g4 : g (.ty "ValueError") = (j == 0) := by simp [g]
    have g5 : g (.ty "LookupError") = (j == 1) := by simp [g]
    have g6 : g (.ty "ArithmeticError") = (j == 2) := by simp [g]
    have kA : Kit K C g [.ref ci, .ref cs, .ref cz] := fun t m => by
      simp only [List.mem_cons, List.not_mem_nil, or_false] at m
      rcases m with rfl | rfl | rfl
      · exact ⟨_, .own _, by rw [g1]; exact k1⟩
      · exact ⟨_, .own _, by rw [g2]; exact k2⟩
      · exact ⟨_, .own _, by rw [g3]; exact k3⟩
    have kB : Kit K C g [.ty "ValueError", .ty "LookupError", .ty "ArithmeticError"] := fun t m => by
      simp only [List.mem_cons, List.not_mem_nil, or_false] at m
      rcases m with rfl | rfl | rfl
      · exact ⟨_, .ty _, by rw [g4]; exact k4⟩
      · exact ⟨_, .ty _, by rw [g5]; exact k5⟩
      · exact ⟨_, .ty _, by rw [g6]; exact k6⟩
    refine ⟨_, (pss_cons (ps_set (i := 1) nd rfl (Or.inr rfl) (pe_iL (ts := [.ref ci, .ref cs, .ref cz]) (pa_i (pe_i1 (by rfl) T.isi (pv 0) (pe_glob (v := .ref ci) (by rfl) T.gi rfl)) (pa_i (pe_i1 (by rfl) T.isi (pv 0) (pe_glob (v := .ref cs) (by rfl) T.gs rfl)) (pa_i (pe_i1 (by rfl) T.isi (pv 0) (pe_glob (v := .ref cz) (by rfl) T.gz rfl)) pa_i0))) (le_of rfl)))
      (pss_cons (ps_set (i := 1) nd rfl (Or.inr rfl) (pe_iC (pv 1) (pe_iL (ts := [.ty "ValueError", .ty "LookupError", .ty "ArithmeticError"]) (pa_i (pe_i1 (by rfl) T.isi (pv 0) (pe_bltn (v := .ty "ValueError") (by rfl) T.pV (by decide +kernel) rfl)) (pa_i (pe_i1 (by rfl) T.isi (pv 0) (pe_bltn (v := .ty "LookupError") (by rfl) T.pL (by decide +kernel) rfl)) (pa_i (pe_i1 (by rfl) T.isi (pv 0) (pe_bltn (v := .ty "ArithmeticError") (by rfl) T.pA (by decide +kernel) rfl)) pa_i0))) (le_of rfl)) (le_of rfl)))
      (pss_one (ps_ret (pe_lc (own := [("_law_k", 2)]) (g := gName 2) (by rfl) nd (pi_range1 (by rfl) T.range (pa_cons pe_int pa_nil)) (blkOk_by (own := [("_law_k", 2)]) (N := nBas) (sc := defScope sBas) (by decide +kernel))
        (fun _ _ _ _ _ => pg_name (i := 2) nd rfl (Or.inl rfl)) (fun _ _ _ _ _ => pts_one (pt_val (pe_ix (r := rIxL K) (by exact ix_list) (pv 1) (pv 2) (fun _ _ => rfl)))) (fun _ _ _ _ _ => pv 2)))))), ?_⟩
    refine ⟨a, C, fs, g, rfl, he, hI, kA, fun p0 n0 => ?_⟩
    refine ⟨a, C, fs, g, p0, _, rfl, rfl, upd_same, le_of rfl, he.same (same_upd0 n0), hI, kB, fun H1 p1 t1 n1 l1 => ?_⟩
    have s1 : Same H H1 := (same_upd0 n0).thru t1
    have l1 : H1 p1 = some (.lst [.bl (j == 0), .bl (j == 1), .bl (j == 2), .bl (j == 0), .bl (j == 1), .bl (j == 2)]) := by
      rw [l1, ← g1, ← g2, ← g3]
      show some (HO.lst [.bl (g (.ref ci)), .bl (g (.ref cs)), .bl (g (.ref cz)), .bl (g (.ty "ValueError")), .bl (g (.ty "LookupError")), .bl (g (.ty "ArithmeticError"))]) = _
      rw [g4, g5, g6, g1, g2, g3]
    refine ⟨6, rfl, by decide, by decide, fun D hD => ?_⟩
    refine lc_range (lo := 0) (n := 6) (fun i H' => Same H1 H' ∧ i ≤ 6 ∧ H' D = some (.lst (accB j i))) ⟨same_upd0 hD, by decide, upd_same⟩ ?_ ?_
    · rintro i H2 hi ⟨s2, _, hd⟩
      have fact : ∃ b, atI [V.bl (j == 0), V.bl (j == 1), V.bl (j == 2), V.bl (j == 0), V.bl (j == 1), V.bl (j == 2)] (0 + (i : Int)) = some (.bl b) ∧ accB j (i + 1) = (if b = true then accB j i ++ [.int (0 + (i : Int))] else accB j i) ∧ (accB j i).length ≤ 6 := by
        have ci' : i = 0 ∨ i = 1 ∨ i = 2 ∨ i = 3 ∨ i = 4 ∨ i = 5 := by omega
        have cj' : j = 0 ∨ j = 1 ∨ j = 2 := by omega
        rcases ci' with rfl | rfl | rfl | rfl | rfl | rfl <;> rcases cj' with rfl | rfl | rfl <;> exact ⟨_, rfl, rfl, le_of rfl⟩
      obtain ⟨b, ha, hb, hl⟩ := fact
      refine ⟨rfl, _, rfl, _, rfl, p1, _, _, _, rfl, rfl, SqL.of (s2 _ _ l1), ha, b, rfl, ?_⟩
      cases b with
      | false =>
        refine ⟨s2, by omega, ?_⟩
        rw [hb]
        exact hd
      | true =>
        refine ⟨_, rfl, _, hd, by rw [sizeLine_eq]; omega, fun b o e => ?_, by omega, ?_⟩
        · rw [upd_ne (ne_of_none e hD)]
          exact s2 _ _ e
        · rw [upd_same, hb]
          rfl
    · rintro H2 ⟨s2, _, hd⟩
      refine qq _ D (s1.thru s2) ?_
      rw [hd]
      rcases (by omega : j = 0 ∨ j = 1 ∨ j = 2) with rfl | rfl | rfl <;> rfl
end
end Gm

/-! lists, tuples and sums of lists, told by what stands after them -/
namespace L2
open PySem PySem.Spec PyProof.Rows
def rCatS : R2 := fun x y H Q => ∃ l b xs zs, x = .ref l ∧ y = .ref b ∧ H l = some (.lst xs) ∧ H b = some (.lst zs) ∧ xs.length + zs.length ≤ 1000 ∧ ∀ H3 p, Same H H3 → H3 p = some (.lst (xs ++ zs)) → Q (.ref p) H3
def tLstS (t : TA) : TE := fun σ H Q => t σ H fun xs H1 => xs.length ≤ 1000 ∧ ∀ H2 p, Same H1 H2 → H2 p = some (.lst xs) → Q (.ref p) H2
def tTupS (t : TA) : TE := fun σ H Q => t σ H fun xs H1 => xs.length ≤ 1000 ∧ ∀ H2 p, Same H1 H2 → H2 p = some (.tup xs) → Q (.ref p) H2
def rRepS : R2 := fun x y H Q => ∃ l v, ∃ n : Nat, x = .ref l ∧ y = .int (n : Nat) ∧ H l = some (.lst [v]) ∧ n ≤ 1000 ∧ ∀ H3 p, Same H H3 → H3 p = some (.lst (List.replicate n v)) → Q (.ref p) H3
section
variable {X : Cx} {a b : Expr} {ta tb : TE} {es : List Expr} {t : TA} {pos : Pos}
theorem pa_weak (h : PA X es t) : PA X es (fun σ H Q => ∃ R : List V → Hp → Prop, t σ H R ∧ ∀ v H', R v H' → Q v H') := ⟨fun pos pins s σ H Q I ⟨R, hr, k⟩ =>
  thn (h.run pos pins s σ H R I hr) fun u s' ⟨v, H', I', r, q⟩ => ⟨v, H', I', r, k _ _ q⟩⟩
theorem op_catS : OpR X (binaryOp .Add) rCatS := by
  intro pins s σ H x y v u Q I rx ry ⟨l, b, xs, zs, e1, e2, h1, h2, hz, q⟩
  exact op_cat pins s σ H x y v u Q I rx ry ⟨l, b, xs, zs, e1, e2, h1, h2, by rw [sizeLine_eq]; omega, fun p np => q _ p (same_upd0 np) upd_same⟩
theorem flat_rep (v : V) (n : Nat) : (List.replicate n [v]).flatten = List.replicate n v := by
  induction n with
  | zero => rfl
  | succ n ih => rw [List.replicate_succ, List.flatten_cons, ih, List.replicate_succ]; rfl
theorem op_repS : OpR X (binaryOp .Mult) rRepS := by
  intro pins s σ H x y v u Q I rx ry ⟨l, w, n, e1, e2, h1, hz, q⟩
  refine op_rep pins s σ H x y v u Q I rx ry ⟨l, _, _, e1, e2, h1, by omega, by omega, ?_, fun p np => ?_⟩
  · rw [sizeLine_eq]
    simp
    omega
  · refine q _ p (same_upd0 np) ?_
    rw [upd_same, Int.toNat_natCast, flat_rep]
theorem pe_lstS (hs : PA X es t) : PE X (.List es pos) (tLstS t) :=
  ⟨fun pins s σ H Q I h => (pe_lst (pa_weak hs)).run pins s σ H Q I ⟨_, h, fun xs H1 ⟨h1, q⟩ => ⟨by rw [sizeLine_eq]; omega, fun p np => q _ p (same_upd0 np) upd_same⟩⟩⟩
theorem pe_tupS {x1} (hs : PA X es t) : PE X (.Tuple es x1 pos) (tTupS t) :=
  ⟨fun pins s σ H Q I h => (pe_tup (pa_weak hs)).run pins s σ H Q I ⟨_, h, fun xs H1 ⟨h1, q⟩ => ⟨by rw [sizeLine_eq]; omega, fun p np => q _ p (same_upd0 np) upd_same⟩⟩⟩
end
/-- an error class without own __init__ -/
structure Mk0 (K : PySem.W.Frag) (mg : Str → Option Value) (x : Str) (C : Addr) : Prop where
  ex : ∃ (bmB : List Value) (B n1 n2 : String), ExcBaseFacts B n1 n2 bmB ∧ PySem.W.excIn K C bmB n1 = true
  gC : mg x = some (.ref C)
  kC : PySem.W.keepIn K (.ref C) = true
theorem pe_mkE0 {X : Cx} {x : Str} {C : Addr} {p pos : Pos} (T : Mk0 X.K X.mg x C) (hg : Gl X x) (hdb : (x == ("__debug__" : Str)) = false := by decide) :
    PE X (.Call (.Name x p) [] [] pos) (fun σ H Q => ∀ H' a, Same H H' → ErAt H' a C [] → Q (.ref a) H') := by
  obtain ⟨bmB, B, n1, n2, F, q⟩ := T.ex
  exact ⟨fun pins s σ H Q I h => (pe_mkV0 F q T.gC T.kC hg hdb).run pins s σ H Q I fun a na => h _ a (same_upd0 na) (.inl ⟨rfl, upd_same⟩)⟩
/-! data -/
theorem dq_rep {K : PySem.W.Frag} {H : Hp} {v : V} {d : PyData} (h : Dq K H v d) (n : Nat) : DqAll K H (List.replicate n v) (List.replicate n d) := by
  induction n with
  | zero => exact .nil
  | succ n ih => exact .cons h ih
theorem sh_rep {d : PyData} {n m : Nat} (h : Sh d n m) (k : Nat) : ShAll (List.replicate k d) (k * (n + 2)) m := by
  induction k with
  | zero => rw [Nat.zero_mul]; exact .nil
  | succ k ih =>
    rw [Nat.succ_mul, Nat.add_comm (k * (n + 2))]
    exact .cons h ih
end L2

namespace Gm
open PySem PySem.Spec PyProof.Rows L2 LamX
abbrev sRight : Stmt := top 40
abbrev nR : List Str := ["_law_bowl_here", "_law_thing", "_law_values", "_law_places", "_law_named", "_law_sizes", "_law_states", "_law_kept", "_law_groups", "_law_group", "_law_due", "_law_told", "_law_e"]
theorem scR_ : FnScope nR ["_law_bowl_here"] (defScope sRight) := ⟨rfl, rfl, rfl, by decide +kernel, rfl, by decide +kernel, by decide +kernel⟩
def spRight : Sp := fun vs H Q _ => ∃ (p : Addr), vs = [.ref p] ∧ BowlAt H p ∧ ∀ H', Stir p H H' → Q (.bl true) H'
theorem new_at {H : Hp} {a : Addr} {o : HO} (_ : H a = none) : upd H a o a = some o := upd_same
theorem Same.trans {A B C : Hp} (x : Same A B) (y : Same B C) : Same A C := fun b o e => y _ _ (x _ _ e)
theorem in_heap {p : Addr} {H : Hp} {o : HO} {xs : List V} {C : V → Prop} (_ : H p = some o) (h : ∀ v ∈ xs, Item p H C v) : ∀ v ∈ xs, Item p H C v := h
theorem look1 {f : Str} {v : V} : List.lookup f [(f, v)] = some v := by simp [List.lookup]
theorem all_rep (n : Nat) : (List.replicate n true).all id = true := by
  induction n with
  | zero => rfl
  | succ n ih => rw [List.replicate_succ, List.all_cons, ih]; rfl
structure Df (K : PySem.W.Frag) (mg : Str → Option Value) (x : Str) (f : Addr) (fd : FuncData) (ps : List Str) : Prop where
  mg : mg x = some (.ref f)
  kp : PySem.W.keepIn K (.ref f) = true
  b : Binds K fd ps []
abbrev sOf : Stmt := top 35
def spOfL : Sp := fun vs H Q _ => ∃ (p l : Addr) (xs : List V), vs = [.ref p, .ref l] ∧ BowlAt H p ∧ l ≠ p ∧ H l = some (.lst xs) ∧ 0 < xs.length ∧ xs.length ≤ 1000 ∧ ∀ H' v, Stir p H H' → v ∈ xs → Q v H'
theorem scOf : FnScope ["_law_bowl_here", "_law_things"] ["_law_bowl_here", "_law_things"] (defScope sOf) := ⟨rfl, rfl, rfl, by decide +kernel, rfl, by decide +kernel, by decide +kernel⟩
section
variable {P : Program} {w : World} {K : PySem.W.Frag} {mg : Str → Option Value} {base : Heap}
theorem ok_ofL {f fD : Addr} {fd fdD : FuncData} (F : Fun K "_law_of" "_law_of" sOf f fd) (tl : mg "len" = none) (GD : FnOk P w K mg base L2.CX0 1 fD fdD ["_law_bowl_here", "_law_many"] spDip) (DD : Df K mg "_law_dip" fD fdD ["_law_bowl_here", "_law_many"]) :
    FnOk P w K mg base L2.CX0 2 f fd ["_law_bowl_here", "_law_things"] spOfL := by
  refine F.ok scOf (fun vs H Q E h => ?_) (fun cdv A outer s H vs Q E hr h => ?_)
  · obtain ⟨p, l, xs, rfl, _⟩ := h
    rfl
  · obtain ⟨p, l, xs, rfl, hp, nl, hl, l0, l1, q⟩ := h
    refine ⟨_, pss_one (ps_ret (pe_ix ix_list (pv 1) (pe_call GD hr (by rfl) DD.mg DD.kp DD.b .nil L2.pass0 (pa_cons (pv 0) (pa_cons (pe_callB call_len_seq (by rfl) tl PySem.boot_len (pa_cons (pv 1) pa_nil)) pa_nil))) (fun _ _ => rfl))), ?_⟩
    refine ⟨_, rfl, _, rfl, _, rfl, l, _, rfl, .inl (SqL.of hl), p, _, rfl, hp, by omega, by omega, fun H1 d R d0 d1 => ?_⟩
    obtain ⟨j, rfl⟩ := Int.eq_ofNat_of_zero_le d0
    have hj : j < xs.length := by omega
    exact ⟨l, _, _, xs[j], rfl, rfl, SqL.of (R.1 _ _ nl hl), atI_nat (List.getElem?_eq_getElem hj), q H1 _ R (List.getElem_mem hj)⟩
/-- what is said of the class of an error of the j-th kind -/
def Gc (K : PySem.W.Frag) (c : Nat → Addr) (ci cs cz : Addr) (j : Nat) (C : Addr) : Prop := ErI K C ∧ KitB K C ci cs cz j ∧ KitR K C (cAll c) (fun v => v == .ref C) ∧ ((cAll c).map fun D => (V.ref D == .ref C)).count true = 1
def Gx (K : PySem.W.Frag) (c : Nat → Addr) (ci cs cz : Addr) (H : Hp) (j : Nat) (a : Addr) : Prop := ∃ C fs, ErAt H a C fs ∧ Gc K c ci cs cz j C
structure TxR7 (K : PySem.W.Frag) (mg : Str → Option Value) (c : Nat → Addr) (ci cs cz : Addr) : Prop where
  repr : mg "repr" = none
  all : mg "all" = none
  len : mg "len" = none
  k0 : ∃ t, mg "MOST_LENGTH" = some (.int 6 t)
  k1 : ∃ t, mg "MOST_LETTERS" = some (.int 26 t)
  k2 : ∃ t, mg "MOST_ROWS" = some (.int 20 t)
  k3 : ∃ t, mg "MOST_GUESSES" = some (.int 20 t)
  k4 : ∃ t, mg "MOST_FACTS" = some (.int 4 t)
  k5 : ∃ t, mg "MOST_MENDED" = some (.int 10 t)
  n15 : Mk0 K mg "Mismatch" (c 15)
  b15 : Gc K c ci cs cz 1 (c 15)
  n16 : Mk0 K mg "NoWord" (c 16)
  b16 : Gc K c ci cs cz 1 (c 16)
  n17 : Mk0 K mg "NothingToUndo" (c 17)
  b17 : Gc K c ci cs cz 1 (c 17)
  n18 : Mk0 K mg "Busy" (c 18)
  b18 : Gc K c ci cs cz 1 (c 18)
  gValue : ∀ {C f}, (_ : Unit) → (C, f) ∈ lVal c ++ lNam c → f = "value" ∧ ErI K C ∧ PySem.W.findIn K (.ref C) "value" = some none
  gIndex : ∀ {C f}, (_ : Unit) → (C, f) ∈ lPla c → f = "index" ∧ ErI K C ∧ PySem.W.findIn K (.ref C) "index" = some none
  gLimit : ∀ {C f}, (_ : Unit) → (C, f) ∈ lSiz c → f = "limit" ∧ ErI K C ∧ PySem.W.findIn K (.ref C) "limit" = some none
  bVal : ∀ {C f}, (_ : Unit) → (C, f) ∈ lVal c → Gc K c ci cs cz 0 C
  bPla : ∀ {C f}, (_ : Unit) → (C, f) ∈ lPla c → Gc K c ci cs cz 0 C
  bNam : ∀ {C f}, (_ : Unit) → (C, f) ∈ lNam c → Gc K c ci cs cz 1 C
  bSiz : ∀ {C f}, (_ : Unit) → (C, f) ∈ lSiz c → Gc K c ci cs cz 2 C
theorem ok_right {f fO fV fS fI fB : Addr} {c : Nat → Addr} {ci cs cz : Addr} {fd fdO fdV fdS fdI fdB : FuncData} (F : Fun K "_law_right" "_law_right" sRight f fd) (T : TxR7 K mg c ci cs cz)
    (GO : FnOk P w K mg base L2.CX0 2 fO fdO ["_law_bowl_here", "_law_things"] spOfL) (DO : Df K mg "_law_of" fO fdO ["_law_bowl_here", "_law_things"])
    (GV : FnOk P w K mg base L2.CX0 3 fV fdV ["_law_thing"] (spTwo (lVal c) (lPla c))) (DV : Df K mg "_law_value_errors" fV fdV ["_law_thing"])
    (GS : FnOk P w K mg base L2.CX0 3 fS fdS ["_law_thing"] (spTwo (lNam c) (lSiz c))) (DS : Df K mg "_law_state_errors" fS fdS ["_law_thing"])
    (GI : FnOk P w K mg base L2.CX0 2 fI fdI ["_law_e"] (spIns K (cAll c))) (DI : Df K mg "_law_instances" fI fdI ["_law_e"])
    (GB : FnOk P w K mg base L2.CX0 2 fB fdB ["_law_e"] (spBas K ci cs cz)) (DB : Df K mg "_law_bases" fB fdB ["_law_e"])
    (hM : ∃ mm, base.Ns sysModules mm) : FnG P w K mg base L2.CX0 4 f fd ["_law_bowl_here"] spRight := by
  refine F.okG scR_ (fun vs H Q E h => ?_) (fun cdv A outer s H vs Q E g hr h => ?_)
  · obtain ⟨p, rfl, _⟩ := h
    rfl
  · obtain ⟨p, rfl, hp, q⟩ := h
    have nd := scR_.nd
    have hr2 : Room 2 _ := hr.mono (by decide)
    have hr3 := hr
    obtain ⟨tk0, k0⟩ := T.k0
    obtain ⟨tk1, k1⟩ := T.k1
    obtain ⟨tk2, k2⟩ := T.k2
    obtain ⟨tk3, k3⟩ := T.k3
    obtain ⟨tk4, k4⟩ := T.k4
    obtain ⟨tk5, k5⟩ := T.k5
    refine ⟨_, (pss_cons (ps_set (i := 1) nd rfl (Or.inl rfl) (pe_call GO hr2 (by rfl) DO.mg DO.kp DO.b .nil L2.pass0 (pa_cons (pv 0) (pa_cons (pe_lst (pa_cons pe_non (pa_cons pe_int (pa_cons pe_bl (pa_cons pe_str (pa_cons (pe_tup (pa_cons pe_int (pa_cons pe_str pa_nil))) (pa_cons (pe_lst (pa_cons pe_int pa_nil)) (pa_cons pe_dnewK (pa_cons (pe_op op_pow pe_int pe_int) (pa_cons (pe_tup pa_nil) (pa_cons (pe_un un_neg pe_int) pa_nil))))))))))) pa_nil))))
      (pss_cons (ps_asg (pe_call GV hr3 (by rfl) DV.mg DV.kp DV.b .nil L2.pass0 (pa_cons (pv 1) pa_nil)) (pg_tup (by rfl) (pgs_cons (pg_name (i := 2) nd rfl (Or.inl rfl)) (pgs_cons (pg_name (i := 3) nd rfl (Or.inl rfl)) pgs_nil))))
      (pss_cons (ps_asg (pe_call GS hr3 (by rfl) DS.mg DS.kp DS.b .nil L2.pass0 (pa_cons (pv 1) pa_nil)) (pg_tup (by rfl) (pgs_cons (pg_name (i := 4) nd rfl (Or.inl rfl)) (pgs_cons (pg_name (i := 5) nd rfl (Or.inl rfl)) pgs_nil))))
      (pss_cons (ps_set (i := 6) nd rfl (Or.inl rfl) (pe_lstS (pa_cons (pe_mkE0 T.n15 (by rfl)) (pa_cons (pe_mkE0 T.n16 (by rfl)) (pa_cons (pe_mkE0 T.n17 (by rfl)) (pa_cons (pe_mkE0 T.n18 (by rfl)) pa_nil))))))
      (pss_cons (ps_set (i := 7) nd rfl (Or.inl rfl) (pe_op op_catS (pe_op op_catS (pe_lc (te := tErF K "value" (tVar 12)) (own := [("_law_e", 12)]) (g := gName 12) (by rfl) nd (pi_list (pe_op op_catS (pv 2) (pv 4))) (blkOk_by (own := [("_law_e", 12)]) (N := nR) (sc := defScope sRight) (by decide +kernel))
          (fun _ _ _ _ _ => pg_name (i := 12) nd rfl (Or.inl rfl)) (fun _ _ _ _ _ => pts_nil) (fun _ _ _ _ _ => by exact pe_erF (pv 12))) (pe_lc (te := tErF K "index" (tVar 12)) (own := [("_law_e", 12)]) (g := gName 12) (by rfl) nd (pi_list (pv 3)) (blkOk_by (own := [("_law_e", 12)]) (N := nR) (sc := defScope sRight) (by decide +kernel))
          (fun _ _ _ _ _ => pg_name (i := 12) nd rfl (Or.inl rfl)) (fun _ _ _ _ _ => pts_nil) (fun _ _ _ _ _ => by exact pe_erF (pv 12)))) (pe_lc (te := tErF K "limit" (tVar 12)) (own := [("_law_e", 12)]) (g := gName 12) (by rfl) nd (pi_list (pv 5)) (blkOk_by (own := [("_law_e", 12)]) (N := nR) (sc := defScope sRight) (by decide +kernel))
          (fun _ _ _ _ _ => pg_name (i := 12) nd rfl (Or.inl rfl)) (fun _ _ _ _ _ => pts_nil) (fun _ _ _ _ _ => by exact pe_erF (pv 12)))))
      (pss_cons (ps_if (PW.pt (pw_or (pt_cmpR op_ne (pe_callB (call_reprD g hr.units hM) (by rfl) T.repr (by decide +kernel) (pa_cons (pv 7) pa_nil)) (pe_callB (call_reprD g hr.units hM) (by rfl) T.repr (by decide +kernel) (pa_cons (pe_op op_repS (pe_lstS (pa_cons (pv 1) pa_nil)) (pe_callB call_len_seq (by rfl) T.len PySem.boot_len (pa_cons (pv 7) pa_nil))) pa_nil)) (nomark _)) (pw_or1 (pt_cmpR (op_neD hr.units) (pe_lstS (pa_cons (pe_callB call_len_seq (by rfl) T.len PySem.boot_len (pa_cons (pv 2) pa_nil)) (pa_cons (pe_callB call_len_seq (by rfl) T.len PySem.boot_len (pa_cons (pv 3) pa_nil)) pa_nil))) (pe_lstS (pa_cons pe_int (pa_cons pe_int pa_nil))) (nomark _))))) (pss_one (ps_ret pe_bl)) pss_nil)
      (pss_cons (ps_set (i := 8) nd rfl (Or.inl rfl) (pe_lstS (pa_cons (pe_tupS (pa_cons (pe_op op_catS (pv 2) (pv 3)) (pa_cons (pe_lstS (pa_cons pe_int (pa_cons pe_int pa_nil))) pa_nil))) (pa_cons (pe_tupS (pa_cons (pe_op op_catS (pv 4) (pv 6)) (pa_cons (pe_lstS (pa_cons pe_int (pa_cons pe_int pa_nil))) pa_nil))) (pa_cons (pe_tupS (pa_cons (pv 5) (pa_cons (pe_lstS (pa_cons pe_int (pa_cons pe_int pa_nil))) pa_nil))) pa_nil)))))
      (pss_cons (ps_for PassesOwn.never rfl (pi_list (pv 8)) (pg_tup (by rfl) (pgs_cons (pg_name (i := 9) nd rfl (Or.inl rfl)) (pgs_cons (pg_name (i := 10) nd rfl (Or.inr rfl)) pgs_nil)))
        (pss_one (ps_if (pt_not (pt_val (pe_callB (cr_all rfl) (by rfl) T.all (by decide +kernel) (pa_cons
          (pe_lc (own := [("_law_e", 12)]) (g := gName 12) (by rfl) nd (pi_list (pv 9)) (blkOk_by (own := [("_law_e", 12)]) (N := nR) (sc := defScope sRight) (by decide +kernel))
            (fun _ _ _ _ _ => pg_name (i := 12) nd rfl (Or.inl rfl)) (fun _ _ _ _ _ => pts_nil)
            (fun _ _ _ _ _ => pe_and (pe_cmpR (r := rEqD K) (by exact op_eqD hr.units) (pe_call GB hr2 (by rfl) DB.mg DB.kp DB.b .nil L2.pass0 (pa_cons (pv 12) pa_nil)) (pv 10) (nomark _))
              (pe_one (pe_cmpR op_eq (pe_call GI hr2 (by rfl) DI.mg DI.kp DI.b .nil L2.pass0 (pa_cons (pv 12) pa_nil)) pe_int (nomark _))))) pa_nil)))) (pss_one (ps_ret pe_bl)) pss_nil)))
      (pss_cons (ps_set (i := 11) nd rfl (Or.inl rfl) (pe_lstS (pa_cons (pe_glob (v := .int 6) (by rfl) k0 ⟨_, rfl⟩) (pa_cons (pe_glob (v := .int 26) (by rfl) k1 ⟨_, rfl⟩) (pa_cons (pe_glob (v := .int 20) (by rfl) k2 ⟨_, rfl⟩) (pa_cons (pe_glob (v := .int 20) (by rfl) k3 ⟨_, rfl⟩) (pa_cons (pe_glob (v := .int 4) (by rfl) k4 ⟨_, rfl⟩) (pa_cons (pe_glob (v := .int 10) (by rfl) k5 ⟨_, rfl⟩) pa_nil))))))))
      (pss_one (ps_ret (pe_cmpR (op_eqD hr.units) (pv 11) (pe_lstS (pa_cons pe_int (pa_cons pe_int (pa_cons pe_int (pa_cons pe_int (pa_cons pe_int (pa_cons pe_int pa_nil))))))) (nomark _))))))))))))), ?_⟩
    have hline : sizeLine = 16777216 := sizeLine_eq
    have sm : Same H H := fun _ _ e => e
    have hp0 := hp
    obtain ⟨b0, b1, b2, hpc⟩ := hp
    refine ⟨_, rfl, ?_⟩
    refine ⟨by rw [sizeLine_eq]; show 2 ≤ 16777216; decide, fun a0 za0 => ?_⟩
    have pa0 : a0 ≠ p := (ne_of_none hpc za0).symm
    have hpc := same_upd (o := HO.tup [.int (2), .str "y"]) za0 _ _ hpc
    have sm := sm.trans (same_upd (o := HO.tup [.int (2), .str "y"]) za0)
    have ea0 := new_at (o := HO.tup [.int (2), .str "y"]) za0
    refine ⟨by rw [sizeLine_eq]; show 1 ≤ 16777216; decide, fun a1 za1 => ?_⟩
    have pa1 : a1 ≠ p := (ne_of_none hpc za1).symm
    have hpc := same_upd (o := HO.lst [.int (3)]) za1 _ _ hpc
    have sm := sm.trans (same_upd (o := HO.lst [.int (3)]) za1)
    have ea0 := same_upd (o := HO.lst [.int (3)]) za1 _ _ ea0
    have ea1 := new_at (o := HO.lst [.int (3)]) za1
    refine fun a2 za2 => ?_
    have pa2 : a2 ≠ p := (ne_of_none hpc za2).symm
    have hpc := same_upd (o := HO.dK []) za2 _ _ hpc
    have sm := sm.trans (same_upd (o := HO.dK []) za2)
    have ea0 := same_upd (o := HO.dK []) za2 _ _ ea0
    have ea1 := same_upd (o := HO.dK []) za2 _ _ ea1
    have ea2 := new_at (o := HO.dK []) za2
    refine ⟨_, _, rfl, rfl, ⟨by decide, by decide, by decide⟩, ?_⟩
    refine ⟨by rw [sizeLine_eq]; show 0 ≤ 16777216; decide, fun a3 za3 => ?_⟩
    have pa3 : a3 ≠ p := (ne_of_none hpc za3).symm
    have hpc := same_upd (o := HO.tup []) za3 _ _ hpc
    have sm := sm.trans (same_upd (o := HO.tup []) za3)
    have ea0 := same_upd (o := HO.tup []) za3 _ _ ea0
    have ea1 := same_upd (o := HO.tup []) za3 _ _ ea1
    have ea2 := same_upd (o := HO.tup []) za3 _ _ ea2
    have ea3 := new_at (o := HO.tup []) za3
    refine ⟨_, rfl, ?_⟩
    refine ⟨by rw [sizeLine_eq]; show 10 ≤ 16777216; decide, fun la zla => ?_⟩
    have pla : la ≠ p := (ne_of_none hpc zla).symm
    have hpc := same_upd (o := HO.lst [.non, .int (0), .bl false, .str "x", .ref a0, .ref a1, .ref a2, .int (10 ^ 19), .ref a3, .int (-7)]) zla _ _ hpc
    have sm := sm.trans (same_upd (o := HO.lst [.non, .int (0), .bl false, .str "x", .ref a0, .ref a1, .ref a2, .int (10 ^ 19), .ref a3, .int (-7)]) zla)
    have ea0 := same_upd (o := HO.lst [.non, .int (0), .bl false, .str "x", .ref a0, .ref a1, .ref a2, .int (10 ^ 19), .ref a3, .int (-7)]) zla _ _ ea0
    have ea1 := same_upd (o := HO.lst [.non, .int (0), .bl false, .str "x", .ref a0, .ref a1, .ref a2, .int (10 ^ 19), .ref a3, .int (-7)]) zla _ _ ea1
    have ea2 := same_upd (o := HO.lst [.non, .int (0), .bl false, .str "x", .ref a0, .ref a1, .ref a2, .int (10 ^ 19), .ref a3, .int (-7)]) zla _ _ ea2
    have ea3 := same_upd (o := HO.lst [.non, .int (0), .bl false, .str "x", .ref a0, .ref a1, .ref a2, .int (10 ^ 19), .ref a3, .int (-7)]) zla _ _ ea3
    have ela := new_at (o := HO.lst [.non, .int (0), .bl false, .str "x", .ref a0, .ref a1, .ref a2, .int (10 ^ 19), .ref a3, .int (-7)]) zla
    have all1 := in_heap (xs := [V.non, V.int (0), V.bl false, V.str "x", V.ref a0, V.ref a1, V.ref a2, V.int (10 ^ 19), V.ref a3, V.int (-7)]) (C := fun _ => True) hpc (List.forall_mem_cons.mpr ⟨item_non (trivial), (List.forall_mem_cons.mpr ⟨item_int _ (by decide +kernel) (by decide +kernel) (trivial), (List.forall_mem_cons.mpr ⟨item_bl _ (trivial), (List.forall_mem_cons.mpr ⟨item_str _ (by decide +kernel) (trivial), (List.forall_mem_cons.mpr ⟨item_tup pa0 ea0 (.cons (.int _) (.cons (.str _) (.nil))) (.cons (Sh.int _ (by decide +kernel) (by decide +kernel : _ ≤ 20)) (.cons (Sh.str _ (by decide +kernel : _ ≤ 20)) (ShAll.nil))) (by decide) (trivial), (List.forall_mem_cons.mpr ⟨item_lst pa1 ea1 (.cons (.int _) (.nil)) (.cons (Sh.int _ (by decide +kernel) (by decide +kernel : _ ≤ 20)) (ShAll.nil)) (by decide) (trivial), (List.forall_mem_cons.mpr ⟨item_dic pa2 ea2 (trivial), (List.forall_mem_cons.mpr ⟨item_int _ (by decide +kernel) (by decide +kernel) (trivial), (List.forall_mem_cons.mpr ⟨item_tup pa3 ea3 (.nil) (ShAll.nil) (by decide) (trivial), (List.forall_mem_cons.mpr ⟨item_int _ (by decide +kernel) (by decide +kernel) (trivial), (fun _ h => by cases h)⟩)⟩)⟩)⟩)⟩)⟩)⟩)⟩)⟩)⟩)
    refine ⟨p, la, _, rfl, ⟨_, _, _, hpc⟩, pla, ela, by show 0 < 10; decide, by show 10 ≤ 1000; decide, fun HA th Ra hth => ?_⟩
    obtain ⟨d, ty, hTh, hSh, _⟩ := (all1 th hth).keep (.but Ra.1)
    have RA : Stir p H HA := ((Stir.refl hp0).same sm).trans Ra
    clear all1 hth hpc sm hp0 ea0 ea1 ea2 ea3 ela
    -- the errors
    refine ⟨_, rfl, th, rfl, fun H1 t1 q1 r1 as1 bs1 s1 ht1 hq1 hr1 E1 F1 => ?_⟩
    refine ⟨t1, _, rfl, SqT.of ht1, rfl, _, _, rfl, _, _, rfl, rfl, ?_⟩
    refine ⟨_, rfl, th, rfl, fun H2 t2 q2 r2 as2 bs2 s2 ht2 hq2 hr2' E2 F2 => ?_⟩
    refine ⟨t2, _, rfl, SqT.of ht2, rfl, _, _, rfl, _, _, rfl, rfl, ?_⟩
    have hq1 := s2 _ _ hq1
    have hr1 := s2 _ _ hr1
    have E1 := E1.same s2
    have F1 := F1.same s2
    refine fun X1 a1 u1 g1 X2 a2 u2 g2 X3 a3 u3 g3 X4 a4 u4 g4 => ⟨le_of rfl, fun H3 st u5 hst => ?_⟩
    have s3 : Same H2 H3 := (((u1.thru u2).thru u3).thru u4).thru u5
    have g1 := g1.same (((u2.thru u3).thru u4).thru u5)
    have g2 := g2.same ((u3.thru u4).thru u5)
    have g3 := g3.same (u4.thru u5)
    have g4 := g4.same u5
    have hq1 := s3 _ _ hq1
    have hr1 := s3 _ _ hr1
    have hq2 := s3 _ _ hq2
    have hr2' := s3 _ _ hr2'
    have E1 := E1.same s3
    have F1 := F1.same s3
    have E2 := E2.same s3
    have F2 := F2.same s3
    have RA3 : Stir p H H3 := ((RA.same s1).same s2).same s3
    have hTh : Thing p H3 th d ty := ((hTh.same s1).same s2).same s3
    clear u1 u2 u3 u4 u5 s1 s2 s3 ht1 ht2 RA
    have lE1 := E1.length
    have lF1 := F1.length
    have lE2 := E2.length
    have lF2 := F2.length
    -- what they keep
    refine ⟨_, rfl, _, rfl, q1, q2, _, _, rfl, rfl, hq1, hq2, by rw [List.length_map, List.length_map, lE1, lE2]; exact le_of rfl, fun H4 y s4 hy => ?_⟩
    rw [← List.map_append] at hy
    refine ⟨y, rfl, ⟨_, SqL.of hy⟩, fun D1 hD1 => ?_⟩
    have EE := (E1.same s4).app (E2.same s4)
    refine lc_list (K := K) (a := y) (xs := (as1 ++ as2).map V.ref) (fun i H' => Same H4 H' ∧ H' D1 = some (.lst (List.replicate i th))) ⟨same_upd0 hD1, upd_same⟩ (fun i H' _ h => SqL.of (h.1 _ _ hy)) ?_ ?_
    · rintro i x H' hi ⟨sm, hDi⟩
      rw [List.getElem?_map] at hi
      obtain ⟨a, ha, rfl⟩ := Option.map_eq_some_iff.mp hi
      obtain ⟨C, f, hm, hat⟩ := EE.get ha
      obtain ⟨rfl, hI, hno⟩ := T.gValue () hm
      refine ⟨rfl, ?_⟩
      refine ⟨_, rfl, a, C, _, th, rfl, hat.same sm, hI, hno, look1, ?_⟩
      refine ⟨_, hDi, ?_, fun b u e => ?_, ?_⟩
      · have := (List.getElem?_eq_some_iff.mp ha).1
        rw [List.length_append, lE1, lE2] at this
        rw [List.length_replicate, hline]
        have : (lVal c).length + (lNam c).length = 26 := rfl
        omega
      · rw [upd_ne (ne_of_none e hD1)]
        exact sm _ _ e
      · rw [upd_same, List.replicate_succ']
    rintro H5 ⟨s5, hD1'⟩
    have n1 : ((as1 ++ as2).map V.ref).length = 26 := by
      rw [List.length_map, List.length_append, lE1, lE2]
      rfl
    rw [n1] at hD1'
    have hr15 := s5 _ _ (s4 _ _ hr1)
    refine ⟨_, rfl, r1, rfl, ⟨_, SqL.of hr15⟩, fun D2 hD2 => ?_⟩
    have FF := (F1.same s4).same s5
    refine lc_list (K := K) (a := r1) (xs := bs1.map V.ref) (fun i H' => Same H5 H' ∧ H' D2 = some (.lst (List.replicate i th))) ⟨same_upd0 hD2, upd_same⟩ (fun i H' _ h => SqL.of (h.1 _ _ hr15)) ?_ ?_
    · rintro i x H' hi ⟨sm, hDi⟩
      rw [List.getElem?_map] at hi
      obtain ⟨a, ha, rfl⟩ := Option.map_eq_some_iff.mp hi
      obtain ⟨C, f, hm, hat⟩ := FF.get ha
      obtain ⟨rfl, hI, hno⟩ := T.gIndex () hm
      refine ⟨rfl, ?_⟩
      refine ⟨_, rfl, a, C, _, th, rfl, hat.same sm, hI, hno, look1, ?_⟩
      refine ⟨_, hDi, ?_, fun b u e => ?_, ?_⟩
      · have := (List.getElem?_eq_some_iff.mp ha).1
        rw [lF1] at this
        rw [List.length_replicate, hline]
        have : (lPla c).length = 8 := rfl
        omega
      · rw [upd_ne (ne_of_none e hD2)]
        exact sm _ _ e
      · rw [upd_same, List.replicate_succ']
    rintro H6 ⟨s6, hD2'⟩
    have n2 : (bs1.map V.ref).length = 8 := by
      rw [List.length_map, lF1]
      rfl
    rw [n2] at hD2'
    refine ⟨D1, D2, _, _, rfl, rfl, s6 _ _ hD1', hD2', by rw [List.length_replicate, List.length_replicate]; exact le_of rfl, fun H7 D12 s7 hD12 => ?_⟩
    have k7 : Same H3 H7 := ((s4.thru s5).thru s6).thru s7
    have hr27 := k7 _ _ hr2'
    refine ⟨_, rfl, r2, rfl, ⟨_, SqL.of hr27⟩, fun D3 hD3 => ?_⟩
    have FF2 := F2.same k7
    refine lc_list (K := K) (a := r2) (xs := bs2.map V.ref) (fun i H' => Same H7 H' ∧ H' D3 = some (.lst (List.replicate i th))) ⟨same_upd0 hD3, upd_same⟩ (fun i H' _ h => SqL.of (h.1 _ _ hr27)) ?_ ?_
    · rintro i x H' hi ⟨sm, hDi⟩
      rw [List.getElem?_map] at hi
      obtain ⟨a, ha, rfl⟩ := Option.map_eq_some_iff.mp hi
      obtain ⟨C, f, hm, hat⟩ := FF2.get ha
      obtain ⟨rfl, hI, hno⟩ := T.gLimit () hm
      refine ⟨rfl, ?_⟩
      refine ⟨_, rfl, a, C, _, th, rfl, hat.same sm, hI, hno, look1, ?_⟩
      refine ⟨_, hDi, ?_, fun b u e => ?_, ?_⟩
      · have := (List.getElem?_eq_some_iff.mp ha).1
        rw [lF2] at this
        rw [List.length_replicate, hline]
        have : (lSiz c).length = 2 := rfl
        omega
      · rw [upd_ne (ne_of_none e hD3)]
        exact sm _ _ e
      · rw [upd_same, List.replicate_succ']
    rintro H8 ⟨s8, hD3'⟩
    have n3 : (bs2.map V.ref).length = 2 := by
      rw [List.length_map, lF2]
      rfl
    rw [n3] at hD3'
    refine ⟨D12, D3, _, _, rfl, rfl, s8 _ _ hD12, hD3', by rw [List.length_append, List.length_replicate, List.length_replicate, List.length_replicate]; exact le_of rfl, fun H9 D s9 hD => ?_⟩
    rw [List.replicate_append_replicate, List.replicate_append_replicate] at hD
    have k9 : Same H3 H9 := (k7.thru s8).thru s9
    -- what is kept is the thing
    have dq9 : Dq K H9 th d := (hTh.same k9).dq
    have shK : Sh (.list (List.replicate 36 d)) 16777216 60 := (Sh.lst (sh_rep hSh 36)).le (by decide) (by decide)
    refine ⟨_, rfl, D, _, rfl, .lst (SqL.of hD) (dq_rep dq9 36), shK, ?_⟩
    refine ⟨_, rfl, le_of rfl, fun H10 e s10 he => ⟨_, rfl, D, _, rfl, .inl (SqL.of (s10 _ _ hD)), ?_⟩⟩
    refine ⟨e, th, 36, rfl, ?_, he, le_of rfl, fun H11 M s11 hM' => ?_⟩
    · rw [List.length_replicate]
    have k11 : Same H3 H11 := (k9.thru s10).thru s11
    refine ⟨M, _, rfl, .lst (SqL.of hM') (dq_rep ((hTh.same k11).dq) 36), shK, ?_⟩
    refine ⟨rfl, _, rfl, ?_⟩
    rw [decide_eq_true rfl]
    refine iteF ?_
    have q11 := k11 _ _ hq1
    have r11 := k11 _ _ hr1
    refine ⟨_, rfl, q1, _, rfl, .inl (SqL.of q11), _, rfl, r1, _, rfl, .inl (SqL.of r11), le_of rfl, fun H12 W s12 hW => ?_⟩
    refine ⟨le_of rfl, fun H13 W' s13 hW' => ?_⟩
    rw [List.length_map, List.length_map, lE1, lF1] at hW
    refine ⟨.list [.int 22, .int 8], .list [.int 22, .int 8], .lst (SqL.of (s13 _ _ hW)) (.cons (.int _) (.cons (.int _) .nil)), .lst (SqL.of hW') (.cons (.int _) (.cons (.int _) .nil)), by decide +kernel, by decide +kernel, _, rfl, ?_⟩
    rw [show PyData.eqv (.list [.int 22, .int 8]) (.list [.int 22, .int 8]) = true from by decide +kernel]
    refine iteF ?_
    have k13 : Same H3 H13 := (k11.thru s12).thru s13
    -- the groups
    refine ⟨_, rfl, _, rfl, q1, r1, _, _, rfl, rfl, k13 _ _ hq1, k13 _ _ hr1, by rw [List.length_map, List.length_map, lE1, lF1]; exact le_of rfl, fun H14 g1l s14 hg1l => ?_⟩
    refine ⟨le_of rfl, fun H15 d1l s15 hd1l => ⟨le_of rfl, fun H16 G1 s16 hG1 => ?_⟩⟩
    have k16 : Same H3 H16 := ((k13.thru s14).thru s15).thru s16
    refine ⟨_, rfl, _, rfl, q2, st, _, _, rfl, rfl, k16 _ _ hq2, k16 _ _ hst, by rw [List.length_map, lE2]; exact le_of rfl, fun H17 g2l s17 hg2l => ?_⟩
    refine ⟨le_of rfl, fun H18 d2l s18 hd2l => ⟨le_of rfl, fun H19 G2 s19 hG2 => ?_⟩⟩
    refine ⟨_, rfl, le_of rfl, fun H20 d3l s20 hd3l => ⟨le_of rfl, fun H21 G3 s21 hG3 => ⟨le_of rfl, fun HG Gs s22 hGs => ?_⟩⟩⟩
    have x19 : Same H19 HG := (s20.thru s21).thru s22
    have x16 : Same H16 HG := ((s17.thru s18).thru s19).thru x19
    have kG : Same H3 HG := k16.thru x16
    have RG : Stir p H HG := RA3.same kG
    obtain ⟨X1', eX⟩ : ∃ z : Nat, z = 0 := ⟨0, rfl⟩
    have B1 : ∀ a ∈ as1 ++ bs1, Gx K c ci cs cz HG 0 a := fun a m => by
      rcases List.mem_append.mp m with m | m
      · obtain ⟨i, hi⟩ := List.getElem?_of_mem m
        obtain ⟨C, f, hm, hat⟩ := (E1.same kG).get hi
        exact ⟨C, _, hat, T.bVal () hm⟩
      · obtain ⟨i, hi⟩ := List.getElem?_of_mem m
        obtain ⟨C, f, hm, hat⟩ := (F1.same kG).get hi
        exact ⟨C, _, hat, T.bPla () hm⟩
    have B2 : ∀ a ∈ as2 ++ [a1, a2, a3, a4], Gx K c ci cs cz HG 1 a := fun a m => by
      rcases List.mem_append.mp m with m | m
      · obtain ⟨i, hi⟩ := List.getElem?_of_mem m
        obtain ⟨C, f, hm, hat⟩ := (E2.same kG).get hi
        exact ⟨C, _, hat, T.bNam () hm⟩
      · simp only [List.mem_cons, List.not_mem_nil, or_false] at m
        rcases m with rfl | rfl | rfl | rfl
        · exact ⟨_, _, g1.same kG, T.b15⟩
        · exact ⟨_, _, g2.same kG, T.b16⟩
        · exact ⟨_, _, g3.same kG, T.b17⟩
        · exact ⟨_, _, g4.same kG, T.b18⟩
    have B3 : ∀ a ∈ bs2, Gx K c ci cs cz HG 2 a := fun a m => by
      obtain ⟨i, hi⟩ := List.getElem?_of_mem m
      obtain ⟨C, f, hm, hat⟩ := (F2.same kG).get hi
      exact ⟨C, _, hat, T.bSiz () hm⟩
    have all3 : ∀ (i : Nat) (x : V), [V.ref G1, V.ref G2, V.ref G3][i]? = some x → ∃ (G L D : Addr) (as : List Addr) (j : Nat), x = .ref G ∧ HG G = some (.tup [.ref L, .ref D]) ∧ HG L = some (.lst (as.map V.ref)) ∧ HG D = some (.lst [.int (j : Nat), .int ((j + 3 : Nat) : Int)]) ∧ (∀ a ∈ as, Gx K c ci cs cz HG j a) ∧ j < 3 ∧ as.length ≤ 100 := by
      intro i x hx
      have hi : i < 3 := (List.getElem?_eq_some_iff.mp hx).1
      have ci' : i = 0 ∨ i = 1 ∨ i = 2 := by omega
      rcases ci' with rfl | rfl | rfl
      · cases hx
        exact ⟨G1, g1l, d1l, as1 ++ bs1, 0, rfl, x16 _ _ hG1, by rw [List.map_append]; exact x16 _ _ (s16 _ _ (s15 _ _ hg1l)), x16 _ _ (s16 _ _ hd1l), B1, by decide, by rw [List.length_append, lE1, lF1]; exact le_of rfl⟩
      · cases hx
        exact ⟨G2, g2l, d2l, as2 ++ [a1, a2, a3, a4], 1, rfl, x19 _ _ hG2, by rw [List.map_append]; exact x19 _ _ (s19 _ _ (s18 _ _ hg2l)), x19 _ _ (s19 _ _ hd2l), B2, by decide, by rw [List.length_append, lE2]; exact le_of rfl⟩
      · cases hx
        exact ⟨G3, r2, d3l, bs2, 2, rfl, s22 _ _ hG3, kG _ _ hr2', s22 _ _ (s21 _ _ hd3l), B3, by decide, by rw [lF2]; exact le_of rfl⟩
    refine ⟨_, rfl, Gs, rfl, ⟨_, SqL.of hGs⟩, for_list (xs := [V.ref G1, V.ref G2, V.ref G3]) (fun i σ H' => (∃ v9 v10 v11 v12 : Option V, σ = [some (.ref p), some th, some (.ref q1), some (.ref r1), some (.ref q2), some (.ref r2), some (.ref st), some (.ref D), some (.ref Gs), v9, v10, v11, v12]) ∧ Same HG H') ⟨⟨_, _, _, _, rfl⟩, fun _ _ e => e⟩ (fun i σ H' _ h => SqL.of (h.2 _ _ hGs)) ?_ ?_⟩
    · rintro i x σ H' hx ⟨⟨v9, v10, v11, v12, rfl⟩, sx⟩
      obtain ⟨G, L, Du, as, j, rfl, hG, hL, hDu, hB, hj, hn⟩ := all3 i x hx
      refine ⟨G, _, rfl, SqT.of (sx _ _ hG), rfl, _, _, rfl, _, _, rfl, rfl, ?_⟩
      refine ⟨_, rfl, L, rfl, ⟨_, SqL.of (sx _ _ hL)⟩, fun D4 hD4 => ?_⟩
      refine lc_list (K := K) (a := L) (xs := as.map V.ref) (fun i H'' => Same H' H'' ∧ H'' D4 = some (.lst ((List.replicate i true).map V.bl))) ⟨same_upd0 hD4, upd_same⟩ (fun i H'' _ h => SqL.of (h.1 _ _ (sx _ _ hL))) ?_ ?_
      · rintro i' x' H'' hi ⟨sm, hDi⟩
        rw [List.getElem?_map] at hi
        obtain ⟨a, ha, rfl⟩ := Option.map_eq_some_iff.mp hi
        obtain ⟨C, fs, hat, hI, hK, hk, hc⟩ := hB a (List.mem_of_getElem? ha)
        have sd : SeqAt.shaped (.list [.int (j : Nat), .int ((j + 3 : Nat) : Int)]) = true := by
          have cj' : j = 0 ∨ j = 1 ∨ j = 2 := by omega
          rcases cj' with rfl | rfl | rfl <;> decide +kernel
        refine ⟨rfl, ?_⟩
        refine ⟨_, rfl, a, C, fs, j, rfl, hat.same (sx.thru sm), hI, hj, hK, fun HB qB sB hqB => ?_⟩
        refine ⟨_, rfl, .list [.int (j : Nat), .int ((j + 3 : Nat) : Int)], .list [.int (j : Nat), .int ((j + 3 : Nat) : Int)], .lst (SqL.of hqB) (.cons (.int _) (.cons (.int _) .nil)), .lst (SqL.of (sB _ _ (sm _ _ (sx _ _ hDu)))) (.cons (.int _) (.cons (.int _) .nil)), sd, sd, ?_⟩
        rw [SeqAt.eqv_refl _ (SeqAt.canLay_of_shaped sd)]
        refine ⟨true, rfl, iteT ?_⟩
        refine ⟨_, rfl, a, C, fs, fun v => v == .ref C, rfl, hat.same ((sx.thru sm).thru sB), hI, hk, fun HC sC => ⟨rfl, ?_⟩⟩
        rw [hc]
        refine ⟨_, sC _ _ (sB _ _ hDi), ?_, fun b u e => ?_, ?_⟩
        · have := (List.getElem?_eq_some_iff.mp ha).1
          rw [List.length_map, List.length_replicate, hline]
          omega
        · rw [upd_ne (ne_of_none e hD4)]
          exact sC _ _ (sB _ _ (sm _ _ e))
        · rw [upd_same, List.replicate_succ', List.map_append]
          rfl
      rintro HZ ⟨sZ, hDZ⟩
      refine ⟨D4, _, rfl, SqL.of hDZ, true, congrArg V.bl (all_rep _), ?_⟩
      refine iteF ?_
      exact ⟨⟨_, _, _, _, rfl⟩, sx.thru sZ⟩
    rintro σ HZ ⟨⟨v9, v10, v11, v12, rfl⟩, sZ⟩
    refine ⟨le_of rfl, fun HY W2 sY hW2 => ?_⟩
    refine ⟨_, rfl, le_of rfl, fun HX W3 sX hW3 => ?_⟩
    have s6' : SeqAt.shaped (.list [.int 6, .int 26, .int 20, .int 20, .int 4, .int 10]) = true := by decide +kernel
    have dp6 : ∀ Hx, DpAll K Hx [.int 6, .int 26, .int 20, .int 20, .int 4, .int 10] [.int 6, .int 26, .int 20, .int 20, .int 4, .int 10] := fun _ => .cons (.int _) (.cons (.int _) (.cons (.int _) (.cons (.int _) (.cons (.int _) (.cons (.int _) .nil)))))
    refine ⟨.list [.int 6, .int 26, .int 20, .int 20, .int 4, .int 10], .list [.int 6, .int 26, .int 20, .int 20, .int 4, .int 10], .lst (SqL.of (sX _ _ hW2)) (dp6 _), .lst (SqL.of hW3) (dp6 _), s6', s6', ?_⟩
    rw [SeqAt.eqv_refl _ (SeqAt.canLay_of_shaped s6')]
    exact q _ (((RG.same sZ).same sY).same sX)
end
end Gm

namespace Gm
open PySem L2
abbrev sLaw : Stmt := top 41
def spLaw (K : PySem.W.Frag) : Sp := fun vs H Q _ => ∃ (a : Addr) (ns : List Int), vs = [.ref a] ∧ SqL K H a (ns.map V.int) ∧ ns.length ≤ 63 ∧ ∀ H', Q (.bl true) H'
def spLawN (K : PySem.W.Frag) : Sp := fun vs H Q E => (∀ p ∈ ([] : List (Addr × Addr)), H p.2 = some (.tbl #[])) ∧ spLaw K vs H Q E
structure TxL (mg : Str → Option Value) : Prop where
  all : mg "all" = none
  range : mg "range" = none
  max : mg "max" = none
  min : mg "min" = none
  len : mg "len" = none
section
variable {P : Program} {w : World} {K : PySem.W.Frag} {mg : Str → Option Value} {base : Heap}
abbrev nL : List Str := ["_law_script", "_law_k"]
theorem scL : FnScope nL ["_law_script"] (defScope sLaw) := ⟨rfl, rfl, rfl, by decide +kernel, rfl, by decide +kernel, by decide +kernel⟩
theorem ok_law {f fB fR : Addr} {fd fdB fdR : FuncData} (F : Fun K "law" "law" sLaw f fd) (T : TxL mg)
    (GB : FnOk P w K mg base CX0 1 fB fdB ["_law_script", "_law_k"] (spBowl K)) (DB : Df K mg "_law_bowl" fB fdB ["_law_script", "_law_k"])
    (GR : FnG P w K mg base CX0 4 fR fdR ["_law_bowl_here"] spRight) (DR : Df K mg "_law_right" fR fdR ["_law_bowl_here"]) : FnG P w K mg base CX0 5 f fd ["_law_script"] (spLawN K) := by
  refine F.okG scL (fun vs H Q E h => ?_) (fun cdv A outer s H vs Q E g hr h => ?_)
  · obtain ⟨_, a, ns, rfl, _⟩ := h
    rfl
  · obtain ⟨_, a, ns, rfl, hS, hlen, q⟩ := h
    have nd := scL.nd
    have hr1 : Room 1 _ := hr.mono (by decide)
    refine ⟨_, pss_one (ps_ret (pe_callB (cr_all rfl) (by rfl) T.all (by decide +kernel) (pa_cons
      (pe_lc (own := [("_law_k", 1)]) (g := gName 1) (by rfl) nd
        (pi_range1 (by rfl) T.range (pa_cons (pe_callB (call_max2 rfl) (by rfl) T.max (by decide +kernel) (pa_cons pe_int (pa_cons (pe_callB (call_min2 rfl) (by rfl) T.min (by decide +kernel)
          (pa_cons (pe_callB call_len_seq (by rfl) T.len PySem.boot_len (pa_cons (pv 0) pa_nil)) (pa_cons pe_int pa_nil))) pa_nil))) pa_nil))
        (blkOk_by (own := [("_law_k", 1)]) (N := nL) (sc := defScope sLaw) (by decide +kernel))
        (fun _ _ _ _ _ => pg_name (i := 1) nd rfl (Or.inl rfl)) (fun _ _ _ _ _ => pts_nil)
        (fun _ _ _ _ _ => pe_callG GR g hr (by rfl) DR.mg DR.kp DR.b pass0 (pa_cons (pe_call GB hr1 (by rfl) DB.mg DB.kp DB.b .nil pass0 (pa_cons (pv 0) (pa_cons (pv 1) pa_nil))) pa_nil))) pa_nil))), ?_⟩
    have hline : sizeLine = 16777216 := sizeLine_eq
    refine ⟨_, rfl, a, _, rfl, .inl hS, _, _, rfl, _, _, rfl, ?_⟩
    refine ⟨_, rfl, ?_, ?_, fun D hD => ?_⟩
    · rw [List.length_map]
      split <;> (try split) <;> omega
    · rw [List.length_map]
      split <;> (try split) <;> omega
    have hn : ∀ L : Int, (if (if (6 : Int) < L then (6 : Int) else L) > 2 then (if (6 : Int) < L then (6 : Int) else L) else 2).toNat ≤ 6 := fun L => by
      split <;> (try split) <;> omega
    refine lc_range (lo := 0) (fun i H' => Same H H' ∧ H' D = some (.lst ((List.replicate i true).map V.bl))) ⟨same_upd hD, upd_same⟩ ?_ ?_
    · rintro i H1 hi ⟨sm, hDi⟩
      have hi6 : i < 6 := Nat.lt_of_lt_of_le hi (hn _)
      refine ⟨rfl, ⟨_, rfl, _, rfl, a, ns, _, rfl, sm.seq hS, hlen, by omega, fun H2 p s2 np B => ⟨p, rfl, B, fun H3 R3 => ?_⟩⟩⟩
      have keep : Same H1 H3 := fun b o e => R3.1 b o (ne_of_none e np) (s2 b o e)
      refine ⟨_, keep _ _ hDi, ?_, fun b u e => ?_, ?_⟩
      · rw [List.length_map, List.length_replicate]
        omega
      · rw [upd_ne (ne_of_none e hD)]
        exact keep b u (sm b u e)
      · rw [upd_same, List.replicate_succ', List.map_append]
        rfl
    · rintro H1 ⟨sm, hD1⟩
      refine ⟨D, _, rfl, SqL.of hD1, ?_⟩
      rw [List.all_replicate]
      simp only [id, if_true, ite_self]
      exact q _
end
end Gm

namespace Gm
open PySem PySem.Spec PyProof.Rows L2 LamX
abbrev sE0 : Stmt := inClass (top 2) 0
abbrev sE1 : Stmt := inClass (top 3) 0
abbrev sE2 : Stmt := inClass (top 4) 0
abbrev sE3 : Stmt := inClass (top 5) 0
abbrev sE4 : Stmt := inClass (top 6) 0
abbrev sE5 : Stmt := inClass (top 7) 0
abbrev sE6 : Stmt := inClass (top 8) 0
abbrev sE7 : Stmt := inClass (top 9) 0
abbrev sE8 : Stmt := inClass (top 10) 0
abbrev sE9 : Stmt := inClass (top 11) 0
abbrev sE10 : Stmt := inClass (top 12) 0
abbrev sE11 : Stmt := inClass (top 13) 0
abbrev sE12 : Stmt := inClass (top 14) 0
abbrev sE13 : Stmt := inClass (top 15) 0
abbrev sE14 : Stmt := inClass (top 16) 0
abbrev sE19 : Stmt := inClass (top 22) 0
abbrev sE20 : Stmt := inClass (top 23) 0
abbrev sE21 : Stmt := inClass (top 25) 0
/-- an error class one step below a class over the built-in error B -/
theorem oexB_one {K : PySem.W.Frag} {C S N : Addr} {nm q : Str} {bs sub bmB : List Value} {sn : List Str} {ab : Bool} {col : Option Bool} {dd : Option Addr} {k0 k1 k2 k3 k5 : Option Value} {B n1 n2 : String}
    (x : K.lookup C = some (excClassObj nm q C N bs (.ref S :: bmB) true sn sub ab col dd k0 k1 k2 k3 k5 n1)) (F : ExcBaseFacts B n1 n2 bmB) (pass : ∀ self : Value, refuseLoop self "__setattr__" bmB = pure ()) (ob : bmB.contains (.type "object") = true)
    (sa : PySem.W.findIn K (.ref C) "__setattr__" = some (some (.builtin "object.__setattr__"))) (eb : PySem.W.subIn K (.ref C) (.type "BaseException") = some true) (ty : PySem.W.typeIn K (.ref C) = some (.type "type")) (kp : PySem.W.keepIn K (.ref C) = true) : OexB K C :=
  ⟨⟨nm, q, N, bs, .ref S :: bmB, sub, bmB, sn, ab, col, dd, k0, k1, k2, k3, k5, B, n1, n2, x, F, fun Y => by rw [List.contains_cons]; rfl, fun self => (PySem.refuseLoop_ref _ _ _ _).trans (pass self), ob⟩, sa, eb, ty, kp⟩

theorem gE_rel {vs : List V} {us : List Value} {zs : List V} {ws : List Value} (r : Vals vs us) (q : Vals zs ws) : Vals (gE vs zs) (gE us ws) := r.append q
theorem kw_E0 {K : PySem.W.Frag} {f : Addr} {fd : FuncData} (F : Fun K "__init__" "NotABoard.__init__" sE0 f fd) : KBn K fd ["self", "value"] 1 ["value"] gE gE := by
  obtain ⟨oc, od, kV, doc, pm, an, cdv, ct, osl, rfl, lk, hcd⟩ := F.ex
  refine ⟨fun s us ws X l0 l1 => ?_, gE_rel⟩
  match us, ws, l0, l1 with
  | [a], [b], _, _ => exact .of_eq rfl
  | [], _, l, _ | _ :: _ :: _, _, l, _ => simp at l
  | [_], [], _, l | [_], _ :: _ :: _, _, l => simp at l
theorem kw_E1 {K : PySem.W.Frag} {f : Addr} {fd : FuncData} (F : Fun K "__init__" "NotAHistory.__init__" sE1 f fd) : KBn K fd ["self", "value"] 1 ["value"] gE gE := by
  obtain ⟨oc, od, kV, doc, pm, an, cdv, ct, osl, rfl, lk, hcd⟩ := F.ex
  refine ⟨fun s us ws X l0 l1 => ?_, gE_rel⟩
  match us, ws, l0, l1 with
  | [a], [b], _, _ => exact .of_eq rfl
  | [], _, l, _ | _ :: _ :: _, _, l, _ => simp at l
  | [_], [], _, l | [_], _ :: _ :: _, _, l => simp at l
theorem kw_E2 {K : PySem.W.Frag} {f : Addr} {fd : FuncData} (F : Fun K "__init__" "NotAGame.__init__" sE2 f fd) : KBn K fd ["self", "value"] 1 ["value"] gE gE := by
  obtain ⟨oc, od, kV, doc, pm, an, cdv, ct, osl, rfl, lk, hcd⟩ := F.ex
  refine ⟨fun s us ws X l0 l1 => ?_, gE_rel⟩
  match us, ws, l0, l1 with
  | [a], [b], _, _ => exact .of_eq rfl
  | [], _, l, _ | _ :: _ :: _, _, l, _ => simp at l
  | [_], [], _, l | [_], _ :: _ :: _, _, l => simp at l
theorem kw_E3 {K : PySem.W.Frag} {f : Addr} {fd : FuncData} (F : Fun K "__init__" "InvalidLetters.__init__" sE3 f fd) : KBn K fd ["self", "value"] 1 ["value"] gE gE := by
  obtain ⟨oc, od, kV, doc, pm, an, cdv, ct, osl, rfl, lk, hcd⟩ := F.ex
  refine ⟨fun s us ws X l0 l1 => ?_, gE_rel⟩
  match us, ws, l0, l1 with
  | [a], [b], _, _ => exact .of_eq rfl
  | [], _, l, _ | _ :: _ :: _, _, l, _ => simp at l
  | [_], [], _, l | [_], _ :: _ :: _, _, l => simp at l
theorem kw_E4 {K : PySem.W.Frag} {f : Addr} {fd : FuncData} (F : Fun K "__init__" "InvalidLength.__init__" sE4 f fd) : KBn K fd ["self", "value"] 1 ["value"] gE gE := by
  obtain ⟨oc, od, kV, doc, pm, an, cdv, ct, osl, rfl, lk, hcd⟩ := F.ex
  refine ⟨fun s us ws X l0 l1 => ?_, gE_rel⟩
  match us, ws, l0, l1 with
  | [a], [b], _, _ => exact .of_eq rfl
  | [], _, l, _ | _ :: _ :: _, _, l, _ => simp at l
  | [_], [], _, l | [_], _ :: _ :: _, _, l => simp at l
theorem kw_E5 {K : PySem.W.Frag} {f : Addr} {fd : FuncData} (F : Fun K "__init__" "InvalidWord.__init__" sE5 f fd) : KBn K fd ["self", "value"] 1 ["value"] gE gE := by
  obtain ⟨oc, od, kV, doc, pm, an, cdv, ct, osl, rfl, lk, hcd⟩ := F.ex
  refine ⟨fun s us ws X l0 l1 => ?_, gE_rel⟩
  match us, ws, l0, l1 with
  | [a], [b], _, _ => exact .of_eq rfl
  | [], _, l, _ | _ :: _ :: _, _, l, _ => simp at l
  | [_], [], _, l | [_], _ :: _ :: _, _, l => simp at l
theorem kw_E6 {K : PySem.W.Frag} {f : Addr} {fd : FuncData} (F : Fun K "__init__" "InvalidMarks.__init__" sE6 f fd) : KBn K fd ["self", "value"] 1 ["value"] gE gE := by
  obtain ⟨oc, od, kV, doc, pm, an, cdv, ct, osl, rfl, lk, hcd⟩ := F.ex
  refine ⟨fun s us ws X l0 l1 => ?_, gE_rel⟩
  match us, ws, l0, l1 with
  | [a], [b], _, _ => exact .of_eq rfl
  | [], _, l, _ | _ :: _ :: _, _, l, _ => simp at l
  | [_], [], _, l | [_], _ :: _ :: _, _, l => simp at l
theorem kw_E7 {K : PySem.W.Frag} {f : Addr} {fd : FuncData} (F : Fun K "__init__" "InvalidFact.__init__" sE7 f fd) : KBn K fd ["self", "value"] 1 ["value"] gE gE := by
  obtain ⟨oc, od, kV, doc, pm, an, cdv, ct, osl, rfl, lk, hcd⟩ := F.ex
  refine ⟨fun s us ws X l0 l1 => ?_, gE_rel⟩
  match us, ws, l0, l1 with
  | [a], [b], _, _ => exact .of_eq rfl
  | [], _, l, _ | _ :: _ :: _, _, l, _ => simp at l
  | [_], [], _, l | [_], _ :: _ :: _, _, l => simp at l
theorem kw_E8 {K : PySem.W.Frag} {f : Addr} {fd : FuncData} (F : Fun K "__init__" "InvalidNumber.__init__" sE8 f fd) : KBn K fd ["self", "value"] 1 ["value"] gE gE := by
  obtain ⟨oc, od, kV, doc, pm, an, cdv, ct, osl, rfl, lk, hcd⟩ := F.ex
  refine ⟨fun s us ws X l0 l1 => ?_, gE_rel⟩
  match us, ws, l0, l1 with
  | [a], [b], _, _ => exact .of_eq rfl
  | [], _, l, _ | _ :: _ :: _, _, l, _ => simp at l
  | [_], [], _, l | [_], _ :: _ :: _, _, l => simp at l
theorem kw_E9 {K : PySem.W.Frag} {f : Addr} {fd : FuncData} (F : Fun K "__init__" "InvalidPlace.__init__" sE9 f fd) : KBn K fd ["self", "value"] 1 ["value"] gE gE := by
  obtain ⟨oc, od, kV, doc, pm, an, cdv, ct, osl, rfl, lk, hcd⟩ := F.ex
  refine ⟨fun s us ws X l0 l1 => ?_, gE_rel⟩
  match us, ws, l0, l1 with
  | [a], [b], _, _ => exact .of_eq rfl
  | [], _, l, _ | _ :: _ :: _, _, l, _ => simp at l
  | [_], [], _, l | [_], _ :: _ :: _, _, l => simp at l
theorem kw_E10 {K : PySem.W.Frag} {f : Addr} {fd : FuncData} (F : Fun K "__init__" "InvalidLine.__init__" sE10 f fd) : KBn K fd ["self", "value"] 1 ["value"] gE gE := by
  obtain ⟨oc, od, kV, doc, pm, an, cdv, ct, osl, rfl, lk, hcd⟩ := F.ex
  refine ⟨fun s us ws X l0 l1 => ?_, gE_rel⟩
  match us, ws, l0, l1 with
  | [a], [b], _, _ => exact .of_eq rfl
  | [], _, l, _ | _ :: _ :: _, _, l, _ => simp at l
  | [_], [], _, l | [_], _ :: _ :: _, _, l => simp at l
theorem kw_E11 {K : PySem.W.Frag} {f : Addr} {fd : FuncData} (F : Fun K "__init__" "InvalidRows.__init__" sE11 f fd) : KBn K fd ["self", "index"] 1 ["index"] gE gE := by
  obtain ⟨oc, od, kV, doc, pm, an, cdv, ct, osl, rfl, lk, hcd⟩ := F.ex
  refine ⟨fun s us ws X l0 l1 => ?_, gE_rel⟩
  match us, ws, l0, l1 with
  | [a], [b], _, _ => exact .of_eq rfl
  | [], _, l, _ | _ :: _ :: _, _, l, _ => simp at l
  | [_], [], _, l | [_], _ :: _ :: _, _, l => simp at l
theorem kw_E12 {K : PySem.W.Frag} {f : Addr} {fd : FuncData} (F : Fun K "__init__" "InvalidFacts.__init__" sE12 f fd) : KBn K fd ["self", "index"] 1 ["index"] gE gE := by
  obtain ⟨oc, od, kV, doc, pm, an, cdv, ct, osl, rfl, lk, hcd⟩ := F.ex
  refine ⟨fun s us ws X l0 l1 => ?_, gE_rel⟩
  match us, ws, l0, l1 with
  | [a], [b], _, _ => exact .of_eq rfl
  | [], _, l, _ | _ :: _ :: _, _, l, _ => simp at l
  | [_], [], _, l | [_], _ :: _ :: _, _, l => simp at l
theorem kw_E13 {K : PySem.W.Frag} {f : Addr} {fd : FuncData} (F : Fun K "__init__" "InvalidGuesses.__init__" sE13 f fd) : KBn K fd ["self", "index"] 1 ["index"] gE gE := by
  obtain ⟨oc, od, kV, doc, pm, an, cdv, ct, osl, rfl, lk, hcd⟩ := F.ex
  refine ⟨fun s us ws X l0 l1 => ?_, gE_rel⟩
  match us, ws, l0, l1 with
  | [a], [b], _, _ => exact .of_eq rfl
  | [], _, l, _ | _ :: _ :: _, _, l, _ => simp at l
  | [_], [], _, l | [_], _ :: _ :: _, _, l => simp at l
theorem kw_E14 {K : PySem.W.Frag} {f : Addr} {fd : FuncData} (F : Fun K "__init__" "InvalidDeeds.__init__" sE14 f fd) : KBn K fd ["self", "index"] 1 ["index"] gE gE := by
  obtain ⟨oc, od, kV, doc, pm, an, cdv, ct, osl, rfl, lk, hcd⟩ := F.ex
  refine ⟨fun s us ws X l0 l1 => ?_, gE_rel⟩
  match us, ws, l0, l1 with
  | [a], [b], _, _ => exact .of_eq rfl
  | [], _, l, _ | _ :: _ :: _, _, l, _ => simp at l
  | [_], [], _, l | [_], _ :: _ :: _, _, l => simp at l
theorem kw_E19 {K : PySem.W.Frag} {f : Addr} {fd : FuncData} (F : Fun K "__init__" "WordNotLeft.__init__" sE19 f fd) : KBn K fd ["self", "value"] 1 ["value"] gE gE := by
  obtain ⟨oc, od, kV, doc, pm, an, cdv, ct, osl, rfl, lk, hcd⟩ := F.ex
  refine ⟨fun s us ws X l0 l1 => ?_, gE_rel⟩
  match us, ws, l0, l1 with
  | [a], [b], _, _ => exact .of_eq rfl
  | [], _, l, _ | _ :: _ :: _, _, l, _ => simp at l
  | [_], [], _, l | [_], _ :: _ :: _, _, l => simp at l
theorem kw_E20 {K : PySem.W.Frag} {f : Addr} {fd : FuncData} (F : Fun K "__init__" "GuessNotLeft.__init__" sE20 f fd) : KBn K fd ["self", "value"] 1 ["value"] gE gE := by
  obtain ⟨oc, od, kV, doc, pm, an, cdv, ct, osl, rfl, lk, hcd⟩ := F.ex
  refine ⟨fun s us ws X l0 l1 => ?_, gE_rel⟩
  match us, ws, l0, l1 with
  | [a], [b], _, _ => exact .of_eq rfl
  | [], _, l, _ | _ :: _ :: _, _, l, _ => simp at l
  | [_], [], _, l | [_], _ :: _ :: _, _, l => simp at l
theorem kw_E21 {K : PySem.W.Frag} {f : Addr} {fd : FuncData} (F : Fun K "__init__" "TooManyRows.__init__" sE21 f fd) : KBn K fd ["self", "limit"] 1 ["limit"] gE gE := by
  obtain ⟨oc, od, kV, doc, pm, an, cdv, ct, osl, rfl, lk, hcd⟩ := F.ex
  refine ⟨fun s us ws X l0 l1 => ?_, gE_rel⟩
  match us, ws, l0, l1 with
  | [a], [b], _, _ => exact .of_eq rfl
  | [], _, l, _ | _ :: _ :: _, _, l, _ => simp at l
  | [_], [], _, l | [_], _ :: _ :: _, _, l => simp at l
def allKit (K : PySem.W.Frag) (cl : List Addr) : Bool := cl.all fun C => cl.all fun D => PySem.W.kitOne K (.ref C) (.ref D) == some (V.ref D == V.ref C)
def allOnce (cl : List Addr) : Bool := cl.all fun C => (cl.map fun D => (V.ref D == V.ref C)).count true == 1
def allBas (K : PySem.W.Frag) (cl : List Addr) (ci cs cz : Addr) (j : Nat) : Bool := cl.all fun C => PySem.W.kitOne K (.ref C) (.ref ci) == some (j == 0) && (PySem.W.kitOne K (.ref C) (.ref cs) == some (j == 1) && (PySem.W.kitOne K (.ref C) (.ref cz) == some (j == 2) &&
  (PySem.W.kitOne K (.ref C) (.type "ValueError") == some (j == 0) && (PySem.W.kitOne K (.ref C) (.type "LookupError") == some (j == 1) && PySem.W.kitOne K (.ref C) (.type "ArithmeticError") == some (j == 2)))))
theorem allKit_ok {K : PySem.W.Frag} {cl : List Addr} {C : Addr} (h : allKit K cl = true) (m : C ∈ cl) : KitR K C cl (fun v => v == .ref C) := fun D hD => beq_iff_eq.mp (List.all_eq_true.mp (List.all_eq_true.mp h C m) D hD)
theorem allOnce_ok {cl : List Addr} {C : Addr} (h : allOnce cl = true) (m : C ∈ cl) : (cl.map fun D => (V.ref D == V.ref C)).count true = 1 := beq_iff_eq.mp (List.all_eq_true.mp h C m)
theorem allBas_ok {K : PySem.W.Frag} {cl : List Addr} {ci cs cz C : Addr} {j : Nat} (h : allBas K cl ci cs cz j = true) (m : C ∈ cl) : KitB K C ci cs cz j := by
  have z := List.all_eq_true.mp h C m
  simp only [Bool.and_eq_true, beq_iff_eq] at z
  exact z
end Gm

namespace Gm
open PySem PySem.Spec PyProof.Rows L2 LamX
theorem all_mk {P : Program} {w : World} {q : Program} {K : PySem.W.Frag} {h : Heap} {mg : Str → Option Value} {fa Cx15 Cx16 Cx17 Cx18 CIn CSt CSi Cx0 Cx1 Cx2 Cx3 Cx4 Cx5 Cx6 Cx7 Cx8 Cx9 Cx10 Cx11 Cx12 Cx13 Cx14 Cx19 Cx20 Cx21 fB fD fOf fV fS fIs fBa fR fL fI0 fI1 fI2 fI3 fI4 fI5 fI6 fI7 fI8 fI9 fI10 fI11 fI12 fI13 fI14 fI19 fI20 fI21 : Addr} (X : K.In h) (G : h.Ns mainGlobals mg) (hfa : mg "law" = some (.ref fa))
    {odB anB odD anD odOf anOf odV anV odS anS odIs anIs odBa anBa odR anR odL anL odI0 anI0 odI1 anI1 odI2 anI2 odI3 anI3 odI4 anI4 odI5 anI5 odI6 anI6 odI7 anI7 odI8 anI8 odI9 anI9 odI10 anI10 odI11 anI11 odI12 anI12 odI13 anI13 odI14 anI14 odI19 anI19 odI20 anI20 odI21 anI21 : Option Addr} {slB slD slOf slV slS slIs slBa slR slL slI0 slI1 slI2 slI3 slI4 slI5 slI6 slI7 slI8 slI9 slI10 slI11 slI12 slI13 slI14 slI19 slI20 slI21 : Array (Option Value)} {ocB kVB dcB pmB cdB ctB ocD kVD dcD pmD cdD ctD ocOf kVOf dcOf pmOf cdOf ctOf ocV kVV dcV pmV cdV ctV ocS kVS dcS pmS cdS ctS ocIs kVIs dcIs pmIs cdIs ctIs ocBa kVBa dcBa pmBa cdBa ctBa ocR kVR dcR pmR cdR ctR ocL kVL dcL pmL cdL ctL ocI0 kVI0 dcI0 pmI0 cdI0 ctI0 ocI1 kVI1 dcI1 pmI1 cdI1 ctI1 ocI2 kVI2 dcI2 pmI2 cdI2 ctI2 ocI3 kVI3 dcI3 pmI3 cdI3 ctI3 ocI4 kVI4 dcI4 pmI4 cdI4 ctI4 ocI5 kVI5 dcI5 pmI5 cdI5 ctI5 ocI6 kVI6 dcI6 pmI6 cdI6 ctI6 ocI7 kVI7 dcI7 pmI7 cdI7 ctI7 ocI8 kVI8 dcI8 pmI8 cdI8 ctI8 ocI9 kVI9 dcI9 pmI9 cdI9 ctI9 ocI10 kVI10 dcI10 pmI10 cdI10 ctI10 ocI11 kVI11 dcI11 pmI11 cdI11 ctI11 ocI12 kVI12 dcI12 pmI12 cdI12 ctI12 ocI13 kVI13 dcI13 pmI13 cdI13 ctI13 ocI14 kVI14 dcI14 pmI14 cdI14 ctI14 ocI19 kVI19 dcI19 pmI19 cdI19 ctI19 ocI20 kVI20 dcI20 pmI20 cdI20 ctI20 ocI21 kVI21 dcI21 pmI21 cdI21 ctI21 : Value}
    {tkk0 tkk1 tkk2 tkk3 tkk4 tkk5 : Tok}
    {nmx0 qnx0 : Str} {NSx0 : Addr} {bsx0 sbx0 : List Value} {snx0 : List Str} {abx0 : Bool} {clx0 : Option Bool} {ddx0 : Option Addr} {m0x0 m1x0 m2x0 m3x0 m5x0 : Option Value}
    {nmx1 qnx1 : Str} {NSx1 : Addr} {bsx1 sbx1 : List Value} {snx1 : List Str} {abx1 : Bool} {clx1 : Option Bool} {ddx1 : Option Addr} {m0x1 m1x1 m2x1 m3x1 m5x1 : Option Value}
    {nmx2 qnx2 : Str} {NSx2 : Addr} {bsx2 sbx2 : List Value} {snx2 : List Str} {abx2 : Bool} {clx2 : Option Bool} {ddx2 : Option Addr} {m0x2 m1x2 m2x2 m3x2 m5x2 : Option Value}
    {nmx3 qnx3 : Str} {NSx3 : Addr} {bsx3 sbx3 : List Value} {snx3 : List Str} {abx3 : Bool} {clx3 : Option Bool} {ddx3 : Option Addr} {m0x3 m1x3 m2x3 m3x3 m5x3 : Option Value}
    {nmx4 qnx4 : Str} {NSx4 : Addr} {bsx4 sbx4 : List Value} {snx4 : List Str} {abx4 : Bool} {clx4 : Option Bool} {ddx4 : Option Addr} {m0x4 m1x4 m2x4 m3x4 m5x4 : Option Value}
    {nmx5 qnx5 : Str} {NSx5 : Addr} {bsx5 sbx5 : List Value} {snx5 : List Str} {abx5 : Bool} {clx5 : Option Bool} {ddx5 : Option Addr} {m0x5 m1x5 m2x5 m3x5 m5x5 : Option Value}
    {nmx6 qnx6 : Str} {NSx6 : Addr} {bsx6 sbx6 : List Value} {snx6 : List Str} {abx6 : Bool} {clx6 : Option Bool} {ddx6 : Option Addr} {m0x6 m1x6 m2x6 m3x6 m5x6 : Option Value}
    {nmx7 qnx7 : Str} {NSx7 : Addr} {bsx7 sbx7 : List Value} {snx7 : List Str} {abx7 : Bool} {clx7 : Option Bool} {ddx7 : Option Addr} {m0x7 m1x7 m2x7 m3x7 m5x7 : Option Value}
    {nmx8 qnx8 : Str} {NSx8 : Addr} {bsx8 sbx8 : List Value} {snx8 : List Str} {abx8 : Bool} {clx8 : Option Bool} {ddx8 : Option Addr} {m0x8 m1x8 m2x8 m3x8 m5x8 : Option Value}
    {nmx9 qnx9 : Str} {NSx9 : Addr} {bsx9 sbx9 : List Value} {snx9 : List Str} {abx9 : Bool} {clx9 : Option Bool} {ddx9 : Option Addr} {m0x9 m1x9 m2x9 m3x9 m5x9 : Option Value}
    {nmx10 qnx10 : Str} {NSx10 : Addr} {bsx10 sbx10 : List Value} {snx10 : List Str} {abx10 : Bool} {clx10 : Option Bool} {ddx10 : Option Addr} {m0x10 m1x10 m2x10 m3x10 m5x10 : Option Value}
    {nmx11 qnx11 : Str} {NSx11 : Addr} {bsx11 sbx11 : List Value} {snx11 : List Str} {abx11 : Bool} {clx11 : Option Bool} {ddx11 : Option Addr} {m0x11 m1x11 m2x11 m3x11 m5x11 : Option Value}
    {nmx12 qnx12 : Str} {NSx12 : Addr} {bsx12 sbx12 : List Value} {snx12 : List Str} {abx12 : Bool} {clx12 : Option Bool} {ddx12 : Option Addr} {m0x12 m1x12 m2x12 m3x12 m5x12 : Option Value}
    {nmx13 qnx13 : Str} {NSx13 : Addr} {bsx13 sbx13 : List Value} {snx13 : List Str} {abx13 : Bool} {clx13 : Option Bool} {ddx13 : Option Addr} {m0x13 m1x13 m2x13 m3x13 m5x13 : Option Value}
    {nmx14 qnx14 : Str} {NSx14 : Addr} {bsx14 sbx14 : List Value} {snx14 : List Str} {abx14 : Bool} {clx14 : Option Bool} {ddx14 : Option Addr} {m0x14 m1x14 m2x14 m3x14 m5x14 : Option Value}
    {nmx19 qnx19 : Str} {NSx19 : Addr} {bsx19 sbx19 : List Value} {snx19 : List Str} {abx19 : Bool} {clx19 : Option Bool} {ddx19 : Option Addr} {m0x19 m1x19 m2x19 m3x19 m5x19 : Option Value}
    {nmx20 qnx20 : Str} {NSx20 : Addr} {bsx20 sbx20 : List Value} {snx20 : List Str} {abx20 : Bool} {clx20 : Option Bool} {ddx20 : Option Addr} {m0x20 m1x20 m2x20 m3x20 m5x20 : Option Value}
    {nmx21 qnx21 : Str} {NSx21 : Addr} {bsx21 sbx21 : List Value} {snx21 : List Str} {abx21 : Bool} {clx21 : Option Bool} {ddx21 : Option Addr} {m0x21 m1x21 m2x21 m3x21 m5x21 : Option Value}
    (gCx15 : PySem.W.nsIn K mainGlobals "Mismatch" = some (some (.ref Cx15)))
    (gCx16 : PySem.W.nsIn K mainGlobals "NoWord" = some (some (.ref Cx16)))
    (gCx17 : PySem.W.nsIn K mainGlobals "NothingToUndo" = some (some (.ref Cx17)))
    (gCx18 : PySem.W.nsIn K mainGlobals "Busy" = some (some (.ref Cx18)))
    (gCIn : PySem.W.nsIn K mainGlobals "InputError" = some (some (.ref CIn)))
    (gCSt : PySem.W.nsIn K mainGlobals "StateError" = some (some (.ref CSt)))
    (gCSi : PySem.W.nsIn K mainGlobals "SizeError" = some (some (.ref CSi)))
    (gCx0 : PySem.W.nsIn K mainGlobals "NotABoard" = some (some (.ref Cx0)))
    (gCx1 : PySem.W.nsIn K mainGlobals "NotAHistory" = some (some (.ref Cx1)))
    (gCx2 : PySem.W.nsIn K mainGlobals "NotAGame" = some (some (.ref Cx2)))
    (gCx3 : PySem.W.nsIn K mainGlobals "InvalidLetters" = some (some (.ref Cx3)))
    (gCx4 : PySem.W.nsIn K mainGlobals "InvalidLength" = some (some (.ref Cx4)))
    (gCx5 : PySem.W.nsIn K mainGlobals "InvalidWord" = some (some (.ref Cx5)))
    (gCx6 : PySem.W.nsIn K mainGlobals "InvalidMarks" = some (some (.ref Cx6)))
    (gCx7 : PySem.W.nsIn K mainGlobals "InvalidFact" = some (some (.ref Cx7)))
    (gCx8 : PySem.W.nsIn K mainGlobals "InvalidNumber" = some (some (.ref Cx8)))
    (gCx9 : PySem.W.nsIn K mainGlobals "InvalidPlace" = some (some (.ref Cx9)))
    (gCx10 : PySem.W.nsIn K mainGlobals "InvalidLine" = some (some (.ref Cx10)))
    (gCx11 : PySem.W.nsIn K mainGlobals "InvalidRows" = some (some (.ref Cx11)))
    (gCx12 : PySem.W.nsIn K mainGlobals "InvalidFacts" = some (some (.ref Cx12)))
    (gCx13 : PySem.W.nsIn K mainGlobals "InvalidGuesses" = some (some (.ref Cx13)))
    (gCx14 : PySem.W.nsIn K mainGlobals "InvalidDeeds" = some (some (.ref Cx14)))
    (gCx19 : PySem.W.nsIn K mainGlobals "WordNotLeft" = some (some (.ref Cx19)))
    (gCx20 : PySem.W.nsIn K mainGlobals "GuessNotLeft" = some (some (.ref Cx20)))
    (gCx21 : PySem.W.nsIn K mainGlobals "TooManyRows" = some (some (.ref Cx21)))
    (aB : PySem.W.nsIn K mainGlobals "_law_bowl" = some (some (.ref fB)))
    (lB : K.lookup fB = some ⟨ocB, odB, .func (PySem.W.fnOf "_law_bowl" "_law_bowl" (defArgs sBowl) (defBody sBowl) (defScope sBowl) .none kVB dcB pmB anB cdB ctB), slB⟩)
    (cB : PySem.W.codeIn K cdB "_law_bowl" = true)
    (kB : PySem.W.keepIn K (.ref fB) = true)
    (aD : PySem.W.nsIn K mainGlobals "_law_dip" = some (some (.ref fD)))
    (lD : K.lookup fD = some ⟨ocD, odD, .func (PySem.W.fnOf "_law_dip" "_law_dip" (defArgs sDip) (defBody sDip) (defScope sDip) .none kVD dcD pmD anD cdD ctD), slD⟩)
    (cD : PySem.W.codeIn K cdD "_law_dip" = true)
    (kD : PySem.W.keepIn K (.ref fD) = true)
    (aOf : PySem.W.nsIn K mainGlobals "_law_of" = some (some (.ref fOf)))
    (lOf : K.lookup fOf = some ⟨ocOf, odOf, .func (PySem.W.fnOf "_law_of" "_law_of" (defArgs sOf) (defBody sOf) (defScope sOf) .none kVOf dcOf pmOf anOf cdOf ctOf), slOf⟩)
    (cOf : PySem.W.codeIn K cdOf "_law_of" = true)
    (kOf : PySem.W.keepIn K (.ref fOf) = true)
    (aV : PySem.W.nsIn K mainGlobals "_law_value_errors" = some (some (.ref fV)))
    (lV : K.lookup fV = some ⟨ocV, odV, .func (PySem.W.fnOf "_law_value_errors" "_law_value_errors" (defArgs sVal) (defBody sVal) (defScope sVal) .none kVV dcV pmV anV cdV ctV), slV⟩)
    (cV : PySem.W.codeIn K cdV "_law_value_errors" = true)
    (kV : PySem.W.keepIn K (.ref fV) = true)
    (aS : PySem.W.nsIn K mainGlobals "_law_state_errors" = some (some (.ref fS)))
    (lS : K.lookup fS = some ⟨ocS, odS, .func (PySem.W.fnOf "_law_state_errors" "_law_state_errors" (defArgs sSta) (defBody sSta) (defScope sSta) .none kVS dcS pmS anS cdS ctS), slS⟩)
    (cS : PySem.W.codeIn K cdS "_law_state_errors" = true)
    (kS : PySem.W.keepIn K (.ref fS) = true)
    (aIs : PySem.W.nsIn K mainGlobals "_law_instances" = some (some (.ref fIs)))
    (lIs : K.lookup fIs = some ⟨ocIs, odIs, .func (PySem.W.fnOf "_law_instances" "_law_instances" (defArgs sIns) (defBody sIns) (defScope sIns) .none kVIs dcIs pmIs anIs cdIs ctIs), slIs⟩)
    (cIs : PySem.W.codeIn K cdIs "_law_instances" = true)
    (kIs : PySem.W.keepIn K (.ref fIs) = true)
    (aBa : PySem.W.nsIn K mainGlobals "_law_bases" = some (some (.ref fBa)))
    (lBa : K.lookup fBa = some ⟨ocBa, odBa, .func (PySem.W.fnOf "_law_bases" "_law_bases" (defArgs sBas) (defBody sBas) (defScope sBas) .none kVBa dcBa pmBa anBa cdBa ctBa), slBa⟩)
    (cBa : PySem.W.codeIn K cdBa "_law_bases" = true)
    (kBa : PySem.W.keepIn K (.ref fBa) = true)
    (aR : PySem.W.nsIn K mainGlobals "_law_right" = some (some (.ref fR)))
    (lR : K.lookup fR = some ⟨ocR, odR, .func (PySem.W.fnOf "_law_right" "_law_right" (defArgs sRight) (defBody sRight) (defScope sRight) .none kVR dcR pmR anR cdR ctR), slR⟩)
    (cR : PySem.W.codeIn K cdR "_law_right" = true)
    (kR : PySem.W.keepIn K (.ref fR) = true)
    (aL : PySem.W.nsIn K mainGlobals "law" = some (some (.ref fL)))
    (lL : K.lookup fL = some ⟨ocL, odL, .func (PySem.W.fnOf "law" "law" (defArgs sLaw) (defBody sLaw) (defScope sLaw) .none kVL dcL pmL anL cdL ctL), slL⟩)
    (cL : PySem.W.codeIn K cdL "law" = true)
    (kL : PySem.W.keepIn K (.ref fL) = true)
    (aI0 : PySem.W.findIn K (.ref Cx0) "__init__" = some (some (.ref fI0)))
    (iI0 : PySem.W.isFn K (.ref fI0) = true)
    (lI0 : K.lookup fI0 = some ⟨ocI0, odI0, .func (PySem.W.fnOf "__init__" "NotABoard.__init__" (defArgs sE0) (defBody sE0) (defScope sE0) .none kVI0 dcI0 pmI0 anI0 cdI0 ctI0), slI0⟩)
    (cI0 : PySem.W.codeIn K cdI0 "NotABoard.__init__" = true)
    (kI0 : PySem.W.keepIn K (.ref fI0) = true)
    (aI1 : PySem.W.findIn K (.ref Cx1) "__init__" = some (some (.ref fI1)))
    (iI1 : PySem.W.isFn K (.ref fI1) = true)
    (lI1 : K.lookup fI1 = some ⟨ocI1, odI1, .func (PySem.W.fnOf "__init__" "NotAHistory.__init__" (defArgs sE1) (defBody sE1) (defScope sE1) .none kVI1 dcI1 pmI1 anI1 cdI1 ctI1), slI1⟩)
    (cI1 : PySem.W.codeIn K cdI1 "NotAHistory.__init__" = true)
    (kI1 : PySem.W.keepIn K (.ref fI1) = true)
    (aI2 : PySem.W.findIn K (.ref Cx2) "__init__" = some (some (.ref fI2)))
    (iI2 : PySem.W.isFn K (.ref fI2) = true)
    (lI2 : K.lookup fI2 = some ⟨ocI2, odI2, .func (PySem.W.fnOf "__init__" "NotAGame.__init__" (defArgs sE2) (defBody sE2) (defScope sE2) .none kVI2 dcI2 pmI2 anI2 cdI2 ctI2), slI2⟩)
    (cI2 : PySem.W.codeIn K cdI2 "NotAGame.__init__" = true)
    (kI2 : PySem.W.keepIn K (.ref fI2) = true)
    (aI3 : PySem.W.findIn K (.ref Cx3) "__init__" = some (some (.ref fI3)))
    (iI3 : PySem.W.isFn K (.ref fI3) = true)
    (lI3 : K.lookup fI3 = some ⟨ocI3, odI3, .func (PySem.W.fnOf "__init__" "InvalidLetters.__init__" (defArgs sE3) (defBody sE3) (defScope sE3) .none kVI3 dcI3 pmI3 anI3 cdI3 ctI3), slI3⟩)
    (cI3 : PySem.W.codeIn K cdI3 "InvalidLetters.__init__" = true)
    (kI3 : PySem.W.keepIn K (.ref fI3) = true)
    (aI4 : PySem.W.findIn K (.ref Cx4) "__init__" = some (some (.ref fI4)))
    (iI4 : PySem.W.isFn K (.ref fI4) = true)
    (lI4 : K.lookup fI4 = some ⟨ocI4, odI4, .func (PySem.W.fnOf "__init__" "InvalidLength.__init__" (defArgs sE4) (defBody sE4) (defScope sE4) .none kVI4 dcI4 pmI4 anI4 cdI4 ctI4), slI4⟩)
    (cI4 : PySem.W.codeIn K cdI4 "InvalidLength.__init__" = true)
    (kI4 : PySem.W.keepIn K (.ref fI4) = true)
    (aI5 : PySem.W.findIn K (.ref Cx5) "__init__" = some (some (.ref fI5)))
    (iI5 : PySem.W.isFn K (.ref fI5) = true)
    (lI5 : K.lookup fI5 = some ⟨ocI5, odI5, .func (PySem.W.fnOf "__init__" "InvalidWord.__init__" (defArgs sE5) (defBody sE5) (defScope sE5) .none kVI5 dcI5 pmI5 anI5 cdI5 ctI5), slI5⟩)
    (cI5 : PySem.W.codeIn K cdI5 "InvalidWord.__init__" = true)
    (kI5 : PySem.W.keepIn K (.ref fI5) = true)
    (aI6 : PySem.W.findIn K (.ref Cx6) "__init__" = some (some (.ref fI6)))
    (iI6 : PySem.W.isFn K (.ref fI6) = true)
    (lI6 : K.lookup fI6 = some ⟨ocI6, odI6, .func (PySem.W.fnOf "__init__" "InvalidMarks.__init__" (defArgs sE6) (defBody sE6) (defScope sE6) .none kVI6 dcI6 pmI6 anI6 cdI6 ctI6), slI6⟩)
    (cI6 : PySem.W.codeIn K cdI6 "InvalidMarks.__init__" = true)
    (kI6 : PySem.W.keepIn K (.ref fI6) = true)
    (aI7 : PySem.W.findIn K (.ref Cx7) "__init__" = some (some (.ref fI7)))
    (iI7 : PySem.W.isFn K (.ref fI7) = true)
    (lI7 : K.lookup fI7 = some ⟨ocI7, odI7, .func (PySem.W.fnOf "__init__" "InvalidFact.__init__" (defArgs sE7) (defBody sE7) (defScope sE7) .none kVI7 dcI7 pmI7 anI7 cdI7 ctI7), slI7⟩)
    (cI7 : PySem.W.codeIn K cdI7 "InvalidFact.__init__" = true)
    (kI7 : PySem.W.keepIn K (.ref fI7) = true)
    (aI8 : PySem.W.findIn K (.ref Cx8) "__init__" = some (some (.ref fI8)))
    (iI8 : PySem.W.isFn K (.ref fI8) = true)
    (lI8 : K.lookup fI8 = some ⟨ocI8, odI8, .func (PySem.W.fnOf "__init__" "InvalidNumber.__init__" (defArgs sE8) (defBody sE8) (defScope sE8) .none kVI8 dcI8 pmI8 anI8 cdI8 ctI8), slI8⟩)
    (cI8 : PySem.W.codeIn K cdI8 "InvalidNumber.__init__" = true)
    (kI8 : PySem.W.keepIn K (.ref fI8) = true)
    (aI9 : PySem.W.findIn K (.ref Cx9) "__init__" = some (some (.ref fI9)))
    (iI9 : PySem.W.isFn K (.ref fI9) = true)
    (lI9 : K.lookup fI9 = some ⟨ocI9, odI9, .func (PySem.W.fnOf "__init__" "InvalidPlace.__init__" (defArgs sE9) (defBody sE9) (defScope sE9) .none kVI9 dcI9 pmI9 anI9 cdI9 ctI9), slI9⟩)
    (cI9 : PySem.W.codeIn K cdI9 "InvalidPlace.__init__" = true)
    (kI9 : PySem.W.keepIn K (.ref fI9) = true)
    (aI10 : PySem.W.findIn K (.ref Cx10) "__init__" = some (some (.ref fI10)))
    (iI10 : PySem.W.isFn K (.ref fI10) = true)
    (lI10 : K.lookup fI10 = some ⟨ocI10, odI10, .func (PySem.W.fnOf "__init__" "InvalidLine.__init__" (defArgs sE10) (defBody sE10) (defScope sE10) .none kVI10 dcI10 pmI10 anI10 cdI10 ctI10), slI10⟩)
    (cI10 : PySem.W.codeIn K cdI10 "InvalidLine.__init__" = true)
    (kI10 : PySem.W.keepIn K (.ref fI10) = true)
    (aI11 : PySem.W.findIn K (.ref Cx11) "__init__" = some (some (.ref fI11)))
    (iI11 : PySem.W.isFn K (.ref fI11) = true)
    (lI11 : K.lookup fI11 = some ⟨ocI11, odI11, .func (PySem.W.fnOf "__init__" "InvalidRows.__init__" (defArgs sE11) (defBody sE11) (defScope sE11) .none kVI11 dcI11 pmI11 anI11 cdI11 ctI11), slI11⟩)
    (cI11 : PySem.W.codeIn K cdI11 "InvalidRows.__init__" = true)
    (kI11 : PySem.W.keepIn K (.ref fI11) = true)
    (aI12 : PySem.W.findIn K (.ref Cx12) "__init__" = some (some (.ref fI12)))
    (iI12 : PySem.W.isFn K (.ref fI12) = true)
    (lI12 : K.lookup fI12 = some ⟨ocI12, odI12, .func (PySem.W.fnOf "__init__" "InvalidFacts.__init__" (defArgs sE12) (defBody sE12) (defScope sE12) .none kVI12 dcI12 pmI12 anI12 cdI12 ctI12), slI12⟩)
    (cI12 : PySem.W.codeIn K cdI12 "InvalidFacts.__init__" = true)
    (kI12 : PySem.W.keepIn K (.ref fI12) = true)
    (aI13 : PySem.W.findIn K (.ref Cx13) "__init__" = some (some (.ref fI13)))
    (iI13 : PySem.W.isFn K (.ref fI13) = true)
    (lI13 : K.lookup fI13 = some ⟨ocI13, odI13, .func (PySem.W.fnOf "__init__" "InvalidGuesses.__init__" (defArgs sE13) (defBody sE13) (defScope sE13) .none kVI13 dcI13 pmI13 anI13 cdI13 ctI13), slI13⟩)
    (cI13 : PySem.W.codeIn K cdI13 "InvalidGuesses.__init__" = true)
    (kI13 : PySem.W.keepIn K (.ref fI13) = true)
    (aI14 : PySem.W.findIn K (.ref Cx14) "__init__" = some (some (.ref fI14)))
    (iI14 : PySem.W.isFn K (.ref fI14) = true)
    (lI14 : K.lookup fI14 = some ⟨ocI14, odI14, .func (PySem.W.fnOf "__init__" "InvalidDeeds.__init__" (defArgs sE14) (defBody sE14) (defScope sE14) .none kVI14 dcI14 pmI14 anI14 cdI14 ctI14), slI14⟩)
    (cI14 : PySem.W.codeIn K cdI14 "InvalidDeeds.__init__" = true)
    (kI14 : PySem.W.keepIn K (.ref fI14) = true)
    (aI19 : PySem.W.findIn K (.ref Cx19) "__init__" = some (some (.ref fI19)))
    (iI19 : PySem.W.isFn K (.ref fI19) = true)
    (lI19 : K.lookup fI19 = some ⟨ocI19, odI19, .func (PySem.W.fnOf "__init__" "WordNotLeft.__init__" (defArgs sE19) (defBody sE19) (defScope sE19) .none kVI19 dcI19 pmI19 anI19 cdI19 ctI19), slI19⟩)
    (cI19 : PySem.W.codeIn K cdI19 "WordNotLeft.__init__" = true)
    (kI19 : PySem.W.keepIn K (.ref fI19) = true)
    (aI20 : PySem.W.findIn K (.ref Cx20) "__init__" = some (some (.ref fI20)))
    (iI20 : PySem.W.isFn K (.ref fI20) = true)
    (lI20 : K.lookup fI20 = some ⟨ocI20, odI20, .func (PySem.W.fnOf "__init__" "GuessNotLeft.__init__" (defArgs sE20) (defBody sE20) (defScope sE20) .none kVI20 dcI20 pmI20 anI20 cdI20 ctI20), slI20⟩)
    (cI20 : PySem.W.codeIn K cdI20 "GuessNotLeft.__init__" = true)
    (kI20 : PySem.W.keepIn K (.ref fI20) = true)
    (aI21 : PySem.W.findIn K (.ref Cx21) "__init__" = some (some (.ref fI21)))
    (iI21 : PySem.W.isFn K (.ref fI21) = true)
    (lI21 : K.lookup fI21 = some ⟨ocI21, odI21, .func (PySem.W.fnOf "__init__" "TooManyRows.__init__" (defArgs sE21) (defBody sE21) (defScope sE21) .none kVI21 dcI21 pmI21 anI21 cdI21 ctI21), slI21⟩)
    (cI21 : PySem.W.codeIn K cdI21 "TooManyRows.__init__" = true)
    (kI21 : PySem.W.keepIn K (.ref fI21) = true)
    (gtc : PySem.W.specialIn K (.builtin "object.__class__") "__get__" = some (some (.builtin "getset_descriptor.__get__")))
    (tkc : PySem.W.takesIn K (.builtin "object.__class__") = some true)
    (xx0 : K.lookup Cx0 = some (excClassObj nmx0 qnx0 Cx0 NSx0 bsx0 [.ref CIn, .type "ValueError", .type "Exception", .type "BaseException", .type "object"] true snx0 sbx0 abx0 clx0 ddx0 m0x0 m1x0 m2x0 m3x0 m5x0 "ValueError.__new__"))
    (sax0 : PySem.W.findIn K (.ref Cx0) "__setattr__" = some (some (.builtin "object.__setattr__")))
    (ebx0 : PySem.W.subIn K (.ref Cx0) (.type "BaseException") = some true)
    (tyx0 : PySem.W.typeIn K (.ref Cx0) = some (.type "type"))
    (kpx0 : PySem.W.keepIn K (.ref Cx0) = true)
    (nox0 : PySem.W.findIn K (.ref Cx0) "value" = some none)
    (tix0 : PySem.W.typeIn K (.ref fI0) = some (.type "function"))
    (gax0 : PySem.W.findIn K (.ref Cx0) "__getattribute__" = some (some (.builtin "BaseException.__getattribute__")))
    (ggx0 : PySem.W.findIn K (.ref Cx0) "__getattr__" = some none)
    (hdx0 : PySem.W.hasDictIn K Cx0 = true)
    (acx0 : PySem.W.findIn K (.ref Cx0) "__class__" = some (some (.builtin "object.__class__")))
    (obx0 : PySem.W.mroIn K Cx0 (.type "object") = some true)
    (xx1 : K.lookup Cx1 = some (excClassObj nmx1 qnx1 Cx1 NSx1 bsx1 [.ref CIn, .type "ValueError", .type "Exception", .type "BaseException", .type "object"] true snx1 sbx1 abx1 clx1 ddx1 m0x1 m1x1 m2x1 m3x1 m5x1 "ValueError.__new__"))
    (sax1 : PySem.W.findIn K (.ref Cx1) "__setattr__" = some (some (.builtin "object.__setattr__")))
    (ebx1 : PySem.W.subIn K (.ref Cx1) (.type "BaseException") = some true)
    (tyx1 : PySem.W.typeIn K (.ref Cx1) = some (.type "type"))
    (kpx1 : PySem.W.keepIn K (.ref Cx1) = true)
    (nox1 : PySem.W.findIn K (.ref Cx1) "value" = some none)
    (tix1 : PySem.W.typeIn K (.ref fI1) = some (.type "function"))
    (gax1 : PySem.W.findIn K (.ref Cx1) "__getattribute__" = some (some (.builtin "BaseException.__getattribute__")))
    (ggx1 : PySem.W.findIn K (.ref Cx1) "__getattr__" = some none)
    (hdx1 : PySem.W.hasDictIn K Cx1 = true)
    (acx1 : PySem.W.findIn K (.ref Cx1) "__class__" = some (some (.builtin "object.__class__")))
    (obx1 : PySem.W.mroIn K Cx1 (.type "object") = some true)
    (xx2 : K.lookup Cx2 = some (excClassObj nmx2 qnx2 Cx2 NSx2 bsx2 [.ref CIn, .type "ValueError", .type "Exception", .type "BaseException", .type "object"] true snx2 sbx2 abx2 clx2 ddx2 m0x2 m1x2 m2x2 m3x2 m5x2 "ValueError.__new__"))
    (sax2 : PySem.W.findIn K (.ref Cx2) "__setattr__" = some (some (.builtin "object.__setattr__")))
    (ebx2 : PySem.W.subIn K (.ref Cx2) (.type "BaseException") = some true)
    (tyx2 : PySem.W.typeIn K (.ref Cx2) = some (.type "type"))
    (kpx2 : PySem.W.keepIn K (.ref Cx2) = true)
    (nox2 : PySem.W.findIn K (.ref Cx2) "value" = some none)
    (tix2 : PySem.W.typeIn K (.ref fI2) = some (.type "function"))
    (gax2 : PySem.W.findIn K (.ref Cx2) "__getattribute__" = some (some (.builtin "BaseException.__getattribute__")))
    (ggx2 : PySem.W.findIn K (.ref Cx2) "__getattr__" = some none)
    (hdx2 : PySem.W.hasDictIn K Cx2 = true)
    (acx2 : PySem.W.findIn K (.ref Cx2) "__class__" = some (some (.builtin "object.__class__")))
    (obx2 : PySem.W.mroIn K Cx2 (.type "object") = some true)
    (xx3 : K.lookup Cx3 = some (excClassObj nmx3 qnx3 Cx3 NSx3 bsx3 [.ref CIn, .type "ValueError", .type "Exception", .type "BaseException", .type "object"] true snx3 sbx3 abx3 clx3 ddx3 m0x3 m1x3 m2x3 m3x3 m5x3 "ValueError.__new__"))
    (sax3 : PySem.W.findIn K (.ref Cx3) "__setattr__" = some (some (.builtin "object.__setattr__")))
    (ebx3 : PySem.W.subIn K (.ref Cx3) (.type "BaseException") = some true)
    (tyx3 : PySem.W.typeIn K (.ref Cx3) = some (.type "type"))
    (kpx3 : PySem.W.keepIn K (.ref Cx3) = true)
    (nox3 : PySem.W.findIn K (.ref Cx3) "value" = some none)
    (tix3 : PySem.W.typeIn K (.ref fI3) = some (.type "function"))
    (gax3 : PySem.W.findIn K (.ref Cx3) "__getattribute__" = some (some (.builtin "BaseException.__getattribute__")))
    (ggx3 : PySem.W.findIn K (.ref Cx3) "__getattr__" = some none)
    (hdx3 : PySem.W.hasDictIn K Cx3 = true)
    (acx3 : PySem.W.findIn K (.ref Cx3) "__class__" = some (some (.builtin "object.__class__")))
    (obx3 : PySem.W.mroIn K Cx3 (.type "object") = some true)
    (xx4 : K.lookup Cx4 = some (excClassObj nmx4 qnx4 Cx4 NSx4 bsx4 [.ref CIn, .type "ValueError", .type "Exception", .type "BaseException", .type "object"] true snx4 sbx4 abx4 clx4 ddx4 m0x4 m1x4 m2x4 m3x4 m5x4 "ValueError.__new__"))
    (sax4 : PySem.W.findIn K (.ref Cx4) "__setattr__" = some (some (.builtin "object.__setattr__")))
    (ebx4 : PySem.W.subIn K (.ref Cx4) (.type "BaseException") = some true)
    (tyx4 : PySem.W.typeIn K (.ref Cx4) = some (.type "type"))
    (kpx4 : PySem.W.keepIn K (.ref Cx4) = true)
    (nox4 : PySem.W.findIn K (.ref Cx4) "value" = some none)
    (tix4 : PySem.W.typeIn K (.ref fI4) = some (.type "function"))
    (gax4 : PySem.W.findIn K (.ref Cx4) "__getattribute__" = some (some (.builtin "BaseException.__getattribute__")))
    (ggx4 : PySem.W.findIn K (.ref Cx4) "__getattr__" = some none)
    (hdx4 : PySem.W.hasDictIn K Cx4 = true)
    (acx4 : PySem.W.findIn K (.ref Cx4) "__class__" = some (some (.builtin "object.__class__")))
    (obx4 : PySem.W.mroIn K Cx4 (.type "object") = some true)
    (xx5 : K.lookup Cx5 = some (excClassObj nmx5 qnx5 Cx5 NSx5 bsx5 [.ref CIn, .type "ValueError", .type "Exception", .type "BaseException", .type "object"] true snx5 sbx5 abx5 clx5 ddx5 m0x5 m1x5 m2x5 m3x5 m5x5 "ValueError.__new__"))
    (sax5 : PySem.W.findIn K (.ref Cx5) "__setattr__" = some (some (.builtin "object.__setattr__")))
    (ebx5 : PySem.W.subIn K (.ref Cx5) (.type "BaseException") = some true)
    (tyx5 : PySem.W.typeIn K (.ref Cx5) = some (.type "type"))
    (kpx5 : PySem.W.keepIn K (.ref Cx5) = true)
    (nox5 : PySem.W.findIn K (.ref Cx5) "value" = some none)
    (tix5 : PySem.W.typeIn K (.ref fI5) = some (.type "function"))
    (gax5 : PySem.W.findIn K (.ref Cx5) "__getattribute__" = some (some (.builtin "BaseException.__getattribute__")))
    (ggx5 : PySem.W.findIn K (.ref Cx5) "__getattr__" = some none)
    (hdx5 : PySem.W.hasDictIn K Cx5 = true)
    (acx5 : PySem.W.findIn K (.ref Cx5) "__class__" = some (some (.builtin "object.__class__")))
    (obx5 : PySem.W.mroIn K Cx5 (.type "object") = some true)
    (xx6 : K.lookup Cx6 = some (excClassObj nmx6 qnx6 Cx6 NSx6 bsx6 [.ref CIn, .type "ValueError", .type "Exception", .type "BaseException", .type "object"] true snx6 sbx6 abx6 clx6 ddx6 m0x6 m1x6 m2x6 m3x6 m5x6 "ValueError.__new__"))
    (sax6 : PySem.W.findIn K (.ref Cx6) "__setattr__" = some (some (.builtin "object.__setattr__")))
    (ebx6 : PySem.W.subIn K (.ref Cx6) (.type "BaseException") = some true)
    (tyx6 : PySem.W.typeIn K (.ref Cx6) = some (.type "type"))
    (kpx6 : PySem.W.keepIn K (.ref Cx6) = true)
    (nox6 : PySem.W.findIn K (.ref Cx6) "value" = some none)
    (tix6 : PySem.W.typeIn K (.ref fI6) = some (.type "function"))
    (gax6 : PySem.W.findIn K (.ref Cx6) "__getattribute__" = some (some (.builtin "BaseException.__getattribute__")))
    (ggx6 : PySem.W.findIn K (.ref Cx6) "__getattr__" = some none)
    (hdx6 : PySem.W.hasDictIn K Cx6 = true)
    (acx6 : PySem.W.findIn K (.ref Cx6) "__class__" = some (some (.builtin "object.__class__")))
    (obx6 : PySem.W.mroIn K Cx6 (.type "object") = some true)
    (xx7 : K.lookup Cx7 = some (excClassObj nmx7 qnx7 Cx7 NSx7 bsx7 [.ref CIn, .type "ValueError", .type "Exception", .type "BaseException", .type "object"] true snx7 sbx7 abx7 clx7 ddx7 m0x7 m1x7 m2x7 m3x7 m5x7 "ValueError.__new__"))
    (sax7 : PySem.W.findIn K (.ref Cx7) "__setattr__" = some (some (.builtin "object.__setattr__")))
    (ebx7 : PySem.W.subIn K (.ref Cx7) (.type "BaseException") = some true)
    (tyx7 : PySem.W.typeIn K (.ref Cx7) = some (.type "type"))
    (kpx7 : PySem.W.keepIn K (.ref Cx7) = true)
    (nox7 : PySem.W.findIn K (.ref Cx7) "value" = some none)
    (tix7 : PySem.W.typeIn K (.ref fI7) = some (.type "function"))
    (gax7 : PySem.W.findIn K (.ref Cx7) "__getattribute__" = some (some (.builtin "BaseException.__getattribute__")))
    (ggx7 : PySem.W.findIn K (.ref Cx7) "__getattr__" = some none)
    (hdx7 : PySem.W.hasDictIn K Cx7 = true)
    (acx7 : PySem.W.findIn K (.ref Cx7) "__class__" = some (some (.builtin "object.__class__")))
    (obx7 : PySem.W.mroIn K Cx7 (.type "object") = some true)
    (xx8 : K.lookup Cx8 = some (excClassObj nmx8 qnx8 Cx8 NSx8 bsx8 [.ref CIn, .type "ValueError", .type "Exception", .type "BaseException", .type "object"] true snx8 sbx8 abx8 clx8 ddx8 m0x8 m1x8 m2x8 m3x8 m5x8 "ValueError.__new__"))
    (sax8 : PySem.W.findIn K (.ref Cx8) "__setattr__" = some (some (.builtin "object.__setattr__")))
    (ebx8 : PySem.W.subIn K (.ref Cx8) (.type "BaseException") = some true)
    (tyx8 : PySem.W.typeIn K (.ref Cx8) = some (.type "type"))
    (kpx8 : PySem.W.keepIn K (.ref Cx8) = true)
    (nox8 : PySem.W.findIn K (.ref Cx8) "value" = some none)
    (tix8 : PySem.W.typeIn K (.ref fI8) = some (.type "function"))
    (gax8 : PySem.W.findIn K (.ref Cx8) "__getattribute__" = some (some (.builtin "BaseException.__getattribute__")))
    (ggx8 : PySem.W.findIn K (.ref Cx8) "__getattr__" = some none)
    (hdx8 : PySem.W.hasDictIn K Cx8 = true)
    (acx8 : PySem.W.findIn K (.ref Cx8) "__class__" = some (some (.builtin "object.__class__")))
    (obx8 : PySem.W.mroIn K Cx8 (.type "object") = some true)
    (xx9 : K.lookup Cx9 = some (excClassObj nmx9 qnx9 Cx9 NSx9 bsx9 [.ref CIn, .type "ValueError", .type "Exception", .type "BaseException", .type "object"] true snx9 sbx9 abx9 clx9 ddx9 m0x9 m1x9 m2x9 m3x9 m5x9 "ValueError.__new__"))
    (sax9 : PySem.W.findIn K (.ref Cx9) "__setattr__" = some (some (.builtin "object.__setattr__")))
    (ebx9 : PySem.W.subIn K (.ref Cx9) (.type "BaseException") = some true)
    (tyx9 : PySem.W.typeIn K (.ref Cx9) = some (.type "type"))
    (kpx9 : PySem.W.keepIn K (.ref Cx9) = true)
    (nox9 : PySem.W.findIn K (.ref Cx9) "value" = some none)
    (tix9 : PySem.W.typeIn K (.ref fI9) = some (.type "function"))
    (gax9 : PySem.W.findIn K (.ref Cx9) "__getattribute__" = some (some (.builtin "BaseException.__getattribute__")))
    (ggx9 : PySem.W.findIn K (.ref Cx9) "__getattr__" = some none)
    (hdx9 : PySem.W.hasDictIn K Cx9 = true)
    (acx9 : PySem.W.findIn K (.ref Cx9) "__class__" = some (some (.builtin "object.__class__")))
    (obx9 : PySem.W.mroIn K Cx9 (.type "object") = some true)
    (xx10 : K.lookup Cx10 = some (excClassObj nmx10 qnx10 Cx10 NSx10 bsx10 [.ref CIn, .type "ValueError", .type "Exception", .type "BaseException", .type "object"] true snx10 sbx10 abx10 clx10 ddx10 m0x10 m1x10 m2x10 m3x10 m5x10 "ValueError.__new__"))
    (sax10 : PySem.W.findIn K (.ref Cx10) "__setattr__" = some (some (.builtin "object.__setattr__")))
    (ebx10 : PySem.W.subIn K (.ref Cx10) (.type "BaseException") = some true)
    (tyx10 : PySem.W.typeIn K (.ref Cx10) = some (.type "type"))
    (kpx10 : PySem.W.keepIn K (.ref Cx10) = true)
    (nox10 : PySem.W.findIn K (.ref Cx10) "value" = some none)
    (tix10 : PySem.W.typeIn K (.ref fI10) = some (.type "function"))
    (gax10 : PySem.W.findIn K (.ref Cx10) "__getattribute__" = some (some (.builtin "BaseException.__getattribute__")))
    (ggx10 : PySem.W.findIn K (.ref Cx10) "__getattr__" = some none)
    (hdx10 : PySem.W.hasDictIn K Cx10 = true)
    (acx10 : PySem.W.findIn K (.ref Cx10) "__class__" = some (some (.builtin "object.__class__")))
    (obx10 : PySem.W.mroIn K Cx10 (.type "object") = some true)
    (xx11 : K.lookup Cx11 = some (excClassObj nmx11 qnx11 Cx11 NSx11 bsx11 [.ref CIn, .type "ValueError", .type "Exception", .type "BaseException", .type "object"] true snx11 sbx11 abx11 clx11 ddx11 m0x11 m1x11 m2x11 m3x11 m5x11 "ValueError.__new__"))
    (sax11 : PySem.W.findIn K (.ref Cx11) "__setattr__" = some (some (.builtin "object.__setattr__")))
    (ebx11 : PySem.W.subIn K (.ref Cx11) (.type "BaseException") = some true)
    (tyx11 : PySem.W.typeIn K (.ref Cx11) = some (.type "type"))
    (kpx11 : PySem.W.keepIn K (.ref Cx11) = true)
    (nox11 : PySem.W.findIn K (.ref Cx11) "index" = some none)
    (tix11 : PySem.W.typeIn K (.ref fI11) = some (.type "function"))
    (gax11 : PySem.W.findIn K (.ref Cx11) "__getattribute__" = some (some (.builtin "BaseException.__getattribute__")))
    (ggx11 : PySem.W.findIn K (.ref Cx11) "__getattr__" = some none)
    (hdx11 : PySem.W.hasDictIn K Cx11 = true)
    (acx11 : PySem.W.findIn K (.ref Cx11) "__class__" = some (some (.builtin "object.__class__")))
    (obx11 : PySem.W.mroIn K Cx11 (.type "object") = some true)
    (xx12 : K.lookup Cx12 = some (excClassObj nmx12 qnx12 Cx12 NSx12 bsx12 [.ref CIn, .type "ValueError", .type "Exception", .type "BaseException", .type "object"] true snx12 sbx12 abx12 clx12 ddx12 m0x12 m1x12 m2x12 m3x12 m5x12 "ValueError.__new__"))
    (sax12 : PySem.W.findIn K (.ref Cx12) "__setattr__" = some (some (.builtin "object.__setattr__")))
    (ebx12 : PySem.W.subIn K (.ref Cx12) (.type "BaseException") = some true)
    (tyx12 : PySem.W.typeIn K (.ref Cx12) = some (.type "type"))
    (kpx12 : PySem.W.keepIn K (.ref Cx12) = true)
    (nox12 : PySem.W.findIn K (.ref Cx12) "index" = some none)
    (tix12 : PySem.W.typeIn K (.ref fI12) = some (.type "function"))
    (gax12 : PySem.W.findIn K (.ref Cx12) "__getattribute__" = some (some (.builtin "BaseException.__getattribute__")))
    (ggx12 : PySem.W.findIn K (.ref Cx12) "__getattr__" = some none)
    (hdx12 : PySem.W.hasDictIn K Cx12 = true)
    (acx12 : PySem.W.findIn K (.ref Cx12) "__class__" = some (some (.builtin "object.__class__")))
    (obx12 : PySem.W.mroIn K Cx12 (.type "object") = some true)
    (xx13 : K.lookup Cx13 = some (excClassObj nmx13 qnx13 Cx13 NSx13 bsx13 [.ref CIn, .type "ValueError", .type "Exception", .type "BaseException", .type "object"] true snx13 sbx13 abx13 clx13 ddx13 m0x13 m1x13 m2x13 m3x13 m5x13 "ValueError.__new__"))
    (sax13 : PySem.W.findIn K (.ref Cx13) "__setattr__" = some (some (.builtin "object.__setattr__")))
    (ebx13 : PySem.W.subIn K (.ref Cx13) (.type "BaseException") = some true)
    (tyx13 : PySem.W.typeIn K (.ref Cx13) = some (.type "type"))
    (kpx13 : PySem.W.keepIn K (.ref Cx13) = true)
    (nox13 : PySem.W.findIn K (.ref Cx13) "index" = some none)
    (tix13 : PySem.W.typeIn K (.ref fI13) = some (.type "function"))
    (gax13 : PySem.W.findIn K (.ref Cx13) "__getattribute__" = some (some (.builtin "BaseException.__getattribute__")))
    (ggx13 : PySem.W.findIn K (.ref Cx13) "__getattr__" = some none)
    (hdx13 : PySem.W.hasDictIn K Cx13 = true)
    (acx13 : PySem.W.findIn K (.ref Cx13) "__class__" = some (some (.builtin "object.__class__")))
    (obx13 : PySem.W.mroIn K Cx13 (.type "object") = some true)
    (xx14 : K.lookup Cx14 = some (excClassObj nmx14 qnx14 Cx14 NSx14 bsx14 [.ref CIn, .type "ValueError", .type "Exception", .type "BaseException", .type "object"] true snx14 sbx14 abx14 clx14 ddx14 m0x14 m1x14 m2x14 m3x14 m5x14 "ValueError.__new__"))
    (sax14 : PySem.W.findIn K (.ref Cx14) "__setattr__" = some (some (.builtin "object.__setattr__")))
    (ebx14 : PySem.W.subIn K (.ref Cx14) (.type "BaseException") = some true)
    (tyx14 : PySem.W.typeIn K (.ref Cx14) = some (.type "type"))
    (kpx14 : PySem.W.keepIn K (.ref Cx14) = true)
    (nox14 : PySem.W.findIn K (.ref Cx14) "index" = some none)
    (tix14 : PySem.W.typeIn K (.ref fI14) = some (.type "function"))
    (gax14 : PySem.W.findIn K (.ref Cx14) "__getattribute__" = some (some (.builtin "BaseException.__getattribute__")))
    (ggx14 : PySem.W.findIn K (.ref Cx14) "__getattr__" = some none)
    (hdx14 : PySem.W.hasDictIn K Cx14 = true)
    (acx14 : PySem.W.findIn K (.ref Cx14) "__class__" = some (some (.builtin "object.__class__")))
    (obx14 : PySem.W.mroIn K Cx14 (.type "object") = some true)
    (xx19 : K.lookup Cx19 = some (excClassObj nmx19 qnx19 Cx19 NSx19 bsx19 [.ref CSt, .type "LookupError", .type "Exception", .type "BaseException", .type "object"] true snx19 sbx19 abx19 clx19 ddx19 m0x19 m1x19 m2x19 m3x19 m5x19 "LookupError.__new__"))
    (sax19 : PySem.W.findIn K (.ref Cx19) "__setattr__" = some (some (.builtin "object.__setattr__")))
    (ebx19 : PySem.W.subIn K (.ref Cx19) (.type "BaseException") = some true)
    (tyx19 : PySem.W.typeIn K (.ref Cx19) = some (.type "type"))
    (kpx19 : PySem.W.keepIn K (.ref Cx19) = true)
    (nox19 : PySem.W.findIn K (.ref Cx19) "value" = some none)
    (tix19 : PySem.W.typeIn K (.ref fI19) = some (.type "function"))
    (gax19 : PySem.W.findIn K (.ref Cx19) "__getattribute__" = some (some (.builtin "BaseException.__getattribute__")))
    (ggx19 : PySem.W.findIn K (.ref Cx19) "__getattr__" = some none)
    (hdx19 : PySem.W.hasDictIn K Cx19 = true)
    (acx19 : PySem.W.findIn K (.ref Cx19) "__class__" = some (some (.builtin "object.__class__")))
    (obx19 : PySem.W.mroIn K Cx19 (.type "object") = some true)
    (xx20 : K.lookup Cx20 = some (excClassObj nmx20 qnx20 Cx20 NSx20 bsx20 [.ref CSt, .type "LookupError", .type "Exception", .type "BaseException", .type "object"] true snx20 sbx20 abx20 clx20 ddx20 m0x20 m1x20 m2x20 m3x20 m5x20 "LookupError.__new__"))
    (sax20 : PySem.W.findIn K (.ref Cx20) "__setattr__" = some (some (.builtin "object.__setattr__")))
    (ebx20 : PySem.W.subIn K (.ref Cx20) (.type "BaseException") = some true)
    (tyx20 : PySem.W.typeIn K (.ref Cx20) = some (.type "type"))
    (kpx20 : PySem.W.keepIn K (.ref Cx20) = true)
    (nox20 : PySem.W.findIn K (.ref Cx20) "value" = some none)
    (tix20 : PySem.W.typeIn K (.ref fI20) = some (.type "function"))
    (gax20 : PySem.W.findIn K (.ref Cx20) "__getattribute__" = some (some (.builtin "BaseException.__getattribute__")))
    (ggx20 : PySem.W.findIn K (.ref Cx20) "__getattr__" = some none)
    (hdx20 : PySem.W.hasDictIn K Cx20 = true)
    (acx20 : PySem.W.findIn K (.ref Cx20) "__class__" = some (some (.builtin "object.__class__")))
    (obx20 : PySem.W.mroIn K Cx20 (.type "object") = some true)
    (xx21 : K.lookup Cx21 = some (excClassObj nmx21 qnx21 Cx21 NSx21 bsx21 [.ref CSi, .type "ArithmeticError", .type "Exception", .type "BaseException", .type "object"] true snx21 sbx21 abx21 clx21 ddx21 m0x21 m1x21 m2x21 m3x21 m5x21 "ArithmeticError.__new__"))
    (sax21 : PySem.W.findIn K (.ref Cx21) "__setattr__" = some (some (.builtin "object.__setattr__")))
    (ebx21 : PySem.W.subIn K (.ref Cx21) (.type "BaseException") = some true)
    (tyx21 : PySem.W.typeIn K (.ref Cx21) = some (.type "type"))
    (kpx21 : PySem.W.keepIn K (.ref Cx21) = true)
    (nox21 : PySem.W.findIn K (.ref Cx21) "limit" = some none)
    (tix21 : PySem.W.typeIn K (.ref fI21) = some (.type "function"))
    (gax21 : PySem.W.findIn K (.ref Cx21) "__getattribute__" = some (some (.builtin "BaseException.__getattribute__")))
    (ggx21 : PySem.W.findIn K (.ref Cx21) "__getattr__" = some none)
    (hdx21 : PySem.W.hasDictIn K Cx21 = true)
    (acx21 : PySem.W.findIn K (.ref Cx21) "__class__" = some (some (.builtin "object.__class__")))
    (obx21 : PySem.W.mroIn K Cx21 (.type "object") = some true)
    (nk0 : PySem.W.nsIn K mainGlobals "MOST_LENGTH" = some (some (.int 6 tkk0)))
    (nk1 : PySem.W.nsIn K mainGlobals "MOST_LETTERS" = some (some (.int 26 tkk1)))
    (nk2 : PySem.W.nsIn K mainGlobals "MOST_ROWS" = some (some (.int 20 tkk2)))
    (nk3 : PySem.W.nsIn K mainGlobals "MOST_GUESSES" = some (some (.int 20 tkk3)))
    (nk4 : PySem.W.nsIn K mainGlobals "MOST_FACTS" = some (some (.int 4 tkk4)))
    (nk5 : PySem.W.nsIn K mainGlobals "MOST_MENDED" = some (some (.int 10 tkk5)))
    (zlen : PySem.W.nsIn K mainGlobals "len" = some none)
    (zint : PySem.W.nsIn K mainGlobals "int" = some none)
    (zabs : PySem.W.nsIn K mainGlobals "abs" = some none)
    (zdivmod : PySem.W.nsIn K mainGlobals "divmod" = some none)
    (zisinstance : PySem.W.nsIn K mainGlobals "isinstance" = some none)
    (zrange : PySem.W.nsIn K mainGlobals "range" = some none)
    (zrepr : PySem.W.nsIn K mainGlobals "repr" = some none)
    (zall : PySem.W.nsIn K mainGlobals "all" = some none)
    (zmax : PySem.W.nsIn K mainGlobals "max" = some none)
    (zmin : PySem.W.nsIn K mainGlobals "min" = some none)
    (zValueError : PySem.W.nsIn K mainGlobals "ValueError" = some none)
    (zLookupError : PySem.W.nsIn K mainGlobals "LookupError" = some none)
    (zArithmeticError : PySem.W.nsIn K mainGlobals "ArithmeticError" = some none)
    (ei15 : PySem.W.excIn K Cx15 [.type "LookupError", .type "Exception", .type "BaseException", .type "object"] "LookupError.__new__" = true)
    (kp15 : PySem.W.keepIn K (.ref Cx15) = true)
    (cl15 : (PySem.W.clsIn K Cx15).isSome = true)
    (eb15 : PySem.W.subIn K (.ref Cx15) (.type "BaseException") = some true)
    (ga15 : PySem.W.findIn K (.ref Cx15) "__getattribute__" = some (some (.builtin "BaseException.__getattribute__")))
    (gg15 : PySem.W.findIn K (.ref Cx15) "__getattr__" = some none)
    (hd15 : PySem.W.hasDictIn K Cx15 = true)
    (ac15 : PySem.W.findIn K (.ref Cx15) "__class__" = some (some (.builtin "object.__class__")))
    (ob15 : PySem.W.mroIn K Cx15 (.type "object") = some true)
    (ei16 : PySem.W.excIn K Cx16 [.type "LookupError", .type "Exception", .type "BaseException", .type "object"] "LookupError.__new__" = true)
    (kp16 : PySem.W.keepIn K (.ref Cx16) = true)
    (cl16 : (PySem.W.clsIn K Cx16).isSome = true)
    (eb16 : PySem.W.subIn K (.ref Cx16) (.type "BaseException") = some true)
    (ga16 : PySem.W.findIn K (.ref Cx16) "__getattribute__" = some (some (.builtin "BaseException.__getattribute__")))
    (gg16 : PySem.W.findIn K (.ref Cx16) "__getattr__" = some none)
    (hd16 : PySem.W.hasDictIn K Cx16 = true)
    (ac16 : PySem.W.findIn K (.ref Cx16) "__class__" = some (some (.builtin "object.__class__")))
    (ob16 : PySem.W.mroIn K Cx16 (.type "object") = some true)
    (ei17 : PySem.W.excIn K Cx17 [.type "LookupError", .type "Exception", .type "BaseException", .type "object"] "LookupError.__new__" = true)
    (kp17 : PySem.W.keepIn K (.ref Cx17) = true)
    (cl17 : (PySem.W.clsIn K Cx17).isSome = true)
    (eb17 : PySem.W.subIn K (.ref Cx17) (.type "BaseException") = some true)
    (ga17 : PySem.W.findIn K (.ref Cx17) "__getattribute__" = some (some (.builtin "BaseException.__getattribute__")))
    (gg17 : PySem.W.findIn K (.ref Cx17) "__getattr__" = some none)
    (hd17 : PySem.W.hasDictIn K Cx17 = true)
    (ac17 : PySem.W.findIn K (.ref Cx17) "__class__" = some (some (.builtin "object.__class__")))
    (ob17 : PySem.W.mroIn K Cx17 (.type "object") = some true)
    (ei18 : PySem.W.excIn K Cx18 [.type "LookupError", .type "Exception", .type "BaseException", .type "object"] "LookupError.__new__" = true)
    (kp18 : PySem.W.keepIn K (.ref Cx18) = true)
    (cl18 : (PySem.W.clsIn K Cx18).isSome = true)
    (eb18 : PySem.W.subIn K (.ref Cx18) (.type "BaseException") = some true)
    (ga18 : PySem.W.findIn K (.ref Cx18) "__getattribute__" = some (some (.builtin "BaseException.__getattribute__")))
    (gg18 : PySem.W.findIn K (.ref Cx18) "__getattr__" = some none)
    (hd18 : PySem.W.hasDictIn K Cx18 = true)
    (ac18 : PySem.W.findIn K (.ref Cx18) "__class__" = some (some (.builtin "object.__class__")))
    (ob18 : PySem.W.mroIn K Cx18 (.type "object") = some true)
    (hkit : allKit K ([Cx0, Cx1, Cx2, Cx3, Cx4, Cx5, Cx6, Cx7, Cx8, Cx9, Cx10, Cx11, Cx12, Cx13, Cx14, Cx15, Cx16, Cx17, Cx18, Cx19, Cx20, Cx21] : List Addr) = true)
    (hcnt : allOnce ([Cx0, Cx1, Cx2, Cx3, Cx4, Cx5, Cx6, Cx7, Cx8, Cx9, Cx10, Cx11, Cx12, Cx13, Cx14, Cx15, Cx16, Cx17, Cx18, Cx19, Cx20, Cx21] : List Addr) = true)
    (hbas0 : allBas K ([Cx0, Cx1, Cx2, Cx3, Cx4, Cx5, Cx6, Cx7, Cx8, Cx9, Cx10, Cx11, Cx12, Cx13, Cx14] : List Addr) CIn CSt CSi 0 = true)
    (hbas1 : allBas K ([Cx15, Cx16, Cx17, Cx18, Cx19, Cx20] : List Addr) CIn CSt CSi 1 = true)
    (hbas2 : allBas K ([Cx21] : List Addr) CIn CSt CSi 2 = true)
    (d1 : CIn ≠ CSt)
    (d2 : CIn ≠ CSi)
    (d3 : CSt ≠ CSi)
    (tab : ∀ d ∈ recsOf q, ∃ a o fd c P, mg d.name = some (.ref a) ∧ h.get? a = some o ∧ o.data = .func fd ∧ fd.code = .ref c ∧ h.IsCode c P #[] ∧ h.TableAt c P #[]) :
    ∃ (fd : FuncData) (cs : List (Addr × Addr)), (∀ p ∈ cs, h.get? p.2 = some { cls := .none, data := .fields #[] } ∧ K.lookup p.2 = none ∧ PySem.W.CodeHd h p.1 p.2) ∧ (∀ (s : Shared) (u : Value), BindsTo s fd ⟨[u], []⟩ [("_law_script", u)]) ∧
      ∀ base : Heap, K.In base → base.Ns mainGlobals mg → (∃ mm, base.Ns sysModules mm) → (∀ p ∈ cs, TabB base mg p.1 p.2) → FnG P w K mg base L2.CX0 5 fa fd ["_law_script"] (fun vs H Q E => (∀ p ∈ cs, H p.2 = some (.tbl #[])) ∧ spLaw K vs H Q E) := by
  have e := hfa.symm.trans (PySem.W.mg_of X G aL)
  cases e
  have FB := fun_mk (st := sBowl) lB cB kB
  have FD := fun_mk (st := sDip) lD cD kD
  have FOf := fun_mk (st := sOf) lOf cOf kOf
  have FV := fun_mk (st := sVal) lV cV kV
  have FS := fun_mk (st := sSta) lS cS kS
  have FIs := fun_mk (st := sIns) lIs cIs kIs
  have FBa := fun_mk (st := sBas) lBa cBa kBa
  have FR := fun_mk (st := sRight) lR cR kR
  have FL := fun_mk (st := sLaw) lL cL kL
  have FI0 := fun_mk (st := sE0) lI0 cI0 kI0
  have FI1 := fun_mk (st := sE1) lI1 cI1 kI1
  have FI2 := fun_mk (st := sE2) lI2 cI2 kI2
  have FI3 := fun_mk (st := sE3) lI3 cI3 kI3
  have FI4 := fun_mk (st := sE4) lI4 cI4 kI4
  have FI5 := fun_mk (st := sE5) lI5 cI5 kI5
  have FI6 := fun_mk (st := sE6) lI6 cI6 kI6
  have FI7 := fun_mk (st := sE7) lI7 cI7 kI7
  have FI8 := fun_mk (st := sE8) lI8 cI8 kI8
  have FI9 := fun_mk (st := sE9) lI9 cI9 kI9
  have FI10 := fun_mk (st := sE10) lI10 cI10 kI10
  have FI11 := fun_mk (st := sE11) lI11 cI11 kI11
  have FI12 := fun_mk (st := sE12) lI12 cI12 kI12
  have FI13 := fun_mk (st := sE13) lI13 cI13 kI13
  have FI14 := fun_mk (st := sE14) lI14 cI14 kI14
  have FI19 := fun_mk (st := sE19) lI19 cI19 kI19
  have FI20 := fun_mk (st := sE20) lI20 cI20 kI20
  have FI21 := fun_mk (st := sE21) lI21 cI21 kI21
  have bB := FB.binds (ps := ["_law_script", "_law_k"]) fun _ _ _ _ _ _ us hl => match us, hl with | [_, _], _ => rfl
  have bD := FD.binds (ps := ["_law_bowl_here", "_law_many"]) fun _ _ _ _ _ _ us hl => match us, hl with | [_, _], _ => rfl
  have bOf := FOf.binds (ps := ["_law_bowl_here", "_law_things"]) fun _ _ _ _ _ _ us hl => match us, hl with | [_, _], _ => rfl
  have bV := FV.binds (ps := ["_law_thing"]) fun _ _ _ _ _ _ us hl => match us, hl with | [_], _ => rfl
  have bS := FS.binds (ps := ["_law_thing"]) fun _ _ _ _ _ _ us hl => match us, hl with | [_], _ => rfl
  have bIs := FIs.binds (ps := ["_law_e"]) fun _ _ _ _ _ _ us hl => match us, hl with | [_], _ => rfl
  have bBa := FBa.binds (ps := ["_law_e"]) fun _ _ _ _ _ _ us hl => match us, hl with | [_], _ => rfl
  have bR := FR.binds (ps := ["_law_bowl_here"]) fun _ _ _ _ _ _ us hl => match us, hl with | [_], _ => rfl
  have bI0 := FI0.binds (ps := ["self", "value"]) fun _ _ _ _ _ _ us hl => match us, hl with | [_, _], _ => rfl
  have bI1 := FI1.binds (ps := ["self", "value"]) fun _ _ _ _ _ _ us hl => match us, hl with | [_, _], _ => rfl
  have bI2 := FI2.binds (ps := ["self", "value"]) fun _ _ _ _ _ _ us hl => match us, hl with | [_, _], _ => rfl
  have bI3 := FI3.binds (ps := ["self", "value"]) fun _ _ _ _ _ _ us hl => match us, hl with | [_, _], _ => rfl
  have bI4 := FI4.binds (ps := ["self", "value"]) fun _ _ _ _ _ _ us hl => match us, hl with | [_, _], _ => rfl
  have bI5 := FI5.binds (ps := ["self", "value"]) fun _ _ _ _ _ _ us hl => match us, hl with | [_, _], _ => rfl
  have bI6 := FI6.binds (ps := ["self", "value"]) fun _ _ _ _ _ _ us hl => match us, hl with | [_, _], _ => rfl
  have bI7 := FI7.binds (ps := ["self", "value"]) fun _ _ _ _ _ _ us hl => match us, hl with | [_, _], _ => rfl
  have bI8 := FI8.binds (ps := ["self", "value"]) fun _ _ _ _ _ _ us hl => match us, hl with | [_, _], _ => rfl
  have bI9 := FI9.binds (ps := ["self", "value"]) fun _ _ _ _ _ _ us hl => match us, hl with | [_, _], _ => rfl
  have bI10 := FI10.binds (ps := ["self", "value"]) fun _ _ _ _ _ _ us hl => match us, hl with | [_, _], _ => rfl
  have bI11 := FI11.binds (ps := ["self", "index"]) fun _ _ _ _ _ _ us hl => match us, hl with | [_, _], _ => rfl
  have bI12 := FI12.binds (ps := ["self", "index"]) fun _ _ _ _ _ _ us hl => match us, hl with | [_, _], _ => rfl
  have bI13 := FI13.binds (ps := ["self", "index"]) fun _ _ _ _ _ _ us hl => match us, hl with | [_, _], _ => rfl
  have bI14 := FI14.binds (ps := ["self", "index"]) fun _ _ _ _ _ _ us hl => match us, hl with | [_, _], _ => rfl
  have bI19 := FI19.binds (ps := ["self", "value"]) fun _ _ _ _ _ _ us hl => match us, hl with | [_, _], _ => rfl
  have bI20 := FI20.binds (ps := ["self", "value"]) fun _ _ _ _ _ _ us hl => match us, hl with | [_, _], _ => rfl
  have bI21 := FI21.binds (ps := ["self", "limit"]) fun _ _ _ _ _ _ us hl => match us, hl with | [_, _], _ => rfl
  have DB : Df K mg "_law_bowl" _ _ _ := ⟨PySem.W.mg_of X G aB, kB, bB⟩
  have DD : Df K mg "_law_dip" _ _ _ := ⟨PySem.W.mg_of X G aD, kD, bD⟩
  have DOf : Df K mg "_law_of" _ _ _ := ⟨PySem.W.mg_of X G aOf, kOf, bOf⟩
  have DV : Df K mg "_law_value_errors" _ _ _ := ⟨PySem.W.mg_of X G aV, kV, bV⟩
  have DS : Df K mg "_law_state_errors" _ _ _ := ⟨PySem.W.mg_of X G aS, kS, bS⟩
  have DIs : Df K mg "_law_instances" _ _ _ := ⟨PySem.W.mg_of X G aIs, kIs, bIs⟩
  have DBa : Df K mg "_law_bases" _ _ _ := ⟨PySem.W.mg_of X G aBa, kBa, bBa⟩
  have DR : Df K mg "_law_right" _ _ _ := ⟨PySem.W.mg_of X G aR, kR, bR⟩
  have Ex0 : ErrB K mg "NotABoard" "value" Cx0 fI0 := ⟨PySem.W.mg_of X G gCx0, oexB_one xx0 PySem.F.excBase_ValueError PySem.F.store_ValueError.passes (by decide +kernel) sax0 ebx0 tyx0 kpx0, nox0, aI0, tix0, gax0, ggx0, hdx0, acx0, gtc, tkc, obx0⟩
  have Ex1 : ErrB K mg "NotAHistory" "value" Cx1 fI1 := ⟨PySem.W.mg_of X G gCx1, oexB_one xx1 PySem.F.excBase_ValueError PySem.F.store_ValueError.passes (by decide +kernel) sax1 ebx1 tyx1 kpx1, nox1, aI1, tix1, gax1, ggx1, hdx1, acx1, gtc, tkc, obx1⟩
  have Ex2 : ErrB K mg "NotAGame" "value" Cx2 fI2 := ⟨PySem.W.mg_of X G gCx2, oexB_one xx2 PySem.F.excBase_ValueError PySem.F.store_ValueError.passes (by decide +kernel) sax2 ebx2 tyx2 kpx2, nox2, aI2, tix2, gax2, ggx2, hdx2, acx2, gtc, tkc, obx2⟩
  have Ex3 : ErrB K mg "InvalidLetters" "value" Cx3 fI3 := ⟨PySem.W.mg_of X G gCx3, oexB_one xx3 PySem.F.excBase_ValueError PySem.F.store_ValueError.passes (by decide +kernel) sax3 ebx3 tyx3 kpx3, nox3, aI3, tix3, gax3, ggx3, hdx3, acx3, gtc, tkc, obx3⟩
  have Ex4 : ErrB K mg "InvalidLength" "value" Cx4 fI4 := ⟨PySem.W.mg_of X G gCx4, oexB_one xx4 PySem.F.excBase_ValueError PySem.F.store_ValueError.passes (by decide +kernel) sax4 ebx4 tyx4 kpx4, nox4, aI4, tix4, gax4, ggx4, hdx4, acx4, gtc, tkc, obx4⟩
  have Ex5 : ErrB K mg "InvalidWord" "value" Cx5 fI5 := ⟨PySem.W.mg_of X G gCx5, oexB_one xx5 PySem.F.excBase_ValueError PySem.F.store_ValueError.passes (by decide +kernel) sax5 ebx5 tyx5 kpx5, nox5, aI5, tix5, gax5, ggx5, hdx5, acx5, gtc, tkc, obx5⟩
  have Ex6 : ErrB K mg "InvalidMarks" "value" Cx6 fI6 := ⟨PySem.W.mg_of X G gCx6, oexB_one xx6 PySem.F.excBase_ValueError PySem.F.store_ValueError.passes (by decide +kernel) sax6 ebx6 tyx6 kpx6, nox6, aI6, tix6, gax6, ggx6, hdx6, acx6, gtc, tkc, obx6⟩
  have Ex7 : ErrB K mg "InvalidFact" "value" Cx7 fI7 := ⟨PySem.W.mg_of X G gCx7, oexB_one xx7 PySem.F.excBase_ValueError PySem.F.store_ValueError.passes (by decide +kernel) sax7 ebx7 tyx7 kpx7, nox7, aI7, tix7, gax7, ggx7, hdx7, acx7, gtc, tkc, obx7⟩
  have Ex8 : ErrB K mg "InvalidNumber" "value" Cx8 fI8 := ⟨PySem.W.mg_of X G gCx8, oexB_one xx8 PySem.F.excBase_ValueError PySem.F.store_ValueError.passes (by decide +kernel) sax8 ebx8 tyx8 kpx8, nox8, aI8, tix8, gax8, ggx8, hdx8, acx8, gtc, tkc, obx8⟩
  have Ex9 : ErrB K mg "InvalidPlace" "value" Cx9 fI9 := ⟨PySem.W.mg_of X G gCx9, oexB_one xx9 PySem.F.excBase_ValueError PySem.F.store_ValueError.passes (by decide +kernel) sax9 ebx9 tyx9 kpx9, nox9, aI9, tix9, gax9, ggx9, hdx9, acx9, gtc, tkc, obx9⟩
  have Ex10 : ErrB K mg "InvalidLine" "value" Cx10 fI10 := ⟨PySem.W.mg_of X G gCx10, oexB_one xx10 PySem.F.excBase_ValueError PySem.F.store_ValueError.passes (by decide +kernel) sax10 ebx10 tyx10 kpx10, nox10, aI10, tix10, gax10, ggx10, hdx10, acx10, gtc, tkc, obx10⟩
  have Ex11 : ErrB K mg "InvalidRows" "index" Cx11 fI11 := ⟨PySem.W.mg_of X G gCx11, oexB_one xx11 PySem.F.excBase_ValueError PySem.F.store_ValueError.passes (by decide +kernel) sax11 ebx11 tyx11 kpx11, nox11, aI11, tix11, gax11, ggx11, hdx11, acx11, gtc, tkc, obx11⟩
  have Ex12 : ErrB K mg "InvalidFacts" "index" Cx12 fI12 := ⟨PySem.W.mg_of X G gCx12, oexB_one xx12 PySem.F.excBase_ValueError PySem.F.store_ValueError.passes (by decide +kernel) sax12 ebx12 tyx12 kpx12, nox12, aI12, tix12, gax12, ggx12, hdx12, acx12, gtc, tkc, obx12⟩
  have Ex13 : ErrB K mg "InvalidGuesses" "index" Cx13 fI13 := ⟨PySem.W.mg_of X G gCx13, oexB_one xx13 PySem.F.excBase_ValueError PySem.F.store_ValueError.passes (by decide +kernel) sax13 ebx13 tyx13 kpx13, nox13, aI13, tix13, gax13, ggx13, hdx13, acx13, gtc, tkc, obx13⟩
  have Ex14 : ErrB K mg "InvalidDeeds" "index" Cx14 fI14 := ⟨PySem.W.mg_of X G gCx14, oexB_one xx14 PySem.F.excBase_ValueError PySem.F.store_ValueError.passes (by decide +kernel) sax14 ebx14 tyx14 kpx14, nox14, aI14, tix14, gax14, ggx14, hdx14, acx14, gtc, tkc, obx14⟩
  have Ex19 : ErrB K mg "WordNotLeft" "value" Cx19 fI19 := ⟨PySem.W.mg_of X G gCx19, oexB_one xx19 PySem.F.excBase_LookupError PySem.HandSPX.passLE (by decide +kernel) sax19 ebx19 tyx19 kpx19, nox19, aI19, tix19, gax19, ggx19, hdx19, acx19, gtc, tkc, obx19⟩
  have Ex20 : ErrB K mg "GuessNotLeft" "value" Cx20 fI20 := ⟨PySem.W.mg_of X G gCx20, oexB_one xx20 PySem.F.excBase_LookupError PySem.HandSPX.passLE (by decide +kernel) sax20 ebx20 tyx20 kpx20, nox20, aI20, tix20, gax20, ggx20, hdx20, acx20, gtc, tkc, obx20⟩
  have Ex21 : ErrB K mg "TooManyRows" "limit" Cx21 fI21 := ⟨PySem.W.mg_of X G gCx21, oexB_one xx21 PySem.F.excBase_ArithmeticError PySem.HandSPX.passAE (by decide +kernel) sax21 ebx21 tyx21 kpx21, nox21, aI21, tix21, gax21, ggx21, hdx21, acx21, gtc, tkc, obx21⟩
  refine ⟨PySem.W.fnOf "law" "law" (defArgs sLaw) (defBody sLaw) (defScope sLaw) .none kVL dcL pmL anL cdL ctL, [], nofun, fun s v => .of_eq rfl, fun base _ _ hM _ => ?_⟩
  have TBx : TxB mg := ⟨ PySem.W.mg_none_of X G zlen, PySem.W.mg_none_of X G zint, PySem.W.mg_none_of X G zabs, PySem.W.mg_none_of X G zdivmod⟩
  have TL : TxL mg := ⟨ PySem.W.mg_none_of X G zall, PySem.W.mg_none_of X G zrange, PySem.W.mg_none_of X G zmax, PySem.W.mg_none_of X G zmin, PySem.W.mg_none_of X G zlen⟩
  let c : Nat → Addr := fun i => ([Cx0, Cx1, Cx2, Cx3, Cx4, Cx5, Cx6, Cx7, Cx8, Cx9, Cx10, Cx11, Cx12, Cx13, Cx14, Cx15, Cx16, Cx17, Cx18, Cx19, Cx20, Cx21] : List Addr).getD i 0
  have G0 : FnOk P w K mg base L2.CX0 1 fI0 _ _ (spErr Cx0 "value") := ok_errB (par := "value") FI0 Ex0 rfl ⟨rfl, rfl, rfl, by decide +kernel, rfl, by decide +kernel, by decide +kernel⟩ (.inl rfl) (.inl rfl)
  have M0 : Mk1 P w K mg base "NotABoard" "value" Cx0 := ⟨_, _, Ex0, G0, bI0, kw_E0 FI0⟩
  have Y0 : ErI K Cx0 := Ex0.erI
  have G1 : FnOk P w K mg base L2.CX0 1 fI1 _ _ (spErr Cx1 "value") := ok_errB (par := "value") FI1 Ex1 rfl ⟨rfl, rfl, rfl, by decide +kernel, rfl, by decide +kernel, by decide +kernel⟩ (.inl rfl) (.inl rfl)
  have M1 : Mk1 P w K mg base "NotAHistory" "value" Cx1 := ⟨_, _, Ex1, G1, bI1, kw_E1 FI1⟩
  have Y1 : ErI K Cx1 := Ex1.erI
  have G2 : FnOk P w K mg base L2.CX0 1 fI2 _ _ (spErr Cx2 "value") := ok_errB (par := "value") FI2 Ex2 rfl ⟨rfl, rfl, rfl, by decide +kernel, rfl, by decide +kernel, by decide +kernel⟩ (.inl rfl) (.inl rfl)
  have M2 : Mk1 P w K mg base "NotAGame" "value" Cx2 := ⟨_, _, Ex2, G2, bI2, kw_E2 FI2⟩
  have Y2 : ErI K Cx2 := Ex2.erI
  have G3 : FnOk P w K mg base L2.CX0 1 fI3 _ _ (spErr Cx3 "value") := ok_errB (par := "value") FI3 Ex3 rfl ⟨rfl, rfl, rfl, by decide +kernel, rfl, by decide +kernel, by decide +kernel⟩ (.inl rfl) (.inl rfl)
  have M3 : Mk1 P w K mg base "InvalidLetters" "value" Cx3 := ⟨_, _, Ex3, G3, bI3, kw_E3 FI3⟩
  have Y3 : ErI K Cx3 := Ex3.erI
  have G4 : FnOk P w K mg base L2.CX0 1 fI4 _ _ (spErr Cx4 "value") := ok_errB (par := "value") FI4 Ex4 rfl ⟨rfl, rfl, rfl, by decide +kernel, rfl, by decide +kernel, by decide +kernel⟩ (.inl rfl) (.inl rfl)
  have M4 : Mk1 P w K mg base "InvalidLength" "value" Cx4 := ⟨_, _, Ex4, G4, bI4, kw_E4 FI4⟩
  have Y4 : ErI K Cx4 := Ex4.erI
  have G5 : FnOk P w K mg base L2.CX0 1 fI5 _ _ (spErr Cx5 "value") := ok_errB (par := "value") FI5 Ex5 rfl ⟨rfl, rfl, rfl, by decide +kernel, rfl, by decide +kernel, by decide +kernel⟩ (.inl rfl) (.inl rfl)
  have M5 : Mk1 P w K mg base "InvalidWord" "value" Cx5 := ⟨_, _, Ex5, G5, bI5, kw_E5 FI5⟩
  have Y5 : ErI K Cx5 := Ex5.erI
  have G6 : FnOk P w K mg base L2.CX0 1 fI6 _ _ (spErr Cx6 "value") := ok_errB (par := "value") FI6 Ex6 rfl ⟨rfl, rfl, rfl, by decide +kernel, rfl, by decide +kernel, by decide +kernel⟩ (.inl rfl) (.inl rfl)
  have M6 : Mk1 P w K mg base "InvalidMarks" "value" Cx6 := ⟨_, _, Ex6, G6, bI6, kw_E6 FI6⟩
  have Y6 : ErI K Cx6 := Ex6.erI
  have G7 : FnOk P w K mg base L2.CX0 1 fI7 _ _ (spErr Cx7 "value") := ok_errB (par := "value") FI7 Ex7 rfl ⟨rfl, rfl, rfl, by decide +kernel, rfl, by decide +kernel, by decide +kernel⟩ (.inl rfl) (.inl rfl)
  have M7 : Mk1 P w K mg base "InvalidFact" "value" Cx7 := ⟨_, _, Ex7, G7, bI7, kw_E7 FI7⟩
  have Y7 : ErI K Cx7 := Ex7.erI
  have G8 : FnOk P w K mg base L2.CX0 1 fI8 _ _ (spErr Cx8 "value") := ok_errB (par := "value") FI8 Ex8 rfl ⟨rfl, rfl, rfl, by decide +kernel, rfl, by decide +kernel, by decide +kernel⟩ (.inl rfl) (.inl rfl)
  have M8 : Mk1 P w K mg base "InvalidNumber" "value" Cx8 := ⟨_, _, Ex8, G8, bI8, kw_E8 FI8⟩
  have Y8 : ErI K Cx8 := Ex8.erI
  have G9 : FnOk P w K mg base L2.CX0 1 fI9 _ _ (spErr Cx9 "value") := ok_errB (par := "value") FI9 Ex9 rfl ⟨rfl, rfl, rfl, by decide +kernel, rfl, by decide +kernel, by decide +kernel⟩ (.inl rfl) (.inl rfl)
  have M9 : Mk1 P w K mg base "InvalidPlace" "value" Cx9 := ⟨_, _, Ex9, G9, bI9, kw_E9 FI9⟩
  have Y9 : ErI K Cx9 := Ex9.erI
  have G10 : FnOk P w K mg base L2.CX0 1 fI10 _ _ (spErr Cx10 "value") := ok_errB (par := "value") FI10 Ex10 rfl ⟨rfl, rfl, rfl, by decide +kernel, rfl, by decide +kernel, by decide +kernel⟩ (.inl rfl) (.inl rfl)
  have M10 : Mk1 P w K mg base "InvalidLine" "value" Cx10 := ⟨_, _, Ex10, G10, bI10, kw_E10 FI10⟩
  have Y10 : ErI K Cx10 := Ex10.erI
  have G11 : FnOk P w K mg base L2.CX0 1 fI11 _ _ (spErr Cx11 "index") := ok_errB (par := "index") FI11 Ex11 rfl ⟨rfl, rfl, rfl, by decide +kernel, rfl, by decide +kernel, by decide +kernel⟩ (.inl rfl) (.inl rfl)
  have M11 : Mk1 P w K mg base "InvalidRows" "index" Cx11 := ⟨_, _, Ex11, G11, bI11, kw_E11 FI11⟩
  have Y11 : ErI K Cx11 := Ex11.erI
  have G12 : FnOk P w K mg base L2.CX0 1 fI12 _ _ (spErr Cx12 "index") := ok_errB (par := "index") FI12 Ex12 rfl ⟨rfl, rfl, rfl, by decide +kernel, rfl, by decide +kernel, by decide +kernel⟩ (.inl rfl) (.inl rfl)
  have M12 : Mk1 P w K mg base "InvalidFacts" "index" Cx12 := ⟨_, _, Ex12, G12, bI12, kw_E12 FI12⟩
  have Y12 : ErI K Cx12 := Ex12.erI
  have G13 : FnOk P w K mg base L2.CX0 1 fI13 _ _ (spErr Cx13 "index") := ok_errB (par := "index") FI13 Ex13 rfl ⟨rfl, rfl, rfl, by decide +kernel, rfl, by decide +kernel, by decide +kernel⟩ (.inl rfl) (.inl rfl)
  have M13 : Mk1 P w K mg base "InvalidGuesses" "index" Cx13 := ⟨_, _, Ex13, G13, bI13, kw_E13 FI13⟩
  have Y13 : ErI K Cx13 := Ex13.erI
  have G14 : FnOk P w K mg base L2.CX0 1 fI14 _ _ (spErr Cx14 "index") := ok_errB (par := "index") FI14 Ex14 rfl ⟨rfl, rfl, rfl, by decide +kernel, rfl, by decide +kernel, by decide +kernel⟩ (.inl rfl) (.inl rfl)
  have M14 : Mk1 P w K mg base "InvalidDeeds" "index" Cx14 := ⟨_, _, Ex14, G14, bI14, kw_E14 FI14⟩
  have Y14 : ErI K Cx14 := Ex14.erI
  have G19 : FnOk P w K mg base L2.CX0 1 fI19 _ _ (spErr Cx19 "value") := ok_errB (par := "value") FI19 Ex19 rfl ⟨rfl, rfl, rfl, by decide +kernel, rfl, by decide +kernel, by decide +kernel⟩ (.inl rfl) (.inl rfl)
  have M19 : Mk1 P w K mg base "WordNotLeft" "value" Cx19 := ⟨_, _, Ex19, G19, bI19, kw_E19 FI19⟩
  have Y19 : ErI K Cx19 := Ex19.erI
  have G20 : FnOk P w K mg base L2.CX0 1 fI20 _ _ (spErr Cx20 "value") := ok_errB (par := "value") FI20 Ex20 rfl ⟨rfl, rfl, rfl, by decide +kernel, rfl, by decide +kernel, by decide +kernel⟩ (.inl rfl) (.inl rfl)
  have M20 : Mk1 P w K mg base "GuessNotLeft" "value" Cx20 := ⟨_, _, Ex20, G20, bI20, kw_E20 FI20⟩
  have Y20 : ErI K Cx20 := Ex20.erI
  have G21 : FnOk P w K mg base L2.CX0 1 fI21 _ _ (spErr Cx21 "limit") := ok_errB (par := "limit") FI21 Ex21 rfl ⟨rfl, rfl, rfl, by decide +kernel, rfl, by decide +kernel, by decide +kernel⟩ (.inl rfl) (.inl rfl)
  have M21 : Mk1 P w K mg base "TooManyRows" "limit" Cx21 := ⟨_, _, Ex21, G21, bI21, kw_E21 FI21⟩
  have Y21 : ErI K Cx21 := Ex21.erI
  have M15 : Mk0 K mg "Mismatch" Cx15 := ⟨⟨_, _, _, _, PySem.F.excBase_LookupError, ei15⟩, PySem.W.mg_of X G gCx15, kp15⟩
  have Y15 : ErI K Cx15 := ⟨cl15, ga15, gg15, eb15, hd15, ac15, gtc, tkc, ob15⟩
  have M16 : Mk0 K mg "NoWord" Cx16 := ⟨⟨_, _, _, _, PySem.F.excBase_LookupError, ei16⟩, PySem.W.mg_of X G gCx16, kp16⟩
  have Y16 : ErI K Cx16 := ⟨cl16, ga16, gg16, eb16, hd16, ac16, gtc, tkc, ob16⟩
  have M17 : Mk0 K mg "NothingToUndo" Cx17 := ⟨⟨_, _, _, _, PySem.F.excBase_LookupError, ei17⟩, PySem.W.mg_of X G gCx17, kp17⟩
  have Y17 : ErI K Cx17 := ⟨cl17, ga17, gg17, eb17, hd17, ac17, gtc, tkc, ob17⟩
  have M18 : Mk0 K mg "Busy" Cx18 := ⟨⟨_, _, _, _, PySem.F.excBase_LookupError, ei18⟩, PySem.W.mg_of X G gCx18, kp18⟩
  have Y18 : ErI K Cx18 := ⟨cl18, ga18, gg18, eb18, hd18, ac18, gtc, tkc, ob18⟩
  have Z0 : Gc K c CIn CSt CSi 0 Cx0 := ⟨Y0, allBas_ok hbas0 (List.mem_of_getElem? (i := 0) rfl), allKit_ok (cl := ([Cx0, Cx1, Cx2, Cx3, Cx4, Cx5, Cx6, Cx7, Cx8, Cx9, Cx10, Cx11, Cx12, Cx13, Cx14, Cx15, Cx16, Cx17, Cx18, Cx19, Cx20, Cx21] : List Addr)) hkit (List.mem_of_getElem? (i := 0) rfl), allOnce_ok (cl := ([Cx0, Cx1, Cx2, Cx3, Cx4, Cx5, Cx6, Cx7, Cx8, Cx9, Cx10, Cx11, Cx12, Cx13, Cx14, Cx15, Cx16, Cx17, Cx18, Cx19, Cx20, Cx21] : List Addr)) hcnt (List.mem_of_getElem? (i := 0) rfl)⟩
  have Z1 : Gc K c CIn CSt CSi 0 Cx1 := ⟨Y1, allBas_ok hbas0 (List.mem_of_getElem? (i := 1) rfl), allKit_ok (cl := ([Cx0, Cx1, Cx2, Cx3, Cx4, Cx5, Cx6, Cx7, Cx8, Cx9, Cx10, Cx11, Cx12, Cx13, Cx14, Cx15, Cx16, Cx17, Cx18, Cx19, Cx20, Cx21] : List Addr)) hkit (List.mem_of_getElem? (i := 1) rfl), allOnce_ok (cl := ([Cx0, Cx1, Cx2, Cx3, Cx4, Cx5, Cx6, Cx7, Cx8, Cx9, Cx10, Cx11, Cx12, Cx13, Cx14, Cx15, Cx16, Cx17, Cx18, Cx19, Cx20, Cx21] : List Addr)) hcnt (List.mem_of_getElem? (i := 1) rfl)⟩
  have Z2 : Gc K c CIn CSt CSi 0 Cx2 := ⟨Y2, allBas_ok hbas0 (List.mem_of_getElem? (i := 2) rfl), allKit_ok (cl := ([Cx0, Cx1, Cx2, Cx3, Cx4, Cx5, Cx6, Cx7, Cx8, Cx9, Cx10, Cx11, Cx12, Cx13, Cx14, Cx15, Cx16, Cx17, Cx18, Cx19, Cx20, Cx21] : List Addr)) hkit (List.mem_of_getElem? (i := 2) rfl), allOnce_ok (cl := ([Cx0, Cx1, Cx2, Cx3, Cx4, Cx5, Cx6, Cx7, Cx8, Cx9, Cx10, Cx11, Cx12, Cx13, Cx14, Cx15, Cx16, Cx17, Cx18, Cx19, Cx20, Cx21] : List Addr)) hcnt (List.mem_of_getElem? (i := 2) rfl)⟩
  have Z3 : Gc K c CIn CSt CSi 0 Cx3 := ⟨Y3, allBas_ok hbas0 (List.mem_of_getElem? (i := 3) rfl), allKit_ok (cl := ([Cx0, Cx1, Cx2, Cx3, Cx4, Cx5, Cx6, Cx7, Cx8, Cx9, Cx10, Cx11, Cx12, Cx13, Cx14, Cx15, Cx16, Cx17, Cx18, Cx19, Cx20, Cx21] : List Addr)) hkit (List.mem_of_getElem? (i := 3) rfl), allOnce_ok (cl := ([Cx0, Cx1, Cx2, Cx3, Cx4, Cx5, Cx6, Cx7, Cx8, Cx9, Cx10, Cx11, Cx12, Cx13, Cx14, Cx15, Cx16, Cx17, Cx18, Cx19, Cx20, Cx21] : List Addr)) hcnt (List.mem_of_getElem? (i := 3) rfl)⟩
  have Z4 : Gc K c CIn CSt CSi 0 Cx4 := ⟨Y4, allBas_ok hbas0 (List.mem_of_getElem? (i := 4) rfl), allKit_ok (cl := ([Cx0, Cx1, Cx2, Cx3, Cx4, Cx5, Cx6, Cx7, Cx8, Cx9, Cx10, Cx11, Cx12, Cx13, Cx14, Cx15, Cx16, Cx17, Cx18, Cx19, Cx20, Cx21] : List Addr)) hkit (List.mem_of_getElem? (i := 4) rfl), allOnce_ok (cl := ([Cx0, Cx1, Cx2, Cx3, Cx4, Cx5, Cx6, Cx7, Cx8, Cx9, Cx10, Cx11, Cx12, Cx13, Cx14, Cx15, Cx16, Cx17, Cx18, Cx19, Cx20, Cx21] : List Addr)) hcnt (List.mem_of_getElem? (i := 4) rfl)⟩
  have Z5 : Gc K c CIn CSt CSi 0 Cx5 := ⟨Y5, allBas_ok hbas0 (List.mem_of_getElem? (i := 5) rfl), allKit_ok (cl := ([Cx0, Cx1, Cx2, Cx3, Cx4, Cx5, Cx6, Cx7, Cx8, Cx9, Cx10, Cx11, Cx12, Cx13, Cx14, Cx15, Cx16, Cx17, Cx18, Cx19, Cx20, Cx21] : List Addr)) hkit (List.mem_of_getElem? (i := 5) rfl), allOnce_ok (cl := ([Cx0, Cx1, Cx2, Cx3, Cx4, Cx5, Cx6, Cx7, Cx8, Cx9, Cx10, Cx11, Cx12, Cx13, Cx14, Cx15, Cx16, Cx17, Cx18, Cx19, Cx20, Cx21] : List Addr)) hcnt (List.mem_of_getElem? (i := 5) rfl)⟩
  have Z6 : Gc K c CIn CSt CSi 0 Cx6 := ⟨Y6, allBas_ok hbas0 (List.mem_of_getElem? (i := 6) rfl), allKit_ok (cl := ([Cx0, Cx1, Cx2, Cx3, Cx4, Cx5, Cx6, Cx7, Cx8, Cx9, Cx10, Cx11, Cx12, Cx13, Cx14, Cx15, Cx16, Cx17, Cx18, Cx19, Cx20, Cx21] : List Addr)) hkit (List.mem_of_getElem? (i := 6) rfl), allOnce_ok (cl := ([Cx0, Cx1, Cx2, Cx3, Cx4, Cx5, Cx6, Cx7, Cx8, Cx9, Cx10, Cx11, Cx12, Cx13, Cx14, Cx15, Cx16, Cx17, Cx18, Cx19, Cx20, Cx21] : List Addr)) hcnt (List.mem_of_getElem? (i := 6) rfl)⟩
  have Z7 : Gc K c CIn CSt CSi 0 Cx7 := ⟨Y7, allBas_ok hbas0 (List.mem_of_getElem? (i := 7) rfl), allKit_ok (cl := ([Cx0, Cx1, Cx2, Cx3, Cx4, Cx5, Cx6, Cx7, Cx8, Cx9, Cx10, Cx11, Cx12, Cx13, Cx14, Cx15, Cx16, Cx17, Cx18, Cx19, Cx20, Cx21] : List Addr)) hkit (List.mem_of_getElem? (i := 7) rfl), allOnce_ok (cl := ([Cx0, Cx1, Cx2, Cx3, Cx4, Cx5, Cx6, Cx7, Cx8, Cx9, Cx10, Cx11, Cx12, Cx13, Cx14, Cx15, Cx16, Cx17, Cx18, Cx19, Cx20, Cx21] : List Addr)) hcnt (List.mem_of_getElem? (i := 7) rfl)⟩
  have Z8 : Gc K c CIn CSt CSi 0 Cx8 := ⟨Y8, allBas_ok hbas0 (List.mem_of_getElem? (i := 8) rfl), allKit_ok (cl := ([Cx0, Cx1, Cx2, Cx3, Cx4, Cx5, Cx6, Cx7, Cx8, Cx9, Cx10, Cx11, Cx12, Cx13, Cx14, Cx15, Cx16, Cx17, Cx18, Cx19, Cx20, Cx21] : List Addr)) hkit (List.mem_of_getElem? (i := 8) rfl), allOnce_ok (cl := ([Cx0, Cx1, Cx2, Cx3, Cx4, Cx5, Cx6, Cx7, Cx8, Cx9, Cx10, Cx11, Cx12, Cx13, Cx14, Cx15, Cx16, Cx17, Cx18, Cx19, Cx20, Cx21] : List Addr)) hcnt (List.mem_of_getElem? (i := 8) rfl)⟩
  have Z9 : Gc K c CIn CSt CSi 0 Cx9 := ⟨Y9, allBas_ok hbas0 (List.mem_of_getElem? (i := 9) rfl), allKit_ok (cl := ([Cx0, Cx1, Cx2, Cx3, Cx4, Cx5, Cx6, Cx7, Cx8, Cx9, Cx10, Cx11, Cx12, Cx13, Cx14, Cx15, Cx16, Cx17, Cx18, Cx19, Cx20, Cx21] : List Addr)) hkit (List.mem_of_getElem? (i := 9) rfl), allOnce_ok (cl := ([Cx0, Cx1, Cx2, Cx3, Cx4, Cx5, Cx6, Cx7, Cx8, Cx9, Cx10, Cx11, Cx12, Cx13, Cx14, Cx15, Cx16, Cx17, Cx18, Cx19, Cx20, Cx21] : List Addr)) hcnt (List.mem_of_getElem? (i := 9) rfl)⟩
  have Z10 : Gc K c CIn CSt CSi 0 Cx10 := ⟨Y10, allBas_ok hbas0 (List.mem_of_getElem? (i := 10) rfl), allKit_ok (cl := ([Cx0, Cx1, Cx2, Cx3, Cx4, Cx5, Cx6, Cx7, Cx8, Cx9, Cx10, Cx11, Cx12, Cx13, Cx14, Cx15, Cx16, Cx17, Cx18, Cx19, Cx20, Cx21] : List Addr)) hkit (List.mem_of_getElem? (i := 10) rfl), allOnce_ok (cl := ([Cx0, Cx1, Cx2, Cx3, Cx4, Cx5, Cx6, Cx7, Cx8, Cx9, Cx10, Cx11, Cx12, Cx13, Cx14, Cx15, Cx16, Cx17, Cx18, Cx19, Cx20, Cx21] : List Addr)) hcnt (List.mem_of_getElem? (i := 10) rfl)⟩
  have Z11 : Gc K c CIn CSt CSi 0 Cx11 := ⟨Y11, allBas_ok hbas0 (List.mem_of_getElem? (i := 11) rfl), allKit_ok (cl := ([Cx0, Cx1, Cx2, Cx3, Cx4, Cx5, Cx6, Cx7, Cx8, Cx9, Cx10, Cx11, Cx12, Cx13, Cx14, Cx15, Cx16, Cx17, Cx18, Cx19, Cx20, Cx21] : List Addr)) hkit (List.mem_of_getElem? (i := 11) rfl), allOnce_ok (cl := ([Cx0, Cx1, Cx2, Cx3, Cx4, Cx5, Cx6, Cx7, Cx8, Cx9, Cx10, Cx11, Cx12, Cx13, Cx14, Cx15, Cx16, Cx17, Cx18, Cx19, Cx20, Cx21] : List Addr)) hcnt (List.mem_of_getElem? (i := 11) rfl)⟩
  have Z12 : Gc K c CIn CSt CSi 0 Cx12 := ⟨Y12, allBas_ok hbas0 (List.mem_of_getElem? (i := 12) rfl), allKit_ok (cl := ([Cx0, Cx1, Cx2, Cx3, Cx4, Cx5, Cx6, Cx7, Cx8, Cx9, Cx10, Cx11, Cx12, Cx13, Cx14, Cx15, Cx16, Cx17, Cx18, Cx19, Cx20, Cx21] : List Addr)) hkit (List.mem_of_getElem? (i := 12) rfl), allOnce_ok (cl := ([Cx0, Cx1, Cx2, Cx3, Cx4, Cx5, Cx6, Cx7, Cx8, Cx9, Cx10, Cx11, Cx12, Cx13, Cx14, Cx15, Cx16, Cx17, Cx18, Cx19, Cx20, Cx21] : List Addr)) hcnt (List.mem_of_getElem? (i := 12) rfl)⟩
  have Z13 : Gc K c CIn CSt CSi 0 Cx13 := ⟨Y13, allBas_ok hbas0 (List.mem_of_getElem? (i := 13) rfl), allKit_ok (cl := ([Cx0, Cx1, Cx2, Cx3, Cx4, Cx5, Cx6, Cx7, Cx8, Cx9, Cx10, Cx11, Cx12, Cx13, Cx14, Cx15, Cx16, Cx17, Cx18, Cx19, Cx20, Cx21] : List Addr)) hkit (List.mem_of_getElem? (i := 13) rfl), allOnce_ok (cl := ([Cx0, Cx1, Cx2, Cx3, Cx4, Cx5, Cx6, Cx7, Cx8, Cx9, Cx10, Cx11, Cx12, Cx13, Cx14, Cx15, Cx16, Cx17, Cx18, Cx19, Cx20, Cx21] : List Addr)) hcnt (List.mem_of_getElem? (i := 13) rfl)⟩
  have Z14 : Gc K c CIn CSt CSi 0 Cx14 := ⟨Y14, allBas_ok hbas0 (List.mem_of_getElem? (i := 14) rfl), allKit_ok (cl := ([Cx0, Cx1, Cx2, Cx3, Cx4, Cx5, Cx6, Cx7, Cx8, Cx9, Cx10, Cx11, Cx12, Cx13, Cx14, Cx15, Cx16, Cx17, Cx18, Cx19, Cx20, Cx21] : List Addr)) hkit (List.mem_of_getElem? (i := 14) rfl), allOnce_ok (cl := ([Cx0, Cx1, Cx2, Cx3, Cx4, Cx5, Cx6, Cx7, Cx8, Cx9, Cx10, Cx11, Cx12, Cx13, Cx14, Cx15, Cx16, Cx17, Cx18, Cx19, Cx20, Cx21] : List Addr)) hcnt (List.mem_of_getElem? (i := 14) rfl)⟩
  have Z15 : Gc K c CIn CSt CSi 1 Cx15 := ⟨Y15, allBas_ok hbas1 (List.mem_of_getElem? (i := 0) rfl), allKit_ok (cl := ([Cx0, Cx1, Cx2, Cx3, Cx4, Cx5, Cx6, Cx7, Cx8, Cx9, Cx10, Cx11, Cx12, Cx13, Cx14, Cx15, Cx16, Cx17, Cx18, Cx19, Cx20, Cx21] : List Addr)) hkit (List.mem_of_getElem? (i := 15) rfl), allOnce_ok (cl := ([Cx0, Cx1, Cx2, Cx3, Cx4, Cx5, Cx6, Cx7, Cx8, Cx9, Cx10, Cx11, Cx12, Cx13, Cx14, Cx15, Cx16, Cx17, Cx18, Cx19, Cx20, Cx21] : List Addr)) hcnt (List.mem_of_getElem? (i := 15) rfl)⟩
  have Z16 : Gc K c CIn CSt CSi 1 Cx16 := ⟨Y16, allBas_ok hbas1 (List.mem_of_getElem? (i := 1) rfl), allKit_ok (cl := ([Cx0, Cx1, Cx2, Cx3, Cx4, Cx5, Cx6, Cx7, Cx8, Cx9, Cx10, Cx11, Cx12, Cx13, Cx14, Cx15, Cx16, Cx17, Cx18, Cx19, Cx20, Cx21] : List Addr)) hkit (List.mem_of_getElem? (i := 16) rfl), allOnce_ok (cl := ([Cx0, Cx1, Cx2, Cx3, Cx4, Cx5, Cx6, Cx7, Cx8, Cx9, Cx10, Cx11, Cx12, Cx13, Cx14, Cx15, Cx16, Cx17, Cx18, Cx19, Cx20, Cx21] : List Addr)) hcnt (List.mem_of_getElem? (i := 16) rfl)⟩
  have Z17 : Gc K c CIn CSt CSi 1 Cx17 := ⟨Y17, allBas_ok hbas1 (List.mem_of_getElem? (i := 2) rfl), allKit_ok (cl := ([Cx0, Cx1, Cx2, Cx3, Cx4, Cx5, Cx6, Cx7, Cx8, Cx9, Cx10, Cx11, Cx12, Cx13, Cx14, Cx15, Cx16, Cx17, Cx18, Cx19, Cx20, Cx21] : List Addr)) hkit (List.mem_of_getElem? (i := 17) rfl), allOnce_ok (cl := ([Cx0, Cx1, Cx2, Cx3, Cx4, Cx5, Cx6, Cx7, Cx8, Cx9, Cx10, Cx11, Cx12, Cx13, Cx14, Cx15, Cx16, Cx17, Cx18, Cx19, Cx20, Cx21] : List Addr)) hcnt (List.mem_of_getElem? (i := 17) rfl)⟩
  have Z18 : Gc K c CIn CSt CSi 1 Cx18 := ⟨Y18, allBas_ok hbas1 (List.mem_of_getElem? (i := 3) rfl), allKit_ok (cl := ([Cx0, Cx1, Cx2, Cx3, Cx4, Cx5, Cx6, Cx7, Cx8, Cx9, Cx10, Cx11, Cx12, Cx13, Cx14, Cx15, Cx16, Cx17, Cx18, Cx19, Cx20, Cx21] : List Addr)) hkit (List.mem_of_getElem? (i := 18) rfl), allOnce_ok (cl := ([Cx0, Cx1, Cx2, Cx3, Cx4, Cx5, Cx6, Cx7, Cx8, Cx9, Cx10, Cx11, Cx12, Cx13, Cx14, Cx15, Cx16, Cx17, Cx18, Cx19, Cx20, Cx21] : List Addr)) hcnt (List.mem_of_getElem? (i := 18) rfl)⟩
  have Z19 : Gc K c CIn CSt CSi 1 Cx19 := ⟨Y19, allBas_ok hbas1 (List.mem_of_getElem? (i := 4) rfl), allKit_ok (cl := ([Cx0, Cx1, Cx2, Cx3, Cx4, Cx5, Cx6, Cx7, Cx8, Cx9, Cx10, Cx11, Cx12, Cx13, Cx14, Cx15, Cx16, Cx17, Cx18, Cx19, Cx20, Cx21] : List Addr)) hkit (List.mem_of_getElem? (i := 19) rfl), allOnce_ok (cl := ([Cx0, Cx1, Cx2, Cx3, Cx4, Cx5, Cx6, Cx7, Cx8, Cx9, Cx10, Cx11, Cx12, Cx13, Cx14, Cx15, Cx16, Cx17, Cx18, Cx19, Cx20, Cx21] : List Addr)) hcnt (List.mem_of_getElem? (i := 19) rfl)⟩
  have Z20 : Gc K c CIn CSt CSi 1 Cx20 := ⟨Y20, allBas_ok hbas1 (List.mem_of_getElem? (i := 5) rfl), allKit_ok (cl := ([Cx0, Cx1, Cx2, Cx3, Cx4, Cx5, Cx6, Cx7, Cx8, Cx9, Cx10, Cx11, Cx12, Cx13, Cx14, Cx15, Cx16, Cx17, Cx18, Cx19, Cx20, Cx21] : List Addr)) hkit (List.mem_of_getElem? (i := 20) rfl), allOnce_ok (cl := ([Cx0, Cx1, Cx2, Cx3, Cx4, Cx5, Cx6, Cx7, Cx8, Cx9, Cx10, Cx11, Cx12, Cx13, Cx14, Cx15, Cx16, Cx17, Cx18, Cx19, Cx20, Cx21] : List Addr)) hcnt (List.mem_of_getElem? (i := 20) rfl)⟩
  have Z21 : Gc K c CIn CSt CSi 2 Cx21 := ⟨Y21, allBas_ok hbas2 (List.mem_of_getElem? (i := 0) rfl), allKit_ok (cl := ([Cx0, Cx1, Cx2, Cx3, Cx4, Cx5, Cx6, Cx7, Cx8, Cx9, Cx10, Cx11, Cx12, Cx13, Cx14, Cx15, Cx16, Cx17, Cx18, Cx19, Cx20, Cx21] : List Addr)) hkit (List.mem_of_getElem? (i := 21) rfl), allOnce_ok (cl := ([Cx0, Cx1, Cx2, Cx3, Cx4, Cx5, Cx6, Cx7, Cx8, Cx9, Cx10, Cx11, Cx12, Cx13, Cx14, Cx15, Cx16, Cx17, Cx18, Cx19, Cx20, Cx21] : List Addr)) hcnt (List.mem_of_getElem? (i := 21) rfl)⟩
  have TX : TxX P w K mg base c CIn CSt CSi := ⟨ PySem.W.mg_none_of X G zisinstance, PySem.W.mg_none_of X G zrange, PySem.W.mg_none_of X G zValueError, PySem.W.mg_none_of X G zLookupError, PySem.W.mg_none_of X G zArithmeticError, PySem.W.mg_of X G gCIn, PySem.W.mg_of X G gCSt, PySem.W.mg_of X G gCSi, PySem.W.mg_of X G gCx0, M0, PySem.W.mg_of X G gCx1, M1, PySem.W.mg_of X G gCx2, M2, PySem.W.mg_of X G gCx3, M3, PySem.W.mg_of X G gCx4, M4, PySem.W.mg_of X G gCx5, M5, PySem.W.mg_of X G gCx6, M6, PySem.W.mg_of X G gCx7, M7, PySem.W.mg_of X G gCx8, M8, PySem.W.mg_of X G gCx9, M9, PySem.W.mg_of X G gCx10, M10, PySem.W.mg_of X G gCx11, M11, PySem.W.mg_of X G gCx12, M12, PySem.W.mg_of X G gCx13, M13, PySem.W.mg_of X G gCx14, M14, PySem.W.mg_of X G gCx15, PySem.W.mg_of X G gCx16, PySem.W.mg_of X G gCx17, PySem.W.mg_of X G gCx18, PySem.W.mg_of X G gCx19, M19, PySem.W.mg_of X G gCx20, M20, PySem.W.mg_of X G gCx21, M21⟩
  have gV : ∀ {C f}, (_ : Unit) → (C, f) ∈ lVal c ++ lNam c → f = "value" ∧ ErI K C ∧ PySem.W.findIn K (.ref C) "value" = some none := by
    intro C f _ m
    have m' : (C, f) ∈ ([(Cx0, "value"), (Cx1, "value"), (Cx2, "value"), (Cx3, "value"), (Cx4, "value"), (Cx5, "value"), (Cx6, "value"), (Cx7, "value"), (Cx8, "value"), (Cx9, "value"), (Cx10, "value"), (Cx0, "value"), (Cx1, "value"), (Cx2, "value"), (Cx3, "value"), (Cx4, "value"), (Cx5, "value"), (Cx6, "value"), (Cx7, "value"), (Cx8, "value"), (Cx9, "value"), (Cx10, "value"), (Cx19, "value"), (Cx20, "value"), (Cx19, "value"), (Cx20, "value")] : List (Addr × Str)) := m
    simp only [List.mem_cons, List.not_mem_nil, or_false, Prod.mk.injEq] at m'
    rcases m' with ⟨rfl, rfl⟩ | ⟨rfl, rfl⟩ | ⟨rfl, rfl⟩ | ⟨rfl, rfl⟩ | ⟨rfl, rfl⟩ | ⟨rfl, rfl⟩ | ⟨rfl, rfl⟩ | ⟨rfl, rfl⟩ | ⟨rfl, rfl⟩ | ⟨rfl, rfl⟩ | ⟨rfl, rfl⟩ | ⟨rfl, rfl⟩ | ⟨rfl, rfl⟩ | ⟨rfl, rfl⟩ | ⟨rfl, rfl⟩ | ⟨rfl, rfl⟩ | ⟨rfl, rfl⟩ | ⟨rfl, rfl⟩ | ⟨rfl, rfl⟩ | ⟨rfl, rfl⟩ | ⟨rfl, rfl⟩ | ⟨rfl, rfl⟩ | ⟨rfl, rfl⟩ | ⟨rfl, rfl⟩ | ⟨rfl, rfl⟩ | ⟨rfl, rfl⟩
    · exact ⟨rfl, Y0, Ex0.no⟩
    · exact ⟨rfl, Y1, Ex1.no⟩
    · exact ⟨rfl, Y2, Ex2.no⟩
    · exact ⟨rfl, Y3, Ex3.no⟩
    · exact ⟨rfl, Y4, Ex4.no⟩
    · exact ⟨rfl, Y5, Ex5.no⟩
    · exact ⟨rfl, Y6, Ex6.no⟩
    · exact ⟨rfl, Y7, Ex7.no⟩
    · exact ⟨rfl, Y8, Ex8.no⟩
    · exact ⟨rfl, Y9, Ex9.no⟩
    · exact ⟨rfl, Y10, Ex10.no⟩
    · exact ⟨rfl, Y0, Ex0.no⟩
    · exact ⟨rfl, Y1, Ex1.no⟩
    · exact ⟨rfl, Y2, Ex2.no⟩
    · exact ⟨rfl, Y3, Ex3.no⟩
    · exact ⟨rfl, Y4, Ex4.no⟩
    · exact ⟨rfl, Y5, Ex5.no⟩
    · exact ⟨rfl, Y6, Ex6.no⟩
    · exact ⟨rfl, Y7, Ex7.no⟩
    · exact ⟨rfl, Y8, Ex8.no⟩
    · exact ⟨rfl, Y9, Ex9.no⟩
    · exact ⟨rfl, Y10, Ex10.no⟩
    · exact ⟨rfl, Y19, Ex19.no⟩
    · exact ⟨rfl, Y20, Ex20.no⟩
    · exact ⟨rfl, Y19, Ex19.no⟩
    · exact ⟨rfl, Y20, Ex20.no⟩
  have gX : ∀ {C f}, (_ : Unit) → (C, f) ∈ lPla c → f = "index" ∧ ErI K C ∧ PySem.W.findIn K (.ref C) "index" = some none := by
    intro C f _ m
    have m' : (C, f) ∈ ([(Cx11, "index"), (Cx12, "index"), (Cx13, "index"), (Cx14, "index"), (Cx11, "index"), (Cx12, "index"), (Cx13, "index"), (Cx14, "index")] : List (Addr × Str)) := m
    simp only [List.mem_cons, List.not_mem_nil, or_false, Prod.mk.injEq] at m'
    rcases m' with ⟨rfl, rfl⟩ | ⟨rfl, rfl⟩ | ⟨rfl, rfl⟩ | ⟨rfl, rfl⟩ | ⟨rfl, rfl⟩ | ⟨rfl, rfl⟩ | ⟨rfl, rfl⟩ | ⟨rfl, rfl⟩
    · exact ⟨rfl, Y11, Ex11.no⟩
    · exact ⟨rfl, Y12, Ex12.no⟩
    · exact ⟨rfl, Y13, Ex13.no⟩
    · exact ⟨rfl, Y14, Ex14.no⟩
    · exact ⟨rfl, Y11, Ex11.no⟩
    · exact ⟨rfl, Y12, Ex12.no⟩
    · exact ⟨rfl, Y13, Ex13.no⟩
    · exact ⟨rfl, Y14, Ex14.no⟩
  have gL : ∀ {C f}, (_ : Unit) → (C, f) ∈ lSiz c → f = "limit" ∧ ErI K C ∧ PySem.W.findIn K (.ref C) "limit" = some none := by
    intro C f _ m
    have m' : (C, f) ∈ ([(Cx21, "limit"), (Cx21, "limit")] : List (Addr × Str)) := m
    simp only [List.mem_cons, List.not_mem_nil, or_false, Prod.mk.injEq] at m'
    rcases m' with ⟨rfl, rfl⟩ | ⟨rfl, rfl⟩
    · exact ⟨rfl, Y21, Ex21.no⟩
    · exact ⟨rfl, Y21, Ex21.no⟩
  have kV : ∀ {C f}, (_ : Unit) → (C, f) ∈ lVal c → Gc K c CIn CSt CSi 0 C := by
    intro C f _ m
    have m' : (C, f) ∈ ([(Cx0, "value"), (Cx1, "value"), (Cx2, "value"), (Cx3, "value"), (Cx4, "value"), (Cx5, "value"), (Cx6, "value"), (Cx7, "value"), (Cx8, "value"), (Cx9, "value"), (Cx10, "value"), (Cx0, "value"), (Cx1, "value"), (Cx2, "value"), (Cx3, "value"), (Cx4, "value"), (Cx5, "value"), (Cx6, "value"), (Cx7, "value"), (Cx8, "value"), (Cx9, "value"), (Cx10, "value")] : List (Addr × Str)) := m
    simp only [List.mem_cons, List.not_mem_nil, or_false, Prod.mk.injEq] at m'
    rcases m' with ⟨rfl, rfl⟩ | ⟨rfl, rfl⟩ | ⟨rfl, rfl⟩ | ⟨rfl, rfl⟩ | ⟨rfl, rfl⟩ | ⟨rfl, rfl⟩ | ⟨rfl, rfl⟩ | ⟨rfl, rfl⟩ | ⟨rfl, rfl⟩ | ⟨rfl, rfl⟩ | ⟨rfl, rfl⟩ | ⟨rfl, rfl⟩ | ⟨rfl, rfl⟩ | ⟨rfl, rfl⟩ | ⟨rfl, rfl⟩ | ⟨rfl, rfl⟩ | ⟨rfl, rfl⟩ | ⟨rfl, rfl⟩ | ⟨rfl, rfl⟩ | ⟨rfl, rfl⟩ | ⟨rfl, rfl⟩ | ⟨rfl, rfl⟩
    · exact Z0
    · exact Z1
    · exact Z2
    · exact Z3
    · exact Z4
    · exact Z5
    · exact Z6
    · exact Z7
    · exact Z8
    · exact Z9
    · exact Z10
    · exact Z0
    · exact Z1
    · exact Z2
    · exact Z3
    · exact Z4
    · exact Z5
    · exact Z6
    · exact Z7
    · exact Z8
    · exact Z9
    · exact Z10
  have kP : ∀ {C f}, (_ : Unit) → (C, f) ∈ lPla c → Gc K c CIn CSt CSi 0 C := by
    intro C f _ m
    have m' : (C, f) ∈ ([(Cx11, "index"), (Cx12, "index"), (Cx13, "index"), (Cx14, "index"), (Cx11, "index"), (Cx12, "index"), (Cx13, "index"), (Cx14, "index")] : List (Addr × Str)) := m
    simp only [List.mem_cons, List.not_mem_nil, or_false, Prod.mk.injEq] at m'
    rcases m' with ⟨rfl, rfl⟩ | ⟨rfl, rfl⟩ | ⟨rfl, rfl⟩ | ⟨rfl, rfl⟩ | ⟨rfl, rfl⟩ | ⟨rfl, rfl⟩ | ⟨rfl, rfl⟩ | ⟨rfl, rfl⟩
    · exact Z11
    · exact Z12
    · exact Z13
    · exact Z14
    · exact Z11
    · exact Z12
    · exact Z13
    · exact Z14
  have kN : ∀ {C f}, (_ : Unit) → (C, f) ∈ lNam c → Gc K c CIn CSt CSi 1 C := by
    intro C f _ m
    have m' : (C, f) ∈ ([(Cx19, "value"), (Cx20, "value"), (Cx19, "value"), (Cx20, "value")] : List (Addr × Str)) := m
    simp only [List.mem_cons, List.not_mem_nil, or_false, Prod.mk.injEq] at m'
    rcases m' with ⟨rfl, rfl⟩ | ⟨rfl, rfl⟩ | ⟨rfl, rfl⟩ | ⟨rfl, rfl⟩
    · exact Z19
    · exact Z20
    · exact Z19
    · exact Z20
  have kS : ∀ {C f}, (_ : Unit) → (C, f) ∈ lSiz c → Gc K c CIn CSt CSi 2 C := by
    intro C f _ m
    have m' : (C, f) ∈ ([(Cx21, "limit"), (Cx21, "limit")] : List (Addr × Str)) := m
    simp only [List.mem_cons, List.not_mem_nil, or_false, Prod.mk.injEq] at m'
    rcases m' with ⟨rfl, rfl⟩ | ⟨rfl, rfl⟩
    · exact Z21
    · exact Z21
  have TR : TxR7 K mg c CIn CSt CSi := ⟨ PySem.W.mg_none_of X G zrepr, PySem.W.mg_none_of X G zall, PySem.W.mg_none_of X G zlen, ⟨_, PySem.W.mg_of X G nk0⟩, ⟨_, PySem.W.mg_of X G nk1⟩, ⟨_, PySem.W.mg_of X G nk2⟩, ⟨_, PySem.W.mg_of X G nk3⟩, ⟨_, PySem.W.mg_of X G nk4⟩, ⟨_, PySem.W.mg_of X G nk5⟩, M15, Z15, M16, Z16, M17, Z17, M18, Z18, gV, gX, gL, kV, kP, kN, kS⟩
  have GD : FnOk P w K mg base L2.CX0 1 fD _ _ spDip := ok_dip FD TBx
  have GOf : FnOk P w K mg base L2.CX0 2 fOf _ _ spOfL := ok_ofL FOf ( PySem.W.mg_none_of X G zlen) GD DD
  have GVa : FnOk P w K mg base L2.CX0 3 fV _ _ (spTwo (lVal c) (lPla c)) := ok_val FV TX
  have GSt : FnOk P w K mg base L2.CX0 3 fS _ _ (spTwo (lNam c) (lSiz c)) := ok_sta FS TX
  have GIs : FnOk P w K mg base L2.CX0 2 fIs _ _ (spIns K (cAll c)) := ok_ins FIs TX
  have GBa : FnOk P w K mg base L2.CX0 2 fBa _ _ (spBas K CIn CSt CSi) := ok_bas FBa TX d1 d2 d3
  have GR : FnG P w K mg base L2.CX0 4 fR _ _ spRight := ok_right FR TR GOf DOf GVa DV GSt DS GIs DIs GBa DBa hM
  exact ok_law FL TL (ok_bowl FB TBx) DB GR DR
end Gm

namespace Gm
open PySem PySem.Spec PyProof.Rows L2 LamX
end Gm
open PySem PySem.W PyProof.Rows in
set_option maxRecDepth 100000 in
set_option maxHeartbeats 0 in
theorem PySem.Challenge.cw_guessmarks_k07_errors_and_limits_holds : PySem.Challenge.rw_guessmarks_k07_errors_and_limits.Holds := by
  w_on; o_law; k_head; (case hw => w_witness2)
  k_fill
  refine L2.walkG (l := PySem.Challenge.rw_guessmarks_k07_errors_and_limits) (k := 5) (x := "_law_script") (sp := Gm.spLaw) rfl (by decide) rfl ⟨rfl, by decide, by decide⟩ ?him (fun w h Y => PySem.W.kIn_of Y) ?F (fun K H a ns hl hS => ⟨a, ns, rfl, hS, hl, fun _ => rfl⟩)
  case him => decide +kernel
  case F =>
    intro w mg fa h KX G hmg tab
    refine' Gm.all_mk KX G hmg ?gCx15 ?gCx16 ?gCx17 ?gCx18 ?gCIn ?gCSt ?gCSi ?gCx0 ?gCx1 ?gCx2 ?gCx3 ?gCx4 ?gCx5 ?gCx6 ?gCx7 ?gCx8 ?gCx9 ?gCx10 ?gCx11 ?gCx12 ?gCx13 ?gCx14 ?gCx19 ?gCx20 ?gCx21 ?aB ?lB ?cB ?kB ?aD ?lD ?cD ?kD ?aOf ?lOf ?cOf ?kOf ?aV ?lV ?cV ?kV ?aS ?lS ?cS ?kS ?aIs ?lIs ?cIs ?kIs ?aBa ?lBa ?cBa ?kBa ?aR ?lR ?cR ?kR ?aL ?lL ?cL ?kL ?aI0 ?iI0 ?lI0 ?cI0 ?kI0 ?aI1 ?iI1 ?lI1 ?cI1 ?kI1 ?aI2 ?iI2 ?lI2 ?cI2 ?kI2 ?aI3 ?iI3 ?lI3 ?cI3 ?kI3 ?aI4 ?iI4 ?lI4 ?cI4 ?kI4 ?aI5 ?iI5 ?lI5 ?cI5 ?kI5 ?aI6 ?iI6 ?lI6 ?cI6 ?kI6 ?aI7 ?iI7 ?lI7 ?cI7 ?kI7 ?aI8 ?iI8 ?lI8 ?cI8 ?kI8 ?aI9 ?iI9 ?lI9 ?cI9 ?kI9 ?aI10 ?iI10 ?lI10 ?cI10 ?kI10 ?aI11 ?iI11 ?lI11 ?cI11 ?kI11 ?aI12 ?iI12 ?lI12 ?cI12 ?kI12 ?aI13 ?iI13 ?lI13 ?cI13 ?kI13 ?aI14 ?iI14 ?lI14 ?cI14 ?kI14 ?aI19 ?iI19 ?lI19 ?cI19 ?kI19 ?aI20 ?iI20 ?lI20 ?cI20 ?kI20 ?aI21 ?iI21 ?lI21 ?cI21 ?kI21 ?gtc ?tkc ?xx0 ?sax0 ?ebx0 ?tyx0 ?kpx0 ?nox0 ?tix0 ?gax0 ?ggx0 ?hdx0 ?acx0 ?obx0 ?xx1 ?sax1 ?ebx1 ?tyx1 ?kpx1 ?nox1 ?tix1 ?gax1 ?ggx1 ?hdx1 ?acx1 ?obx1 ?xx2 ?sax2 ?ebx2 ?tyx2 ?kpx2 ?nox2 ?tix2 ?gax2 ?ggx2 ?hdx2 ?acx2 ?obx2 ?xx3 ?sax3 ?ebx3 ?tyx3 ?kpx3 ?nox3 ?tix3 ?gax3 ?ggx3 ?hdx3 ?acx3 ?obx3 ?xx4 ?sax4 ?ebx4 ?tyx4 ?kpx4 ?nox4 ?tix4 ?gax4 ?ggx4 ?hdx4 ?acx4 ?obx4 ?xx5 ?sax5 ?ebx5 ?tyx5 ?kpx5 ?nox5 ?tix5 ?gax5 ?ggx5 ?hdx5 ?acx5 ?obx5 ?xx6 ?sax6 ?ebx6 ?tyx6 ?kpx6 ?nox6 ?tix6 ?gax6 ?ggx6 ?hdx6 ?acx6 ?obx6 ?xx7 ?sax7 ?ebx7 ?tyx7 ?kpx7 ?nox7 ?tix7 ?gax7 ?ggx7 ?hdx7 ?acx7 ?obx7 ?xx8 ?sax8 ?ebx8 ?tyx8 ?kpx8 ?nox8 ?tix8 ?gax8 ?ggx8 ?hdx8 ?acx8 ?obx8 ?xx9 ?sax9 ?ebx9 ?tyx9 ?kpx9 ?nox9 ?tix9 ?gax9 ?ggx9 ?hdx9 ?acx9 ?obx9 ?xx10 ?sax10 ?ebx10 ?tyx10 ?kpx10 ?nox10 ?tix10 ?gax10 ?ggx10 ?hdx10 ?acx10 ?obx10 ?xx11 ?sax11 ?ebx11 ?tyx11 ?kpx11 ?nox11 ?tix11 ?gax11 ?ggx11 ?hdx11 ?acx11 ?obx11 ?xx12 ?sax12 ?ebx12 ?tyx12 ?kpx12 ?nox12 ?tix12 ?gax12 ?ggx12 ?hdx12 ?acx12 ?obx12 ?xx13 ?sax13 ?ebx13 ?tyx13 ?kpx13 ?nox13 ?tix13 ?gax13 ?ggx13 ?hdx13 ?acx13 ?obx13 ?xx14 ?sax14 ?ebx14 ?tyx14 ?kpx14 ?nox14 ?tix14 ?gax14 ?ggx14 ?hdx14 ?acx14 ?obx14 ?xx19 ?sax19 ?ebx19 ?tyx19 ?kpx19 ?nox19 ?tix19 ?gax19 ?ggx19 ?hdx19 ?acx19 ?obx19 ?xx20 ?sax20 ?ebx20 ?tyx20 ?kpx20 ?nox20 ?tix20 ?gax20 ?ggx20 ?hdx20 ?acx20 ?obx20 ?xx21 ?sax21 ?ebx21 ?tyx21 ?kpx21 ?nox21 ?tix21 ?gax21 ?ggx21 ?hdx21 ?acx21 ?obx21 ?nk0 ?nk1 ?nk2 ?nk3 ?nk4 ?nk5 ?zlen ?zint ?zabs ?zdivmod ?zisinstance ?zrange ?zrepr ?zall ?zmax ?zmin ?zValueError ?zLookupError ?zArithmeticError ?ei15 ?kp15 ?cl15 ?eb15 ?ga15 ?gg15 ?hd15 ?ac15 ?ob15 ?ei16 ?kp16 ?cl16 ?eb16 ?ga16 ?gg16 ?hd16 ?ac16 ?ob16 ?ei17 ?kp17 ?cl17 ?eb17 ?ga17 ?gg17 ?hd17 ?ac17 ?ob17 ?ei18 ?kp18 ?cl18 ?eb18 ?ga18 ?gg18 ?hd18 ?ac18 ?ob18 ?hkit ?hcnt ?hbas0 ?hbas1 ?hbas2 ?d1 ?d2 ?d3 tab
    (case gCx15 => k_is)
    (case gCx16 => k_is)
    (case gCx17 => k_is)
    (case gCx18 => k_is)
    (case gCIn => k_is)
    (case gCSt => k_is)
    (case gCSi => k_is)
    (case gCx0 => k_is)
    (case gCx1 => k_is)
    (case gCx2 => k_is)
    (case gCx3 => k_is)
    (case gCx4 => k_is)
    (case gCx5 => k_is)
    (case gCx6 => k_is)
    (case gCx7 => k_is)
    (case gCx8 => k_is)
    (case gCx9 => k_is)
    (case gCx10 => k_is)
    (case gCx11 => k_is)
    (case gCx12 => k_is)
    (case gCx13 => k_is)
    (case gCx14 => k_is)
    (case gCx19 => k_is)
    (case gCx20 => k_is)
    (case gCx21 => k_is)
    (case aB => k_is)
    (case lB => k_is)
    (case cB => k_is)
    (case kB => k_is)
    (case aD => k_is)
    (case lD => k_is)
    (case cD => k_is)
    (case kD => k_is)
    (case aOf => k_is)
    (case lOf => k_is)
    (case cOf => k_is)
    (case kOf => k_is)
    (case aV => k_is)
    (case lV => k_is)
    (case cV => k_is)
    (case kV => k_is)
    (case aS => k_is)
    (case lS => k_is)
    (case cS => k_is)
    (case kS => k_is)
    (case aIs => k_is)
    (case lIs => k_is)
    (case cIs => k_is)
    (case kIs => k_is)
    (case aBa => k_is)
    (case lBa => k_is)
    (case cBa => k_is)
    (case kBa => k_is)
    (case aR => k_is)
    (case lR => k_is)
    (case cR => k_is)
    (case kR => k_is)
    (case aL => k_is)
    (case lL => k_is)
    (case cL => k_is)
    (case kL => k_is)
    (case aI0 => k_is)
    (case iI0 => k_is)
    (case lI0 => k_is)
    (case cI0 => k_is)
    (case kI0 => k_is)
    (case aI1 => k_is)
    (case iI1 => k_is)
    (case lI1 => k_is)
    (case cI1 => k_is)
    (case kI1 => k_is)
    (case aI2 => k_is)
    (case iI2 => k_is)
    (case lI2 => k_is)
    (case cI2 => k_is)
    (case kI2 => k_is)
    (case aI3 => k_is)
    (case iI3 => k_is)
    (case lI3 => k_is)
    (case cI3 => k_is)
    (case kI3 => k_is)
    (case aI4 => k_is)
    (case iI4 => k_is)
    (case lI4 => k_is)
    (case cI4 => k_is)
    (case kI4 => k_is)
    (case aI5 => k_is)
    (case iI5 => k_is)
    (case lI5 => k_is)
    (case cI5 => k_is)
    (case kI5 => k_is)
    (case aI6 => k_is)
    (case iI6 => k_is)
    (case lI6 => k_is)
    (case cI6 => k_is)
    (case kI6 => k_is)
    (case aI7 => k_is)
    (case iI7 => k_is)
    (case lI7 => k_is)
    (case cI7 => k_is)
    (case kI7 => k_is)
    (case aI8 => k_is)
    (case iI8 => k_is)
    (case lI8 => k_is)
    (case cI8 => k_is)
    (case kI8 => k_is)
    (case aI9 => k_is)
    (case iI9 => k_is)
    (case lI9 => k_is)
    (case cI9 => k_is)
    (case kI9 => k_is)
    (case aI10 => k_is)
    (case iI10 => k_is)
    (case lI10 => k_is)
    (case cI10 => k_is)
    (case kI10 => k_is)
    (case aI11 => k_is)
    (case iI11 => k_is)
    (case lI11 => k_is)
    (case cI11 => k_is)
    (case kI11 => k_is)
    (case aI12 => k_is)
    (case iI12 => k_is)
    (case lI12 => k_is)
    (case cI12 => k_is)
    (case kI12 => k_is)
    (case aI13 => k_is)
    (case iI13 => k_is)
    (case lI13 => k_is)
    (case cI13 => k_is)
    (case kI13 => k_is)
    (case aI14 => k_is)
    (case iI14 => k_is)
    (case lI14 => k_is)
    (case cI14 => k_is)
    (case kI14 => k_is)
    (case aI19 => k_is)
    (case iI19 => k_is)
    (case lI19 => k_is)
    (case cI19 => k_is)
    (case kI19 => k_is)
    (case aI20 => k_is)
    (case iI20 => k_is)
    (case lI20 => k_is)
    (case cI20 => k_is)
    (case kI20 => k_is)
    (case aI21 => k_is)
    (case iI21 => k_is)
    (case lI21 => k_is)
    (case cI21 => k_is)
    (case kI21 => k_is)
    (case gtc => k_is)
    (case tkc => k_is)
    (case xx0 => k_is)
    (case sax0 => k_is)
    (case ebx0 => k_is)
    (case tyx0 => k_is)
    (case kpx0 => k_is)
    (case nox0 => k_is)
    (case tix0 => k_is)
    (case gax0 => k_is)
    (case ggx0 => k_is)
    (case hdx0 => k_is)
    (case acx0 => k_is)
    (case obx0 => k_is)
    (case xx1 => k_is)
    (case sax1 => k_is)
    (case ebx1 => k_is)
    (case tyx1 => k_is)
    (case kpx1 => k_is)
    (case nox1 => k_is)
    (case tix1 => k_is)
    (case gax1 => k_is)
    (case ggx1 => k_is)
    (case hdx1 => k_is)
    (case acx1 => k_is)
    (case obx1 => k_is)
    (case xx2 => k_is)
    (case sax2 => k_is)
    (case ebx2 => k_is)
    (case tyx2 => k_is)
    (case kpx2 => k_is)
    (case nox2 => k_is)
    (case tix2 => k_is)
    (case gax2 => k_is)
    (case ggx2 => k_is)
    (case hdx2 => k_is)
    (case acx2 => k_is)
    (case obx2 => k_is)
    (case xx3 => k_is)
    (case sax3 => k_is)
    (case ebx3 => k_is)
    (case tyx3 => k_is)
    (case kpx3 => k_is)
    (case nox3 => k_is)
    (case tix3 => k_is)
    (case gax3 => k_is)
    (case ggx3 => k_is)
    (case hdx3 => k_is)
    (case acx3 => k_is)
    (case obx3 => k_is)
    (case xx4 => k_is)
    (case sax4 => k_is)
    (case ebx4 => k_is)
    (case tyx4 => k_is)
    (case kpx4 => k_is)
    (case nox4 => k_is)
    (case tix4 => k_is)
    (case gax4 => k_is)
    (case ggx4 => k_is)
    (case hdx4 => k_is)
    (case acx4 => k_is)
    (case obx4 => k_is)
    (case xx5 => k_is)
    (case sax5 => k_is)
    (case ebx5 => k_is)
    (case tyx5 => k_is)
    (case kpx5 => k_is)
    (case nox5 => k_is)
    (case tix5 => k_is)
    (case gax5 => k_is)
    (case ggx5 => k_is)
    (case hdx5 => k_is)
    (case acx5 => k_is)
    (case obx5 => k_is)
    (case xx6 => k_is)
    (case sax6 => k_is)
    (case ebx6 => k_is)
    (case tyx6 => k_is)
    (case kpx6 => k_is)
    (case nox6 => k_is)
    (case tix6 => k_is)
    (case gax6 => k_is)
    (case ggx6 => k_is)
    (case hdx6 => k_is)
    (case acx6 => k_is)
    (case obx6 => k_is)
    (case xx7 => k_is)
    (case sax7 => k_is)
    (case ebx7 => k_is)
    (case tyx7 => k_is)
    (case kpx7 => k_is)
    (case nox7 => k_is)
    (case tix7 => k_is)
    (case gax7 => k_is)
    (case ggx7 => k_is)
    (case hdx7 => k_is)
    (case acx7 => k_is)
    (case obx7 => k_is)
    (case xx8 => k_is)
    (case sax8 => k_is)
    (case ebx8 => k_is)
    (case tyx8 => k_is)
    (case kpx8 => k_is)
    (case nox8 => k_is)
    (case tix8 => k_is)
    (case gax8 => k_is)
    (case ggx8 => k_is)
    (case hdx8 => k_is)
    (case acx8 => k_is)
    (case obx8 => k_is)
    (case xx9 => k_is)
    (case sax9 => k_is)
    (case ebx9 => k_is)
    (case tyx9 => k_is)
    (case kpx9 => k_is)
    (case nox9 => k_is)
    (case tix9 => k_is)
    (case gax9 => k_is)
    (case ggx9 => k_is)
    (case hdx9 => k_is)
    (case acx9 => k_is)
    (case obx9 => k_is)
    (case xx10 => k_is)
    (case sax10 => k_is)
    (case ebx10 => k_is)
    (case tyx10 => k_is)
    (case kpx10 => k_is)
    (case nox10 => k_is)
    (case tix10 => k_is)
    (case gax10 => k_is)
    (case ggx10 => k_is)
    (case hdx10 => k_is)
    (case acx10 => k_is)
    (case obx10 => k_is)
    (case xx11 => k_is)
    (case sax11 => k_is)
    (case ebx11 => k_is)
    (case tyx11 => k_is)
    (case kpx11 => k_is)
    (case nox11 => k_is)
    (case tix11 => k_is)
    (case gax11 => k_is)
    (case ggx11 => k_is)
    (case hdx11 => k_is)
    (case acx11 => k_is)
    (case obx11 => k_is)
    (case xx12 => k_is)
    (case sax12 => k_is)
    (case ebx12 => k_is)
    (case tyx12 => k_is)
    (case kpx12 => k_is)
    (case nox12 => k_is)
    (case tix12 => k_is)
    (case gax12 => k_is)
    (case ggx12 => k_is)
    (case hdx12 => k_is)
    (case acx12 => k_is)
    (case obx12 => k_is)
    (case xx13 => k_is)
    (case sax13 => k_is)
    (case ebx13 => k_is)
    (case tyx13 => k_is)
    (case kpx13 => k_is)
    (case nox13 => k_is)
    (case tix13 => k_is)
    (case gax13 => k_is)
    (case ggx13 => k_is)
    (case hdx13 => k_is)
    (case acx13 => k_is)
    (case obx13 => k_is)
    (case xx14 => k_is)
    (case sax14 => k_is)
    (case ebx14 => k_is)
    (case tyx14 => k_is)
    (case kpx14 => k_is)
    (case nox14 => k_is)
    (case tix14 => k_is)
    (case gax14 => k_is)
    (case ggx14 => k_is)
    (case hdx14 => k_is)
    (case acx14 => k_is)
    (case obx14 => k_is)
    (case xx19 => k_is)
    (case sax19 => k_is)
    (case ebx19 => k_is)
    (case tyx19 => k_is)
    (case kpx19 => k_is)
    (case nox19 => k_is)
    (case tix19 => k_is)
    (case gax19 => k_is)
    (case ggx19 => k_is)
    (case hdx19 => k_is)
    (case acx19 => k_is)
    (case obx19 => k_is)
    (case xx20 => k_is)
    (case sax20 => k_is)
    (case ebx20 => k_is)
    (case tyx20 => k_is)
    (case kpx20 => k_is)
    (case nox20 => k_is)
    (case tix20 => k_is)
    (case gax20 => k_is)
    (case ggx20 => k_is)
    (case hdx20 => k_is)
    (case acx20 => k_is)
    (case obx20 => k_is)
    (case xx21 => k_is)
    (case sax21 => k_is)
    (case ebx21 => k_is)
    (case tyx21 => k_is)
    (case kpx21 => k_is)
    (case nox21 => k_is)
    (case tix21 => k_is)
    (case gax21 => k_is)
    (case ggx21 => k_is)
    (case hdx21 => k_is)
    (case acx21 => k_is)
    (case obx21 => k_is)
    (case nk0 => k_is)
    (case nk1 => k_is)
    (case nk2 => k_is)
    (case nk3 => k_is)
    (case nk4 => k_is)
    (case nk5 => k_is)
    (case zlen => k_is)
    (case zint => k_is)
    (case zabs => k_is)
    (case zdivmod => k_is)
    (case zisinstance => k_is)
    (case zrange => k_is)
    (case zrepr => k_is)
    (case zall => k_is)
    (case zmax => k_is)
    (case zmin => k_is)
    (case zValueError => k_is)
    (case zLookupError => k_is)
    (case zArithmeticError => k_is)
    (case ei15 => (first | kernel_rfl | rfl | k_is))
    (case kp15 => k_is)
    (case cl15 => (first | kernel_rfl | rfl | k_is))
    (case eb15 => k_is)
    (case ga15 => k_is)
    (case gg15 => k_is)
    (case hd15 => k_is)
    (case ac15 => k_is)
    (case ob15 => k_is)
    (case ei16 => (first | kernel_rfl | rfl | k_is))
    (case kp16 => k_is)
    (case cl16 => (first | kernel_rfl | rfl | k_is))
    (case eb16 => k_is)
    (case ga16 => k_is)
    (case gg16 => k_is)
    (case hd16 => k_is)
    (case ac16 => k_is)
    (case ob16 => k_is)
    (case ei17 => (first | kernel_rfl | rfl | k_is))
    (case kp17 => k_is)
    (case cl17 => (first | kernel_rfl | rfl | k_is))
    (case eb17 => k_is)
    (case ga17 => k_is)
    (case gg17 => k_is)
    (case hd17 => k_is)
    (case ac17 => k_is)
    (case ob17 => k_is)
    (case ei18 => (first | kernel_rfl | rfl | k_is))
    (case kp18 => k_is)
    (case cl18 => (first | kernel_rfl | rfl | k_is))
    (case eb18 => k_is)
    (case ga18 => k_is)
    (case gg18 => k_is)
    (case hd18 => k_is)
    (case ac18 => k_is)
    (case ob18 => k_is)
    (case hkit => (first | kernel_rfl | rfl | k_is))
    (case hcnt => (decide +kernel))
    (case hbas0 => (first | kernel_rfl | rfl | k_is))
    (case hbas1 => (first | kernel_rfl | rfl | k_is))
    (case hbas2 => (first | kernel_rfl | rfl | k_is))
    (case d1 => (decide +kernel))
    (case d2 => (decide +kernel))
    (case d3 => (decide +kernel))
