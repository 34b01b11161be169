import PyProof.Rows.All
import Wide.All
import OpenK.AllK
import Wide.FinOn
import KE.KCallOwn
import PyProof.InstEq
import HandS.ForMost
import HandS.OwnEq
import HandS.IsInst
import HandS.Walk
import HandS.Codes
import HandS.FStr
import KE.GoesMore
import KE.GoesZip
import HandS.Zip
import HandS.SetFor
import KE.GoesEnum
import HandS.Star
import HandS.Defaults
import PyProof.ReprRoads
import HandS.Lambda
import HandS.EndTab
import HandS.Exc
import KE.KExcIs
import HandS.ExcInit
import HandS.ExcField
import HandS.WordsExc
import PyProof.ExcBaseAll.ArithmeticError
import PyProof.ExcBaseAll.LookupError
import OpenK.KOps
import PyProof.Conv_bool
import PyProof.Truth
import HandS.Iter
import PyProof.ReprNest
import PyProof.ReprReads
import HandS.ExcIs
import HandS.Head2
import HandS.HeadHook4
import PySem.Challenge.RW_guessmarks_k05_marks_refused
set_option Elab.async false
set_option linter.all false
set_option maxRecDepth 100000
set_option maxHeartbeats 8000000
/-! defs that are called where nothing is being shown, so that they may ask for the repr of lists -/
namespace L2
open PySem PySem.Spec PyProof.Rows
/-- FnOk for calls where no repr is under way -/
structure FnG (P : Program) (w : World) (K : PySem.W.Frag) (mg : Str → Option Value) (base : Heap) (CX : CXT) (k : Nat) (f : Addr) (fd : FuncData) (ps : List Str) (sp : Sp) : Prop where
  many : ∀ {vs H Q E}, sp vs H Q E → vs.length = ps.length
  goes : ∀ {A : Around} {outer : List Env} {s : Shared} {H : Hp} {args : Args} {us : List Value} {vs : List V} {Q : VK} {E : XK}, A.guards = some [] → Room k A → Env0 P w K mg base A outer s H →
    BindsTo s fd args (ps.zip us) → Vals vs us → sp vs H Q E → codeAny (model P w) A (.call (.ref f) args) (CR CX outer P w H s Q E) s
theorem FnOk.toG {P : Program} {w : World} {K : PySem.W.Frag} {mg : Str → Option Value} {base : Heap} {CX : CXT} {k : Nat} {f : Addr} {fd : FuncData} {ps : List Str} {sp : Sp} (F : FnOk P w K mg base CX k f fd ps sp) : FnG P w K mg base CX k f fd ps sp :=
  ⟨fun h => F.len _ _ _ _ h, fun _ hr e b r h => F.run _ _ _ _ _ _ _ _ _ hr e b r h⟩
theorem Fun.okG {P : Program} {w : World} {K : PySem.W.Frag} {mg : Str → Option Value} {base : Heap} {x qual : Str} {st : Stmt} {f : Addr} {fd : FuncData} {N ps : List Str} {k : Nat} {sp : Sp} (F : Fun K x qual st f fd) (S : FnScope N ps (defScope st))
    (many : ∀ vs H Q E, sp vs H Q E → vs.length = ps.length)
    (body : ∀ (cdv : Value) (A : Around) (outer : List Env) (s : Shared) (H : Hp) (vs : List V) (Q : VK) (E : XK), A.guards = some [] → Room k (A.deeper (envOfC qual (defScope st) s.heap.objs.size f cdv)) → sp vs H Q E →
      ∃ t, PSs (cxOf CX0 P w K mg base N qual (defScope st) f cdv A outer s H E).nox (defBody st) t ∧ t { nx := fun _ H' => Q .non H', rt := Q } (start N vs) H) : FnG P w K mg base CX0 (k + 1) f fd ps sp := by
  obtain ⟨oc, od, kV, doc, pm, an, cdv, ct, osl, rfl, lk, hcd⟩ := F.ex
  refine ⟨fun h => many _ _ _ _ h, fun {A outer s H args us vs Q E} g hr e b r h => ?_⟩
  refine LamX.run_ofS lk hcd S hr e b r (many _ _ _ _ h) fun hr' => ?_
  obtain ⟨t, ht, q⟩ := body cdv A outer s H vs Q E g hr' h
  exact ⟨t, ht.nox, q⟩
section
variable {X : Cx} {CX : CXT} {k : Nat} {f : Addr} {fd : FuncData} {ps : List Str} {sp : Sp} {E : XK} {x : Str} {p pos : Pos} {e : Expr} {es : List Expr} {t : TA}
theorem pe_callG (F : FnG X.prog X.w X.K X.mg X.base CX k f fd ps sp) (g : X.A.guards = some []) (hr : Room k X.A) (hg : Gl X x) (hm : X.mg x = some (.ref f)) (hk : PySem.W.keepIn X.K (.ref f) = true) (hb : Binds X.K fd ps []) (hx : Passes CX X E) (ha : PA X (e :: es) t)
    (hdb : (x == ("__debug__" : Str)) = false := by decide) (he : starEach (e :: es) X.env = (false, eval e X.env) :: starEach es X.env := by rfl) (hpl : (backTo pos (starEach es X.env)).any (·.1) = false := by rfl) :
    PE X (.Call (.Name x p) (e :: es) [] pos) (tCall sp [] E t) := by
  constructor
  intro pins s σ H Q I h
  apply wpAny_Call_Name_kw
  apply ld_glob I hg hm _ hdb
  refine PySem.W.callWith_K (h₀ := X.base) I.ok.mod.kin hk (thn (ha.run pos pins s σ H _ I h) fun us s1 hh => ?_) he hpl
  obtain ⟨vs, H1, I1, r, q⟩ := hh
  refine ⟨I1.kIn, wpAny_call (codeAny_mono (F.goes g hr I1.env0 (us := us) ?_ r (by simpa using q)) fun r s' hq => ?_)⟩
  · have hl : (us ++ []).length = ps.length := by
      rw [List.append_nil, ← r.length]
      exact F.many (by simpa using q)
    simpa using hb s1 us I1.kIn hl
  · match r, hq with
    | .error e, hq => exact hx pins σ H1 s1 e s' I1 hq
    | .ok (.ret u), hq => exact I1.after hq
end
/-! ### repr of data -/
mutual
/-- as Dp, with the empty dict besides -/
inductive Dq (K : PySem.W.Frag) (H : Hp) : V → PyData → Prop
  | non : Dq K H .non .none
  | bl (b : Bool) : Dq K H (.bl b) (.bool b)
  | int (i : Int) : Dq K H (.int i) (.int i)
  | str (x : Str) : Dq K H (.str x) (.str x)
  | lst {a : Addr} {xs : List V} {ds : List PyData} : SqL K H a xs → DqAll K H xs ds → Dq K H (.ref a) (.list ds)
  | tup {a : Addr} {xs : List V} {ds : List PyData} : SqT K H a xs → DqAll K H xs ds → Dq K H (.ref a) (.tuple ds)
  | dic {a : Addr} : H a = some (.dK []) → Dq K H (.ref a) (.dict [])
inductive DqAll (K : PySem.W.Frag) (H : Hp) : List V → List PyData → Prop
  | nil : DqAll K H [] []
  | cons {v : V} {vs : List V} {d : PyData} {ds : List PyData} : Dq K H v d → DqAll K H vs ds → DqAll K H (v :: vs) (d :: ds)
end
section
variable {X : Cx} {pins : List (Addr × Obj)} {σ : St} {H : Hp} {s : Shared}
theorem no_mods {a : Addr} {o : Obj} {vs : Array Value} {n : Nat} {h : Heap} {mm : Str → Option Value} (hm : h.Ns sysModules mm) (ho : h.get? a = some o) (hd : o.data = .seq vs n) : sysModules ≠ a := fun z => by
  obtain ⟨o', es, ep, e, d, _⟩ := hm
  rw [z, ho] at e
  cases e
  rw [hd] at d
  cases d
mutual
theorem Dq.reads {mm : Str → Option Value} (hm : s.heap.Ns sysModules mm) (I : Inv X pins σ H s) : ∀ (d : PyData) (v : V) (u : Value), Dq X.K H v d → RelV v u → ∃ as, Reads s.heap u d as ∧ sysModules ∉ as
  | .none, _, _, h, r => by
    cases h; cases r
    exact ⟨_, .none, List.not_mem_nil⟩
  | .bool b, _, _, h, r => by
    cases h; cases r
    exact ⟨_, .bool b, List.not_mem_nil⟩
  | .int i, _, _, h, r => by
    cases h; obtain ⟨t, rfl⟩ := r
    exact ⟨_, .int i t, List.not_mem_nil⟩
  | .str x, _, _, h, r => by
    cases h; obtain ⟨t, rfl⟩ := r
    exact ⟨_, .str x t, List.not_mem_nil⟩
  | .list ds, _, _, h, r => by
    cases h with
    | lst hs ha =>
      cases r
      obtain ⟨its, rv, ⟨o, n, ho, hc, _, hd⟩, _⟩ := I.list hs
      obtain ⟨as, hr, nm⟩ := Dq.readsAll hm I ds _ its ha rv
      refine ⟨_, .list ho hc hd hr, fun z => ?_⟩
      rcases List.mem_cons.mp z with z | z
      · exact no_mods hm ho hd z
      · exact nm z
  | .tuple ds, _, _, h, r => by
    cases h with
    | tup hs ha =>
      cases r
      obtain ⟨its, rv, ⟨o, ho, hc, n, hd⟩, _⟩ := I.tuple hs
      obtain ⟨as, hr, nm⟩ := Dq.readsAll hm I ds _ its ha rv
      exact ⟨_, .tuple ho hc hd hr, nm⟩
  | .dict ks, _, _, h, r => by
    cases h with
    | dic e =>
      cases r
      obtain ⟨_, nd, vs, kv, dd⟩ := dk_of I.hok e
      cases kv
      obtain ⟨o, es, ep, ho, hx, hd, _, he, _⟩ := dd
      have e0 : es.toList = [] := by cases hl : es.toList with | nil => rfl | cons a b => (rw [hl] at he; cases he)
      refine ⟨_, .dict (as := []) (bs := []) ho hx.1 hd (by rw [e0]; exact .nil) (by rw [e0]; exact .nil), fun z => ?_⟩
      rcases List.mem_cons.mp z with z | z
      · rw [← z] at nd
        simp at nd
      · simp at z
theorem Dq.readsAll {mm : Str → Option Value} (hm : s.heap.Ns sysModules mm) (I : Inv X pins σ H s) : ∀ (ds : List PyData) (vs : List V) (us : List Value), DqAll X.K H vs ds → Vals vs us → ∃ as, ReadsAll s.heap us ds as ∧ sysModules ∉ as
  | [], _, _, h, r => by
    cases h; cases r
    exact ⟨_, .nil, List.not_mem_nil⟩
  | d :: ds, _, _, h, r => by
    cases h with
    | cons h1 h2 =>
      cases r with
      | cons r1 r2 =>
        obtain ⟨as, q1, n1⟩ := Dq.reads hm I d _ _ h1 r1
        obtain ⟨bs, q2, n2⟩ := Dq.readsAll hm I ds _ _ h2 r2
        exact ⟨_, .cons q1 q2, fun z => (List.mem_append.mp z).elim n1 n2⟩
end
/-- what repr wants of data: it can be shown, in so much room -/
structure Sh (d : PyData) (n m : Nat) : Prop where
  ok : d.showable = true
  long : d.shown.length ≤ n
  deep : d.depth ≤ m
theorem call_reprD (g : X.A.guards = some []) (hu : X.A.units + 64 < cLine) (hm : ∃ mm, X.base.Ns sysModules mm) :
    CallR X (.builtin "repr") (fun xs H Q => ∃ (a : Addr) (d : PyData), xs = [.ref a] ∧ Dq X.K H (.ref a) d ∧ Sh d 16777216 60 ∧ Q (.str d.shown) H) := by
  intro pins s σ H xs us Q I r h
  obtain ⟨a, d, rfl, hd, hs, q⟩ := h
  obtain ⟨mm, hm⟩ := hm
  cases r with
  | cons r1 r2 =>
    cases r2
    cases r1
    obtain ⟨as, rd, nm⟩ := Dq.reads (hm.keeps I.bk) I d _ _ hd rfl
    refine repr_of_reads' rd hs.ok (fun _ => nm) g ?_ (fun _ _ e => e) (fun h' u tk k => ?_) ?_
    · have := hs.deep
      omega
    · exact ⟨.str d.shown, H, I.kept (t' := tk) k, ⟨_, rfl⟩, q⟩
    · rw [sizeLine_eq]
      exact hs.long
end
end L2

/-! the end of a law whose defs are FnG -/
namespace L2
open PySem PySem.Spec PyProof.Rows LamX
/-- what stands behind the top; cs: code objects with their tables -/
structure Ready (K : PySem.W.Frag) (mg mb : Str → Option Value) (z : Shared) (cs : List (Addr × Addr)) : Prop where
  kin : K.In z.heap
  glob : z.heap.Ns mainGlobals mg
  blt : z.heap.Ns builtinsNs mb
  boot : ∀ x : Str, x ≠ "__name__" → mb x = bootBuiltins x
  lim : z.heap.NoLimit
  mods : ∃ mm, z.heap.Ns sysModules mm
  gens : z.gens = #[]
  tabs : ∀ p ∈ cs, z.heap.get? p.2 = some { cls := .none, data := .fields #[] }
  tabK : ∀ p ∈ cs, K.lookup p.2 = none
  code : ∀ p ∈ cs, PySem.W.CodeHd z.heap p.1 p.2
  main : ∃ (bm : Addr) (ob : Obj), mg "__builtins__" = some (.ref bm) ∧ bm ≠ builtinsNs ∧ z.heap.get? bm = some ob ∧ ob.cls = .type "module" ∧ ob.dict = some builtinsNs ∧ ob.data = .plain
/-- the abstract heap at the law's entry: the tables, and the script if it is no object of the module -/
def hp0 (K : PySem.W.Frag) (cs : List (Addr × Addr)) (a : Addr) (o : Obj) (ns : List Int) : Hp := fun b =>
  if b ∈ cs.map (·.2) then some (.tbl #[]) else if b = a ∧ K.lookup a = none then some (.frz o (.lst (ns.map V.int))) else none
section
variable {P : Program} {w : World} {K : PySem.W.Frag} {mg mb : Str → Option Value} {z : Shared} {cs : List (Addr × Addr)} {a : Addr} {vs : List Value} {ns : List Int}
abbrev scr (vs : List Value) : Obj := { cls := .type "list", data := .seq vs.toArray }
theorem hp0_tab {o : Obj} {p : Addr × Addr} (m : p ∈ cs) : hp0 K cs a o ns p.2 = some (.tbl #[]) := if_pos (List.mem_map.mpr ⟨p, m, rfl⟩)
theorem hp0_of {o : Obj} {b : Addr} {u : HO} (e : hp0 K cs a o ns b = some u) : (∃ p ∈ cs, p.2 = b ∧ u = .tbl #[]) ∨ (b = a ∧ K.lookup a = none ∧ u = .frz o (.lst (ns.map V.int))) := by
  unfold hp0 at e
  split at e
  · rename_i m
    obtain ⟨p, hp, q⟩ := List.mem_map.mp m
    exact .inl ⟨p, hp, q, (Option.some.inj e).symm⟩
  · split at e
    · rename_i m
      exact .inr ⟨m.1, m.2, (Option.some.inj e).symm⟩
    · cases e
theorem Ready.quiet (R : Ready K mg mb z cs) (ha : z.heap.get? a = some (scr vs)) {b : Addr} {o : Obj} (e : z.heap.get? b = some o) (n1 : ∀ us n, o.data ≠ .seq us n) (n2 : o.data ≠ .fields #[]) : hp0 K cs a (scr vs) ns b = none := by
  cases q : hp0 K cs a (scr vs) ns b with
  | none => rfl
  | some u =>
    rcases hp0_of q with ⟨p, hp, rfl, _⟩ | ⟨rfl, _, _⟩
    · rw [R.tabs p hp] at e
      cases e
      exact absurd rfl n2
    · rw [ha] at e
      cases e
      exact absurd rfl (n1 _ _)
theorem Ready.hok (R : Ready K mg mb z cs) (ha : z.heap.get? a = some (scr vs)) (hi : IntsAre vs ns) (hl : ns.length ≤ sizeLine) : HOk P w (hp0 K cs a (scr vs) ns) z.heap := fun b u q => by
  rcases hp0_of q with ⟨p, hp, rfl, rfl⟩ | ⟨rfl, _, rfl⟩
  · exact R.tabs p hp
  · exact ⟨ha, by rw [List.length_map]; exact hl, vs, _, vals_ints hi, ha⟩
theorem Ready.seq (R : Ready K mg mb z cs) (ha : z.heap.get? a = some (scr vs)) (hi : IntsAre vs ns) (hl : ns.length ≤ sizeLine) : SqL K (hp0 K cs a (scr vs) ns) a (ns.map V.int) := by
  cases hk : K.lookup a with
  | some o =>
    have e := R.kin a o hk
    rw [ha] at e
    cases e
    have rv := vals_ints hi
    exact .inr ⟨_, vs.toArray, _, hk, rfl, rfl, rfl, by rw [List.size_toArray, hi.length]; exact hl, by simpa using rv⟩
  | none =>
    have nt : a ∉ cs.map (·.2) := fun m => by
      obtain ⟨p, hp, e⟩ := List.mem_map.mp m
      have q := R.tabs p hp
      rw [e, ha] at q
      have q' : Data.seq vs.toArray _ = Data.fields #[] := congrArg Obj.data (Option.some.inj q)
      cases q'
    exact .inl (.inr ⟨scr vs, (if_neg nt).trans (if_pos ⟨rfl, hk⟩)⟩)
theorem Ready.space (R : Ready K mg mb z cs) (ha : z.heap.get? a = some (scr vs)) {b : Addr} {m : Str → Option Value} (x : z.heap.Ns b m) : (hidT z.heap (hp0 K cs a (scr vs) ns)).Ns b m := by
  obtain ⟨o, es, ep, e, d, r⟩ := x
  refine ⟨o, es, ep, hidT_get e (R.quiet ha e (fun us n q => ?_) fun q => ?_), d, r⟩ <;> (rw [d] at q; cases q)
theorem Ready.mod (R : Ready K mg mb z cs) (ha : z.heap.get? a = some (scr vs)) : L2.Mod K mg (hidT z.heap (hp0 K cs a (scr vs) ns)) := by
  refine ⟨fun b o e => hidT_get (R.kin b o e) ?_, R.space ha R.glob, ⟨mb, R.space ha R.blt, R.boot⟩, ?_⟩
  · cases q : hp0 K cs a (scr vs) ns b with
    | none => rfl
    | some u =>
      rcases hp0_of q with ⟨p, hp, rfl, _⟩ | ⟨rfl, n, _⟩
      · have t := R.tabK p hp
        rw [e] at t
        cases t
      · rw [e] at n
        cases n
  · obtain ⟨mc, h1, h2⟩ := R.lim
    exact ⟨mc, R.space ha h1, h2⟩
theorem Ready.tabB (R : Ready K mg mb z cs) (ha : z.heap.get? a = some (scr vs)) {p : Addr × Addr} (hp : p ∈ cs) : TabB (hidT z.heap (hp0 K cs a (scr vs) ns)) mg p.1 p.2 := by
  have tp := R.tabs p hp
  obtain ⟨og, eg, epg, gg, gd, _⟩ := R.glob
  refine ⟨?_, ?_, fun q => ?_⟩
  · obtain ⟨o, us, file, tf, flags, tg, inF, text, tt, e1, r1, r2, r3, r⟩ := R.code p hp
    refine ⟨o, us, file, tf, flags, tg, inF, text, tt, hidT_get e1 (R.quiet ha e1 (fun us n q => ?_) fun q => ?_), r1, r2, r3, r⟩
    · rw [r2] at q
      cases q
    · rw [r2] at q
      cases q
      simp at r3
  · obtain ⟨bm, ob, b1, b2, b3, b4, b5, b6⟩ := R.main
    refine ⟨bm, ob, b1, b2, fun q => ?_, fun q => ?_, hidT_get b3 (R.quiet ha b3 (fun us n q => ?_) fun q => ?_), b4, b5, b6⟩
    · rw [q, gg] at b3
      cases b3
      rw [gd] at b6
      cases b6
    · rw [q, tp] at b3
      cases b3
      cases b6
    · rw [b6] at q
      cases q
    · rw [b6] at q
      cases q
  · rw [q, tp] at gg
    cases gg
    cases gd
theorem callG {k : Nat} {fa : Addr} {fd : FuncData} {x : Str} {sp : Sp} (R : Ready K mg mb z cs) (ha : z.heap.get? a = some (scr vs)) (hi : IntsAre vs ns) (hl : ns.length ≤ sizeLine) (hr : Room k callerA)
    (F : ∀ base : Heap, K.In base → base.Ns mainGlobals mg → (∃ mm, base.Ns sysModules mm) → (∀ p ∈ cs, TabB base mg p.1 p.2) → FnG P w K mg base CX0 k fa fd [x] sp) (hb : ∀ (s : Shared) (u : Value), BindsTo s fd ⟨[u], []⟩ [(x, u)])
    (hsp : ∀ H : Hp, (∀ p ∈ cs, H p.2 = some (.tbl #[])) → SqL K H a (ns.map V.int) → sp [.ref a] H (fun v _ => v = .bl true) fun _ _ _ => False) :
    codeAny (model P w) callerA (.call (.ref fa) ⟨[.ref a], []⟩) (fun r s' => r = .ok (.ret (.bool true)) ∧ OldK z.heap s'.heap ∧ s'.os = z.os ∧ AllBare s'.gens) z := by
  obtain ⟨H, eH⟩ : ∃ H, H = hp0 K cs a (scr vs) ns := ⟨_, rfl⟩
  have M := R.mod (ns := ns) ha
  have hok : HOk P w H z.heap := eH ▸ R.hok ha hi hl
  have tabH : ∀ p ∈ cs, H p.2 = some (.tbl #[]) := fun p hp => eH ▸ hp0_tab hp
  have G := F _ M.kin M.glob (R.mods.imp fun mm h => R.space (ns := ns) ha h) (fun p hp => R.tabB (ns := ns) ha hp)
  have e0 : Env0 P w K mg (hidT z.heap (hp0 K cs a (scr vs) ns)) callerA [] z H := ⟨rfl, M, fun b o e => eH ▸ of_hidT e, Nat.le_of_eq (hidT_size _ _), trivial, nofun, hok, .of_eq R.gens⟩
  refine codeAny_mono (G.goes (us := [.ref a]) (vs := [.ref a]) rfl hr e0 (hb z (.ref a)) (.cons rfl .nil) (hsp H tabH (eH ▸ R.seq ha hi hl))) fun r s' h => ?_
  match r, h with
  | .ok (.ret u), h =>
    obtain ⟨v, H', os, bare, un, hok', rv, q⟩ := h
    have q' : v = .bl true := q
    subst q'
    obtain rfl : u = Value.bool true := rv
    have kept : ∀ {b : Addr} {o : Obj}, (∀ p ∈ cs, p.2 ≠ b) → z.heap.get? b = some o → s'.heap.get? b = some o := fun {b o} nb e => by
      cases q : H b with
      | none => exact un.keep b o e q nofun (by simp)
      | some u =>
        rw [eH] at q
        rcases hp0_of q with ⟨p, hp, e2, _⟩ | ⟨_, _, rfl⟩
        · exact absurd e2 (nb p hp)
        · have z2 := un.frzs b _ _ (eH ▸ q)
          obtain ⟨e1, _⟩ := hok b _ (eH ▸ q)
          obtain ⟨e3, _⟩ := hok' b _ z2
          rw [e] at e1
          cases e1
          exact e3
    have grown : ∀ p ∈ cs, ∃ more : Array Value, s'.heap.get? p.2 = some { cls := .none, data := .fields more } := fun p hp => by
      obtain ⟨more, zz⟩ := un.tbls p.2 #[] (tabH p hp)
      exact ⟨_, hok' p.2 _ zz⟩
    refine ⟨rfl, ⟨fun b o e => ?_, fun b o e => ?_⟩, os, bare⟩
    · by_cases hm : ∃ p ∈ cs, p.2 = b
      · obtain ⟨p, hp, rfl⟩ := hm
        obtain ⟨more, hm⟩ := grown p hp
        have tp := R.tabs p hp
        rw [tp] at e
        cases e
        exact .inr (.inl ⟨((R.code p hp).tab tp).isCodeTable, rfl, #[], more, rfl, by rw [Array.empty_append]; exact hm⟩)
      · exact .inl (kept (fun p hp q => hm ⟨p, hp, q⟩) e)
    · by_cases hm : ∃ p ∈ cs, p.2 = b
      · obtain ⟨p, hp, rfl⟩ := hm
        obtain ⟨more, hm⟩ := grown p hp
        exact ⟨_, hm⟩
      · exact ⟨o, kept (fun p hp q => hm ⟨p, hp, q⟩) e⟩
/-- the goal that k_head leaves -/
theorem walkG {l : PySem.W.OpenLaw} {n k : Nat} {q : Program} {loose : List Str} {XP : (Str → Option Value) → Heap → Prop} {YP : World → Heap → Prop} {d : DefRec} {K : Params → PySem.W.Frag} {x : Str} {sp : PySem.W.Frag → Sp}
    (hn : l.most = some n) (hn2 : n ≤ sizeLine) (hdf : d.params.defaults = []) (hr : Room k callerA) (him : importsNone q = true) (hY : ∀ (w : World) (h : Heap), YP w h → (K w.params).In h)
    (F : ∀ (w : World) (mg : Str → Option Value) (fa : Addr) (h : Heap), (K w.params).In h → h.Ns mainGlobals mg → mg d.name = some (.ref fa) →
      (∀ d ∈ recsOf q, ∃ a o fd c P, mg d.name = some (.ref a) ∧ h.get? a = some o ∧ o.data = .func fd ∧ fd.code = .ref c ∧ h.IsCode c P #[] ∧ h.TableAt c P #[]) →
      ∃ (fd : FuncData) (cs : List (Addr × Addr)), (∀ p ∈ cs, h.get? p.2 = some { cls := .none, data := .fields #[] } ∧ (K w.params).lookup p.2 = none ∧ PySem.W.CodeHd h p.1 p.2) ∧ (∀ (s : Shared) (u : Value), BindsTo s fd ⟨[u], []⟩ [(x, u)]) ∧
        ∀ base : Heap, (K w.params).In base → base.Ns mainGlobals mg → (∃ mm, base.Ns sysModules mm) → (∀ p ∈ cs, TabB base mg p.1 p.2) → FnG l.prog w (K w.params) mg base CX0 k fa fd [x] (fun vs H Q E => (∀ p ∈ cs, H p.2 = some (.tbl #[])) ∧ sp (K w.params) vs H Q E))
    (hsp : ∀ (K : PySem.W.Frag) (H : Hp) (a : Addr) (ns : List Int), ns.length ≤ n → SqL K H a (ns.map V.int) → sp K [.ref a] H (fun v _ => v = .bl true) fun _ _ _ => False) :
    PySem.W.WalkO q loose XP YP l.row.toRowW d [] (fun f vs => PySem.call f vs) := by
  refine Att.attach_call hn hdf fun w s₀ s₁ mg mb fa o pm cd doc a vs ns G Y ho hd hcd hmg hobj hints hlen hg => ?_
  have KX := hY w _ Y
  obtain ⟨fd, cs, C, hb, hF⟩ := F w mg fa _ KX G.T.g hmg G.T.tab
  obtain ⟨mm, hm, _⟩ := (G.T.seer him).mods
  exact callG (cs := cs) ⟨KX, G.T.g, G.T.b, G.T.builtins, G.T.nolimit, ⟨mm, hm⟩, hg, fun p hp => (C p hp).1, fun p hp => (C p hp).2.1, fun p hp => (C p hp).2.2, G.T.bmain⟩ hobj hints (Nat.le_trans hlen hn2) hr hF hb fun H hT hS => ⟨hT, hsp _ H a ns hlen hS⟩
end
end L2

/-! a law's end whose head is one kernel run: what is known of the heap behind the top is asked by one Bool over a part of it -/
namespace HX
open PySem PySem.Spec PyProof.Rows L2
def allT (l : List Bool) : Bool := l.all _root_.id
theorem allT_at {l : List Bool} (h : allT l = true) {i : Nat} {b : Bool} (e : l[i]? = some b) : b = true := List.all_eq_true.mp h b (List.mem_of_getElem? e)
theorem allT_of {p : Prop} [Decidable p] {l : List Bool} (h : allT l = true) (i : Nat) (e : l[i]? = some (decide p)) : p := of_decide_eq_true (allT_at h e)
theorem and_l {a b : Bool} (h : (a && b) = true) : a = true := (Bool.and_eq_true_iff.mp h).1
theorem and_r {a b : Bool} (h : (a && b) = true) : b = true := (Bool.and_eq_true_iff.mp h).2
theorem dfl_nil {K : PySem.W.Frag} {dV : Value} (h : DflV K dV []) : dV = .none := by
  rcases h with ⟨_, h⟩ | ⟨h, _⟩
  · exact h
  · exact absurd rfl h
/-- constants of the module -/
def intB (K : PySem.W.Frag) (x : Str) (i : Int) : Bool := match PySem.W.nsIn K mainGlobals x with
  | some (some (.int j _)) => decide (j = i)
  | _ => false
theorem intB_of {K : PySem.W.Frag} {x : Str} {i : Int} (h : intB K x i = true) : ∃ t, PySem.W.nsIn K mainGlobals x = some (some (.int i t)) := by
  unfold intB at h
  split at h
  · rename_i j t e
    rw [e, of_decide_eq_true h]
    exact ⟨t, rfl⟩
  · cases h
def strB (K : PySem.W.Frag) (x z : Str) : Bool := match PySem.W.nsIn K mainGlobals x with
  | some (some (.str y _)) => decide (y = z)
  | _ => false
theorem strB_of {K : PySem.W.Frag} {x z : Str} (h : strB K x z = true) : ∃ t, PySem.W.nsIn K mainGlobals x = some (some (.str z t)) := by
  unfold strB at h
  split at h
  · rename_i j t e
    rw [e, of_decide_eq_true h]
    exact ⟨t, rfl⟩
  · cases h
/-- an error class with these bases behind it -/
def excB (K : PySem.W.Frag) (C : Addr) (bm : List Value) (newId : String) : Bool := match K.lookup C with
  | some ⟨.type "type", _, .cls cd, sl⟩ => (match cd.mro, sl.toList with
    | .ref C' :: bm', [_, _, _, _, some (.builtin n), _] => decide (C' = C) && (decide (n = newId) && (!cd.hasDel && (cd.hasDict && decide (bm' = bm))))
    | _, _ => false)
  | _ => false
theorem excB_of {K : PySem.W.Frag} {C : Addr} {bm : List Value} {newId : String} (q : excB K C bm newId = true) : ∃ nm qn N bs sn sub ab col dd k0 k1 k2 k3 k5, K.lookup C = some (excClassObj nm qn C N bs bm true sn sub ab col dd k0 k1 k2 k3 k5 newId) := by
  unfold excB at q
  split at q
  · rename_i dd cd sl ho
    split at q
    · rename_i C' bm' k0 k1 k2 k3 n k5 hm hs
      have e1 := of_decide_eq_true (and_l q)
      have e2 := of_decide_eq_true (and_l (and_r q))
      have e3 := and_l (and_r (and_r q))
      have e4 := and_l (and_r (and_r (and_r q)))
      have e5 := of_decide_eq_true (and_r (and_r (and_r (and_r q))))
      subst e1 e2 e5
      obtain ⟨nm, bs, mro, ns, qn, hd, sn, sub, ab, col, del⟩ := cd
      dsimp only at hm e3 e4
      have e3 : del = false := by simpa using e3
      subst hm e3 e4
      have hsl : sl = #[k0, k1, k2, k3, some (.builtin n), k5] := by
        obtain ⟨l⟩ := sl
        simp only at hs
        rw [hs]
      subst hsl
      exact ⟨nm, qn, ns, bs, sn, sub, ab, col, dd, k0, k1, k2, k3, k5, ho⟩
    · cases q
  · cases q
/-! ### what is looked at behind the top -/
structure SaysA (fn : List He.DefD) (tf : List He.Defn) (ex ex2 : PySem.W.Frag → Bool) (h : Heap) (K : PySem.W.Frag) : Prop where
  vals : (fn.map fun d => He.fnW K d.at_) = fn.map He.DefD.val
  ok : ∀ d ∈ fn, d.ok K = true
  more : ex K = true
  more2 : ex2 K = true
  hd : ∀ p ∈ tf, PySem.W.codeHdIn K (He.cT K p).1 (He.cT K p).2 = true
  out : ∀ p ∈ tf, K.lookup (He.cT K p).2 = none
  empty : ∀ p ∈ tf, h.get? (He.cT K p).2 = some { cls := .none, data := .fields #[] }
abbrev AlA : Type := Bool × Bool × Bool × List He.FnW
def obsK (fn : List He.DefD) (tf : List He.Defn) (ex ex2 : PySem.W.Frag → Bool) (g : Addr → Option Obj) (K : PySem.W.Frag) : AlA := (ex K, ex2 K, (fn.all fun d => d.ok K) && He.tabsB g tf K, fn.map fun d => He.fnW K d.at_)
def valA (fn : List He.DefD) : AlA := (true, true, true, fn.map He.DefD.val)
def obsA (as : List Addr) (fn : List He.DefD) (tf : List He.Defn) (ex ex2 : PySem.W.Frag → Bool) (g : Addr → Option Obj) : AlA := obsK fn tf ex ex2 g (He.frT g as)
theorem saysA_of {as : List Addr} {fn : List He.DefD} {tf : List He.Defn} {ex ex2 : PySem.W.Frag → Bool} {h : Heap} (e : obsA as fn tf ex ex2 h.get? = valA fn) : SaysA fn tf ex ex2 h (He.frT h.get? as) := by
  obtain ⟨K, eK⟩ : ∃ K, K = He.frT h.get? as := ⟨_, rfl⟩
  have e0 : obsK fn tf ex ex2 h.get? K = valA fn := by rw [eK]; exact e
  have e1 : ((fn.all fun d => d.ok K) && He.tabsB h.get? tf K) = true := congrArg (fun z : AlA => z.2.2.1) e0
  have e2 : (fn.map fun d => He.fnW K d.at_) = fn.map He.DefD.val := congrArg (fun z : AlA => z.2.2.2) e0
  have t := and_r e1
  have key : ∀ p ∈ tf, PySem.W.codeHdIn K (He.cT K p).1 (He.cT K p).2 = true ∧ ∃ o, h.get? (He.cT K p).2 = some o ∧ He.emptyTab o = true := fun p hp => by
    have h1 := List.all_eq_true.mp t p hp
    have h3 := and_l h1
    have h4 := and_r h1
    refine ⟨h3, ?_⟩
    cases q : h.get? (He.cT K p).2 with
    | none =>
      rw [q] at h4
      cases h4
    | some o =>
      rw [q] at h4
      exact ⟨o, rfl, h4⟩
  rw [← eK]
  refine ⟨e2, fun d hd => List.all_eq_true.mp (and_l e1) d hd, congrArg (fun z : AlA => z.1) e0, congrArg (fun z : AlA => z.2.1) e0, fun p hp => (key p hp).1, fun p hp => ?_, fun p hp => ?_⟩
  · obtain ⟨_, o, q, z⟩ := key p hp
    have := He.frT_none (as := as) q z
    rw [← eK] at this
    exact this
  · obtain ⟨_, o, q, z⟩ := key p hp
    rw [q, He.emptyTab_eq z]
def hookA (as : List Addr) (fn : List He.DefD) (tf : List He.Defn) (ex ex2 : PySem.W.Frag → Bool) : PySem.W.Hook where
  α := AlA
  obs := fun s => obsA as fn tf ex ex2 s.heap.get?
  val := fun _ => valA fn
  says := fun _ h => ∃ K : PySem.W.Frag, K.In h ∧ SaysA fn tf ex ex2 h K
  of := fun _ _ e => ⟨_, He.frT_in, saysA_of e⟩
  keeps := fun _ _ _ ⟨K, hK, c⟩ k => ⟨K, PySem.W.Frag.In.keeps hK k, ⟨c.vals, c.ok, c.more, c.more2, c.hd, c.out, fun p hp => k _ _ (c.empty p hp)⟩⟩
theorem obsA_eq {as : List Addr} {fn : List He.DefD} {tf : List He.Defn} {ex ex2 : PySem.W.Frag → Bool} {g : Addr → Option Obj} {s : Shared} (h : ∀ a, g a = s.heap.get? a) : obsA as fn tf ex ex2 g = (hookA as fn tf ex ex2).obs s := by
  have e : g = s.heap.get? := funext h
  rw [e] <;> rfl
/-- one run, looked at piece by piece: a kernel run each, so that none holds too much -/
theorem run_all {S T a1 a2 a3 a4 a5 a6 : Type} {x : Option S} {f1 : S → a1} {f2 : S → a2} {f3 : S → a3} {f4 : S → a4} {f5 : S → a5} {f6 : S → a6} {v1 : a1} {v2 : a2} {v3 : a3} {v4 : a4} {v5 : a5} {v6 : a6} {F : S → T} {A : T} (u : (a1 × a2 × a3 × a4 × a5 × a6) → T)
    (h1 : x.map f1 = some v1) (h2 : x.map f2 = some v2) (h3 : x.map f3 = some v3) (h4 : x.map f4 = some v4) (h5 : x.map f5 = some v5) (h6 : x.map f6 = some v6) (hF : ∀ s, F s = u (f1 s, f2 s, f3 s, f4 s, f5 s, f6 s)) (hA : A = u (v1, v2, v3, v4, v5, v6)) : x.map F = some A := by
  cases x with
  | none => cases h1
  | some s =>
    have h1 : some (f1 s) = some v1 := h1
    have h2 : some (f2 s) = some v2 := h2
    have h3 : some (f3 s) = some v3 := h3
    have h4 : some (f4 s) = some v4 := h4
    have h5 : some (f5 s) = some v5 := h5
    have h6 : some (f6 s) = some v6 := h6
    show some (F s) = some A
    rw [hF, hA, Option.some.inj h1, Option.some.inj h2, Option.some.inj h3, Option.some.inj h4, Option.some.inj h5, Option.some.inj h6]
noncomputable abbrev endW (r : PySem.W.OpenRow) (M : Nat) (w : World) (os : OsState) : Option PySem.W.SharedT := HandSHeadRun.endF (HandSHeadRun.stepQ (HandSHeadRun.denQ HandSHeadRun.tabQ) r.prog w) M r.prog w os
noncomputable abbrev seenW (r : PySem.W.OpenRow) (q : Program) (loose : List PySem.Str) (s : PySem.W.SharedT) := HandSHeadRun.seenQ q loose (importedModules r.prog.main.body) (fun s => PySem.W.xlAt q [] s && PySem.W.recOk r.toRowW.records s) s.abs
section
variable {fn : List He.DefD} {tf : List He.Defn} {ex ex2 : PySem.W.Frag → Bool} {h : Heap} {K : PySem.W.Frag}
theorem SaysA.def_ (c : SaysA fn tf ex ex2 h K) (i : Nat) {d : He.DefD} (e : fn[i]? = some d) (dn : d.dfl = []) : ∃ (oc : Value) (od : Option Addr) (kV doc pm : Value) (an : Option Addr) (cdv ct : Value) (osl : Array (Option Value)),
    K.lookup (He.fAd K d.at_) = some ⟨oc, od, .func (PySem.W.fnOf d.name d.qual d.params d.body d.scope .none kV doc pm an cdv ct), osl⟩ ∧ PySem.W.codeIn K cdv d.qual = true ∧ PySem.W.keepIn K (.ref (He.fAd K d.at_)) = true := by
  have ev : He.fnW K d.at_ = d.val := by
    have z := congrArg (fun l => l[i]?) c.vals
    simp only [List.getElem?_map, e, Option.map_some] at z
    exact Option.some.inj z
  obtain ⟨fd, ⟨oc, od, dV, kV, doc, pm, an, cdv, ct, osl, rfl, lk, cd, dv, _⟩, kp⟩ := He.DefD.funD ev (c.ok d (List.mem_of_getElem? e))
  have dv' : DflV K dV [] := by
    have : d.dvs K = [] := by
      unfold He.DefD.dvs
      rw [dn]
      rfl
    rw [← this]
    exact dv
  have := dfl_nil dv'
  subst this
  exact ⟨oc, od, kV, doc, pm, an, cdv, ct, osl, lk, cd, kp⟩
end
end HX
namespace L2
open PySem PySem.Spec PyProof.Rows LamX
/-- the goal that the head leaves -/
theorem walkGE {l : PySem.W.OpenLaw} {n k : Nat} {q : Program} {loose : List Str} {XP : (Str → Option Value) → Heap → Prop} {YP : World → Heap → Prop} {d : DefRec} {x : Str}
    (hn : l.most = some n) (hn2 : n ≤ sizeLine) (hdf : d.params.defaults = []) (hr : Room k callerA) (him : importsNone q = true)
    (F : ∀ (w : World) (mg : Str → Option Value) (fa : Addr) (h : Heap), YP w h → h.Ns mainGlobals mg → mg d.name = some (.ref fa) →
      ∃ (K : PySem.W.Frag) (fd : FuncData) (cs : List (Addr × Addr)) (sp : Sp), K.In h ∧ (∀ p ∈ cs, h.get? p.2 = some { cls := .none, data := .fields #[] } ∧ K.lookup p.2 = none ∧ PySem.W.CodeHd h p.1 p.2) ∧ (∀ (s : Shared) (u : Value), BindsTo s fd ⟨[u], []⟩ [(x, u)]) ∧
        (∀ (H : Hp) (a : Addr) (ns : List Int), ns.length ≤ n → (∀ p ∈ cs, H p.2 = some (.tbl #[])) → SqL K H a (ns.map V.int) → sp [.ref a] H (fun v _ => v = .bl true) fun _ _ _ => False) ∧
        ∀ base : Heap, K.In base → base.Ns mainGlobals mg → (∃ mm, base.Ns sysModules mm) → (∀ p ∈ cs, TabB base mg p.1 p.2) → FnG l.prog w K mg base CX0 k fa fd [x] sp) :
    PySem.W.WalkO q loose XP YP l.row.toRowW d [] (fun f vs => PySem.call f vs) := by
  refine Att.attach_call hn hdf fun w s₀ s₁ mg mb fa o pm cd doc a vs ns G Y ho hd hcd hmg hobj hints hlen hg => ?_
  obtain ⟨K, fd, cs, sp, KX, C, hb, hsp, hF⟩ := F w mg fa _ Y G.T.g hmg
  obtain ⟨mm, hm, _⟩ := (G.T.seer him).mods
  exact callG (cs := cs) ⟨KX, G.T.g, G.T.b, G.T.builtins, G.T.nolimit, ⟨mm, hm⟩, hg, fun p hp => (C p hp).1, fun p hp => (C p hp).2.1, fun p hp => (C p hp).2.2, G.T.bmain⟩ hobj hints (Nat.le_trans hlen hn2) hr hF hb fun H hT hS => hsp H a ns hlen hT hS
end L2

namespace Gm
open PySem PySem.Spec PyProof.Rows L2 LamX
set_option maxHeartbeats 0
def top (i : Nat) : Stmt := PySem.Challenge.pw_guessmarks_k05_marks_refused.main.body.getD i (.Pass ⟨0, 0, 0, 0⟩)
abbrev sBowl : Stmt := top 39
abbrev sDip : Stmt := top 40

abbrev sOf : Stmt := top 41
abbrev sGot : Stmt := top 42
abbrev sRight : Stmt := top 43
abbrev sLaw : Stmt := top 44
abbrev sWithin : Stmt := top 13
abbrev sAlpha : Stmt := top 22
abbrev sCount : Stmt := top 23

abbrev sOver : Stmt := top 14
abbrev sIsW : Stmt := top 15
abbrev sAreM : Stmt := top 16
abbrev sChkW : Stmt := top 17
abbrev sChkM : Stmt := top 18
abbrev sChkB : Stmt := top 24
abbrev sMarks : Stmt := top 35
abbrev sComeX : Stmt := top 37
abbrev sInit : Stmt := inClass (top 21) 0
abbrev sRepr : Stmt := inClass (top 21) 5
abbrev sEMk : Stmt := inClass (top 7) 0
abbrev sEWd : Stmt := inClass (top 6) 0
abbrev sENb : Stmt := inClass (top 3) 0
def lowTxt : Str := "abcdefghijklmnopqrstuvwxyz"

def A_CB (K : PySem.W.Frag) : Addr := He.ga K "Board"
def A_CIn (K : PySem.W.Frag) : Addr := He.ga K "InputError"
def A_CMk (K : PySem.W.Frag) : Addr := He.ga K "InvalidMarks"
def A_CWd (K : PySem.W.Frag) : Addr := He.ga K "InvalidWord"
def A_CNb (K : PySem.W.Frag) : Addr := He.ga K "NotABoard"
def A_fB (K : PySem.W.Frag) : Addr := He.fAd K ("_law_bowl", none)
def A_fD (K : PySem.W.Frag) : Addr := He.fAd K ("_law_dip", none)
def A_fOf (K : PySem.W.Frag) : Addr := He.fAd K ("_law_of", none)
def A_fGt (K : PySem.W.Frag) : Addr := He.fAd K ("_law_got", none)
def A_fR (K : PySem.W.Frag) : Addr := He.fAd K ("_law_right", none)
def A_fL (K : PySem.W.Frag) : Addr := He.fAd K ("law", none)
def A_fW (K : PySem.W.Frag) : Addr := He.fAd K ("is_integer_within", none)
def A_fA (K : PySem.W.Frag) : Addr := He.fAd K ("is_alphabet", none)
def A_fCn (K : PySem.W.Frag) : Addr := He.fAd K ("count_words", none)
def A_fOv (K : PySem.W.Frag) : Addr := He.fAd K ("is_text_over", none)
def A_fIw (K : PySem.W.Frag) : Addr := He.fAd K ("is_word", none)
def A_fAm (K : PySem.W.Frag) : Addr := He.fAd K ("are_marks", none)
def A_fCw (K : PySem.W.Frag) : Addr := He.fAd K ("check_word", none)
def A_fCm (K : PySem.W.Frag) : Addr := He.fAd K ("check_marks", none)
def A_fCb (K : PySem.W.Frag) : Addr := He.fAd K ("check_board", none)
def A_fMa (K : PySem.W.Frag) : Addr := He.fAd K ("marks", none)
def A_fCo (K : PySem.W.Frag) : Addr := He.fAd K ("can_come", none)
def A_fI (K : PySem.W.Frag) : Addr := He.fAd K ("Board", some "__init__")
def A_fRp (K : PySem.W.Frag) : Addr := He.fAd K ("Board", some "__repr__")
def A_fIMk (K : PySem.W.Frag) : Addr := He.fAd K ("InvalidMarks", some "__init__")
def A_fIWd (K : PySem.W.Frag) : Addr := He.fAd K ("InvalidWord", some "__init__")
def A_fINb (K : PySem.W.Frag) : Addr := He.fAd K ("NotABoard", some "__init__")
def dHB : He.DefD := ⟨("_law_bowl", none), "_law_bowl", "_law_bowl", defArgs sBowl, defBody sBowl, defScope sBowl, [], []⟩
def dHD : He.DefD := ⟨("_law_dip", none), "_law_dip", "_law_dip", defArgs sDip, defBody sDip, defScope sDip, [], []⟩
def dHOf : He.DefD := ⟨("_law_of", none), "_law_of", "_law_of", defArgs sOf, defBody sOf, defScope sOf, [], []⟩
def dHGt : He.DefD := ⟨("_law_got", none), "_law_got", "_law_got", defArgs sGot, defBody sGot, defScope sGot, [], []⟩
def dHR : He.DefD := ⟨("_law_right", none), "_law_right", "_law_right", defArgs sRight, defBody sRight, defScope sRight, [], []⟩
def dHL : He.DefD := ⟨("law", none), "law", "law", defArgs sLaw, defBody sLaw, defScope sLaw, [], []⟩
def dHW : He.DefD := ⟨("is_integer_within", none), "is_integer_within", "is_integer_within", defArgs sWithin, defBody sWithin, defScope sWithin, [], []⟩
def dHA : He.DefD := ⟨("is_alphabet", none), "is_alphabet", "is_alphabet", defArgs sAlpha, defBody sAlpha, defScope sAlpha, [], []⟩
def dHCn : He.DefD := ⟨("count_words", none), "count_words", "count_words", defArgs sCount, defBody sCount, defScope sCount, [], []⟩
def dHOv : He.DefD := ⟨("is_text_over", none), "is_text_over", "is_text_over", defArgs sOver, defBody sOver, defScope sOver, [], []⟩
def dHIw : He.DefD := ⟨("is_word", none), "is_word", "is_word", defArgs sIsW, defBody sIsW, defScope sIsW, [], []⟩
def dHAm : He.DefD := ⟨("are_marks", none), "are_marks", "are_marks", defArgs sAreM, defBody sAreM, defScope sAreM, [], []⟩
def dHCw : He.DefD := ⟨("check_word", none), "check_word", "check_word", defArgs sChkW, defBody sChkW, defScope sChkW, [], []⟩
def dHCm : He.DefD := ⟨("check_marks", none), "check_marks", "check_marks", defArgs sChkM, defBody sChkM, defScope sChkM, [], []⟩
def dHCb : He.DefD := ⟨("check_board", none), "check_board", "check_board", defArgs sChkB, defBody sChkB, defScope sChkB, [], []⟩
def dHMa : He.DefD := ⟨("marks", none), "marks", "marks", defArgs sMarks, defBody sMarks, defScope sMarks, [], []⟩
def dHCo : He.DefD := ⟨("can_come", none), "can_come", "can_come", defArgs sComeX, defBody sComeX, defScope sComeX, [], []⟩
def dHI : He.DefD := ⟨("Board", some "__init__"), "__init__", "Board.__init__", defArgs sInit, defBody sInit, defScope sInit, [], []⟩
def dHRp : He.DefD := ⟨("Board", some "__repr__"), "__repr__", "Board.__repr__", defArgs sRepr, defBody sRepr, defScope sRepr, [], []⟩
def dHIMk : He.DefD := ⟨("InvalidMarks", some "__init__"), "__init__", "InvalidMarks.__init__", defArgs sEMk, defBody sEMk, defScope sEMk, [], []⟩
def dHIWd : He.DefD := ⟨("InvalidWord", some "__init__"), "__init__", "InvalidWord.__init__", defArgs sEWd, defBody sEWd, defScope sEWd, [], []⟩
def dHINb : He.DefD := ⟨("NotABoard", some "__init__"), "__init__", "NotABoard.__init__", defArgs sENb, defBody sENb, defScope sENb, [], []⟩
def fnH0 : List He.DefD := [dHB, dHD, dHOf, dHGt, dHR, dHL, dHW, dHA, dHCn, dHOv, dHIw, dHAm, dHCw, dHCm, dHCb, dHMa, dHCo, dHI, dHRp, dHIMk]
def fnH1 : List He.DefD := [dHIWd, dHINb]
def fnHa : List He.DefD := fnH0
def fnHb : List He.DefD := fnH1
def fnH : List He.DefD := fnHa ++ fnHb
theorem comb2 {α : Type} {x : Option α} {f g h : α → Bool} (a : x.map f = some true) (b : x.map g = some true) (e : ∀ s, h s = (f s && g s)) : x.map h = some true := by
  cases x with
  | none => cases a
  | some s =>
    have a' : f s = true := Option.some.inj a
    have b' : g s = true := Option.some.inj b
    show some (h s) = some true
    rw [e, a', b']
    rfl
theorem comb3 {α β : Type} {x : Option α} {f g h : α → List β} {u v w : List β} (a : x.map f = some u) (b : x.map g = some v) (e : ∀ s, h s = f s ++ g s) (k : w = u ++ v) : x.map h = some w := by
  cases x with
  | none => cases a
  | some s =>
    have a' : f s = u := Option.some.inj a
    have b' : g s = v := Option.some.inj b
    show some (h s) = some w
    rw [e, a', b', k]
def tfH : List He.Defn := [("_law_right", none)]
def exH0 (K : PySem.W.Frag) : List Bool := [decide (PySem.W.nsIn K mainGlobals "Board" = some (some (.ref (A_CB K)))), decide (PySem.W.nsIn K mainGlobals "InputError" = some (some (.ref (A_CIn K)))), decide (PySem.W.nsIn K mainGlobals "InvalidMarks" = some (some (.ref (A_CMk K)))), decide (PySem.W.nsIn K mainGlobals "InvalidWord" = some (some (.ref (A_CWd K)))), decide (PySem.W.nsIn K mainGlobals "NotABoard" = some (some (.ref (A_CNb K)))), decide (PySem.W.nsIn K mainGlobals "_law_bowl" = some (some (.ref (A_fB K)))), decide (PySem.W.nsIn K mainGlobals "_law_dip" = some (some (.ref (A_fD K)))), decide (PySem.W.nsIn K mainGlobals "_law_of" = some (some (.ref (A_fOf K)))), decide (PySem.W.nsIn K mainGlobals "_law_got" = some (some (.ref (A_fGt K)))), decide (PySem.W.nsIn K mainGlobals "_law_right" = some (some (.ref (A_fR K)))), decide (PySem.W.nsIn K mainGlobals "law" = some (some (.ref (A_fL K)))), decide (PySem.W.nsIn K mainGlobals "is_integer_within" = some (some (.ref (A_fW K)))), decide (PySem.W.nsIn K mainGlobals "is_alphabet" = some (some (.ref (A_fA K)))), decide (PySem.W.nsIn K mainGlobals "count_words" = some (some (.ref (A_fCn K)))), decide (PySem.W.nsIn K mainGlobals "is_text_over" = some (some (.ref (A_fOv K)))), decide (PySem.W.nsIn K mainGlobals "is_word" = some (some (.ref (A_fIw K)))), decide (PySem.W.nsIn K mainGlobals "are_marks" = some (some (.ref (A_fAm K)))), decide (PySem.W.nsIn K mainGlobals "check_word" = some (some (.ref (A_fCw K)))), decide (PySem.W.nsIn K mainGlobals "check_marks" = some (some (.ref (A_fCm K)))), decide (PySem.W.nsIn K mainGlobals "check_board" = some (some (.ref (A_fCb K)))), decide (PySem.W.nsIn K mainGlobals "marks" = some (some (.ref (A_fMa K)))), decide (PySem.W.nsIn K mainGlobals "can_come" = some (some (.ref (A_fCo K)))), decide (PySem.W.findIn K (.ref (A_CB K)) "__init__" = some (some (.ref (A_fI K)))), decide (PySem.W.isFn K (.ref (A_fI K)) = true), decide (PySem.W.findIn K (.ref (A_CB K)) "__repr__" = some (some (.ref (A_fRp K))))]
def exH1 (K : PySem.W.Frag) : List Bool := [decide (PySem.W.isFn K (.ref (A_fRp K)) = true), decide (PySem.W.findIn K (.ref (A_CMk K)) "__init__" = some (some (.ref (A_fIMk K)))), decide (PySem.W.isFn K (.ref (A_fIMk K)) = true), decide (PySem.W.findIn K (.ref (A_CWd K)) "__init__" = some (some (.ref (A_fIWd K)))), decide (PySem.W.isFn K (.ref (A_fIWd K)) = true), decide (PySem.W.findIn K (.ref (A_CNb K)) "__init__" = some (some (.ref (A_fINb K)))), decide (PySem.W.isFn K (.ref (A_fINb K)) = true), decide (PySem.W.specialIn K (.builtin "object.__class__") "__get__" = some (some (.builtin "getset_descriptor.__get__"))), decide (PySem.W.takesIn K (.builtin "object.__class__") = some true), decide (PySem.W.isClsIn K (A_CIn K) = true), decide (PySem.W.typeIn K (.ref (A_CIn K)) = some (.type "type")), HX.excB K (A_CMk K) [.ref (A_CIn K), .type "ValueError", .type "Exception", .type "BaseException", .type "object"] "ValueError.__new__", decide (PySem.W.findIn K (.ref (A_CMk K)) "__setattr__" = some (some (.builtin "object.__setattr__"))), decide (PySem.W.subIn K (.ref (A_CMk K)) (.type "BaseException") = some true), decide (PySem.W.typeIn K (.ref (A_CMk K)) = some (.type "type")), decide (PySem.W.keepIn K (.ref (A_CMk K)) = true), decide (PySem.W.findIn K (.ref (A_CMk K)) "value" = some none), decide (PySem.W.typeIn K (.ref (A_fIMk K)) = some (.type "function")), decide (PySem.W.findIn K (.ref (A_CMk K)) "__getattribute__" = some (some (.builtin "BaseException.__getattribute__"))), decide (PySem.W.findIn K (.ref (A_CMk K)) "__getattr__" = some none), decide (PySem.W.hasDictIn K (A_CMk K) = true), decide (PySem.W.findIn K (.ref (A_CMk K)) "__class__" = some (some (.builtin "object.__class__"))), decide (PySem.W.mroIn K (A_CMk K) (.type "object") = some true), decide (PySem.W.subIn K (.ref (A_CMk K)) (.ref (A_CMk K)) = some true), decide (PySem.W.subIn K (.ref (A_CMk K)) (.ref (A_CIn K)) = some true)]
def exH2 (K : PySem.W.Frag) : List Bool := [decide (PySem.W.subIn K (.ref (A_CMk K)) (.type "ValueError") = some true), HX.excB K (A_CWd K) [.ref (A_CIn K), .type "ValueError", .type "Exception", .type "BaseException", .type "object"] "ValueError.__new__", decide (PySem.W.findIn K (.ref (A_CWd K)) "__setattr__" = some (some (.builtin "object.__setattr__"))), decide (PySem.W.subIn K (.ref (A_CWd K)) (.type "BaseException") = some true), decide (PySem.W.typeIn K (.ref (A_CWd K)) = some (.type "type")), decide (PySem.W.keepIn K (.ref (A_CWd K)) = true), decide (PySem.W.findIn K (.ref (A_CWd K)) "value" = some none), decide (PySem.W.typeIn K (.ref (A_fIWd K)) = some (.type "function")), decide (PySem.W.findIn K (.ref (A_CWd K)) "__getattribute__" = some (some (.builtin "BaseException.__getattribute__"))), decide (PySem.W.findIn K (.ref (A_CWd K)) "__getattr__" = some none), decide (PySem.W.hasDictIn K (A_CWd K) = true), decide (PySem.W.findIn K (.ref (A_CWd K)) "__class__" = some (some (.builtin "object.__class__"))), decide (PySem.W.mroIn K (A_CWd K) (.type "object") = some true), decide (PySem.W.subIn K (.ref (A_CWd K)) (.ref (A_CWd K)) = some true), decide (PySem.W.subIn K (.ref (A_CWd K)) (.ref (A_CIn K)) = some true), decide (PySem.W.subIn K (.ref (A_CWd K)) (.type "ValueError") = some true), HX.excB K (A_CNb K) [.ref (A_CIn K), .type "ValueError", .type "Exception", .type "BaseException", .type "object"] "ValueError.__new__", decide (PySem.W.findIn K (.ref (A_CNb K)) "__setattr__" = some (some (.builtin "object.__setattr__"))), decide (PySem.W.subIn K (.ref (A_CNb K)) (.type "BaseException") = some true), decide (PySem.W.typeIn K (.ref (A_CNb K)) = some (.type "type")), decide (PySem.W.keepIn K (.ref (A_CNb K)) = true), decide (PySem.W.findIn K (.ref (A_CNb K)) "value" = some none), decide (PySem.W.typeIn K (.ref (A_fINb K)) = some (.type "function")), decide (PySem.W.findIn K (.ref (A_CNb K)) "__getattribute__" = some (some (.builtin "BaseException.__getattribute__"))), decide (PySem.W.findIn K (.ref (A_CNb K)) "__getattr__" = some none)]
def exH3 (K : PySem.W.Frag) : List Bool := [decide (PySem.W.hasDictIn K (A_CNb K) = true), decide (PySem.W.findIn K (.ref (A_CNb K)) "__class__" = some (some (.builtin "object.__class__"))), decide (PySem.W.mroIn K (A_CNb K) (.type "object") = some true), decide (PySem.W.subIn K (.ref (A_CNb K)) (.ref (A_CNb K)) = some true), decide (PySem.W.subIn K (.ref (A_CNb K)) (.ref (A_CIn K)) = some true), decide (PySem.W.subIn K (.ref (A_CNb K)) (.type "ValueError") = some true), decide (PySem.W.subIn K (.ref (A_CWd K)) (.ref (A_CMk K)) = some false), decide (PySem.W.subIn K (.ref (A_CNb K)) (.ref (A_CMk K)) = some false), decide (PySem.W.subIn K (.ref (A_CNb K)) (.ref (A_CWd K)) = some false), HX.intB K "MOST_LENGTH" 6, HX.intB K "MOST_LETTERS" 26, HX.strB K "LOWERCASE" lowTxt, HX.strB K "MARKS" (Str.ofString "012"), decide (PySem.W.nsIn K mainGlobals "len" = some none), decide (PySem.W.nsIn K mainGlobals "int" = some none), decide (PySem.W.nsIn K mainGlobals "abs" = some none), decide (PySem.W.nsIn K mainGlobals "divmod" = some none), decide (PySem.W.nsIn K mainGlobals "isinstance" = some none), decide (PySem.W.nsIn K mainGlobals "bool" = some none), decide (PySem.W.nsIn K mainGlobals "str" = some none), decide (PySem.W.nsIn K mainGlobals "range" = some none), decide (PySem.W.nsIn K mainGlobals "repr" = some none), decide (PySem.W.nsIn K mainGlobals "all" = some none), decide (PySem.W.nsIn K mainGlobals "max" = some none), decide (PySem.W.nsIn K mainGlobals "min" = some none)]
def exH4 (K : PySem.W.Frag) : List Bool := [decide (PySem.W.nsIn K mainGlobals "tuple" = some none), decide (PySem.W.nsIn K mainGlobals "ValueError" = some none), decide (PySem.W.plainGet K (A_CB K) Str.empty = true), decide (PySem.W.hasDictIn K (A_CB K) = true), decide (PySem.W.plainOver K (A_CB K) = true), decide (PySem.W.findIn K (.ref (A_CB K)) "__setattr__" = some (some (.builtin "object.__setattr__"))), decide (PySem.W.makesIn K (A_CB K) = true), decide (PySem.W.keepIn K (.ref (A_CB K)) = true), decide (PySem.W.findIn K (.ref (A_CB K)) "letters" = some none), decide (PySem.W.findIn K (.ref (A_CB K)) "length" = some none), decide (PySem.W.findIn K (.ref (A_CB K)) "size" = some none), decide (PySem.W.findIn K (.ref (A_CB K)) "__class__" = some (some (.builtin "object.__class__"))), decide (PySem.W.mroIn K (A_CB K) (.type "object") = some true), decide (PySem.W.kitOne K (.ref (A_CB K)) (.ref (A_CB K)) = some true), decide (PySem.W.kitOne K (.ref (A_CB K)) (.type "str") = some false), decide (PySem.W.kitOne K (.type "NoneType") (.ref (A_CB K)) = some false), decide (PySem.W.kitOne K (.type "bool") (.ref (A_CB K)) = some false), decide (PySem.W.kitOne K (.type "int") (.ref (A_CB K)) = some false), decide (PySem.W.kitOne K (.type "str") (.ref (A_CB K)) = some false), decide (PySem.W.kitOne K (.type "tuple") (.ref (A_CB K)) = some false), decide (PySem.W.kitOne K (.type "list") (.ref (A_CB K)) = some false), decide (PySem.W.kitOne K (.type "dict") (.ref (A_CB K)) = some false)]
def exH (K : PySem.W.Frag) : Bool := HX.allT (exH0 K) && HX.allT (exH1 K) && HX.allT (exH2 K)
def exI (K : PySem.W.Frag) : Bool := HX.allT (exH3 K) && HX.allT (exH4 K)
def namesH0 : List PySem.Str := ["_wall", "__name__", "InputError", "NotABoard", "InvalidLetters", "InvalidLength", "InvalidWord", "InvalidMarks", "InvalidNumber", "MOST_LENGTH", "MOST_LETTERS", "MARKS", "is_integer_within", "is_text_over", "is_word", "are_marks", "check_word", "check_marks", "LOWERCASE", "Board", "is_alphabet", "count_words", "check_board", "Bounds", "marks_given", "is_in_order", "Words", "counted_letters", "common_letters", "has_word"]
def namesH1 : List PySem.Str := ["marks", "marks_of", "can_come", "_law_bowl", "_law_dip", "_law_of", "_law_got", "_law_right"]
def namesH : List PySem.Str := namesH0 ++ namesH1
abbrev RH : PySem.W.OpenRow := PySem.W.OpenLaw.row PySem.Challenge.rw_guessmarks_k05_marks_refused
def asH : List Addr := mainGlobals :: List.range 1100
abbrev hkH : PySem.W.Hook := HX.hookA asH fnH tfH exH exI
def obH (s : PySem.W.SharedT) : HX.AlA := HX.obsA asH fnH tfH exH exI (HandSHeadRun.getT s)
theorem obH_eq (s : PySem.W.SharedT) : obH s = hkH.obs s.abs := HX.obsA_eq (HandSHeadRun.getT_eq s)
noncomputable abbrev endH (w : World) (os : OsState) := HX.endW RH 12000 w os
abbrev viewH : Program := PySem.W.view RH.prog [44]
abbrev KH (s : PySem.W.SharedT) : PySem.W.Frag := He.frT (HandSHeadRun.getT s) asH
theorem run1 (w : World) (os : OsState) : (endH w os).map (fun s => HandSHeadRun.looksF RH.prog (PySem.W.boot_heap w.params) s.abs) = some true := by kernel_rfl
theorem run2 (w : World) (os : OsState) : (endH w os).map (fun s => HX.seenW RH viewH namesH s) = some (PySem.W.openGood viewH namesH) := by kernel_rfl
theorem run3 (w : World) (os : OsState) : (endH w os).map (fun s => exH (KH s)) = some true := by kernel_rfl
theorem run4 (w : World) (os : OsState) : (endH w os).map (fun s => exI (KH s)) = some true := by kernel_rfl
theorem run5a (w : World) (os : OsState) : (endH w os).map (fun s => fnHa.all fun d => d.ok (KH s)) = some true := by kernel_rfl
theorem run5b (w : World) (os : OsState) : (endH w os).map (fun s => (fnHb.all fun d => d.ok (KH s)) && He.tabsB (HandSHeadRun.getT s) tfH (KH s)) = some true := by kernel_rfl
theorem e5H (s : PySem.W.SharedT) : ((fnH.all fun d => d.ok (KH s)) && He.tabsB (HandSHeadRun.getT s) tfH (KH s)) = ((fnHa.all fun d => d.ok (KH s)) && ((fnHb.all fun d => d.ok (KH s)) && He.tabsB (HandSHeadRun.getT s) tfH (KH s))) := by
  generalize KH s = k
  generalize He.tabsB (HandSHeadRun.getT s) tfH k = t
  unfold fnH
  rw [List.all_append, Bool.and_assoc]
theorem e6H (s : PySem.W.SharedT) : (fnH.map fun d => He.fnW (KH s) d.at_) = (fnHa.map fun d => He.fnW (KH s) d.at_) ++ (fnHb.map fun d => He.fnW (KH s) d.at_) := by
  generalize KH s = k
  unfold fnH
  rw [List.map_append]
theorem run5 (w : World) (os : OsState) : (endH w os).map (fun s => (fnH.all fun d => d.ok (KH s)) && He.tabsB (HandSHeadRun.getT s) tfH (KH s)) = some true := by
  have a := run5a w os
  have b := run5b w os
  generalize endH w os = x at a b ⊢
  refine comb2 a b ?_
  intro s
  exact e5H s
theorem run6a (w : World) (os : OsState) : (endH w os).map (fun s => fnHa.map fun d => He.fnW (KH s) d.at_) = some (fnHa.map He.DefD.val) := by kernel_rfl
theorem run6b (w : World) (os : OsState) : (endH w os).map (fun s => fnHb.map fun d => He.fnW (KH s) d.at_) = some (fnHb.map He.DefD.val) := by kernel_rfl
theorem run6 (w : World) (os : OsState) : (endH w os).map (fun s => fnH.map fun d => He.fnW (KH s) d.at_) = some (fnH.map He.DefD.val) := by
  have a := run6a w os
  have b := run6b w os
  generalize endH w os = x at a b ⊢
  refine comb3 a b ?_ ?_
  · intro s
    exact e6H s
  · unfold fnH
    rw [List.map_append]
theorem runH (w : World) : HandSHeadRun.RunEq RH (PySem.W.view RH.prog [44]) hkH obH 12000 namesH w := by
  unfold HandSHeadRun.RunEq
  intro os
  exact HX.run_all (x := endH w os) (fun t => (t.1, t.2.1, t.2.2.1, t.2.2.2.1, t.2.2.2.2.1, t.2.2.2.2.2)) (run1 w os) (run2 w os) (run3 w os) (run4 w os) (run5 w os) (run6 w os) (fun _ => rfl) rfl
end Gm
set_option maxHeartbeats 8000000
namespace PySem.W
open PySem PySem.Spec PySem.Calls PyProof.Rows Builtin
section
variable {prog : Program} {w : World} {M : Model} {A : Around} {E : Value → Shared → Prop} {s : Shared} {K : Frag} {x C f L : Addr} {ox : Obj} {od : Option Obj} {h₀ : Heap} {m : Str → Option Value} {b tb : Value}
theorem gm_ifBound {name : Str} {id : String} {args : List Value} {Q : Option Value → Shared → Prop} (X : K.In s.heap) (I : InstAt s.heap x ox C od) (hs : findIn K (.ref C) name = some (some (.builtin id)))
    (hb : ∀ self, bindSpecial (.builtin id) self = pure (.builtin id, [self])) (h : wpAny M A (call (.builtin id) (.ref x :: args)) (fun v => Q (some v)) E s) : wpAny M A (callSpecialIfBound? (.ref x) name args) Q E s := by
  simp only [callSpecialIfBound?, bindSpecialIfBound?]
  refine wpAny_holding <| wpAny_bind <| wpAny_bind <| wpAny_bind <| I.type.here <| (looks_findIn X hs).here ?_
  refine wpAny_bind <| wpAny_askSetting <| wpAny_ite ?_
  have z : wpAny M A (call (.builtin id) ([.ref x] ++ args) >>= fun v => pure (some v)) Q E s := wpAny_bind <| wpAny_mono h (fun v s' h' => wpAny_pure h') fun _ _ h' => h'
  split
  · exact wpAny_bind <| (Looks.of_pure (hb _)).here <| wpAny_pure z
  · exact wpAny_tryCatch <| wpAny_bind <| (Looks.of_pure (hb _)).here <| wpAny_pure z
def NeBack (Q : Value → Shared → Prop) (v : Value) (s' : Shared) : Prop := ∃ r, v = .bool r ∧ Q (.bool (!r)) s'
theorem gm_objNe {Q : Value → Shared → Prop} (hu : A.in1.units < cLine) (X : K.In s.heap) (I : InstAt s.heap x ox C od) (hm : mroIn K C (.type "object") = some true) (hs : findIn K (.ref C) "__eq__" = some (some (.ref f))) (hf : isFn K (.ref f) = true)
    (h : wpAny (model prog w) A.in1 (call (.ref f) [.ref x, b]) (NeBack Q) E s) : wpAny (model prog w) A (call (.builtin "object.__ne__") [.ref x, b]) Q E s := by
  refine wpAny_call <| codeAny_call_builtin PySem.F.cmp_object.ne.plain PySem.F.cmpEntry_ne <| check_slot (owner := "object") (n := "__ne__") PySem.F.cmpKind_ne PySem.F.cmpSplit_ne (I.type.andThen (looks_mroIn X hm)) (PySem.F.cmpArgs_ne _ _) ?_
  unfold Builtin.«object.__ne__»
  refine wpAny_bind (m := slotArgs "__ne__" 1 _) <| wpAny_pure ?_
  refine wpAny_bind (m := cRoomFor _ _) <| wpAny_cRoomFor hu ?_
  refine wpAny_bind (m := callSpecialIfBound? (.ref x) (Str.ofString "__eq__") _) <| ifBound_K X I hs hf <| wpAny_mono h (fun r s' hq => ?_) fun _ _ y => y
  obtain ⟨r, rfl, hq⟩ := hq
  refine wpAny_bind <| wpAny_truthy_bool ?_
  exact wpAny_pure hq
theorem gm_ne {Q : Value → Shared → Prop} (hu : A.units < cLine) (hu1 : A.in1.units < cLine) (X : K.In s.heap) (I : InstAt s.heap x ox C od) (hb : Looks (model prog w) s.heap (typeOf b) tb) (hn : notFirst K C tb = true)
    (hN : findIn K (.ref C) "__ne__" = some (some (.builtin "object.__ne__"))) (hm : mroIn K C (.type "object") = some true)
    (hs : findIn K (.ref C) "__eq__" = some (some (.ref f))) (hf : isFn K (.ref f) = true)
    (h : wpAny (model prog w) A.in1 (call (.ref f) [.ref x, b]) (NeBack Q) E s) : wpAny (model prog w) A (richCompare .NotEq (.ref x) b) Q E s := by
  have one : wpAny (model prog w) A (tryCompare (.ref x) (cmpInfo .NotEq).2.1 b) (fun r s' => ∃ v, r = some v ∧ Q v s') E s := by
    unfold tryCompare
    refine wpAny_bind <| gm_ifBound X I hN PySem.F.cmp_object.ne.bind ?_
    refine wpAny_mono (gm_objNe (Q := fun v s' => (∃ r, v = .bool r) ∧ Q v s') hu1 X I hm hs hf (wpAny_mono h (fun v s' hv => ?_) fun _ _ e => e)) (fun v s' hv => ?_) fun _ _ e => e
    · obtain ⟨r, e, hv⟩ := hv
      exact ⟨r, e, ⟨_, rfl⟩, hv⟩
    · obtain ⟨⟨r, rfl⟩, hv⟩ := hv
      exact wpAny_pure ⟨_, rfl, hv⟩
  unfold richCompare
  simp only [oneThing_ref]
  refine wpAny_holding <| wpAny_bind <| wpAny_cRoomFor hu ?_
  refine wpAny_bind <| I.type.here <| wpAny_bind <| hb.here ?_
  split
  · rename_i q
    have e : subIn K tb (.ref C) = some false := by
      rcases Bool.or_eq_true_iff.mp hn with e | e
      · rw [beq_iff_eq.mp e] at q
        simp at q
      · exact beq_iff_eq.mp e
    refine wpAny_bind <| (looks_subIn X e).here ?_
    simp only [Bool.false_eq_true, if_false]
    refine wpAny_bind <| wpAny_mono one (fun r s' z => ?_) fun _ _ e => e
    obtain ⟨v, rfl, hq⟩ := z
    exact wpAny_pure hq
  · refine wpAny_bind (wpAny_pure ?_)
    simp only [Bool.false_eq_true, if_false]
    refine wpAny_bind <| wpAny_mono one (fun r s' z => ?_) fun _ _ e => e
    obtain ⟨v, rfl, hq⟩ := z
    exact wpAny_pure hq
end
end PySem.W

namespace L2
open PySem PySem.Spec PyProof.Rows
section
variable {X : Cx} {n : Nat} {pins : List (Addr × Obj)} {σ : St} {H : Hp} {s : Shared}
theorem gm_call {A : Around} {CX : CXT} {f : Addr} {fd : FuncData} {ps : List Str} {sp : Sp} {E : XK} {vs : List V} {us : List Value} {Q : VK} (sb : Sub X n A) (I : Inv X pins σ H s) (F : FnOk X.prog X.w X.K X.mg X.base CX n f fd ps sp)
    (hb : Binds X.K fd ps []) (hx : Passes CX X E) (r2 : Vals vs us) (hsp : sp vs H Q E) : wpAny (model X.prog X.w) A (call (.ref f) us) (EP X pins σ Q) X.xe s := by
  have e0 : Env0 X.prog X.w X.K X.mg X.base A X.stack s H := by
    have e := I.env0
    exact ⟨by rw [sb.fr]; exact e.frames, e.mod, e.bs, e.bsz, e.funs, e.frf, e.hok, e.bare⟩
  have hl := F.len _ _ _ _ hsp
  have hl2 : us.length = ps.length := by rw [← r2.length]; exact hl
  refine wpAny_call <| codeAny_mono (F.run A X.stack s H ⟨us, []⟩ us vs Q E sb.room e0 (by
    have := hb s us I.kIn (by simpa using hl2)
    simpa using this) r2 hsp) fun r s' hq => ?_
  cases r with
  | error e => exact hx pins σ H s e s' I hq
  | ok fl =>
    cases fl with
    | ret w => exact I.after hq
    | next => exact hq.elim
    | brk => exact hq.elim
    | cont => exact hq.elim
/-- x == y, x != y by the class's own == -/
def rOwn (K : PySem.W.Frag) (C : Addr) (sp : Sp) (E : XK) (g : Bool → Bool) : R2 := fun x y H Q => ∃ a dx fs t, x = .ref a ∧ H a = some (.ins C dx fs) ∧ TyX K H y t ∧ PySem.W.notFirst K C t = true ∧ sp [.ref a, y] H (fun v H' => ∃ r, v = .bl r ∧ Q (.bl (g r)) H') E
theorem op_eqOwn {CX : CXT} {C f : Addr} {fd : FuncData} {ps : List Str} {sp : Sp} {E : XK} (hr : Room n X.A) (F : FnOk X.prog X.w X.K X.mg X.base CX n f fd ps sp) (hs : PySem.W.findIn X.K (.ref C) "__eq__" = some (some (.ref f))) (hf : PySem.W.isFn X.K (.ref f) = true)
    (hb : Binds X.K fd ps []) (hx : Passes CX X E) : OpR X (compareOp .Eq) (rOwn X.K C sp E id) := by
  intro pins s σ H x y u v Q I rx ry d
  obtain ⟨a, dx, fs, t, rfl, ha, ty, hn, hsp⟩ := d
  cases rx
  obtain ⟨mA, J, _⟩ := ins_get I.hok ha
  obtain ⟨od, J, _⟩ := J.look
  obtain ⟨m, hF⟩ := I.fr
  obtain ⟨Pv, Z, pv, _⟩ := kit_of I ry ty
  refine PySem.W.cmp_K (op := .Eq) hr.units0 hF I.ok.mod.kin J (Z.ty _ _ I.kIn pv) hn hs hf ?_
  refine wpAny_mono (gm_call ⟨hr, rfl⟩ I F hb hx (vs := [.ref a, y]) (us := [.ref a, v]) (.cons rfl (.cons ry .nil)) hsp) (fun z s' hz => ?_) fun _ _ e => e
  obtain ⟨z', H', I', rz, r, rfl, q⟩ := hz
  cases rz
  exact ⟨.bl r, H', I', rfl, q⟩
theorem op_neOwn {CX : CXT} {C f : Addr} {fd : FuncData} {ps : List Str} {sp : Sp} {E : XK} (hr : Room (n + 1) X.A) (F : FnOk X.prog X.w X.K X.mg X.base CX n f fd ps sp) (hs : PySem.W.findIn X.K (.ref C) "__eq__" = some (some (.ref f))) (hf : PySem.W.isFn X.K (.ref f) = true)
    (hN : PySem.W.findIn X.K (.ref C) "__ne__" = some (some (.builtin "object.__ne__"))) (hm : PySem.W.mroIn X.K C (.type "object") = some true)
    (hb : Binds X.K fd ps []) (hx : Passes CX X E) : OpR X (compareOp .NotEq) (rOwn X.K C sp E not) := by
  intro pins s σ H x y u v Q I rx ry d
  obtain ⟨a, dx, fs, t, rfl, ha, ty, hn, hsp⟩ := d
  cases rx
  obtain ⟨mA, J, _⟩ := ins_get I.hok ha
  obtain ⟨od, J, _⟩ := J.look
  obtain ⟨Pv, Z, pv, _⟩ := kit_of I ry ty
  refine PySem.W.gm_ne hr.units0 hr.in1.units0 I.kIn J (Z.ty _ _ I.kIn pv) hn hN hm hs hf ?_
  refine wpAny_mono (gm_call ⟨hr.in1, rfl⟩ I F hb hx (vs := [.ref a, y]) (us := [.ref a, v]) (.cons rfl (.cons ry .nil)) hsp) (fun z s' hz => ?_) fun _ _ e => e
  obtain ⟨z', H', I', rz, r, rfl, q⟩ := hz
  cases rz
  exact ⟨_, rfl, .bl (!r), H', I', rfl, q⟩
/-- str(x), repr(x) by the class's own -/
def rTxt (C : Addr) (sp : Sp) (E : XK) : List V → Hp → VK → Prop := fun xs H Q => ∃ a dx fs, xs = [.ref a] ∧ H a = some (.ins C dx fs) ∧ sp [.ref a] H (fun v H' => ∃ r, v = .str r ∧ Q (.str r) H') E
theorem call_reprOwn {CX : CXT} {C f : Addr} {fd : FuncData} {ps : List Str} {sp : Sp} {E : XK} (hr : Room (n + 1) X.A) (F : FnOk X.prog X.w X.K X.mg X.base CX n f fd ps sp) (hs : PySem.W.findIn X.K (.ref C) "__repr__" = some (some (.ref f))) (hf : PySem.W.isFn X.K (.ref f) = true)
    (hb : Binds X.K fd ps []) (hx : Passes CX X E) : CallR X (.builtin "repr") (rTxt C sp E) := by
  intro pins s σ H xs us Q I r h
  obtain ⟨a, dx, fs, rfl, ha, hsp⟩ := h
  obtain ⟨mA, J, _⟩ := ins_get I.hok ha
  obtain ⟨od, J, _⟩ := J.look
  obtain ⟨m, hF⟩ := I.fr
  cases r with
  | cons r1 r2 =>
    cases r2
    cases r1
    refine PySem.W.repr_K hr.in1.units0 hF I.ok.mod.kin J hs hf ?_
    refine wpAny_mono (gm_call ⟨hr.in1, rfl⟩ I F hb hx (vs := [.ref a]) (us := [.ref a]) (.cons rfl .nil) hsp) (fun z s' hz => ?_) fun _ _ e => e
    obtain ⟨z', H', I', rz, r, rfl, q⟩ := hz
    obtain ⟨t, rfl⟩ := rz
    exact ⟨.str r, H', I', ⟨_, rfl⟩, q⟩
theorem call_strOwn {CX : CXT} {C f : Addr} {fd : FuncData} {ps : List Str} {sp : Sp} {E : XK} (hr : Room (n + 2) X.A) (F : FnOk X.prog X.w X.K X.mg X.base CX n f fd ps sp) (hs : PySem.W.findIn X.K (.ref C) "__str__" = some (some (.ref f))) (hf : PySem.W.isFn X.K (.ref f) = true)
    (hb : Binds X.K fd ps []) (hx : Passes CX X E) : CallR X (.type "str") (rTxt C sp E) := by
  intro pins s σ H xs us Q I r h
  obtain ⟨a, dx, fs, rfl, ha, hsp⟩ := h
  obtain ⟨mA, J, _⟩ := ins_get I.hok ha
  obtain ⟨od, J, _⟩ := J.look
  cases r with
  | cons r1 r2 =>
    cases r2
    cases r1
    refine PySem.W.kso_call hr.in1.in1.units0 I.kIn J hs hf ?_
    refine wpAny_mono (gm_call ⟨hr.in1.in1, rfl⟩ I F hb hx (vs := [.ref a]) (us := [.ref a]) (.cons rfl .nil) hsp) (fun z s' hz => ?_) fun _ _ e => e
    obtain ⟨z', H', I', rz, r, rfl, q⟩ := hz
    obtain ⟨t, rfl⟩ := rz
    exact ⟨.str r, H', I', ⟨_, rfl⟩, q⟩
/-- an instance without __bool__ and __len__ is true -/
def tTru (C : Addr) (ta : TE) : TT := fun σ H Q => ta σ H fun x H' => ∃ a dx fs, x = .ref a ∧ H' a = some (.ins C dx fs) ∧ Q true H'
theorem pt_inst {a : Expr} {ta : TE} {C : Addr} (hb : PySem.W.findIn X.K (.ref C) "__bool__" = some none) (hl : PySem.W.findIn X.K (.ref C) "__len__" = some none) (ha : PE X a ta) (he : ∀ whole, isTrue a X.env whole = (do let v ← whole; standAt a.pos; holding [v] (truthy v))) :
    PT X a (tTru C ta) := by
  refine ⟨fun pins s σ H Q I h => ?_⟩
  refine isTrue_plain (thn (ha.run pins s σ H _ I h) fun v s1 hh => ?_) (he _)
  obtain ⟨x, H1, I1, r1, p, dx, fs, rfl, hp, q⟩ := hh
  cases r1
  obtain ⟨mA, J, _⟩ := ins_get I1.hok hp
  obtain ⟨od, J, _⟩ := J.look
  obtain ⟨m, hF⟩ := I1.fr
  exact PySem.W.truthy_K0 hF I1.ok.mod.kin J hb hl ⟨H1, I1, q⟩
end
end L2

namespace Gm
open PySem L2



/-- three ints stand at p -/
def BowlAt (H : Hp) (p : Addr) : Prop := ∃ x y z : Int, H p = some (.lst [.int x, .int y, .int z])
/-- all but p stands as it stood, and p is a bowl -/
def Stir (p : Addr) (H H' : Hp) : Prop := (∀ b o, b ≠ p → H b = some o → H' b = some o) ∧ BowlAt H' p
theorem Stir.trans {p : Addr} {H H1 H2 : Hp} (a : Stir p H H1) (b : Stir p H1 H2) : Stir p H H2 := ⟨fun c o n h => b.1 c o n (a.1 c o n h), b.2⟩
theorem Stir.same {p : Addr} {H H1 H2 : Hp} (a : Stir p H H1) (b : Same H1 H2) : Stir p H H2 := ⟨fun c o n h => b _ _ (a.1 c o n h), let ⟨x, y, z, h⟩ := a.2; ⟨x, y, z, b _ _ h⟩⟩
theorem Stir.refl {p : Addr} {H : Hp} (h : BowlAt H p) : Stir p H H := ⟨fun _ _ _ h => h, h⟩
theorem same_upd {H : Hp} {p : Addr} {o : HO} (h : H p = none) : Same H (upd H p o) := fun b u e => by rw [upd_ne (ne_of_none e h)]; exact e

theorem stir_upd (H : Hp) (p : Addr) (x y z : Int) : Stir p H (upd H p (.lst [.int x, .int y, .int z])) := ⟨fun b o n e => by rw [upd_ne n]; exact e, _, _, _, upd_same⟩
def spBowl (K : PySem.W.Frag) : Sp := fun vs H Q _ => ∃ (a : Addr) (ns : List Int) (k : Int), vs = [.ref a, .int k] ∧ SqL K H a (ns.map V.int) ∧ ns.length ≤ 63 ∧ 0 ≤ k ∧
  ∀ H' p, Same H H' → H p = none → BowlAt H' p → Q (.ref p) H'
def spDip : Sp := fun vs H Q _ => ∃ (p : Addr) (m : Int), vs = [.ref p, .int m] ∧ BowlAt H p ∧ 0 < m ∧ m < 1073741824 ∧
  ∀ H' d, Stir p H H' → 0 ≤ d → d < m → Q (.int d) H'

structure TxB (mg : Str → Option Value) : Prop where
  len : mg "len" = none
  int : mg "int" = none
  abs : mg "abs" = none
  divmod : mg "divmod" = none

theorem int_at {ns : List Int} {k : Int} (h0 : 0 ≤ k) (h : k < ns.length) : ∃ u, atI (ns.map V.int) k = some (V.int u) := by
  obtain ⟨j, rfl⟩ := Int.eq_ofNat_of_zero_le h0
  have hj : j < ns.length := by omega
  exact ⟨ns[j], atI_nat (by rw [List.getElem?_map, List.getElem?_eq_getElem hj]; rfl)⟩

theorem cut_int {ns : List Int} {lo hi : Option Int} {i : Nat} {y : V} (h : (cutV (ns.map V.int) lo hi)[i]? = some y) : ∃ u, y = V.int u := by
  have hm := List.mem_of_getElem? h
  unfold cutV at hm
  have := List.mem_of_mem_drop (List.mem_of_mem_take hm)
  obtain ⟨u, _, rfl⟩ := List.mem_map.mp this
  exact ⟨u, rfl⟩
theorem pos1 : (0 : Int) < 1999999943 := by decide
theorem cutIfV {tA : TT} {ta tb : TE} {σ : St} {H : Hp} {Q : V → Hp → Prop} (C : V → Prop) (k : ∀ v, C v → Q v H) (h : (∀ v, C v → Q v H) → tIf tA ta tb σ H Q) : tIf tA ta tb σ H Q := h k
theorem cutIf {tA : TT} {ta tb : TE} {σ : St} {H : Hp} {Q : V → Hp → Prop} (C : V → Hp → Prop) (k : ∀ v H', C v H' → Q v H') (h : (∀ v H', C v H' → Q v H') → tIf tA ta tb σ H Q) : tIf tA ta tb σ H Q := h k
section
variable {P : Program} {w : World} {K : PySem.W.Frag} {mg : Str → Option Value} {base : Heap}
abbrev nB : List Str := ["_law_script", "_law_k", "_law_own", "_law_mixed", "_law_entry"]
theorem scB : FnScope nB ["_law_script", "_law_k"] (defScope sBowl) := ⟨rfl, rfl, rfl, by decide +kernel, rfl, by decide +kernel, by decide +kernel⟩
theorem ok_bowl {f : Addr} {fd : FuncData} (F : Fun K "_law_bowl" "_law_bowl" sBowl f fd) (T : TxB mg) : FnOk P w K mg base CX0 1 f fd ["_law_script", "_law_k"] (spBowl K) := by
  refine F.ok scB (fun vs H Q E h => ?_) (fun cdv A outer s H vs Q E hr h => ?_)
  · obtain ⟨a, ns, k, rfl, _⟩ := h
    rfl
  · obtain ⟨a, ns, k, rfl, hS, hlen, h0, q⟩ := h
    refine ⟨_, pss_cons (ps_set (i := 2) scB.nd rfl (Or.inl rfl)
        (pe_ifExp (pt_cmpR op_lt (pv 1) (pe_callB call_len_seq (by rfl) T.len PySem.boot_len (pa_cons (pv 0) pa_nil)) (nomark _))
          (pe_callTy call_int1 (by rfl) T.int (by decide +kernel) (pa_cons (pe_ix ix_list (pv 0) (pv 1) (fun _ _ => rfl)) pa_nil))
          (pe_op op_add (pe_op op_mul pe_int (pv 1)) pe_int)))
      (pss_cons (ps_set (i := 3) scB.nd rfl (Or.inl rfl) (pe_op op_add pe_int (pe_op op_mul pe_int (pv 1))))
      (pss_cons (ps_for PassesOwn.never rfl (pi_list (pe_slice sl_list (pv 0) po_none (po_some pe_int))) (pg_name (i := 4) scB.nd rfl (Or.inl rfl))
          (pss_one (ps_set (i := 3) scB.nd rfl (Or.inl rfl)
            (pe_op op_mod (pe_callTy call_int1 (by rfl) T.int (by decide +kernel) (pa_cons (pe_op op_add (pe_op op_mul (pv 3) pe_int)
              (pe_op op_mod (pe_callTy call_int1 (by rfl) T.int (by decide +kernel) (pa_cons (pv 4) pa_nil)) pe_int)) pa_nil)) pe_int))))
      (pss_one (ps_ret (pe_lst (pa_cons (pe_op op_mod (pe_callTy call_int1 (by rfl) T.int (by decide +kernel) (pa_cons (pe_op op_add (pv 3) (pe_op op_mod (pv 2) pe_int)) pa_nil)) pe_int)
        (pa_cons (pe_ifExp (PW.pt (pw_or (pt_cmpR op_lt (pv 2) pe_int (nomark _)) (pw_or1 (pt_cmpR op_ge (pv 2) (pe_op op_pow pe_int pe_int) (nomark _)))))
            (pe_callB call_abs (by rfl) T.abs (by decide +kernel) (pa_cons (pv 2) pa_nil)) pe_int)
        (pa_cons pe_int pa_nil)))))))), ?_⟩
    refine cutIfV (fun v => ∃ u, v = .int u) ?_ (fun c => ?_)
    · rintro _ ⟨u, rfl⟩
      refine ⟨_, rfl, _, _, rfl, rfl, .inl ⟨by decide, by decide⟩, _, _, rfl, rfl, ?_⟩
      refine ⟨_, rfl, 12, rfl, a, _, rfl, hS, fun pl hpl => ?_⟩
      have s1 := same_upd (o := .lst (cutV (ns.map V.int) none (some 12))) hpl
      refine ⟨pl, rfl, ⟨_, SqL.of upd_same⟩, for_list (K := K) (a := pl) (xs := cutV (ns.map V.int) none (some 12))
        (fun i σ H' => H' = upd _ pl (.lst (cutV (ns.map V.int) none (some 12))) ∧ ∃ (z : Int) (v : Option V), σ = [some (.ref a), some (.int k), some (.int u), some (.int z), v]) ⟨rfl, _, _, rfl⟩ ?_ ?_ ?_⟩
      · rintro i σ H' _ ⟨rfl, _⟩
        exact SqL.of upd_same
      · rintro i y σ H' hi ⟨rfl, z, v, rfl⟩
        obtain ⟨e, rfl⟩ := cut_int hi
        refine ⟨_, rfl, _, _, rfl, rfl, .inr ⟨by decide, by decide⟩, ?_⟩
        refine ⟨_, rfl, .inl ⟨_, rfl, _, _, rfl, rfl, pos1, _, _, rfl, rfl, .inl ⟨_, rfl, _, _, rfl, rfl, pos1, rfl, _, _, rfl⟩⟩⟩
      · rintro σ H' ⟨rfl, z, v, rfl⟩
        refine ⟨_, rfl, _, rfl, _, _, rfl, rfl, pos1, _, _, rfl, rfl, .inl ⟨_, rfl, _, _, rfl, rfl, pos1, ?_⟩⟩
        refine cutIfV (fun v => ∃ u, v = .int u) ?_ (fun c => ?_)
        · rintro _ ⟨y, rfl⟩
          refine ⟨by show 3 ≤ sizeLine; decide, fun p hp => ?_⟩
          refine q _ p (s1.trans (same_upd hp)) (s1.free hp) ⟨_, _, _, upd_same⟩
        · refine ⟨_, rfl, _, _, rfl, rfl, _, rfl, ?_⟩
          refine ite2 (fun h => ?_) (fun h => ?_)
          · refine iteT ⟨_, rfl, _, rfl, c _ ⟨_, rfl⟩⟩
          · refine ⟨_, rfl, _, _, rfl, rfl, ⟨by decide, by decide, by decide⟩, _, _, rfl, rfl, _, rfl, ?_⟩
            refine ite2 (fun h => ?_) (fun h => ?_)
            · exact ⟨_, rfl, _, rfl, c _ ⟨_, rfl⟩⟩
            · exact c _ ⟨_, rfl⟩
    · refine ⟨_, rfl, _, rfl, a, _, rfl, .inl hS, _, _, rfl, rfl, _, rfl, ?_⟩
      refine ite2 (fun h => ?_) (fun h => ?_)
      · have h' : k < ns.length := by
          have := of_decide_eq_true h
          rw [List.length_map] at this
          exact this
        obtain ⟨e, he⟩ := int_at h0 h'
        exact ⟨_, rfl, _, rfl, a, _, _, _, rfl, rfl, hS, he, .inl ⟨_, rfl, c _ ⟨_, rfl⟩⟩⟩
      · exact ⟨_, rfl, _, _, rfl, rfl, .inl ⟨by decide, by decide⟩, _, _, rfl, rfl, c _ ⟨_, rfl⟩⟩
abbrev nD : List Str := ["_law_bowl_here", "_law_many", "_law_digit"]
theorem scD : FnScope nD ["_law_bowl_here", "_law_many"] (defScope sDip) := ⟨rfl, rfl, rfl, by decide +kernel, rfl, by decide +kernel, by decide +kernel⟩
theorem ok_dip {f : Addr} {fd : FuncData} (F : Fun K "_law_dip" "_law_dip" sDip f fd) (T : TxB mg) : FnOk P w K mg base CX0 1 f fd ["_law_bowl_here", "_law_many"] spDip := by
  refine F.ok scD (fun vs H Q E h => ?_) (fun cdv A outer s H vs Q E hr h => ?_)
  · obtain ⟨p, m, rfl, _⟩ := h
    rfl
  · obtain ⟨p, m, rfl, ⟨x, y, z, hp⟩, hm0, hm1, q⟩ := h
    refine ⟨_, pss_cons (ps_asg (pe_op op_add (pe_ix ix_list (pv 0) pe_int (fun _ _ => rfl)) pe_int) (pg_sub (pv 0) pe_int set_list))
      (pss_cons (ps_if (pt_cmpR op_gt (pe_ix ix_list (pv 0) pe_int (fun _ _ => rfl)) pe_int (nomark _))
        (pss_cons (ps_asg (pe_callB call_divmod (by rfl) T.divmod (by decide +kernel) (pa_cons (pe_callTy call_int1 (by rfl) T.int (by decide +kernel) (pa_cons (pe_ix ix_list (pv 0) pe_int (fun _ _ => rfl)) pa_nil)) (pa_cons (pv 1) pa_nil)))
            (pg_tup (by rfl) (pgs_cons (pg_sub (pv 0) pe_int set_list) (pgs_cons (pg_name (i := 2) scD.nd rfl (Or.inl rfl)) pgs_nil))))
          (pss_one (ps_ret (pv 2)))) pss_nil)
      (pss_cons (ps_asg (pe_op op_mod (pe_callTy call_int1 (by rfl) T.int (by decide +kernel) (pa_cons (pe_op op_add (pe_op op_add (pe_op op_mul (pe_ix ix_list (pv 0) pe_int (fun _ _ => rfl)) pe_int)
            (pe_op op_mul (pe_ix ix_list (pv 0) pe_int (fun _ _ => rfl)) pe_int))
            (pe_op op_mul (pe_op op_fdiv (pe_ix ix_list (pv 0) pe_int (fun _ _ => rfl)) pe_int) pe_int)) pa_nil)) pe_int) (pg_sub (pv 0) pe_int set_list))
      (pss_one (ps_ret (pe_op op_mod (pe_callTy call_int1 (by rfl) T.int (by decide +kernel) (pa_cons (pe_op op_fdiv (pe_ix ix_list (pv 0) pe_int (fun _ _ => rfl)) pe_int) pa_nil)) (pv 1)))))), ?_⟩
    refine ⟨_, rfl, p, _, 2, _, rfl, rfl, SqL.of hp, rfl, _, _, rfl, rfl, _, rfl, p, _, 2, 2, rfl, rfl, hp, rfl, ?_⟩
    have h1 : upd H p (.lst [.int x, .int y, .int (z + 1)]) p = some (.lst [.int x, .int y, .int (z + 1)]) := upd_same
    refine ⟨_, rfl, p, _, 1, _, rfl, rfl, SqL.of h1, rfl, _, _, rfl, rfl, _, rfl, ?_⟩
    refine ite2 (fun h => ?_) (fun h => ?_)
    · refine ⟨_, rfl, p, _, 1, _, rfl, rfl, SqL.of h1, rfl, .inl ⟨_, rfl, _, rfl, _, _, rfl, ⟨hm0, hm1⟩, fun t ht => ?_⟩⟩
      have ntp : t ≠ p := fun e => by rw [e] at ht; exact absurd (h1.symm.trans ht) (by simp)
      refine ⟨t, _, rfl, SqT.of upd_same, rfl, _, _, rfl, _, rfl, p, _, 1, 1, rfl, rfl, ((upd_ne ntp.symm).trans h1), rfl, ?_⟩
      refine ⟨_, _, rfl, rfl, _, rfl, ?_⟩
      exact q _ _ (((stir_upd H p _ _ _).same (same_upd ht)).trans (stir_upd _ p _ _ _)) (Int.emod_nonneg _ (by omega)) (Int.emod_lt_of_pos _ hm0)
    · refine ⟨_, rfl, p, _, 0, _, rfl, rfl, SqL.of h1, rfl, _, _, rfl, rfl, .inr ⟨by decide, by decide⟩, _, rfl, p, _, 2, _, rfl, rfl, SqL.of h1, rfl, _, _, rfl, rfl, .inr ⟨by decide, by decide⟩, _, _, rfl, rfl, _, rfl, p, _, 0, _, rfl, rfl, SqL.of h1, rfl, _, _, rfl, rfl, ⟨by decide, by decide⟩, _, _, rfl, rfl, .inr ⟨by decide, by decide⟩, _, _, rfl, rfl, .inl ⟨_, rfl, _, _, rfl, rfl, pos1, _, rfl, p, _, 0, 0, rfl, rfl, h1, rfl, _, rfl, p, _, 0, _, rfl, rfl, SqL.of upd_same, rfl, _, _, rfl, rfl, ⟨by decide, by decide⟩, .inl ⟨_, rfl, _, rfl, _, _, rfl, rfl, hm0, ?_⟩⟩⟩
      exact q _ _ ((stir_upd H p _ _ _).trans (stir_upd _ p _ _ _)) (Int.emod_nonneg _ (by omega)) (Int.emod_lt_of_pos _ hm0)
end
end Gm

namespace Gm
open PySem L2


abbrev sEq : Stmt := inClass (top 21) 3
abbrev sStr : Stmt := inClass (top 21) 4



/-! ### mathematics -/

def low : List Nat := lowTxt.cps.toList
def pick (s : Str) : List Nat := low.filter fun c => decide (c ∈ s.cps.toList)
def Alph (s : Str) : Prop := 2 ≤ s.length ∧ s.length ≤ 26 ∧ s.cps.toList = pick s
instance (s : Str) : Decidable (Alph s) := by unfold Alph; infer_instance
theorem join_one (cs : List Nat) : Txt.join (Str.ofString "") (cs.map fun c => (⟨#[c]⟩ : Str)) = ⟨cs.toArray⟩ := by
  have h : (cs.map fun c => (⟨#[c]⟩ : Str)) = (cs.map fun c => [c]).map SX.S := by rw [List.map_map]; rfl
  have e : (Str.ofString "" : Str) = SX.S [] := rfl
  rw [h, e, SX.join_S]
  have j : ∀ l : List Nat, TL.joinL [] (l.map fun c => [c]) = l := by
    intro l
    induction l with
    | nil => rfl
    | cons a l ih =>
      cases l with
      | nil => rfl
      | cons b l =>
        show [a] ++ ([] ++ TL.joinL [] ((b :: l).map fun c => [c])) = a :: b :: l
        rw [ih]
        rfl
  rw [j]
theorem str_len (s : Str) : s.cps.toList.length = s.length := by simp [Str.length]
theorem take_filter {p : Nat → Bool} (l : List Nat) (i : Nat) (h : i < l.length) : (l.take (i + 1)).filter p = (l.take i).filter p ++ (if p l[i] = true then [l[i]] else []) := by
  rw [List.take_succ_eq_append_getElem h, List.filter_append]
  congr 1
  by_cases c : p l[i] = true
  · rw [if_pos c]; simp [c]
  · rw [if_neg c]; simp [c]

theorem low_len : low.length = 26 := by decide +kernel
theorem sum_one (cs : List Nat) : ((cs.map fun c => (⟨#[c]⟩ : Str)).map (·.length)).sum = cs.length := by
  induction cs with
  | nil => rfl
  | cons c cs ih =>
    rw [List.map_cons, List.map_cons, List.sum_cons, ih, List.length_cons]
    show 1 + cs.length = cs.length + 1
    omega
/-! ### promises -/
def NoInt (K : PySem.W.Frag) (t : Value) : Prop := PySem.W.kitOne K t (.type "bool") = some true ∨ (PySem.W.kitOne K t (.type "bool") = some false ∧ PySem.W.kitOne K t (.type "int") = some false)
def spWithin (K : PySem.W.Frag) : Sp := fun vs H Q _ => ∃ (v : V) (lo hi : Int), vs = [v, .int lo, .int hi] ∧
  ((∃ n, v = .int n ∧ Q (.bl (decide (lo ≤ n ∧ n ≤ hi))) H) ∨ (∃ t, TyX K H v t ∧ NoInt K t ∧ Q (.bl false) H))
def spAlpha (K : PySem.W.Frag) : Sp := fun vs H Q _ => ∃ (v : V), vs = [v] ∧
  ((∃ s, v = .str s ∧ s.length ≤ 1000 ∧ ∀ H', Same H H' → Q (.bl (decide (Alph s))) H') ∨ (∃ t, TyX K H v t ∧ PySem.W.kitOne K t (.type "str") = some false ∧ Q (.bl false) H))
def spCount : Sp := fun vs H Q _ => ∃ (m n : Int), vs = [.int m, .int n] ∧ 0 ≤ m ∧ m ≤ 26 ∧ 0 ≤ n ∧ n ≤ 6 ∧ Q (.int (m ^ n.toNat)) H
def boardF (s : Str) (n : Int) : List (Str × V) := putF "size" (.int ((s.length : Int) ^ n.toNat)) (putF "length" (.int n) (putF "letters" (.str s) []))
def BoardAt (C : Addr) (H : Hp) (p : Addr) (s : Str) (n : Int) : Prop := ∃ dx, H p = some (.ins C dx (boardF s n))
/-- all but p as it stood -/
def But (p : Addr) (H H' : Hp) : Prop := ∀ b o, b ≠ p → H b = some o → H' b = some o
def spInit (C : Addr) : Sp := fun vs H Q _ => ∃ (p dx : Addr) (s : Str) (n : Int), vs = [.ref p, .str s, .int n] ∧ Alph s ∧ 1 ≤ n ∧ n ≤ 6 ∧ H p = some (.ins C dx []) ∧
  ∀ H', But p H H' → BoardAt C H' p s n → Q .non H'
/-- what another object is, beside a board -/
def spEqB (K : PySem.W.Frag) (C : Addr) : Sp := fun vs H Q _ => ∃ (p : Addr) (s : Str) (n : Int) (y : V), vs = [.ref p, y] ∧ BoardAt C H p s n ∧ s.length ≤ 1000 ∧
  ((∃ q s' n', y = .ref q ∧ BoardAt C H q s' n' ∧ s'.length ≤ 1000 ∧ Q (.bl (decide (s = s' ∧ n = n'))) H) ∨ (∃ t, TyX K H y t ∧ PySem.W.kitOne K t (.ref C) = some false ∧ Q (.bl false) H))
def digit (n : Int) : Str := (toString n : String)
def spStr (C : Addr) : Sp := fun vs H Q _ => ∃ (p : Addr) (s : Str) (n : Int), vs = [.ref p] ∧ BoardAt C H p s n ∧ s.length ≤ 26 ∧ 1 ≤ n ∧ n ≤ 6 ∧ Q (.str (s ++ " " ++ digit n)) H
def spRepr (C : Addr) : Sp := fun vs H Q _ => ∃ (p : Addr) (s : Str) (n : Int), vs = [.ref p] ∧ BoardAt C H p s n ∧ s.length ≤ 26 ∧ 1 ≤ n ∧ n ≤ 6 ∧ Q (.str ("Board(" ++ s ++ " " ++ digit n ++ ")")) H

structure TxW (mg : Str → Option Value) : Prop where
  isi : mg "isinstance" = none
  bool : mg "bool" = none
  int : mg "int" = none
  str : mg "str" = none
  len : mg "len" = none
  range : mg "range" = none
  most : ∃ t, mg "MOST_LETTERS" = some (.int 26 t)
  mlen : ∃ t, mg "MOST_LENGTH" = some (.int 6 t)
  low : ∃ t, mg "LOWERCASE" = some (.str lowTxt t)

section
variable {P : Program} {w : World} {K : PySem.W.Frag} {mg : Str → Option Value} {base : Heap}
theorem scW : FnScope ["value", "least", "most"] ["value", "least", "most"] (defScope sWithin) := ⟨rfl, rfl, rfl, by decide +kernel, rfl, by decide +kernel, by decide +kernel⟩
theorem ok_within {f : Addr} {fd : FuncData} (F : Fun K "is_integer_within" "is_integer_within" sWithin f fd) (T : TxW mg) : FnOk P w K mg base CX0 1 f fd ["value", "least", "most"] (spWithin K) := by
  refine F.ok scW (fun vs H Q E h => ?_) (fun cdv A outer s H vs Q E hr h => ?_)
  · obtain ⟨v, lo, hi, rfl, _⟩ := h
    rfl
  · obtain ⟨v, lo, hi, rfl, h⟩ := h
    refine ⟨_, pss_cons (ps_if (PW.pt (pw_or (pt_val (pe_callB call_isi (by rfl) T.isi (by decide +kernel) (pa_cons (pv 0) (pa_cons (pe_bltn (v := .ty "bool") (by rfl) T.bool (by decide +kernel) rfl) pa_nil))))
        (pw_or1 (pt_not (pt_val (pe_callB call_isi (by rfl) T.isi (by decide +kernel) (pa_cons (pv 0) (pa_cons (pe_bltn (v := .ty "int") (by rfl) T.int (by decide +kernel) rfl) pa_nil))))))))
        (pss_one (ps_ret pe_bl)) pss_nil)
      (pss_one (ps_ret (pe_chain op_le op_le (pv 1) (pv 0) (pv 2)))), ?_⟩
    rcases h with ⟨n, rfl, q⟩ | ⟨t, ty, no, q⟩
    · refine ⟨_, rfl, _, _, _, _, _, rfl, .ty "bool", .base (.int n), kit_ty (r := false) (by decide +kernel), _, rfl, iteF ?_⟩
      refine ⟨_, rfl, _, _, _, _, _, rfl, .ty "int", .base (.int n), kit_ty (r := true) (by decide +kernel), _, rfl, ?_⟩
      refine ⟨_, rfl, _, rfl, _, _, rfl, rfl, _, rfl, ?_⟩
      refine ite2 (fun h => ?_) (fun h => ?_)
      · refine ⟨_, rfl, _, _, rfl, rfl, ?_⟩
        have e : decide (lo ≤ n ∧ n ≤ hi) = decide (n ≤ hi) := by
          have := of_decide_eq_true h
          simp [this]
        rw [e] at q
        exact q
      · have e : decide (lo ≤ n ∧ n ≤ hi) = false := by
          simp only [decide_eq_true_eq] at h
          simp [h]
        rw [e] at q
        exact q
    · rcases no with no | ⟨no, no2⟩
      · exact ⟨_, rfl, _, _, _, _, _, rfl, .ty "bool", ty, no, _, rfl, iteT q⟩
      · refine ⟨_, rfl, _, _, _, _, _, rfl, .ty "bool", ty, no, _, rfl, iteF ?_⟩
        exact ⟨_, rfl, _, _, _, _, _, rfl, .ty "int", ty, no2, _, rfl, q⟩
abbrev nA : List Str := ["letters", "letter"]
theorem scAl : FnScope nA ["letters"] (defScope sAlpha) := ⟨rfl, rfl, rfl, by decide +kernel, rfl, by decide +kernel, by decide +kernel⟩
theorem ok_alpha {f : Addr} {fd : FuncData} (F : Fun K "is_alphabet" "is_alphabet" sAlpha f fd) (T : TxW mg) : FnOk P w K mg base CX0 1 f fd ["letters"] (spAlpha K) := by
  refine F.ok scAl (fun vs H Q E h => ?_) (fun cdv A outer s H vs Q E hr h => ?_)
  · obtain ⟨v, rfl, _⟩ := h
    rfl
  · obtain ⟨v, rfl, h⟩ := h
    obtain ⟨t1, mg1⟩ := T.most
    obtain ⟨t2, mg2⟩ := T.low
    refine ⟨_, pss_cons (ps_if (PW.pt (pw_or (pt_not (pt_val (pe_callB call_isi (by rfl) T.isi (by decide +kernel) (pa_cons (pv 0) (pa_cons (pe_bltn (v := .ty "str") (by rfl) T.str (by decide +kernel) rfl) pa_nil)))))
        (pw_or1 (pt_not (pt_chain op_le op_le pe_int (pe_callB call_len_str (by rfl) T.len PySem.boot_len (pa_cons (pv 0) pa_nil)) (pe_glob (v := .int 26) (by rfl) mg1 ⟨_, rfl⟩))))))
        (pss_one (ps_ret pe_bl)) pss_nil)
      (pss_one (ps_ret (pe_cmpR op_eq (pv 0) (pe_join pe_str
        (pe_lc (own := [("letter", 1)]) (g := gName 1) (by rfl) scAl.nd (pi_str (pe_glob (v := .str lowTxt) (by rfl) mg2 ⟨_, rfl⟩)) (blkOk_by (own := [("letter", 1)]) (N := nA) (sc := defScope sAlpha) (by decide +kernel))
          (fun _ _ _ _ _ => pg_name (i := 1) scAl.nd rfl (Or.inl rfl)) (fun _ _ _ _ _ => pts_one (pt_cmpR op_in_sign (pv 1) (pv 0) rfl)) (fun _ _ _ _ _ => pv 1))) (nomark _)))), ?_⟩
    rcases h with ⟨z, rfl, hz, q⟩ | ⟨t, ty, no, q⟩
    · refine ⟨_, rfl, _, _, _, _, _, rfl, .ty "str", .base (.str z), kit_ty (r := true) (by decide +kernel), _, rfl, ?_⟩
      refine ⟨_, rfl, _, rfl, by have : sizeLine = 16777216 := sizeLine_eq; omega, _, _, rfl, rfl, _, rfl, ?_⟩
      have hf : ¬ Alph z → decide (Alph z) = false := decide_eq_false
      refine ite2 (fun h2 => ?_) (fun h2 => ?_)
      · refine ⟨_, _, rfl, rfl, _, rfl, ?_⟩
        have h2 := of_decide_eq_true h2
        refine ite2 (fun h3 => ?_) (fun h3 => ?_)
        · have n : ¬ Alph z := fun a => by
            have := a.2.1
            simp at h3
            omega
          rw [hf n] at q
          exact q _ (Same.refl H)
        · have h3 : (z.length : Int) ≤ 26 := by simpa using h3
          refine ⟨_, rfl, ⟨_, rfl⟩, lowTxt, rfl, fun D hD => ?_⟩
          refine lc_it (walk_str (z := lowTxt)) (fun i H' => Same H H' ∧ H' D = some (.lst (((low.take i).filter fun c => decide (c ∈ z.cps.toList)).map fun c => V.str ⟨#[c]⟩))) ⟨same_upd hD, upd_same⟩ (fun _ _ _ _ => trivial) ?_ ?_
          · rintro i x H1 H2 hi ⟨sm, hD1⟩ ⟨rfl, c, hc, rfl⟩
            have hi' : i < low.length := hi
            have ec : low[i] = c := by
              have : lowTxt.cps[i] = c := (Array.getElem?_eq_some_iff.mp hc).2
              exact this
            have st := take_filter (p := fun c => decide (c ∈ z.cps.toList)) low i hi'
            rw [ec] at st
            refine ⟨rfl, _, rfl, _, rfl, c, z, rfl, rfl, _, rfl, ?_⟩
            refine ite2 (fun hm => ?_) (fun hm => ?_)
            · rw [if_pos hm] at st
              refine ⟨_, rfl, _, hD1, ?_, fun b o e => ?_, ?_⟩
              · have h1 := List.length_filter_le (fun c => decide (c ∈ z.cps.toList)) (low.take i)
                have h2 : (low.take i).length ≤ i := by rw [List.length_take]; omega
                have h3 : sizeLine = 16777216 := sizeLine_eq
                rw [low_len] at hi'
                rw [List.length_map]
                omega
              · rw [upd_ne (ne_of_none e hD)]
                exact sm b o e
              · rw [upd_same, st, List.map_append]
                rfl
            · rw [if_neg hm, List.append_nil] at st
              exact ⟨sm, by rw [st]; exact hD1⟩
          · rintro H1 ⟨sm, hD1⟩
            have el : low.take lowTxt.cps.size = low := List.take_of_length_le (Nat.le_of_eq (by simp [low]))
            rw [el] at hD1
            refine ⟨_, D, (pick z).map (fun c => (⟨#[c]⟩ : Str)), rfl, rfl, .inl (SqL.of ?_), ?_, rfl, ?_⟩
            · rw [List.map_map]
              exact hD1
            · have h1 := List.length_filter_le (fun c => decide (c ∈ z.cps.toList)) low
              have h2 : (pick z).length ≤ 26 := h1
              rw [sum_one, List.length_map]
              show (pick z).length + (pick z).length * 0 ≤ 16777216
              omega
            · have e : decide (V.str z = V.str (Txt.join (Str.ofString "") ((pick z).map fun c => (⟨#[c]⟩ : Str)))) = decide (Alph z) := by
                rw [join_one]
                refine decide_eq_decide.mpr ⟨fun e => ⟨by omega, by omega, ?_⟩, fun a => ?_⟩
                · have e := V.str.inj e
                  have := congrArg (fun s : Str => s.cps.toList) e
                  simpa using this
                · have := a.2.2
                  rw [← this]
              rw [← e] at q
              exact q _ sm
      · have n : ¬ Alph z := fun a => by
          have := a.1
          simp at h2
          omega
        rw [hf n] at q
        exact ⟨_, rfl, q _ (Same.refl H)⟩
    · exact ⟨_, rfl, _, _, _, _, _, rfl, .ty "str", ty, no, _, rfl, iteT q⟩

theorem scC : FnScope ["many", "length", "total", "place"] ["many", "length"] (defScope sCount) := ⟨rfl, rfl, rfl, by decide +kernel, rfl, by decide +kernel, by decide +kernel⟩
theorem ok_count {f : Addr} {fd : FuncData} (F : Fun K "count_words" "count_words" sCount f fd) (T : TxW mg) : FnOk P w K mg base CX0 1 f fd ["many", "length"] spCount := by
  refine F.ok scC (fun vs H Q E h => ?_) (fun cdv A outer s H vs Q E hr h => ?_)
  · obtain ⟨m, n, rfl, _⟩ := h
    rfl
  · obtain ⟨m, n, rfl, m0, m1, n0, n1, q⟩ := h
    refine ⟨_, pss_cons (ps_set (i := 2) scC.nd rfl (Or.inl rfl) pe_int)
      (pss_cons (ps_for PassesOwn.never rfl (pi_range1 (by rfl) T.range (pa_cons (pv 1) pa_nil)) (pg_name (i := 3) scC.nd rfl (Or.inl rfl)) (pss_one (ps_aug (i := 2) scC.nd rfl (Or.inl rfl) (pv 0) iop_mul)))
      (pss_one (ps_ret (pv 2)))), ?_⟩
    refine ⟨_, rfl, n, rfl, by omega, by omega, for_range (n := n.toNat) (fun i σ H' => H' = H ∧ ∃ v, σ = [some (.int m), some (.int n), some (.int (m ^ i)), v]) ⟨rfl, none, by rw [Int.pow_zero]; rfl⟩ ?_ ?_⟩
    · rintro i σ H' hi ⟨rfl, v, rfl⟩
      exact ⟨_, rfl, _, rfl, _, _, rfl, rfl, .inr ⟨by omega, by omega⟩, rfl, _, by rw [Int.pow_succ]; rfl⟩
    · rintro σ H' ⟨rfl, v, rfl⟩
      exact ⟨_, rfl, q⟩
/-- a def of the top, as it is called -/
structure Df (K : PySem.W.Frag) (mg : Str → Option Value) (x : Str) (f : Addr) (fd : FuncData) (ps : List Str) : Prop where
  mg : mg x = some (.ref f)
  kp : PySem.W.keepIn K (.ref f) = true
  b : Binds K fd ps []
/-- the class Board -/
structure TxC (K : PySem.W.Frag) (mg : Str → Option Value) (C : Addr) : Prop where
  cl : Cls K C
  mgC : mg "Board" = some (.ref C)
  nL : NoAttr K C "letters"
  nN : NoAttr K C "length"
  nS : NoAttr K C "size"
  ac : PySem.W.findIn K (.ref C) "__class__" = some (some (.builtin "object.__class__"))
  gt : PySem.W.specialIn K (.builtin "object.__class__") "__get__" = some (some (.builtin "getset_descriptor.__get__"))
  tk : PySem.W.takesIn K (.builtin "object.__class__") = some true
  ob : PySem.W.mroIn K C (.type "object") = some true
  own : PySem.W.kitOne K (.ref C) (.ref C) = some true
theorem bf_eq (s : Str) (n : Int) : boardF s n = ([("letters", V.str s), ("length", V.int n), ("size", V.int ((s.length : Int) ^ n.toNat))] : List (Str × V)) := by
  have h1 : ¬ (("letters" : Str) = "length") := by decide +kernel
  have h2 : ¬ (("letters" : Str) = "size") := by decide +kernel
  have h3 : ¬ (("length" : Str) = "size") := by decide +kernel
  show putF "size" _ (if ("letters" : Str) = "length" then _ else (("letters" : Str), V.str s) :: putF "length" (V.int n) []) = _
  rw [if_neg h1]
  show (if ("letters" : Str) = "size" then _ else (("letters" : Str), V.str s) :: (if ("length" : Str) = "size" then _ else (("length" : Str), V.int n) :: putF "size" _ [])) = _
  rw [if_neg h2, if_neg h3]
  rfl
theorem pf2_eq (s : Str) (n : Int) : putF "length" (.int n) (putF "letters" (.str s) []) = ([("letters", V.str s), ("length", V.int n)] : List (Str × V)) := by
  have h1 : ¬ (("letters" : Str) = "length") := by decide +kernel
  show (if ("letters" : Str) = "length" then _ else (("letters" : Str), V.str s) :: putF "length" (V.int n) []) = _
  rw [if_neg h1]
  rfl
theorem bf_letters (s : Str) (n : Int) : (boardF s n).lookup ("letters" : Str) = some (.str s) := by rw [bf_eq]; rfl
theorem bf_length (s : Str) (n : Int) : (boardF s n).lookup ("length" : Str) = some (.int n) := by
  have h1 : (("length" : Str) == "letters") = false := by decide +kernel
  rw [bf_eq, List.lookup_cons, h1]
  rfl
theorem bf_size (s : Str) (n : Int) : (boardF s n).lookup ("size" : Str) = some (.int ((s.length : Int) ^ n.toNat)) := by
  have h1 : (("size" : Str) == "letters") = false := by decide +kernel
  have h2 : (("size" : Str) == "length") = false := by decide +kernel
  rw [bf_eq, List.lookup_cons, h1, List.lookup_cons, h2]
  rfl
theorem But.upd {p : Addr} {H : Hp} {o : HO} : But p H (L2.upd H p o) := fun b u n e => by rw [upd_ne n]; exact e
theorem But.trans {p : Addr} {H H1 H2 : Hp} (a : But p H H1) (b : But p H1 H2) : But p H H2 := fun c o n h => b c o n (a c o n h)
theorem But.of {p : Addr} {H H1 : Hp} (a : Same H H1) : But p H H1 := fun c o n h => a c o h
theorem scI : FnScope ["self", "letters", "length"] ["self", "letters", "length"] (defScope sInit) := ⟨rfl, rfl, rfl, by decide +kernel, rfl, by decide +kernel, by decide +kernel⟩
theorem ok_init {f C fA fW fC : Addr} {fd fdA fdW fdC : FuncData} (F : Fun K "__init__" "Board.__init__" sInit f fd) (T : TxW mg) (TC : TxC K mg C)
    (GA : FnOk P w K mg base CX0 1 fA fdA ["letters"] (spAlpha K)) (DA : Df K mg "is_alphabet" fA fdA ["letters"]) (GW : FnOk P w K mg base CX0 1 fW fdW ["value", "least", "most"] (spWithin K)) (DW : Df K mg "is_integer_within" fW fdW ["value", "least", "most"])
    (GC : FnOk P w K mg base CX0 1 fC fdC ["many", "length"] spCount) (DC : Df K mg "count_words" fC fdC ["many", "length"]) : FnOk P w K mg base CX0 2 f fd ["self", "letters", "length"] (spInit C) := by
  refine F.ok scI (fun vs H Q E h => ?_) (fun cdv A outer s H vs Q E hr h => ?_)
  · obtain ⟨p, dx, s, n, rfl, _⟩ := h
    rfl
  · obtain ⟨p, dx, z, n, rfl, hz, n0, n1, hp, q⟩ := h
    obtain ⟨t1, mg1⟩ := T.mlen
    refine ⟨_, pss_cons (ps_if (pt_not (pt_val (pe_call GA hr (by rfl) DA.mg DA.kp DA.b .nil pass0 (pa_cons (pv 1) pa_nil)))) (pss_one ps_never) pss_nil)
      (pss_cons (ps_if (pt_not (pt_val (pe_call GW hr (by rfl) DW.mg DW.kp DW.b .nil pass0 (pa_cons (pv 2) (pa_cons pe_int (pa_cons (pe_glob (v := .int 6) (by rfl) mg1 ⟨_, rfl⟩) pa_nil)))))) (pss_one ps_never) pss_nil)
      (pss_cons (ps_fld (pv 0) (pv 1) rfl) (pss_cons (ps_fld (pv 0) (pv 2) rfl)
      (pss_one (ps_fld (pv 0) (pe_call GC hr (by rfl) DC.mg DC.kp DC.b .nil pass0 (pa_cons (pe_callB call_len_str (by rfl) T.len PySem.boot_len (pa_cons (pv 1) pa_nil)) (pa_cons (pv 2) pa_nil))) rfl))))), ?_⟩
    have hl : z.length ≤ 26 := hz.2.1
    have hline : sizeLine = 16777216 := sizeLine_eq
    refine ⟨_, rfl, _, rfl, .inl ⟨z, rfl, by omega, fun H1 s1 => ⟨_, rfl, ?_⟩⟩⟩
    rw [decide_eq_true hz]
    refine iteF ?_
    refine ⟨_, rfl, _, _, _, rfl, .inl ⟨n, rfl, _, rfl, ?_⟩⟩
    rw [decide_eq_true (show 1 ≤ n ∧ n ≤ 6 from ⟨n0, n1⟩)]
    refine iteF ?_
    have hp1 := s1 _ _ hp
    refine ⟨_, rfl, _, rfl, p, C, dx, _, rfl, hp1, TC.cl, TC.nL, by show 0 < 1000; decide, ?_⟩
    refine ⟨_, rfl, _, rfl, p, C, dx, _, rfl, upd_same, TC.cl, TC.nN, by show 1 < 1000; decide, ?_⟩
    refine ⟨_, rfl, _, rfl, by omega, _, rfl, _, _, rfl, by omega, by omega, by omega, n1, ?_⟩
    refine ⟨_, rfl, p, C, dx, _, rfl, upd_same, TC.cl, TC.nS, (by rw [pf2_eq]; show 2 < 1000; decide), ?_⟩
    refine q _ ?_ ⟨dx, upd_same⟩
    exact (But.of s1).trans (But.upd.trans (But.upd.trans But.upd))
theorem digit_len {n : Int} (h0 : 1 ≤ n) (h1 : n ≤ 6) : (digit n).length = 1 := by
  have : n = 1 ∨ n = 2 ∨ n = 3 ∨ n = 4 ∨ n = 5 ∨ n = 6 := by omega
  rcases this with rfl | rfl | rfl | rfl | rfl | rfl <;> decide +kernel
theorem digit_log {n : Int} (h0 : 1 ≤ n) (h1 : n ≤ 6) : n.natAbs.log2 < 1920 := by
  have : n = 1 ∨ n = 2 ∨ n = 3 ∨ n = 4 ∨ n = 5 ∨ n = 6 := by omega
  rcases this with rfl | rfl | rfl | rfl | rfl | rfl <;> decide +kernel
theorem app_len (a b : Str) : (a ++ b).length = a.length + b.length := by
  rw [← str_len, ← str_len, ← str_len, ← List.length_append]
  exact congrArg List.length (TL.tl_append a b)
theorem empty_app (a : Str) : Str.empty ++ a = a := TL.ext_tl (by rw [TL.tl_append]; rfl)
theorem ty_board {C p dx : Addr} {H : Hp} {fs : List (Str × V)} (T : TxC K mg C) (h : H p = some (.ins C dx fs)) : TyX K H (.ref p) (.ref C) := .base (.ins h T.cl T.ac T.gt T.tk T.ob)
theorem scE : FnScope ["self", "other"] ["self", "other"] (defScope sEq) := ⟨rfl, rfl, rfl, by decide +kernel, rfl, by decide +kernel, by decide +kernel⟩
theorem ok_eq {f C : Addr} {fd : FuncData} (F : Fun K "__eq__" "Board.__eq__" sEq f fd) (T : TxW mg) (TC : TxC K mg C) : FnOk P w K mg base CX0 1 f fd ["self", "other"] (spEqB K C) := by
  refine F.ok scE (fun vs H Q E h => ?_) (fun cdv A outer s H vs Q E hr h => ?_)
  · obtain ⟨p, s, n, y, rfl, _⟩ := h
    rfl
  · obtain ⟨p, z, n, y, rfl, ⟨dx, hp⟩, hz, h⟩ := h
    refine ⟨_, pss_one (ps_ret (pe_and (pe_callB call_isi (by rfl) T.isi (by decide +kernel) (pa_cons (pv 1) (pa_cons (pe_glob (v := .ref C) (by rfl) TC.mgC rfl) pa_nil)))
      (pe_and (pe_cmpR op_eq (pe_fld (pv 0) rfl) (pe_fld (pv 1) rfl) (nomark _)) (pe_one (pe_cmpR op_eq (pe_fld (pv 0) rfl) (pe_fld (pv 1) rfl) (nomark _)))))), ?_⟩
    rcases h with ⟨q, z', n', rfl, ⟨dy, hq⟩, hz', k⟩ | ⟨t, ty, no, k⟩
    · refine ⟨_, rfl, _, _, _, _, _, rfl, .own C, ty_board TC hq, TC.own, _, rfl, ?_⟩
      refine iteT ⟨_, rfl, p, C, dx, _, _, rfl, hp, TC.cl, TC.nL, bf_letters z n, _, rfl, q, C, dy, _, _, rfl, hq, TC.cl, TC.nL, bf_letters z' n', rfl, _, rfl, ?_⟩
      refine ite2 (fun e => ?_) (fun e => ?_)
      · refine ⟨_, rfl, p, C, dx, _, _, rfl, hp, TC.cl, TC.nN, bf_length z n, _, rfl, q, C, dy, _, _, rfl, hq, TC.cl, TC.nN, bf_length z' n', rfl, ?_⟩
        have e := V.str.inj (of_decide_eq_true e)
        have e2 : decide (z = z' ∧ n = n') = decide (V.int n = V.int n') := decide_eq_decide.mpr ⟨fun x => by rw [x.2], fun x => ⟨e, V.int.inj x⟩⟩
        rw [e2] at k
        exact k
      · have e2 : decide (z = z' ∧ n = n') = false := decide_eq_false fun x => e (decide_eq_true (by rw [x.1]))
        rw [e2] at k
        exact k
    · exact ⟨_, rfl, _, _, _, _, _, rfl, .own C, ty, no, _, rfl, iteF k⟩
theorem scS : FnScope ["self"] ["self"] (defScope sStr) := ⟨rfl, rfl, rfl, by decide +kernel, rfl, by decide +kernel, by decide +kernel⟩
theorem ok_str {f C : Addr} {fd : FuncData} (F : Fun K "__str__" "Board.__str__" sStr f fd) (TC : TxC K mg C) : FnOk P w K mg base CX0 1 f fd ["self"] (spStr C) := by
  refine F.ok scS (fun vs H Q E h => ?_) (fun cdv A outer s H vs Q E hr h => ?_)
  · obtain ⟨p, s, n, rfl, _⟩ := h
    rfl
  · obtain ⟨p, z, n, rfl, ⟨dx, hp⟩, hz, n0, n1, q⟩ := h
    refine ⟨_, pss_one (ps_ret (pe_joined (.cons (pe_fmt (pe_fld (pv 0) rfl)) (.cons pe_str (.cons (pe_fmt (pe_fld (pv 0) rfl)) .nil))))), ?_⟩
    have hline : sizeLine = 16777216 := sizeLine_eq
    have d := digit_len n0 n1
    refine ⟨_, rfl, p, C, dx, _, _, rfl, hp, TC.cl, TC.nL, bf_letters z n, .inl ⟨z, rfl, by omega, z, rfl, by rw [empty_app]; omega, ?_⟩⟩
    refine ⟨_, rfl, by rw [empty_app, app_len]; have : (Str.ofString " ").length = 1 := rfl; omega, ?_⟩
    refine ⟨_, rfl, p, C, dx, _, _, rfl, hp, TC.cl, TC.nN, bf_length z n, .inr ⟨n, rfl, digit_log n0 n1, digit n, rfl, ?_, ?_⟩⟩
    · rw [empty_app, app_len, app_len]; have : (Str.ofString " ").length = 1 := rfl; omega
    · show Q (.str (Str.empty ++ z ++ Str.ofString " " ++ digit n)) H
      rw [empty_app]
      exact q
theorem scR : FnScope ["self"] ["self"] (defScope sRepr) := ⟨rfl, rfl, rfl, by decide +kernel, rfl, by decide +kernel, by decide +kernel⟩
theorem ok_repr {f C : Addr} {fd : FuncData} (F : Fun K "__repr__" "Board.__repr__" sRepr f fd) (TC : TxC K mg C) : FnOk P w K mg base CX0 1 f fd ["self"] (spRepr C) := by
  refine F.ok scR (fun vs H Q E h => ?_) (fun cdv A outer s H vs Q E hr h => ?_)
  · obtain ⟨p, s, n, rfl, _⟩ := h
    rfl
  · obtain ⟨p, z, n, rfl, ⟨dx, hp⟩, hz, n0, n1, q⟩ := h
    refine ⟨_, pss_one (ps_ret (pe_joined (.cons pe_str (.cons (pe_fmt (pe_fld (pv 0) rfl)) (.cons pe_str (.cons (pe_fmt (pe_fld (pv 0) rfl)) (.cons pe_str .nil))))))), ?_⟩
    have hline : sizeLine = 16777216 := sizeLine_eq
    have d := digit_len n0 n1
    have l1 : (Str.ofString " ").length = 1 := rfl
    have l2 : (Str.ofString "Board(").length = 6 := rfl
    have l3 : (Str.ofString ")").length = 1 := rfl
    refine ⟨_, rfl, by rw [empty_app, l2]; omega, ?_⟩
    refine ⟨_, rfl, p, C, dx, _, _, rfl, hp, TC.cl, TC.nL, bf_letters z n, .inl ⟨z, rfl, by omega, z, rfl, by rw [empty_app, app_len, l2]; omega, ?_⟩⟩
    refine ⟨_, rfl, by rw [empty_app, app_len, app_len, l1, l2]; omega, ?_⟩
    refine ⟨_, rfl, p, C, dx, _, _, rfl, hp, TC.cl, TC.nN, bf_length z n, .inr ⟨n, rfl, digit_log n0 n1, digit n, rfl, by rw [empty_app, app_len, app_len, app_len, l1, l2]; omega, ?_⟩⟩
    refine ⟨_, rfl, by rw [empty_app, app_len, app_len, app_len, app_len, l1, l2, l3]; omega, ?_⟩
    show Q (.str (Str.empty ++ Str.ofString "Board(" ++ z ++ Str.ofString " " ++ digit n ++ Str.ofString ")")) H
    rw [empty_app]
    exact q
end
end Gm

namespace Gm
open PySem L2
/-- the text of these codes -/
abbrev tx (l : List Nat) : Str := ⟨l.toArray⟩
theorem tx_len (l : List Nat) : (tx l).length = l.length := by simp [Str.length]
theorem cut_pre (z : Str) (i : Nat) (h : i ≤ z.length) : cutS z none (some (i : Int)) = tx (z.cps.toList.take i) := by
  unfold cutS
  rw [HT.sIx_none, HT.sIx_nat, Nat.min_eq_left h]
  rfl
theorem cut_suf (z : Str) (i : Nat) (h : i ≤ z.length) : cutS z (some (i : Int)) none = tx (z.cps.toList.drop i) := by
  unfold cutS
  rw [HT.sIx_none, HT.sIx_nat, Nat.min_eq_left h]
  have e : (z.cps.toList.drop i).length = z.length - i := by rw [List.length_drop, str_len]
  rw [← e, List.take_length]
theorem alph_take : ∀ m : Fin 27, 2 ≤ m.val → Alph (tx (low.take m.val)) := by decide +kernel
theorem low_sorted : low.Pairwise (· < ·) := by decide +kernel
theorem sorted_eq : ∀ (l1 l2 : List Nat), l1.Pairwise (· < ·) → l2.Pairwise (· < ·) → (∀ x, x ∈ l1 ↔ x ∈ l2) → l1 = l2
  | [], [], _, _, _ => rfl
  | [], b :: l2, _, _, h => by have := (h b).mpr List.mem_cons_self; cases this
  | a :: l1, [], _, _, h => by have := (h a).mp List.mem_cons_self; cases this
  | a :: l1, b :: l2, h1, h2, h => by
    have p1 := List.pairwise_cons.mp h1
    have p2 := List.pairwise_cons.mp h2
    have e : a = b := by
      have ha := (h a).mp List.mem_cons_self
      have hb := (h b).mpr List.mem_cons_self
      rcases List.mem_cons.mp ha with e | ha
      · exact e
      · rcases List.mem_cons.mp hb with e | hb
        · exact e.symm
        · have := p1.1 b hb
          have := p2.1 a ha
          omega
    subst e
    rw [sorted_eq l1 l2 p1.2 p2.2 fun x => ⟨fun m => ?_, fun m => ?_⟩]
    · rcases List.mem_cons.mp ((h x).mp (List.mem_cons_of_mem _ m)) with e | q
      · have := p1.1 x m
        omega
      · exact q
    · rcases List.mem_cons.mp ((h x).mpr (List.mem_cons_of_mem _ m)) with e | q
      · have := p2.1 x m
        omega
      · exact q
/-- letters that ascend are an alphabet -/
theorem alph_of {zs : List Nat} (hs : zs.Pairwise (· < ·)) (hl : ∀ c ∈ zs, c ∈ low) (h0 : 2 ≤ zs.length) (h1 : zs.length ≤ 26) : Alph (tx zs) := by
  refine ⟨by rw [tx_len]; exact h0, by rw [tx_len]; exact h1, ?_⟩
  show zs = low.filter fun c => decide (c ∈ (tx zs).cps.toList)
  refine sorted_eq _ _ hs (low_sorted.sublist List.filter_sublist) fun x => ?_
  rw [List.mem_filter]
  show x ∈ zs ↔ x ∈ low ∧ decide (x ∈ zs) = true
  exact ⟨fun h => ⟨hl x h, decide_eq_true h⟩, fun h => of_decide_eq_true h.2⟩
abbrev one (c : Nat) : Str := ⟨#[c]⟩
def codeOf (s : Str) : Nat := s.cps.toList.headD 0
/-- what sorted leaves of signs -/
theorem sorted_one {fs : List Nat} {ys : List Str} (hp : ys.Perm (fs.map one)) : ∃ zs : List Nat, zs.Perm fs ∧ ys = zs.map one := by
  refine ⟨ys.map codeOf, ?_, ?_⟩
  · have := hp.map codeOf
    rw [List.map_map] at this
    have e : fs.map (codeOf ∘ one) = fs := by
      have : (codeOf ∘ one) = id := by funext c; rfl
      rw [this, List.map_id]
    rw [e] at this
    exact this
  · rw [List.map_map]
    have : ∀ y ∈ ys, (one ∘ codeOf) y = y := fun y hy => by
      obtain ⟨c, _, rfl⟩ := List.mem_map.mp (hp.mem_iff.mp hy)
      rfl
    exact (List.map_congr_left this |>.trans (List.map_id' ys)).symm
open PyProof.Rows in
theorem rising_le : ∀ (zs : List Nat) (a : Nat), risingS (one a) (zs.map one) = true → (a :: zs).Pairwise (· ≤ ·)
  | [], a, _ => List.pairwise_singleton _ _
  | b :: zs, a, h => by
    have h' : (!Spec.ltCps [b] [a] && risingS (one b) (zs.map one)) = true := h
    rw [Bool.and_eq_true] at h'
    have ih := rising_le zs b h'.2
    have e : a ≤ b := by
      refine Nat.le_of_not_lt fun q => ?_
      have : Spec.ltCps [b] [a] = true := by simp [Spec.ltCps, q]
      rw [this] at h'
      exact absurd h'.1 (by decide)
    refine List.pairwise_cons.mpr ⟨fun c hc => ?_, ih⟩
    rcases List.mem_cons.mp hc with rfl | hc
    · exact e
    · exact Nat.le_trans e ((List.pairwise_cons.mp ih).1 c hc)
open PyProof.Rows in
theorem sorted_le {zs : List Nat} (h : sortedS (zs.map one) = true) : zs.Pairwise (· ≤ ·) := by
  cases zs with
  | nil => exact List.Pairwise.nil
  | cons a zs => exact rising_le zs a h
theorem strict {zs : List Nat} (h : zs.Pairwise (· ≤ ·)) (n : zs.Nodup) : zs.Pairwise (· < ·) := by
  refine (h.and n).imp fun ⟨a, b⟩ => ?_
  omega
theorem low_nodup : low.Nodup := by decide +kernel
theorem drawn_perm {fs l : List Nat} {i : Nat} {c : Nat} (h : (fs ++ l).Perm low) (hc : l[i]? = some c) : (fs ++ [c] ++ (l.take i ++ l.drop (i + 1))).Perm low := by
  refine List.Perm.trans ?_ h
  rw [List.append_assoc]
  refine List.Perm.append_left fs ?_
  have hi := (List.getElem?_eq_some_iff.mp hc).1
  have e : l = l.take i ++ c :: l.drop (i + 1) := by
    have := (List.getElem?_eq_some_iff.mp hc).2
    rw [← this, List.getElem_cons_drop, List.take_append_drop]
  have q : (c :: (l.take i ++ l.drop (i + 1))).Perm (l.take i ++ c :: l.drop (i + 1)) := List.perm_middle.symm
  rw [← e] at q
  exact q
theorem drawn_alph {fs lf : List Nat} {ys : List Str} (h : (fs ++ lf).Perm low) (h0 : 2 ≤ fs.length) (hp : ys.Perm (fs.map one)) (hs : PyProof.Rows.sortedS ys = true) : ∃ zs : List Nat, ys = zs.map one ∧ Alph (tx zs) ∧ zs.length = fs.length := by
  obtain ⟨zs, q, rfl⟩ := sorted_one hp
  have nd : fs.Nodup := (List.nodup_append.mp (h.nodup_iff.mpr low_nodup)).1
  have hl := h.length_eq
  rw [List.length_append, low_len] at hl
  refine ⟨zs, rfl, alph_of (strict (sorted_le hs) (q.nodup_iff.mpr nd)) (fun c hc => h.mem_iff.mp (List.mem_append_left _ (q.mem_iff.mp hc))) (by rw [q.length_eq]; exact h0) (by rw [q.length_eq]; omega), q.length_eq⟩
end Gm

/-! marks as lists of codes: the mirror of marks_of -/
namespace Gm
def un (g w : List Nat) : List Nat := ((g.zip w).filter fun p => !decide (p.1 = p.2)).map (·.2)
def go : List (Nat × Nat) → List Nat → List Nat
  | [], _ => []
  | (a, b) :: r, u => if a = b then 50 :: go r u else if a ∈ u then 49 :: go r (u.erase a) else 48 :: go r u
def mk (g w : List Nat) : List Nat := go (g.zip w) (un g w)
theorem drop_at {α : Type} {l : List α} {i : Nat} {x : α} (h : l[i]? = some x) : l.drop i = x :: l.drop (i + 1) := by
  have hi := (List.getElem?_eq_some_iff.mp h).1
  have e := (List.getElem?_eq_some_iff.mp h).2
  rw [← e, List.getElem_cons_drop]
theorem zip_at {g w : List Nat} {i c e : Nat} (h1 : g[i]? = some c) (h2 : w[i]? = some e) : (g.zip w)[i]? = some (c, e) := by
  rw [List.getElem?_zip_eq_some]
  exact ⟨h1, h2⟩
theorem take_map_filter {l : List (Nat × Nat)} {i : Nat} {x : Nat × Nat} (p : Nat × Nat → Bool) (f : Nat × Nat → Nat) (h : l[i]? = some x) :
    ((l.take (i + 1)).filter p).map f = ((l.take i).filter p).map f ++ (if p x = true then [f x] else []) := by
  have hi := (List.getElem?_eq_some_iff.mp h).1
  have e := (List.getElem?_eq_some_iff.mp h).2
  rw [List.take_succ_eq_append_getElem hi, e, List.filter_append, List.map_append]
  congr 1
  by_cases c : p x = true
  · rw [if_pos c]; simp [c]
  · rw [if_neg c]; simp [c]
theorem go_length : ∀ (l : List (Nat × Nat)) (u : List Nat), (go l u).length = l.length
  | [], _ => rfl
  | (a, b) :: r, u => by
    unfold go
    split
    · rw [List.length_cons, go_length r u, List.length_cons]
    · split <;> rw [List.length_cons, go_length r _, List.length_cons]
end Gm

namespace L2
open PySem PySem.Spec PyProof.Rows
/-- two texts, sign by sign, in new pairs -/
def Itzs (x y : Str) : It :=
  ⟨fun i _ => i < x.cps.size ∧ i < y.cps.size,
    fun i H v H' => ∃ (T : Addr) (c e : Nat), v = .ref T ∧ H T = none ∧ H' = upd H T (.tup [.str ⟨#[c]⟩, .str ⟨#[e]⟩]) ∧ x.cps[i]? = some c ∧ y.cps[i]? = some e,
    fun i _ => i = x.cps.size ∧ i = y.cps.size⟩
theorem zs_sep (n : Nat) : ZipSep2 (n + 4) (n + 2) (n + 3) n (n + 1) [n] [n + 1] := by
  constructor <;> first | (simp; done) | (refine PySem.W.neN ?_; omega) | (simp; omega)
theorem turn_zips {P : Program} {w : World} {K : PySem.W.Frag} {elts : List Expr} {kk : Nat} {tpos : Pos} {z TI TO i1 i2 : Addr} {x y : Str} {t1 t2 : Tok} (D : ZipSep2 z TI TO i1 i2 [i1] [i2]) :
    Turn P w K (.Tuple elts kk tpos) (Itzs x y) [z, TI, TO, i1, i2] z (fun i h => IsZip h z TI TO .none ∧ IsTupOf2 h TI (.ref i1) (.ref i2) ∧ (∃ a b, IsTupOf2 h TO a b) ∧ h.IsStrIter i1 (strIterType x) x t1 i ∧ h.IsStrIter i2 (strIterType y) y t2 i) where
  mem := by simp
  obj := fun i h st c hc => by
    obtain ⟨hz, hTI, ⟨a, b, hTO⟩, ⟨o1, e1, _, d1⟩, ⟨o2, e2, _, d2⟩⟩ := st
    have q : c = z ∨ c = TI ∨ c = TO ∨ c = i1 ∨ c = i2 := by simpa using hc
    rcases q with rfl | rfl | rfl | rfl | rfl
    · exact ⟨_, hz, fun v q => nomatch q⟩
    · exact ⟨_, hTI, fun v q => nomatch q⟩
    · exact ⟨_, hTO, fun v q => nomatch q⟩
    · exact ⟨o1, e1, fun v q => by rw [d1] at q; cases q⟩
    · exact ⟨o2, e2, fun v q => by rw [d2] at q; cases q⟩
  keep := fun i h h' st k => by
    obtain ⟨hz, hTI, ⟨a, b, hTO⟩, ⟨o1, e1, r1⟩, ⟨o2, e2, r2⟩⟩ := st
    exact ⟨k z (by simp) _ hz, k TI (by simp) _ hTI, ⟨a, b, k TO (by simp) _ hTO⟩, ⟨o1, k i1 (by simp) _ e1, r1⟩, ⟨o2, k i2 (by simp) _ e2, r2⟩⟩
  item := by
    intro X hP hw hK hc i pins s σ H E I hf st hg
    subst hP hw hK
    obtain ⟨hz, hTI, ⟨a0, b0, hTO⟩, h1, h2⟩ := st
    have lz : z < s.heap.objs.size := Heap.lt_size hz
    refine wpAny_pyNext_zipD2_item (St1 := fun i h => h.IsStrIter i1 (strIterType x) x t1 i) (St2 := fun i h => h.IsStrIter i2 (strIterType y) y t2 i) D (Draws.text (A := X.A.in1) (show X.A.in1.handled = none from I.ok.hd hc) i1 x t1) (Draws.text (A := X.A.in1) (show X.A.in1.handled = none from I.ok.hd hc) i2 y t2) hz hTI hTO h1 h2 hg.1 hg.2 fun u u2 h' tk p1 p2 z' TO' h1' h2' hT hsz hk => ?_
    obtain ⟨c, v1, hcx, rfl⟩ := p1
    obtain ⟨e, v2, hey, rfl⟩ := p2
    refine ⟨_, rfl, wpAny_letOwnedTupleGo_zip (s := { s with heap := h', toks := tk }) z' fun g z'' sb => ?_⟩
    have hT2 := (sb.2 _ (Nat.ne_of_gt lz)).trans hT
    have fresh : ObjOk X.prog X.w (upd H s.heap.objs.size (.tup [.str ⟨#[c]⟩, .str ⟨#[e]⟩])) g s.heap.objs.size (.tup [.str ⟨#[c]⟩, .str ⟨#[e]⟩]) :=
      ⟨by show 2 ≤ sizeLine; decide, _, .cons ⟨v1, rfl⟩ (.cons ⟨v2, rfl⟩ .nil), ⟨_, hT2, rfl, _, rfl⟩⟩
    have J : Inv X pins σ (upd H s.heap.objs.size (.tup [.str ⟨#[c]⟩, .str ⟨#[e]⟩])) { s with heap := g, toks := tk } := by
      refine I.turnedNew (ch := [z, TI, TO, i1, i2]) (fun b o hb q => ?_) hf (Nat.le_refl _) fresh
      have nb : b ≠ z ∧ b ≠ TI ∧ b ≠ TO ∧ b ≠ i1 ∧ b ≠ i2 := by simpa using hb
      exact (sb.2 b nb.1).trans (hk b o nb.1 nb.2.2.1 nb.2.2.2.1 nb.2.2.2.2 q)
    refine ⟨.ref s.heap.objs.size, _, J, rfl, ⟨_, c, e, rfl, I.hok.fresh (Nat.le_refl _), rfl, hcx, hey⟩, ⟨z'', ?_, ⟨_, _, (sb.2 _ D.TOz).trans TO'⟩, ?_, ?_⟩, fun b hb => ?_⟩
    · exact (sb.2 _ D.TIz).trans (hk _ _ D.TIz D.TITO D.TIi1 D.TIi2 hTI)
    · obtain ⟨o1, e1, r1⟩ := h1'
      exact ⟨o1, (sb.2 _ D.zi1.symm).trans e1, r1⟩
    · obtain ⟨o2, e2, r2⟩ := h2'
      exact ⟨o2, (sb.2 _ D.zi2.symm).trans e2, r2⟩
    · have hlt : b < s.heap.objs.size := by
        have q : b = z ∨ b = TI ∨ b = TO ∨ b = i1 ∨ b = i2 := by simpa using hb
        obtain ⟨o1, e1, _⟩ := h1
        obtain ⟨o2, e2, _⟩ := h2
        rcases q with rfl | rfl | rfl | rfl | rfl
        · exact lz
        · exact Heap.lt_size hTI
        · exact Heap.lt_size hTO
        · exact Heap.lt_size e1
        · exact Heap.lt_size e2
      rw [upd_ne (Nat.ne_of_lt hlt)]
      exact (hf b hb).1
  done := by
    intro X hP hw hK hc i pins s σ H E I hf st hg
    subst hP hw hK
    obtain ⟨hz, hTI, ⟨a0, b0, hTO⟩, h1, h2⟩ := st
    refine wpAny_pyNext_zipD2_end (St1 := fun i h => h.IsStrIter i1 (strIterType x) x t1 i) (St2 := fun i h => h.IsStrIter i2 (strIterType y) y t2 i) D (Draws.text (A := X.A.in1) (show X.A.in1.handled = none from I.ok.hd hc) i1 x t1) (Draws.text (A := X.A.in1) (show X.A.in1.handled = none from I.ok.hd hc) i2 y t2) hz hTI hTO h1 h2 (Nat.le_of_eq hg.1) (Nat.le_of_eq hg.2) (.inl hg.1) fun h' tk hk => ⟨rfl, I.turnedL (ch := [z, TI, TO, i1, i2]) (fun b o hb q => ?_) hf⟩
    have nb : b ≠ z ∧ b ≠ TI ∧ b ≠ TO ∧ b ≠ i1 ∧ b ≠ i2 := by simpa using hb
    exact hk b o nb.1 nb.2.2.1 nb.2.2.2.1 nb.2.2.2.2 q
  self := fun A i s Q E st h => wpAny_pyIter_zip st.1 h
def iZips (ta : TA) : TI := fun σ H R => ta σ H fun vs H1 => ∃ x y, vs = [.str x, .str y] ∧ x.cps.size = y.cps.size ∧ R (Itzs x y) H1
theorem pi_zips {X : Cx} {e e2 : Expr} {ta : TA} {p pos tpos : Pos} {elts : List Expr} {kk : Nat} (hg : Gl X "zip") (hm : X.mg "zip" = none) (ha : PA X [e, e2] ta)
    (hs : starEach [e, e2] X.env = (false, eval e X.env) :: starEach [e2] X.env := by rfl) (hpl : (backTo pos (starEach [e2] X.env)).any (·.1) = false := by rfl) :
    PI X (.Tuple elts kk tpos) (.Call (.Name "zip" p) [e, e2] [] pos) (iZips ta) := by
  refine ⟨fun pins s σ H R I h => ?_⟩
  refine Call_ (ld_blt I hg hm PyProof.Rows.boot_zip (PyProof.Rows.callWith_type1 (thn (ha.run pos pins s σ H _ I h) fun us s1 hh => ?_) hs hpl))
  obtain ⟨vs, H1, I1, r1, x, y, rfl, hxy, q⟩ := hh
  cases r1 with
  | cons r rr =>
    cases rr with
    | cons r' rr =>
      cases rr
      obtain ⟨t1, rfl⟩ := r
      obtain ⟨t2, rfl⟩ := r'
      refine zip_begins2 (begins_text x t1) (begins_text y t2) trivial trivial fun h' hz hTI hTO h1 h2 hsz hk => wpAny_pyIter_zip hz ?_
      have J : Inv X pins σ H1 { s1 with heap := h' } := I1.kept (t' := s1.toks) hk
      refine ⟨s1.heap.objs.size + 4, [s1.heap.objs.size + 4, s1.heap.objs.size + 2, s1.heap.objs.size + 3, s1.heap.objs.size, s1.heap.objs.size + 1], _, _, H1, rfl, J, turn_zips (t1 := t1) (t2 := t2) (zs_sep s1.heap.objs.size), ⟨hz, hTI, ⟨_, _, hTO⟩, ⟨_, h1, rfl, rfl⟩, ⟨_, h2, rfl, rfl⟩⟩, fun b hb => ?_, q⟩
      have hle : s1.heap.objs.size ≤ b := by
        have q : b = s1.heap.objs.size + 4 ∨ b = s1.heap.objs.size + 2 ∨ b = s1.heap.objs.size + 3 ∨ b = s1.heap.objs.size ∨ b = s1.heap.objs.size + 1 := by simpa using hb
        rcases q with rfl | rfl | rfl | rfl | rfl
        · exact Nat.le_add_right _ _
        · exact Nat.le_add_right _ _
        · exact Nat.le_add_right _ _
        · exact Nat.le_refl _
        · exact Nat.le_add_right _ _
      exact I1.fpOk hle (I1.hok.fresh hle)
theorem walk_zips {x y : Str} (hxy : x.cps.size = y.cps.size) : Walk (Itzs x y) x.cps.size (fun _ => True) (fun i H v H' => ∃ (T : Addr) (c e : Nat), v = .ref T ∧ H T = none ∧ H' = upd H T (.tup [.str ⟨#[c]⟩, .str ⟨#[e]⟩]) ∧ x.cps[i]? = some c ∧ y.cps[i]? = some e) :=
  ⟨fun i _ hi _ => ⟨hi, hxy ▸ hi⟩, fun _ _ => ⟨rfl, hxy⟩, fun _ _ _ _ _ _ y => y⟩
end L2

namespace L2
open PySem PySem.Spec PyProof.Rows
section
variable {X : Cx} {CX : CXT} {k : Nat} {f : Addr} {fd : FuncData} {ps ks : List Str} {sp : Sp} {E : XK} {x : Str} {p pos : Pos} {kws : List Keyword} {tk : TA} {g : List Value → List Value → List Value} {gV : List V → List V → List V}
/-- f(k = v, ..), keywords alone -/
theorem pe_callK0 (F : FnOk X.prog X.w X.K X.mg X.base CX k f fd ps sp) (hr : Room k X.A) (hg : Gl X x) (hm : X.mg x = some (.ref f)) (hk : PySem.W.keepIn X.K (.ref f) = true) (hb : KBinds X.K fd ps ks g gV) (hx : Passes CX X E) (hkw : PK X kws tk)
    (hall : (backToKw pos (keywordEach kws X.env)).all (·.1.isSome) = true := by rfl) (hks : (backToKw pos (keywordEach kws X.env)).filterMap (·.1) = ks := by rfl) (hdb : (x == ("__debug__" : Str)) = false := by decide)
    (hpl : ((backTo pos (starEach [] X.env)).any (·.1) || (backToKw pos (keywordEach kws X.env)).any (·.1.isNone)) = false := by rfl) : PE X (.Call (.Name x p) [] kws pos) (tCallK sp gV E tNil tk) := by
  refine ⟨fun pins s σ H Q I h => wpAny_Call_Name_kw (ld_glob I hg hm ?_ hdb)⟩
  refine PySem.W.callWith_KW0 (h₀ := X.base) I.ok.mod.kin hk hall (thn (hkw.run pos pins s σ H _ I h) fun ws s2 hh => ?_) hpl
  obtain ⟨zs, H2, I2, rz, q2⟩ := hh
  refine ⟨I2.kIn, ?_⟩
  rw [hks]
  exact run_fnk (us := []) (vs := []) F hr hb hx I2 .nil rz q2
end
/-- list.remove of a text that is there -/
def rRemS : V → List V → Hp → VK → Prop := fun x xs H Q => ∃ (l : Addr) (ss : List Str) (k : Str) (j : Nat), x = .ref l ∧ xs = [.str k] ∧ H l = some (.lst (ss.map V.str)) ∧ ss[j]? = some k ∧ (∀ m : Nat, m < j → ss[m]? ≠ some k) ∧ Q .non (upd H l (.lst ((ss.eraseIdx j).map V.str)))
def eqs (k : Str) (v : Value) : Bool := match v with
  | .str n _ => n.cps.toList == k.cps.toList
  | _ => false
theorem erase_mapS : ∀ (l : List Str) (j : Nat), (l.map V.str).eraseIdx j = (l.eraseIdx j).map V.str
  | [], j => by simp
  | a :: r, 0 => by simp
  | a :: r, j + 1 => by simp [erase_mapS r j]
theorem eqs_gives {k : Str} {t : Tok} : ∀ {us : List Value} {ss : List Str}, Vals (ss.map V.str) us → ∀ y ∈ us, MeetsSeq.EqGives y (.str k t) (eqs k y)
  | _, [], .nil => fun y hy => by cases hy
  | _, n :: ss, .cons ⟨t', e⟩ h => fun y hy => by
    rcases List.mem_cons.mp hy with q | q
    · rw [q, e]
      exact SeqRoads2.EqGives.str n k t' t
    · exact eqs_gives h y q
theorem mt_removeS {X : Cx} : MtM X "list.remove" rRemS := by
  intro pins s σ H x xs v us Q I rx rxs h
  obtain ⟨l, ss, k, j, rfl, rfl, hH, hj, hno, q⟩ := h
  cases rx
  obtain ⟨u, rfl, t, rfl⟩ := rxs.one
  obtain ⟨z, its, n, r, hl, e⟩ := I.lstM hH
  have len := r.length
  rw [List.length_map] at hl z len
  have hjn : j < ss.length := (List.getElem?_eq_some_iff.mp hj).1
  have item : ∀ m (hm : m < ss.length) (hm' : m < its.toArray.size), ∃ tm, its.toArray[m] = .str ss[m] tm := fun m hm hm' => by
    obtain ⟨u, hu, ru⟩ := r.get (i := m) (x := V.str ss[m]) (by rw [List.getElem?_map, List.getElem?_eq_getElem hm]; rfl)
    obtain ⟨tm, rfl⟩ := ru
    exact ⟨tm, by simpa using (List.getElem?_eq_some_iff.mp hu).2⟩
  have sz : its.toArray.size = its.length := by simp
  have hjl : j < its.toArray.size := by omega
  refine call_meets PySem.F.slot_list_remove ⟨_, e, rfl⟩ PySem.F.entry_list_remove (PySem.F.args_list_remove_2 _ _)
    (MeetsSeq.list_remove l its.toArray n (.str k t) (eqs k) (fun y hy => eqs_gives r y (by simpa using hy)) j hjl ?_ ?_ (by omega)) ⟨e, ?_⟩
  · obtain ⟨tj, e1⟩ := item j hjn hjl
    have e2 : ss[j] = k := (List.getElem?_eq_some_iff.mp hj).2
    rw [e1, e2]
    exact beq_self_eq_true _
  · intro m hm hmj
    have hmn : m < ss.length := by omega
    obtain ⟨tm, e1⟩ := item m hmn hm
    rw [e1]
    refine beq_eq_false_iff_ne.mpr fun e2 => hno m hmj ?_
    rw [List.getElem?_eq_getElem hmn]
    exact congrArg some (TL.ext_tl e2)
  · have rr := r.eraseIdx j
    rw [erase_mapS] at rr
    refine ⟨.non, _, I.lset (its' := its.eraseIdx j) (t' := s.toks) hH e ?_ rr ?_, rfl, q⟩
    · show its.toArray.eraseIdxIfInBounds j = (its.eraseIdx j).toArray
      rw [List.eraseIdxIfInBounds_toArray]
    · have := List.length_eraseIdx_le ss j
      rw [List.length_map]
      omega
end L2

namespace Gm
open PySem L2
abbrev sMarksOf : Stmt := top 36
def spMarksOf : Sp := fun vs H Q _ => ∃ (g w : List Nat), vs = [.str (tx g), .str (tx w)] ∧ g.length = w.length ∧ g.length ≤ 6 ∧ ∀ H', Same H H' → Q (.str (tx (mk g w))) H'
theorem tx_app (a b : List Nat) : tx a ++ tx b = tx (a ++ b) := TL.ext_tl (TL.tl_append _ _)
theorem tx_at {g : List Nat} {i c : Nat} (h : (tx g).cps[i]? = some c) : g[i]? = some c := by simpa using h
theorem tx_size (g : List Nat) : (tx g).cps.size = g.length := by simp
theorem in_ones (a : Nat) (u : List Nat) : inV (.str (one a)) (u.map fun c => V.str (one c)) = decide (a ∈ u) := by
  induction u with
  | nil => rfl
  | cons b u ih =>
    have e : eqV (.str (one b)) (.str (one a)) = decide (a = b) := by
      show (one b == one a) = _
      by_cases h : a = b
      · subst h; simp
      · rw [decide_eq_false h]
        refine beq_eq_false_iff_ne.mpr fun q => h ?_
        have := congrArg (fun s : Str => s.cps.toList) q
        simpa using this.symm
    show (eqV (.str (one b)) (.str (one a)) || inV (.str (one a)) (u.map fun c => V.str (one c))) = _
    rw [ih, e]
    by_cases h : a = b <;> simp [h]
theorem flat_ones (u : List Nat) : (u.map fun c => V.str (one c)).all flatV = true := by
  rw [List.all_map, List.all_eq_true]
  exact fun c _ => rfl
theorem ones_inj {a b : Nat} (h : one a = one b) : a = b := by
  have := congrArg (fun s : Str => s.cps.toList) h
  simpa using this
/-- the first place of a in u -/
theorem first_at {u : List Nat} {a : Nat} (h : a ∈ u) : ∃ j, u[j]? = some a ∧ (∀ m : Nat, m < j → u[m]? ≠ some a) ∧ u.eraseIdx j = u.erase a := by
  induction u with
  | nil => cases h
  | cons b u ih =>
    by_cases hb : b = a
    · subst hb
      exact ⟨0, rfl, fun m hm => by omega, by simp⟩
    · have h' : a ∈ u := by
        rcases List.mem_cons.mp h with q | q
        · exact absurd q.symm hb
        · exact q
      obtain ⟨j, h1, h2, h3⟩ := ih h'
      refine ⟨j + 1, by simpa using h1, fun m hm => ?_, ?_⟩
      · cases m with
        | zero => simpa using hb
        | succ m => simpa using h2 m (by omega)
      · rw [List.erase_cons_tail (by simpa using hb)]
        simp [h3]
section
variable {P : Program} {w : World} {K : PySem.W.Frag} {mg : Str → Option Value} {base : Heap}
abbrev nM : List Str := ["guess", "word", "letter", "hidden", "unmatched", "told"]
theorem scMo : FnScope nM ["guess", "word"] (defScope sMarksOf) := ⟨rfl, rfl, rfl, by decide +kernel, rfl, by decide +kernel, by decide +kernel⟩
theorem ok_marksOf {f : Addr} {fd : FuncData} (F : Fun K "marks_of" "marks_of" sMarksOf f fd) (zip : mg "zip" = none) : FnOk P w K mg base CX0 1 f fd ["guess", "word"] spMarksOf := by
  refine F.ok scMo (fun vs H Q E h => ?_) (fun cdv A outer s H vs Q E hr h => ?_)
  · obtain ⟨g, w, rfl, _⟩ := h
    rfl
  · obtain ⟨g, w', rfl, hl, h6, q⟩ := h
    have nd := scMo.nd
    have hline : sizeLine = 16777216 := sizeLine_eq
    refine ⟨_, pss_cons (ps_setLc (i := 4) (own := [("letter", 2), ("hidden", 3)]) (g := gTup K 2 (gCons (gName 2) (gCons (gName 3) gNil))) (by rfl) nd rfl rfl (sw_true rfl rfl rfl (by decide +kernel))
        (pi_zips (by rfl) zip (pa_cons (pv 0) (pa_cons (pv 1) pa_nil))) (blkOk_by (own := [("letter", 2), ("hidden", 3)]) (N := nM) (sc := defScope sMarksOf) (by decide +kernel))
        (fun _ _ _ _ _ => by exact pg_tup (by rfl) (pgs_cons (pg_name (i := 2) nd rfl (Or.inl rfl)) (pgs_cons (pg_name (i := 3) nd rfl (Or.inl rfl)) pgs_nil)))
        (fun _ _ _ _ _ => pts_one (pt_cmpR op_ne (pv 2) (pv 3) (nomark _))) (fun _ _ _ _ _ => pv 3))
      (pss_cons (ps_set (i := 5) nd rfl (Or.inl rfl) pe_str)
      (pss_cons (ps_for PassesOwn.never rfl (pi_zips (by rfl) zip (pa_cons (pv 0) (pa_cons (pv 1) pa_nil))) (pg_tup (by rfl) (pgs_cons (pg_name (i := 2) nd rfl (Or.inl rfl)) (pgs_cons (pg_name (i := 3) nd rfl (Or.inl rfl)) pgs_nil)))
        (pss_one (ps_if (pt_cmpR op_eq (pv 2) (pv 3) (nomark _)) (pss_one (ps_aug (i := 5) nd rfl (Or.inl rfl) pe_str iop_add_str))
          (pss_one (ps_if (pt_cmpR op_in_seq (pv 2) (pv 4) rfl)
            (pss_cons (ps_expr (pe_bm PySem.F.plainAttrs_list PySem.F.slot_list_remove PySem.F.type_list_remove mt_removeS (pv 4) (pa_cons (pv 2) pa_nil))) (pss_one (ps_aug (i := 5) nd rfl (Or.inl rfl) pe_str iop_add_str)))
            (pss_one (ps_aug (i := 5) nd rfl (Or.inl rfl) pe_str iop_add_str)))))))
      (pss_one (ps_ret (pv 5))))), ?_⟩
    have sz : (tx g).cps.size = (tx w').cps.size := by rw [tx_size, tx_size, hl]
    refine ⟨_, rfl, _, rfl, tx g, tx w', rfl, sz, fun D hD => ?_⟩
    refine lc_it (walk_zips sz) (fun i H' => Same H H' ∧ H' D = some (.lst ((((g.zip w').take i).filter fun p => !decide (p.1 = p.2)).map fun p => V.str (one p.2)))) ⟨same_upd hD, upd_same⟩ (fun _ _ _ _ => trivial) ?_ ?_
    · rintro i x H1 H2 hi ⟨sm, hDi⟩ ⟨T, c, e, rfl, hT, rfl, hx, hy⟩
      have hz := zip_at (tx_at hx) (tx_at hy)
      have nDT : D ≠ T := ne_of_none hDi hT
      refine ⟨T, _, rfl, SqT.of upd_same, rfl, _, _, rfl, _, _, rfl, rfl, rfl, ?_⟩
      have ne_iff : decide (V.str (one c) = V.str (one e)) = decide (c = e) := decide_eq_decide.mpr ⟨fun q => ones_inj (V.str.inj q), fun q => by rw [q]⟩
      have st := take_map_filter (fun p => !decide (p.1 = p.2)) (fun p => p.2) hz
      have st' : (((g.zip w').take (i + 1)).filter fun p => !decide (p.1 = p.2)).map (fun p => V.str (one p.2)) = (((g.zip w').take i).filter fun p => !decide (p.1 = p.2)).map (fun p => V.str (one p.2)) ++ (if (!decide (c = e)) = true then [V.str (one e)] else []) := by
        have := congrArg (List.map fun a => V.str (one a)) st
        rw [List.map_append, List.map_map, List.map_map] at this
        refine this.trans (congrArg _ ?_)
        split <;> rfl
      have hD2 : upd H1 T (.tup [.str (one c), .str (one e)]) D = _ := (upd_ne nDT).trans hDi
      have sm2 : Same H (upd H1 T (.tup [.str (one c), .str (one e)])) := sm.trans (same_upd hT)
      refine ⟨_, rfl, _, rfl, rfl, _, rfl, ?_⟩
      rw [ne_iff]
      refine ite2 (fun hm => ?_) (fun hm => ?_)
      · rw [if_pos hm] at st'
        refine ⟨_, rfl, _, hD2, ?_, fun b o q => ?_, ?_⟩
        · have h1 := List.length_filter_le (fun p : Nat × Nat => !decide (p.1 = p.2)) ((g.zip w').take i)
          have h2 : ((g.zip w').take i).length ≤ 6 := by rw [List.length_take, List.length_zip]; omega
          rw [List.length_map]
          omega
        · rw [upd_ne (ne_of_none q hD)]
          exact sm2 b o q
        · rw [upd_same, st']
      · rw [if_neg hm, List.append_nil] at st'
        exact ⟨sm2, by rw [st']; exact hD2⟩
    rintro H1 ⟨sm, hD1⟩
    have eu : (((g.zip w').take (tx g).cps.size).filter fun p => !decide (p.1 = p.2)).map (fun p => V.str (one p.2)) = (un g w').map fun c => V.str (one c) := by
      rw [tx_size, List.take_of_length_le (by rw [List.length_zip]; omega)]
      unfold un
      rw [List.map_map]
      rfl
    rw [eu] at hD1
    refine ⟨_, rfl, _, rfl, tx g, tx w', rfl, sz, for_it (walk_zips sz) (fun i σ H' => ∃ (u t : List Nat) (v2 v3 : Option V), σ = [some (.str (tx g)), some (.str (tx w')), v2, v3, some (.ref D), some (.str (tx t))] ∧ Same H H' ∧
      H' D = some (.lst (u.map fun c => V.str (one c))) ∧ t ++ go ((g.zip w').drop i) u = mk g w' ∧ t.length = i ∧ u.length ≤ 6) ?_ (fun _ _ _ _ _ => trivial) ?_ ?_⟩
    · refine ⟨un g w', [], _, _, rfl, sm, hD1, rfl, rfl, ?_⟩
      have h1 := List.length_filter_le (fun p : Nat × Nat => !decide (p.1 = p.2)) (g.zip w')
      have h2 : (g.zip w').length ≤ 6 := by rw [List.length_zip]; omega
      unfold un
      rw [List.length_map]
      omega
    · rintro i x σ H2 H3 hi ⟨u, t, v2, v3, rfl, sm2, hD2, hgo, ht, hu⟩ ⟨T, c, e, rfl, hT, rfl, hx, hy⟩
      have hz := zip_at (tx_at hx) (tx_at hy)
      have nDT : D ≠ T := ne_of_none hD2 hT
      rw [drop_at hz] at hgo
      have eq_iff : decide (V.str (one c) = V.str (one e)) = decide (c = e) := decide_eq_decide.mpr ⟨fun q => ones_inj (V.str.inj q), fun q => by rw [q]⟩
      have hD3 : upd H2 T (.tup [.str (one c), .str (one e)]) D = _ := (upd_ne nDT).trans hD2
      have sm3 : Same H (upd H2 T (.tup [.str (one c), .str (one e)])) := sm2.trans (same_upd hT)
      have hi6 : i < g.length := by rw [tx_size] at hi; exact hi
      have tl : (tx t).length = i := by rw [tx_len, ht]
      have grow : ∀ (m : Nat) {r : List Nat}, t ++ m :: r = mk g w' → (t ++ [m]) ++ r = mk g w' := fun m r h => by rw [List.append_assoc]; exact h
      refine ⟨T, _, rfl, SqT.of upd_same, rfl, _, _, rfl, _, _, rfl, rfl, ?_⟩
      refine ⟨_, rfl, _, rfl, rfl, _, rfl, ?_⟩
      rw [eq_iff]
      refine ite2 (fun hm => ?_) (fun hm => ?_)
      · have hm := of_decide_eq_true hm
        refine ⟨_, rfl, _, _, rfl, rfl, by show (tx t).length + 1 ≤ sizeLine; omega, u, t ++ [50], some (.str (one c)), some (.str (one e)), ?_, sm3, hD3, ?_, by rw [List.length_append, ht]; rfl, hu⟩
        · rw [← tx_app]
          rfl
        · refine grow 50 ?_
          rw [go, if_pos hm] at hgo
          exact hgo
      · have hm : ¬ c = e := fun q => hm (decide_eq_true q)
        rw [go, if_neg hm] at hgo
        refine ⟨_, rfl, _, rfl, D, _, rfl, .inl (SqL.of hD3), rfl, flat_ones u, _, rfl, ?_⟩
        refine ite2 (fun hc => ?_) (fun hc => ?_)
        · have hc : c ∈ u := by
            have := (in_ones c u).symm.trans hc
            exact of_decide_eq_true this
          rw [if_pos hc] at hgo
          obtain ⟨j, j1, j2, j3⟩ := first_at hc
          have em : (u.map one).map V.str = u.map fun c => V.str (one c) := by rw [List.map_map]; rfl
          refine ⟨_, rfl, .inl ⟨rfl, _, SqL.of hD3⟩, _, rfl, D, u.map one, one c, j, rfl, rfl, by rw [em]; exact hD3, by rw [List.getElem?_map, j1]; rfl, fun m hm q => j2 m hm ?_, ?_⟩
          · rw [List.getElem?_map] at q
            cases e' : u[m]? with
            | none => rw [e'] at q; cases q
            | some b => rw [e'] at q; exact congrArg some (ones_inj (Option.some.inj q))
          have ee : (((u.map one).eraseIdx j).map V.str) = (u.erase c).map fun c => V.str (one c) := by
            rw [← j3]
            have : ∀ (l : List Nat) (j : Nat), (l.map one).eraseIdx j = (l.eraseIdx j).map one := by
              intro l
              induction l with
              | nil => intro j; simp
              | cons a l ih => intro j; cases j <;> simp [ih]
            rw [this, List.map_map]
            rfl
          refine ⟨_, rfl, _, _, rfl, rfl, by show (tx t).length + 1 ≤ sizeLine; omega, u.erase c, t ++ [49], some (.str (one c)), some (.str (one e)), ?_, fun b o q => ?_, ?_, grow 49 hgo, by rw [List.length_append, ht]; rfl, ?_⟩
          · rw [← tx_app]
            rfl
          · rw [upd_ne (ne_of_none q hD)]
            exact sm3 b o q
          · rw [upd_same, ee]
          · have := List.length_erase_le (a := c) (l := u)
            omega
        · have hc : ¬ c ∈ u := fun q => hc ((in_ones c u).trans (decide_eq_true q))
          rw [if_neg hc] at hgo
          refine ⟨_, rfl, _, _, rfl, rfl, by show (tx t).length + 1 ≤ sizeLine; omega, u, t ++ [48], some (.str (one c)), some (.str (one e)), ?_, sm3, hD3, grow 48 hgo, by rw [List.length_append, ht]; rfl, hu⟩
          rw [← tx_app]
          rfl
    · rintro σ H2 ⟨u, t, v2, v3, rfl, sm2, hD2, hgo, ht, hu⟩
      rw [tx_size, List.drop_of_length_le (by rw [List.length_zip]; omega)] at hgo
      have e : t = mk g w' := by
        rw [go, List.append_nil] at hgo
        exact hgo
      rw [e]
      exact ⟨_, rfl, q H2 sm2⟩
end
end Gm

/-! enumerate of a tuple, of a text -/
namespace PySem
open Builtin
set_option maxHeartbeats 1000000 in
theorem enum1_new {v : Value} {o : Obj} {H : Heap → Prop} (B : Begins v o H) :
    Meets (Builtin.«enumerate.__new__» ⟨[.type "enumerate", v], []⟩) (fun _ R s => H s.heap ∧
      R (.ok (.ret (.ref (s.heap.push o).objs.size))) { s with heap := (s.heap.push o).push { cls := .type "enumerate", data := .fields #[.none, .bool false, .ref s.heap.objs.size, rawInt 0, .none, .none] } }) :=
  .of_wp fun prog w A R s h => by
    obtain ⟨hp, g, d, tk, os⟩ := s
    obtain ⟨h1, hR⟩ := h
    have isS := sub_enumerate
    have go : ∀ {A' : Around} {E : Value → Shared → Prop} {Q : Value → Shared → Prop}, Q (.ref hp.objs.size) ⟨hp.push o, g, d, tk, os⟩ → wpAny (model prog w) A' (pyIter v) Q E ⟨hp, g, d, tk, os⟩ := fun q => B.iter prog w _ _ ⟨hp, g, d, tk, os⟩ _ h1 q
    wp_walk using go
    refine wpAny_stack_any fun st => wpAny_pure ?_
    split
    · rename_i c _ _ _ _ _
      cases (c == Value.type "enumerate") <;> (wp_walk using go; exact ⟨_, rfl, hR⟩)
    · wp_walk using go; exact ⟨_, rfl, hR⟩
theorem enum1_begins {prog : Program} {w : World} {A : Around} {E : Value → Shared → Prop} {s : Shared} {v : Value} {o : Obj} {H : Heap → Prop} {Q : Value → Shared → Prop} (B : Begins v o H) (h1 : H s.heap)
    (h : ∀ h', IsEnum h' (s.heap.objs.size + 1) s.heap.objs.size 0 .none → h'.get? s.heap.objs.size = some o → (∀ b o, s.heap.get? b = some o → h'.get? b = some o) → Q (.ref (s.heap.objs.size + 1)) { s with heap := h' }) :
    wpAny (model prog w) A (call (.type "enumerate") [v]) Q E s := by
  refine callType_new F.called_enumerate (by decide) (F.typeCall_enumerate_1 _) (F.newCall_enumerate_1 _) (fun obj => F.args_object_init_2 obj _) F.entry_enumerate_new (enum1_new B) ⟨h1, ?_⟩
  have sz : (s.heap.push o).objs.size = s.heap.objs.size + 1 := Heap.size_push ..
  show _ ∧ _
  rw [sz]
  have e : IsEnum ((s.heap.push o).push { cls := .type "enumerate", data := .fields #[.none, .bool false, .ref s.heap.objs.size, rawInt 0, .none, .none] }) (s.heap.objs.size + 1) s.heap.objs.size 0 .none := by
    rw [← sz]
    exact Heap.get?_push_size _ rfl
  exact ⟨⟨_, e, rfl⟩, h _ e (Heap.get?_push_of_some _ (Heap.get?_push_size _ B.free)) fun b u x => Heap.get?_push_of_some _ (Heap.get?_push_of_some _ x)⟩
end PySem
namespace L2
open PySem PySem.Spec PyProof.Rows
/-- pairs of a number and what Y tells of it; G stands, n turns -/
def Iten (n : Nat) (G : Hp → Prop) (Y : Nat → V → Prop) : It :=
  ⟨fun i H => i < n ∧ G H, fun i H v H' => ∃ T x, v = .ref T ∧ H T = none ∧ H' = upd H T (.tup [.int (i : Nat), x]) ∧ Y i x, fun i H => i = n ∧ G H⟩
theorem turn_enumD {P : Program} {w : World} {K : PySem.W.Frag} {elts : List Expr} {kk : Nat} {tpos : Pos} {n : Nat} {G : Hp → Prop} {Y : Nat → V → Prop} {e it : Addr} (ne : e ≠ it) (S : Nat → Heap → Prop) (sat : ∀ i h, S i h → ∃ o, h.get? it = some o ∧ ∀ v, o.data ≠ .cell v)
    (sk : ∀ i h h', S i h → (∀ o, h.get? it = some o → h'.get? it = some o) → S i h')
    (draws : ∀ (X : Cx) (pins : List (Addr × Obj)) (σ : St) (H : Hp) (s : Shared), X.prog = P → X.w = w → X.K = K → X.A.handled = none → Inv X pins σ H s → G H →
      ∃ (fp : List Addr) (V : Nat → Value → Prop) (St : Nat → Heap → Prop), Draws X.prog X.w X.A.in1 it fp n V St ∧ e ∉ fp ∧ (∀ i, S i s.heap → St i s.heap) ∧ (∀ i h', St i h' → S i h') ∧ ∀ i u, V i u → ∃ x, RelV x u ∧ Y i x) :
    Turn P w K (.Tuple elts kk tpos) (Iten n G Y) [e, it] e (fun i h => (∃ old, IsEnum h e it ((i : Nat) : Int) old) ∧ S i h) where
  mem := by simp
  obj := fun i h st b hb => by
    obtain ⟨⟨old, he⟩, hs⟩ := st
    have q : b = e ∨ b = it := by simpa using hb
    rcases q with rfl | rfl
    · exact ⟨_, he, fun v q => nomatch q⟩
    · exact sat i h hs
  keep := fun i h h' st k => by
    obtain ⟨⟨old, he⟩, hs⟩ := st
    exact ⟨⟨old, k e (by simp) _ he⟩, sk i h h' hs fun o q => k it (by simp) o q⟩
  item := by
    intro X hP hw hK hc i pins s σ H E I hf st hg
    obtain ⟨⟨old, he⟩, hs⟩ := st
    obtain ⟨hi, gg⟩ := hg
    obtain ⟨fp, Vp, St, D, nf, to, back, rel⟩ := draws X pins σ H s hP hw hK (I.ok.hd hc) I gg
    subst hP hw hK
    have hel : e < s.heap.objs.size := Heap.lt_size he
    have hil : it < s.heap.objs.size := let ⟨_, q, _⟩ := sat i _ hs; Heap.lt_size q
    refine wpAny_pyNext_enum_itemD D he (to i hs) hi ne nf fun u h' tk pu ho hs' hT hsz hk => ?_
    obtain ⟨x, rx, yx⟩ := rel i u pu
    refine ⟨_, rfl, wpAny_letOwnedTupleGo_enum (s := { s with heap := h', toks := tk + 1 }) ho fun g he' sb => ?_⟩
    have hT2 := (sb.2 _ (Nat.ne_of_gt hel)).trans hT
    have fresh : ObjOk X.prog X.w (upd H s.heap.objs.size (.tup [.int (i : Nat), x])) g s.heap.objs.size (.tup [.int (i : Nat), x]) :=
      ⟨by show 2 ≤ sizeLine; decide, _, .cons ⟨tk, rfl⟩ (.cons rx .nil), ⟨_, hT2, rfl, _, rfl⟩⟩
    have J : Inv X pins σ (upd H s.heap.objs.size (.tup [.int (i : Nat), x])) { s with heap := g, toks := tk + 1 } := by
      refine I.turnedNew (ch := [e, it]) (fun b o hb q => ?_) hf (Nat.le_refl _) fresh
      have nb : b ≠ e ∧ b ≠ it := by simpa using hb
      exact (sb.2 b nb.1).trans (hk b o nb.1 nb.2 q)
    refine ⟨.ref s.heap.objs.size, _, J, rfl, ⟨_, x, rfl, I.hok.fresh (Nat.le_refl _), rfl, yx⟩, ⟨⟨u, ?_⟩, sk _ _ _ (back _ _ hs') fun o q => (sb.2 it ne.symm).trans q⟩, fun b hb => ?_⟩
    · have c : ((i + 1 : Nat) : Int) = (i : Int) + 1 := by omega
      rw [c]
      exact he'
    · have q : b = e ∨ b = it := by simpa using hb
      have hlt : b < s.heap.objs.size := by
        rcases q with rfl | rfl
        · exact hel
        · exact hil
      rw [upd_ne (Nat.ne_of_lt hlt)]
      exact (hf b hb).1
  done := by
    intro X hP hw hK hc i pins s σ H E I hf st hg
    obtain ⟨⟨old, he⟩, hs⟩ := st
    obtain ⟨rfl, gg⟩ := hg
    obtain ⟨fp, Vp, St, D, nf, to, back, rel⟩ := draws X pins σ H s hP hw hK (I.ok.hd hc) I gg
    subst hP hw hK
    obtain ⟨f0, f1, f2, f3, f4, f5⟩ := hf it (by simp)
    exact wpAny_pyNext_enum_endD D he (to _ hs) fun h' eb => ⟨rfl, I.turned (t' := s.toks) (fun b o hb q => eb b o hb q) f0 f1 f3 f4 f5⟩
  self := fun A i s Q E st h => let ⟨⟨_, he⟩, _⟩ := st; wpAny_pyIter_enum he h
/-- enumerate(t), t a tuple -/
def iEnumT (K : PySem.W.Frag) (ta : TA) : TI := fun σ H R => ta σ H fun vs H1 => ∃ a xs, vs = [.ref a] ∧ SqT K H1 a xs ∧ R (Iten xs.length (fun H => SqT K H a xs) fun i x => xs[i]? = some x) H1
/-- enumerate(z), z a text -/
def iEnumS (ta : TA) : TI := fun σ H R => ta σ H fun vs H1 => ∃ z : Str, vs = [.str z] ∧ R (Iten z.cps.size (fun _ => True) fun i x => ∃ c, z.cps[i]? = some c ∧ x = .str ⟨#[c]⟩) H1
section
variable {X : Cx} {e : Expr} {ta : TA} {p pos tpos : Pos} {elts : List Expr} {kk : Nat}
theorem pi_enumT (hg : Gl X "enumerate") (hm : X.mg "enumerate" = none) (ha : PA X [e] ta) (hs : starEach [e] X.env = [(false, eval e X.env)] := by rfl) : PI X (.Tuple elts kk tpos) (.Call (.Name "enumerate" p) [e] [] pos) (iEnumT X.K ta) := by
  refine ⟨fun pins s σ H R I h => ?_⟩
  refine Call_ (ld_blt I hg hm boot_enumerate (PyProof.Rows.callWith_type1 (thn (ha.run pos pins s σ H _ I h) fun us s1 hh => ?_) hs rfl))
  obtain ⟨vs, H1, I1, r1, a, xs, rfl, hq, q⟩ := hh
  cases r1 with
  | cons r rr =>
    cases rr
    cases r
    obtain ⟨its, rv, pt, _⟩ := I1.tuple hq
    refine enum1_begins (begins_tuple a its.toArray) pt fun h' he hit hk => wpAny_pyIter_enum he ?_
    have J : Inv X pins σ H1 { s1 with heap := h' } := I1.kept (t' := s1.toks) hk
    have la : a < s1.heap.objs.size := let ⟨o, ho, _⟩ := pt; Heap.lt_size ho
    have na : s1.heap.objs.size + 1 ≠ a := Nat.ne_of_gt (Nat.lt_succ_of_lt la)
    have ni : a ≠ s1.heap.objs.size := Nat.ne_of_lt la
    have lx : xs.length = its.toArray.size := by rw [rv.length]; simp
    refine ⟨s1.heap.objs.size + 1, [s1.heap.objs.size + 1, s1.heap.objs.size], _, _, H1, rfl, J, turn_enumD (Nat.succ_ne_self _) (fun i h => h.IsTupleIter s1.heap.objs.size a i) (fun i h ⟨o, ho, _, hd⟩ => ⟨o, ho, fun v z => by rw [hd] at z; cases z⟩) (fun i h h' st k => st.at k) ?_, ⟨⟨.none, he⟩, ⟨_, hit, rfl, rfl⟩⟩, fun b hb => ?_, q⟩
    · intro X' pins' σ' H' s' hP hw hK hh I' g
      rw [← hK] at g
      obtain ⟨its', rv', pt', _⟩ := I'.tuple g
      have D := Draws.tuple (prog := X'.prog) (w := X'.w) (A := X'.A.in1) (show X'.A.in1.handled = none from hh) s1.heap.objs.size a ni its'.toArray
      have e' : its'.toArray.size = xs.length := by rw [rv'.length]; simp
      refine ⟨[s1.heap.objs.size, a], _, _, e' ▸ D, by simp [na], fun i st => ⟨st, pt'⟩, fun i h' st => st.1, fun i u hu => ?_⟩
      have hu' : its'[i]? = some u := by simpa using hu
      have hi : i < xs.length := by
        rw [rv'.length]
        exact (List.getElem?_eq_some_iff.mp hu').1
      obtain ⟨u2, h2, r2⟩ := rv'.get (List.getElem?_eq_getElem hi)
      rw [hu'] at h2
      cases h2
      exact ⟨_, r2, List.getElem?_eq_getElem hi⟩
    · have e' : b = s1.heap.objs.size + 1 ∨ b = s1.heap.objs.size := by simpa using hb
      have hle : s1.heap.objs.size ≤ b := e'.elim (fun z => z ▸ Nat.le_succ _) fun z => z ▸ Nat.le_refl _
      exact I1.fpOk hle (I1.hok.fresh hle)
theorem pi_enumS (hg : Gl X "enumerate") (hm : X.mg "enumerate" = none) (ha : PA X [e] ta) (hs : starEach [e] X.env = [(false, eval e X.env)] := by rfl) : PI X (.Tuple elts kk tpos) (.Call (.Name "enumerate" p) [e] [] pos) (iEnumS ta) := by
  refine ⟨fun pins s σ H R I h => ?_⟩
  refine Call_ (ld_blt I hg hm boot_enumerate (PyProof.Rows.callWith_type1 (thn (ha.run pos pins s σ H _ I h) fun us s1 hh => ?_) hs rfl))
  obtain ⟨vs, H1, I1, r1, z, rfl, q⟩ := hh
  cases r1 with
  | cons r rr =>
    cases rr
    obtain ⟨t, rfl⟩ := r
    refine enum1_begins (begins_text z t) trivial fun h' he hit hk => wpAny_pyIter_enum he ?_
    have J : Inv X pins σ H1 { s1 with heap := h' } := I1.kept (t' := s1.toks) hk
    refine ⟨s1.heap.objs.size + 1, [s1.heap.objs.size + 1, s1.heap.objs.size], _, _, H1, rfl, J, turn_enumD (Nat.succ_ne_self _) (fun i h => h.IsStrIter s1.heap.objs.size (strIterType z) z t i) (fun i h ⟨o, ho, _, hd⟩ => ⟨o, ho, fun v z => by rw [hd] at z; cases z⟩) (fun i h h' ⟨o, ho, st⟩ k => ⟨o, k o ho, st⟩) ?_, ⟨⟨.none, he⟩, ⟨_, hit, rfl, rfl⟩⟩, fun b hb => ?_, q⟩
    · intro X' pins' σ' H' s' hP hw hK hh I' g
      refine ⟨[s1.heap.objs.size], _, _, Draws.text (show X'.A.in1.handled = none from hh) s1.heap.objs.size z t, by simp, fun i st => st, fun i h' st => st, fun i u hu => ?_⟩
      obtain ⟨c, k, hc, rfl⟩ := hu
      exact ⟨.str ⟨#[c]⟩, ⟨k, rfl⟩, c, hc, rfl⟩
    · have e' : b = s1.heap.objs.size + 1 ∨ b = s1.heap.objs.size := by simpa using hb
      have hle : s1.heap.objs.size ≤ b := e'.elim (fun z => z ▸ Nat.le_succ _) fun z => z ▸ Nat.le_refl _
      exact I1.fpOk hle (I1.hok.fresh hle)
theorem walk_iten {n : Nat} {G : Hp → Prop} {Y : Nat → V → Prop} : Walk (Iten n G Y) n G (fun i H v H' => ∃ T x, v = .ref T ∧ H T = none ∧ H' = upd H T (.tup [.int (i : Nat), x]) ∧ Y i x) :=
  ⟨fun i _ hi g => ⟨hi, g⟩, fun _ g => ⟨rfl, g⟩, fun _ _ _ _ _ _ y => y⟩
end
end L2

/-! o.m(k = v, ..); C(e, .., *y) -/
namespace L2
open PySem PySem.Spec PyProof.Rows
section
variable {X : Cx} {CX : CXT} {k : Nat} {f C : Addr} {fd : FuncData} {ps ks : List Str} {sp : Sp} {E : XK} {x m : Str} {o e : Expr} {es : List Expr} {kws : List Keyword} {ta : TE} {t tk : TA} {p pos apos : Pos} {g : List Value → List Value → List Value} {gV : List V → List V → List V}
def tMethK (C : Addr) (m : Str) (n : Nat) (sp : Sp) (gV : List V → List V → List V) (E : XK) (ta : TE) (tk : TA) : TE := fun σ H Q => ta σ H fun x H1 => ∃ a dx fs, x = .ref a ∧ H1 a = some (.ins C dx fs) ∧ fs.lookup m = none ∧
  tk σ H1 fun zs H2 => zs.length = n ∧ sp (gV [x] zs) H2 Q E
/-- o.m(k = v, ..), keywords alone -/
theorem pe_methK0 {pl : Sem Bool} (he : PE X o ta) (c : Cls X.K C) (hm : Meth X.K C m f) (F : FnOk X.prog X.w X.K X.mg X.base CX k f fd ps sp) (hr : Room k X.A) (hb : KBn X.K fd ps 1 ks g gV) (hx : Passes CX X E) (hkw : PK X kws tk)
    (hall : (backToKw pos (keywordEach kws X.env)).all (·.1.isSome) = true := by rfl) (hks : (backToKw pos (keywordEach kws X.env)).filterMap (·.1) = ks := by rfl)
    (hpl : ((backTo pos (starEach [] X.env)).any (·.1) || (backToKw pos (keywordEach kws X.env)).any (·.1.isNone)) = false := by rfl)
    (ht : eval (.Call (.Attribute o m apos) [] kws pos) X.env = (do
      let ov ← eval o X.env
      standAt apos.atName
      let (f, first) ← holding [ov] (getMethod ov m pl)
      callWith pos f first (backTo pos (starEach [] X.env)) (backToKw pos (keywordEach kws X.env))) := by rfl) :
    PE X (.Call (.Attribute o m apos) [] kws pos) (tMethK C m ks.length sp gV E ta tk) := by
  constructor
  intro pins s σ H Q I h
  refine PySem.W.methodCall_KW (pl := pl) (thn (he.run pins s σ H _ I h) fun u s1 hh => ?_) ht
  obtain ⟨y, H1, I1, ry, a, dx, fs, rfl, ea, l, q⟩ := hh
  obtain rfl : u = Value.ref a := ry
  refine getmeth_ok I1 ea c hm l ?_
  refine PySem.W.callWith_KW0 (first := [.ref a]) (h₀ := X.base) I.ok.mod.kin hm.kp hall (thn (hkw.run pos pins s1 σ H1 _ I1 q) fun ws s2 h2 => ?_) hpl
  obtain ⟨zs, H2, I2, rz, lz, q2⟩ := h2
  refine ⟨I2.kIn, ?_⟩
  rw [hks]
  exact run_fnN (us := [.ref a]) (vs := [.ref a]) F hr hb hx I2 (.cons rfl .nil) rz rfl lz q2
/-- C(e, .., *y, ..) -/
theorem pe_makeS2 (M : Mk X.K C f) (F : FnR X.prog X.w X.K X.mg X.base CX k f sp) (hr : Room (k + 1) X.A) (hg : Gl X x) (hm : X.mg x = some (.ref C)) (hx : Passes CX X E) (ha : PA X (e :: es) t) (hdb : (x == ("__debug__" : Str)) = false := by decide)
    (he : starEach (e :: es) X.env = (false, eval e X.env) :: starEach es X.env := by rfl) (hst : (backTo pos (starEach es X.env)).any (·.1) = true := by rfl) : PE X (.Call (.Name x p) (e :: es) [] pos) (StX.tMakeR C sp E t) := by
  constructor
  intro pins s σ H Q I h
  refine wpAny_Call_Name_kw (ld_glob I hg hm ?_ hdb)
  refine PySem.W.callWith_S2 (h₀ := X.base) I.ok.mod.kin M.kp (thn (ha.run pos pins s σ H _ I h) fun us s1 hh => ?_) he hst
  obtain ⟨vs, H1, I1, r, q⟩ := hh
  exact ⟨I1.kIn, StX.run_makeR M F hr hx I1 r q⟩
end
end L2

namespace Gm
open PySem L2







def spOver (K : PySem.W.Frag) : Sp := fun vs H Q _ => ∃ (v : V) (ch : List Nat) (n : Int), vs = [v, .str (tx ch), .int n] ∧
  ((∃ s : List Nat, v = .str (tx s) ∧ s.length ≤ 1000 ∧ ∀ H', Same H H' → Q (.bl (decide ((s.length : Int) = n ∧ ∀ c ∈ s, c ∈ ch))) H') ∨ (∃ t, TyX K H v t ∧ PySem.W.kitOne K t (.type "str") = some false ∧ Q (.bl false) H))
/-- words of the board of l and n -/
def Wd (l : List Nat) (n : Int) (s : List Nat) : Prop := (s.length : Int) = n ∧ ∀ c ∈ s, c ∈ l
def Bd (C : Addr) (H : Hp) (p : Addr) (l : List Nat) (n : Int) : Prop := BoardAt C H p (tx l) n ∧ l.length ≤ 26 ∧ 1 ≤ n ∧ n ≤ 6
theorem Bd.same {C p : Addr} {H H' : Hp} {l : List Nat} {n : Int} (h : Bd C H p l n) (e : Same H H') : Bd C H' p l n := ⟨let ⟨dx, h⟩ := h.1; ⟨dx, e _ _ h⟩, h.2⟩
def spChkW (C : Addr) : Sp := fun vs H Q _ => ∃ (p : Addr) (l s : List Nat) (n : Int), vs = [.ref p, .str (tx s)] ∧ Bd C H p l n ∧ Wd l n s ∧ ∀ H', Same H H' → Q .non H'
def spChkM (C : Addr) : Sp := fun vs H Q _ => ∃ (p : Addr) (l s : List Nat) (n : Int), vs = [.ref p, .str (tx s)] ∧ Bd C H p l n ∧ Wd [48, 49, 50] n s ∧ ∀ H', Same H H' → Q .non H'
def spChkB (C : Addr) : Sp := fun vs H Q _ => ∃ (p : Addr) (l : List Nat) (n : Int), vs = [.ref p] ∧ Bd C H p l n ∧ Q .non H
instance {l : List Nat} {n : Int} {s : List Nat} : Decidable (Wd l n s) := by unfold Wd; infer_instance
/-- is_word, are_marks: ch = none: the board's letters -/
def spIsW (K : PySem.W.Frag) (C : Addr) (ch : Option (List Nat)) : Sp := fun vs H Q _ => ∃ (p : Addr) (l : List Nat) (n : Int) (v : V), vs = [.ref p, v] ∧ Bd C H p l n ∧
  ((∃ s : List Nat, v = .str (tx s) ∧ s.length ≤ 1000 ∧ ∀ H', Same H H' → Q (.bl (decide (Wd (ch.getD l) n s))) H') ∨ (∃ t, TyX K H v t ∧ PySem.W.kitOne K t (.type "str") = some false ∧ Q (.bl false) H))
/-- a row stands at a -/
def spMarks (C : Addr) : Sp := fun vs H Q _ => ∃ (p : Addr) (l g w : List Nat) (n : Int), vs = [.ref p, .str (tx g), .str (tx w)] ∧ Bd C H p l n ∧ Wd l n g ∧ Wd l n w ∧ ∀ H', Same H H' → Q (.str (tx (mk g w))) H'
theorem in_tx {c : Nat} {l : List Nat} : decide (c ∈ (tx l).cps.toList) = decide (c ∈ l) := by simp
section
variable {P : Program} {w : World} {K : PySem.W.Frag} {mg : Str → Option Value} {base : Heap}
abbrev nO : List Str := ["value", "characters", "length", "character"]
theorem scOv : FnScope nO ["value", "characters", "length"] (defScope sOver) := ⟨rfl, rfl, rfl, by decide +kernel, rfl, by decide +kernel, by decide +kernel⟩
theorem ok_over {f : Addr} {fd : FuncData} (F : Fun K "is_text_over" "is_text_over" sOver f fd) (T : TxW mg) (mall : mg "all" = none) : FnOk P w K mg base CX0 1 f fd ["value", "characters", "length"] (spOver K) := by
  refine F.ok scOv (fun vs H Q E h => ?_) (fun cdv A outer s H vs Q E hr h => ?_)
  · obtain ⟨v, ch, n, rfl, _⟩ := h
    rfl
  · obtain ⟨v, ch, n, rfl, h⟩ := h
    have nd := scOv.nd
    have hline : sizeLine = 16777216 := sizeLine_eq
    refine ⟨_, pss_cons (ps_if (PW.pt (pw_or (pt_not (pt_val (pe_callB call_isi (by rfl) T.isi (by decide +kernel) (pa_cons (pv 0) (pa_cons (pe_bltn (v := .ty "str") (by rfl) T.str (by decide +kernel) rfl) pa_nil)))))
        (pw_or1 (pt_cmpR op_ne (pe_callB call_len_str (by rfl) T.len PySem.boot_len (pa_cons (pv 0) pa_nil)) (pv 2) (nomark _)))))
        (pss_one (ps_ret pe_bl)) pss_nil)
      (pss_one (ps_ret (pe_callB (cr_all rfl) (by rfl) mall (by decide +kernel) (pa_cons
        (pe_lc (own := [("character", 3)]) (g := gName 3) (by rfl) nd (pi_str (pv 0)) (blkOk_by (own := [("character", 3)]) (N := nO) (sc := defScope sOver) (by decide +kernel))
          (fun _ _ _ _ _ => pg_name (i := 3) nd rfl (Or.inl rfl)) (fun _ _ _ _ _ => pts_nil) (fun _ _ _ _ _ => pe_cmpR op_in_sign (pv 3) (pv 1) rfl)) pa_nil)))), ?_⟩
    rcases h with ⟨z, rfl, hz, q⟩ | ⟨t, ty, no, q⟩
    · have zl : (tx z).length = z.length := tx_len z
      refine ⟨_, rfl, _, _, _, _, _, rfl, .ty "str", .base (.str _), kit_ty (r := true) (by decide +kernel), _, rfl, iteF ?_⟩
      refine ⟨_, rfl, _, rfl, by omega, _, rfl, rfl, _, rfl, ?_⟩
      have ei : decide (V.int ((tx z).length : Nat) = V.int n) = decide ((z.length : Int) = n) := decide_eq_decide.mpr ⟨fun e => by rw [← zl]; exact V.int.inj e, fun e => by rw [zl, e]⟩
      rw [ei]
      refine ite2 (fun h => ?_) (fun h => ?_)
      · have e : decide ((z.length : Int) = n ∧ ∀ c ∈ z, c ∈ ch) = false := decide_eq_false fun a => by rw [decide_eq_true a.1] at h; cases h
        rw [e] at q
        exact q _ (Same.refl H)
      · have hn : (z.length : Int) = n := by
          refine Decidable.byContradiction fun c => h ?_
          rw [decide_eq_false c]
          rfl
        refine ⟨_, rfl, tx z, rfl, fun D hD => ?_⟩
        refine lc_it (walk_str (z := tx z)) (fun i H' => Same H H' ∧ H' D = some (.lst (((z.take i).map fun c => decide (c ∈ ch)).map V.bl))) ⟨same_upd hD, upd_same⟩ (fun _ _ _ _ => trivial) ?_ ?_
        · rintro i x H1 H2 hi ⟨sm, hDi⟩ ⟨rfl, c, hc, rfl⟩
          have hc' := tx_at hc
          have hi' : i < z.length := (List.getElem?_eq_some_iff.mp hc').1
          refine ⟨rfl, ⟨_, rfl, _, rfl, c, tx ch, rfl, rfl, _, hDi, ?_, fun b o q => ?_, ?_⟩⟩
          · rw [List.length_map, List.length_map, List.length_take]
            omega
          · rw [upd_ne (ne_of_none q hD)]
            exact sm b o q
          · have e2 : z.take (i + 1) = z.take i ++ [c] := by rw [List.take_succ_eq_append_getElem hi', (List.getElem?_eq_some_iff.mp hc').2]
            rw [upd_same, e2, List.map_append, List.map_append, in_tx]
            rfl
        · rintro H1 ⟨sm, hD1⟩
          refine ⟨D, _, rfl, SqL.of hD1, ?_⟩
          have e : decide ((z.length : Int) = n ∧ ∀ c ∈ z, c ∈ ch) = ((z.take (tx z).cps.size).map fun c => decide (c ∈ ch)).all id := by
            rw [tx_size, List.take_length, List.all_map]
            have : (List.all z (id ∘ fun c => decide (c ∈ ch))) = decide (∀ c ∈ z, c ∈ ch) := by
              rw [Bool.eq_iff_iff, List.all_eq_true, decide_eq_true_iff]
              exact ⟨fun h c hc => of_decide_eq_true (h c hc), fun h c hc => decide_eq_true (h c hc)⟩
            rw [this]
            exact decide_eq_decide.mpr ⟨fun a => a.2, fun a => ⟨hn, a⟩⟩
          rw [e] at q
          exact q _ sm
    · exact ⟨_, rfl, _, _, _, _, _, rfl, .ty "str", ty, no, _, rfl, iteT q⟩
theorem scIW : FnScope ["board", "value"] ["board", "value"] (defScope sIsW) := ⟨rfl, rfl, rfl, by decide +kernel, rfl, by decide +kernel, by decide +kernel⟩
theorem ok_isW {f C fO : Addr} {fd fdO : FuncData} (F : Fun K "is_word" "is_word" sIsW f fd) (TC : TxC K mg C) (GO : FnOk P w K mg base CX0 1 fO fdO ["value", "characters", "length"] (spOver K)) (DO : Df K mg "is_text_over" fO fdO ["value", "characters", "length"]) :
    FnOk P w K mg base CX0 2 f fd ["board", "value"] (spIsW K C none) := by
  refine F.ok scIW (fun vs H Q E h => ?_) (fun cdv A outer s H vs Q E hr h => ?_)
  · obtain ⟨p, l, n, v, rfl, _⟩ := h
    rfl
  · obtain ⟨p, l, n, v, rfl, ⟨⟨dx, hp⟩, l26, n1, n6⟩, h⟩ := h
    refine ⟨_, pss_one (ps_ret (pe_call GO hr (by rfl) DO.mg DO.kp DO.b .nil pass0 (pa_cons (pv 1) (pa_cons (pe_fld (pv 0) rfl) (pa_cons (pe_fld (pv 0) rfl) pa_nil))))), ?_⟩
    refine ⟨_, rfl, _, rfl, p, C, dx, _, _, rfl, hp, TC.cl, TC.nL, bf_letters _ _, _, rfl, p, C, dx, _, _, rfl, hp, TC.cl, TC.nN, bf_length _ _, _, _, _, rfl, ?_⟩
    exact h
theorem scAM : FnScope ["board", "value"] ["board", "value"] (defScope sAreM) := ⟨rfl, rfl, rfl, by decide +kernel, rfl, by decide +kernel, by decide +kernel⟩
theorem ok_areM {f C fO : Addr} {fd fdO : FuncData} (F : Fun K "are_marks" "are_marks" sAreM f fd) (TC : TxC K mg C) (tM : ∃ t, mg "MARKS" = some (.str (tx [48, 49, 50]) t)) (GO : FnOk P w K mg base CX0 1 fO fdO ["value", "characters", "length"] (spOver K)) (DO : Df K mg "is_text_over" fO fdO ["value", "characters", "length"]) :
    FnOk P w K mg base CX0 2 f fd ["board", "value"] (spIsW K C (some [48, 49, 50])) := by
  refine F.ok scAM (fun vs H Q E h => ?_) (fun cdv A outer s H vs Q E hr h => ?_)
  · obtain ⟨p, l, n, v, rfl, _⟩ := h
    rfl
  · obtain ⟨p, l, n, v, rfl, ⟨⟨dx, hp⟩, l26, n1, n6⟩, h⟩ := h
    obtain ⟨tm, mgM⟩ := tM
    refine ⟨_, pss_one (ps_ret (pe_call GO hr (by rfl) DO.mg DO.kp DO.b .nil pass0 (pa_cons (pv 1) (pa_cons (pe_glob (v := .str (tx [48, 49, 50])) (by rfl) mgM ⟨_, rfl⟩) (pa_cons (pe_fld (pv 0) rfl) pa_nil))))), ?_⟩
    refine ⟨_, rfl, _, rfl, p, C, dx, _, _, rfl, hp, TC.cl, TC.nN, bf_length _ _, _, _, _, rfl, ?_⟩
    exact h
theorem scCW : FnScope ["board", "word"] ["board", "word"] (defScope sChkW) := ⟨rfl, rfl, rfl, by decide +kernel, rfl, by decide +kernel, by decide +kernel⟩
theorem ok_chkW {f C fO : Addr} {fd fdO : FuncData} (F : Fun K "check_word" "check_word" sChkW f fd) (GO : FnOk P w K mg base CX0 2 fO fdO ["board", "value"] (spIsW K C none)) (DO : Df K mg "is_word" fO fdO ["board", "value"]) :
    FnOk P w K mg base CX0 3 f fd ["board", "word"] (spChkW C) := by
  refine F.ok scCW (fun vs H Q E h => ?_) (fun cdv A outer s H vs Q E hr h => ?_)
  · obtain ⟨p, l, s, n, rfl, _⟩ := h
    rfl
  · obtain ⟨p, l, z, n, rfl, hb, hw, q⟩ := h
    have n6 := hb.2.2.2
    refine ⟨_, pss_one (ps_if (pt_not (pt_val (pe_call GO hr (by rfl) DO.mg DO.kp DO.b .nil pass0 (pa_cons (pv 0) (pa_cons (pv 1) pa_nil))))) (pss_one ps_never) pss_nil), ?_⟩
    refine ⟨_, rfl, _, rfl, p, l, n, _, rfl, hb, .inl ⟨z, rfl, by have := hw.1; omega, fun H1 s1 => ⟨_, rfl, ?_⟩⟩⟩
    rw [decide_eq_true (show Wd ((none : Option (List Nat)).getD l) n z from hw)]
    exact iteF (q H1 s1)
theorem scCM : FnScope ["board", "told"] ["board", "told"] (defScope sChkM) := ⟨rfl, rfl, rfl, by decide +kernel, rfl, by decide +kernel, by decide +kernel⟩
theorem ok_chkM {f C fO : Addr} {fd fdO : FuncData} (F : Fun K "check_marks" "check_marks" sChkM f fd) (GO : FnOk P w K mg base CX0 2 fO fdO ["board", "value"] (spIsW K C (some [48, 49, 50]))) (DO : Df K mg "are_marks" fO fdO ["board", "value"]) :
    FnOk P w K mg base CX0 3 f fd ["board", "told"] (spChkM C) := by
  refine F.ok scCM (fun vs H Q E h => ?_) (fun cdv A outer s H vs Q E hr h => ?_)
  · obtain ⟨p, l, s, n, rfl, _⟩ := h
    rfl
  · obtain ⟨p, l, z, n, rfl, hb, hw, q⟩ := h
    have n6 := hb.2.2.2
    refine ⟨_, pss_one (ps_if (pt_not (pt_val (pe_call GO hr (by rfl) DO.mg DO.kp DO.b .nil pass0 (pa_cons (pv 0) (pa_cons (pv 1) pa_nil))))) (pss_one ps_never) pss_nil), ?_⟩
    refine ⟨_, rfl, _, rfl, p, l, n, _, rfl, hb, .inl ⟨z, rfl, by have := hw.1; omega, fun H1 s1 => ⟨_, rfl, ?_⟩⟩⟩
    rw [decide_eq_true (show Wd ((some [48, 49, 50] : Option (List Nat)).getD l) n z from hw)]
    exact iteF (q H1 s1)
theorem scCB : FnScope ["board"] ["board"] (defScope sChkB) := ⟨rfl, rfl, rfl, by decide +kernel, rfl, by decide +kernel, by decide +kernel⟩
theorem ok_chkB {f C : Addr} {fd : FuncData} (F : Fun K "check_board" "check_board" sChkB f fd) (T : TxW mg) (TC : TxC K mg C) : FnOk P w K mg base CX0 1 f fd ["board"] (spChkB C) := by
  refine F.ok scCB (fun vs H Q E h => ?_) (fun cdv A outer s H vs Q E hr h => ?_)
  · obtain ⟨p, l, n, rfl, _⟩ := h
    rfl
  · obtain ⟨p, l, n, rfl, ⟨⟨dx, hp⟩, l26, n1, n6⟩, q⟩ := h
    refine ⟨_, pss_one (ps_if (pt_not (pt_val (pe_callB call_isi (by rfl) T.isi (by decide +kernel) (pa_cons (pv 0) (pa_cons (pe_glob (v := .ref C) (by rfl) TC.mgC rfl) pa_nil))))) (pss_one ps_never) pss_nil), ?_⟩
    exact ⟨_, rfl, _, _, _, _, _, rfl, .own C, ty_board TC hp, TC.own, _, rfl, iteF q⟩
theorem scMk : FnScope ["board", "guess", "word"] ["board", "guess", "word"] (defScope sMarks) := ⟨rfl, rfl, rfl, by decide +kernel, rfl, by decide +kernel, by decide +kernel⟩
theorem ok_marks {f C fB fW fM : Addr} {fd fdB fdW fdM : FuncData} (F : Fun K "marks" "marks" sMarks f fd) (GB : FnOk P w K mg base CX0 1 fB fdB ["board"] (spChkB C)) (DB : Df K mg "check_board" fB fdB ["board"])
    (GW : FnOk P w K mg base CX0 3 fW fdW ["board", "word"] (spChkW C)) (DW : Df K mg "check_word" fW fdW ["board", "word"]) (GM : FnOk P w K mg base CX0 1 fM fdM ["guess", "word"] spMarksOf) (DM : Df K mg "marks_of" fM fdM ["guess", "word"]) :
    FnOk P w K mg base CX0 4 f fd ["board", "guess", "word"] (spMarks C) := by
  refine F.ok scMk (fun vs H Q E h => ?_) (fun cdv A outer s H vs Q E hr h => ?_)
  · obtain ⟨p, l, g, w, n, rfl, _⟩ := h
    rfl
  · obtain ⟨p, l, g, z, n, rfl, hb, hg, hz, q⟩ := h
    have hr1 : Room 1 _ := hr.mono (by decide)
    refine ⟨_, pss_cons (ps_expr (pe_call GB hr1 (by rfl) DB.mg DB.kp DB.b .nil pass0 (pa_cons (pv 0) pa_nil)))
      (pss_cons (ps_expr (pe_call GW hr (by rfl) DW.mg DW.kp DW.b .nil pass0 (pa_cons (pv 0) (pa_cons (pv 1) pa_nil))))
      (pss_cons (ps_expr (pe_call GW hr (by rfl) DW.mg DW.kp DW.b .nil pass0 (pa_cons (pv 0) (pa_cons (pv 2) pa_nil))))
      (pss_one (ps_ret (pe_call GM hr1 (by rfl) DM.mg DM.kp DM.b .nil pass0 (pa_cons (pv 1) (pa_cons (pv 2) pa_nil))))))), ?_⟩
    have := hg.1
    have := hz.1
    have := hb.2.2.2
    exact ⟨_, rfl, p, l, n, rfl, hb, _, rfl, _, rfl, p, l, g, n, rfl, hb, hg, fun H1 s1 => ⟨_, rfl, _, rfl, p, l, z, n, rfl, hb.same s1, hz, fun H2 s2 => ⟨_, rfl, _, rfl, g, z, rfl, by omega, by omega, fun H3 s3 => q H3 ((s1.trans s2).trans s3)⟩⟩⟩
end
end Gm

/-! several except clauses, each with a name -/
namespace L2
open PySem PySem.Spec PyProof.Rows
abbrev Clause := Value × Nat × (Addr → Value → Option Addr → TS)
/-- ends behind a suite: the clause's name is gone -/
def endsGone (D : Ends) (i : Nat) : Ends := { nx := fun σ H => D.nx (σ.set i none) H, rt := D.rt, bk := fun σ H => D.bk (σ.set i none) H, ct := fun σ H => D.ct (σ.set i none) H }
def wNamed (K : PySem.W.Frag) (Wo : WX) (D : Ends) : List Clause → WX
  | [] => Wo
  | k :: r => fun cl d σ H => ∃ b, PySem.W.exmOne K cl k.1 = some b ∧ (b = true → ∀ a, H a = none → k.2.2 a cl d (endsGone D k.2.1) (σ.set k.2.1 (some (.ref a))) H) ∧ (b = false → wNamed K Wo D r cl d σ H)
def wLen (n : Nat) (W : WX) : WX := fun cl d σ H => σ.length = n → W cl d σ H
structure ClauseOk (X : Cx) (x n : Str) (suite : List Stmt) (k : Clause) : Prop where
  names : Names X x k.1
  at_ : X.N[k.2.1]? = some n
  loc : X.env.kindOf n = some .local
  run : ∀ (a : Addr) (o : Obj) (cl : Value) (d : Option Addr) (pn : List (Addr × Obj)), Zc cl d o → (∃ vs, o.data = .fields vs) → PSs (X.suite a ((a, o) :: pn)) suite (k.2.2 a cl d)
inductive NamedOk (X : Cx) : List ExceptHandler → List Clause → Prop
  | nil : NamedOk X [] []
  | cons {x n : Str} {k : Clause} {b : Stmt} {su : List Stmt} {p1 p2 : Pos} {hd : List ExceptHandler} {l : List Clause} (ok : ClauseOk X x n (b :: su) k) (r : NamedOk X hd l) : NamedOk X (.ExceptHandler (some (.Name x p1)) (some n) (b :: su) p2 :: hd) (k :: l)
section
variable {X : Cx} {hd0 : ExceptHandler} {hds : List ExceptHandler} {l : List Clause} {pos : Pos} {body : List Stmt} {tb : WX → TS} {Wo : WX} {pins : List (Addr × Obj)} {σ : L2.St} {H : Hp} {D : Ends}
/-- try: body, then except C as n: .. clauses, each by a name of its own -/
theorem ps_try_named (st : X.stack = X.env :: X.outer) (fr : X.env.frame = some X.env.locals) (nd : X.N.Nodup) (take : Takes X Wo)
    (run : ∀ (W : WX) (pn : List (Addr × Obj)) (xe : Value → Shared → Prop), Takes (X.tr pn xe) W → PassesOwn (model X.prog X.w) X.A X.env xe → PSs (X.tr pn xe) body (tb W)) (all : NamedOk X (hd0 :: hds) l) :
    PS X (.Try body (hd0 :: hds) [] [] pos) (fun D σ H => tb (wLen X.N.length (wNamed X.K Wo D l)) D σ H) := by
  constructor
  intro pins s σ H D I h
  have okX := I.ok
  have frs_eq : X.A.frames = some (X.env :: X.outer) := okX.frames.trans (congrArg some st)
  apply wpAny_Try_except
  refine wpAny_mono ((run (wLen X.N.length (wNamed X.K Wo D l)) (X.pn ++ pins) (fun e r1 => wpAny (model X.prog X.w) X.A (noteFrame e X.env) (fun _ r2 => wpAny (model X.prog X.w) X.A (setFlight e none) (fun _ r3 => wpAny (model X.prog X.w) X.A (handleBy e X.env (hd0 :: hds)) (SP X pins D) X.xe r3) X.xe r2) X.xe r1) (fun u s' x => ?_) PassesOwn.looking).run [] s σ H D (I.toTry _) h) (fun f s1 e => ?_) (fun _ _ z => z)
  · obtain ⟨a, B, sI, ps', τ, G, cl, d, rfl, J0, nb, up, sk, ga, eo, ag, wish⟩ := x
    have J : Inv X pins τ G sI := J0.ofTry okX
    rw [st] at sk
    show wpAny (model X.prog X.w) X.A (noteFrame (.ref a) X.env) _ _ _
    refine Sky.land Zc.steady frs_eq fr sk fun g3 dn up3 => ?_
    have J3 : Inv X pins τ G { s' with heap := g3 } := J.landed nb dn.1 (up.trans up3) eo ag
    obtain ⟨o3, v3, ho, zo, fo⟩ := dn.there
    have off : a ∉ frs (X.env :: X.outer) := fun m => by
      obtain ⟨_, o', ho', no⟩ := dn.2.2.1.mem m
      exact no _ ((Option.some.inj (ho.symm.trans ho')) ▸ fo)
    have aL : a ≠ X.env.locals := fun z => off (List.mem_filterMap.mpr ⟨X.env, List.mem_cons_self, z ▸ fr⟩)
    have aF : a ∉ X.fs := fun m => by
      obtain ⟨e, i, q⟩ := List.mem_filterMap.mp m
      exact off (List.mem_filterMap.mpr ⟨e, List.mem_cons_of_mem _ i, q⟩)
    have S3 := J3.suite ho fo ga aL aF
    have each : ∀ {hd : List ExceptHandler} {l : List Clause}, NamedOk X hd l → wNamed X.K Wo D l cl d τ G → wpAny (model X.prog X.w) X.A (handleBy (.ref a) X.env hd) (SP X pins D) X.xe { s' with heap := g3 } := by
      intro hd l m
      induction m with
      | nil =>
        intro wish
        apply wpAny_handleBy_nil
        obtain ⟨k1, k2, k3, oe, vs, T, oT, t', e1, e2, e3, e4, e5⟩ := id dn
        unfold PySem.passOn
        refine wpAny_bind (wpAny_field e1 e3 e4 ?_)
        rw [if_neg (show ¬ ((Value.ref T == Value.none) = true) from by simp)]
        have out : wpAny (model X.prog X.w) X.A (setFlight (.ref a) X.env.frame) (fun _ r => wpAny (model X.prog X.w) X.A (throw (.ref a) : Sem Flow) (SP X pins D) X.xe r) X.xe { s' with heap := g3 } := by
          rw [fr]
          exact HandSPX.setFlight_upZ dn fun g4 k4 up4 => wpAny_throw (take _ _ ⟨a, B, sI, pins, τ, G, cl, d, rfl, J, nb, (up.trans up3).trans up4, .inr (.inr (st ▸ k4)), ga, eo, ag, wish⟩)
        first | exact wpAny_bind (wpAny_pure (wpAny_bind out)) | exact wpAny_bind out
      | @cons x n k b su p1 p2 hd2 l2 C m2 ih =>
        intro wish
        obtain ⟨v, isK, yes, no⟩ := wish
        refine wpAny_handleBy_cons (codeAny_handlers_test ?_) nofun
        have tyA : PySem.W.Looks (model X.prog X.w) g3 (typeOf (.ref a)) cl := fun A Q E r k q => wpAny_typeOf_ref (k _ _ ho) (zo.1.symm ▸ q)
        have ans := PySem.W.exm_one (M := model X.prog X.w) (J3.kIn) tyA isK
        have reads : ∀ {Q E : Value → Shared → Prop}, Q k.1 { s' with heap := g3 } → wpAny (model X.prog X.w) (X.A.mark (some (.ref a))) (eval (.Name x p1) X.env) Q E { s' with heap := g3 } := fun {Q E} q => by
          rcases C.names with ⟨n1, n2, n3 | ⟨n3, n4, n5⟩⟩
          · exact ld_glob (X := X.suite a ((a, o3) :: (X.pn ++ pins))) S3 n1 n3 q n2
          · exact ld_blt (X := X.suite a ((a, o3) :: (X.pn ++ pins))) S3 n1 n3 n4 q n5 n2
        refine reads (ans.here ?_)
        cases v with
        | false => exact ih (no rfl)
        | true =>
          apply codeAny_handlers_suite_as
          refine HandSPX.lands_againZ dn fun g4 dn4 up4 => ?_
          have J4 : Inv X pins τ G { s' with heap := g4 } := J.landed nb dn4.1 ((up.trans up3).trans up4) eo ag
          obtain ⟨o4, v4, h4, z4, f4⟩ := dn4.there
          refine store_ok (X := X.suite a ((a, o4) :: (X.pn ++ pins))) (v := .ref a) (J4.suite h4 f4 ga aL aF) nd C.at_ (.inl C.loc) rfl (fun s5 S5 => ?_) (.inr C.loc)
          refine wpAny_mono ((C.run a o4 cl d (X.pn ++ pins) z4 ⟨_, f4⟩).run [] s5 _ G _ S5 (yes rfl a ga)) (fun f s6 e => ?_) (fun _ _ z => z.elim)
          have bye : ∀ {σ6 : L2.St} {H6 : Hp} {Q : Shared → Prop}, Inv (X.suite a ((a, o4) :: (X.pn ++ pins))) [] σ6 H6 s6 → (∀ s7, Inv X pins (σ6.set k.2.1 none) H6 s7 → Q s7) →
              wpAny (model X.prog X.w) X.A (do bindName X.env n .none; unbindBehindTheSuite X.env n p2) (fun _ s7 => Q s7) X.xe s6 := fun S6 q => gone_ok (S6.unsuite okX) nd C.at_ C.loc q
          cases f with
          | ret u =>
            obtain ⟨v6, σ6, H6, S6, r6, q6⟩ := e
            exact bye S6 fun s7 J7 => ⟨_, _, _, J7, r6, q6⟩
          | _ =>
            obtain ⟨σ6, H6, S6, q6⟩ := e
            exact bye S6 fun s7 J7 => ⟨_, _, J7, q6⟩
    exact each all (wish J.len)
  · cases f with
    | next =>
      obtain ⟨τ, G, J, q⟩ := e
      exact wpAny_execs_nil ⟨τ, G, J.ofTry okX, q⟩
    | ret u =>
      obtain ⟨v, τ, G, J, r, q⟩ := e
      exact ⟨v, τ, G, J.ofTry okX, r, q⟩
    | _ =>
      obtain ⟨τ, G, J, q⟩ := e
      exact ⟨τ, G, J.ofTry okX, q⟩
end
end L2

/-! error classes of the program that keep their argument: made, raised, caught, asked for their class -/
namespace L2
open PySem PySem.Spec PyProof.Rows
/-- what stands of an error class C with the field f; its __init__ at fI -/
structure ErrC (K : PySem.W.Frag) (mg : Str → Option Value) (x f : Str) (C fI : Addr) : Prop where
  gC : mg x = some (.ref C)
  ox : OexC K C
  no : PySem.W.findIn K (.ref C) f = some none
  iC : PySem.W.findIn K (.ref C) "__init__" = some (some (.ref fI))
  tI : PySem.W.typeIn K (.ref fI) = some (.type "function")
  ga : PySem.W.findIn K (.ref C) "__getattribute__" = some (some (.builtin "BaseException.__getattribute__"))
  gg : PySem.W.findIn K (.ref C) "__getattr__" = some none
  hd : PySem.W.hasDictIn K C = true
  ac : PySem.W.findIn K (.ref C) "__class__" = some (some (.builtin "object.__class__"))
  gt : PySem.W.specialIn K (.builtin "object.__class__") "__get__" = some (some (.builtin "getset_descriptor.__get__"))
  tk : PySem.W.takesIn K (.builtin "object.__class__") = some true
  ob : PySem.W.mroIn K C (.type "object") = some true
theorem ErrC.xf {K : PySem.W.Frag} {mg : Str → Option Value} {x f : Str} {C fI : Addr} (T : ErrC K mg x f C fI) : XfC K C := ⟨T.ga, T.gg, T.ox.exC, T.hd⟩
theorem ErrC.cl {K : PySem.W.Frag} {mg : Str → Option Value} {x f : Str} {C fI : Addr} (T : ErrC K mg x f C fI) : (PySem.W.clsIn K C).isSome = true := by
  obtain ⟨cd, hc, _⟩ := PySem.W.any_some T.hd
  rw [hc]
  rfl
def spErr (C : Addr) (f : Str) : Sp := fun vs H Q _ => ∃ (a : Addr) (v : V), vs = [.ref a, v] ∧ H a = some (exo a C none) ∧ ∀ dx, H dx = none → dx ≠ a → Q .non (upd (upd H dx (exd dx [(f, v)])) a (exo a C (some dx)))
theorem ok_err {P : Program} {w : World} {K : PySem.W.Frag} {mg : Str → Option Value} {base : Heap} {qual f x par : Str} {st : Stmt} {fI C : Addr} {fd : FuncData} {p1 p2 p3 p4 : Pos} (F : Fun K "__init__" qual st fI fd) (T : ErrC K mg x f C fI)
    (hB : defBody st = [.Assign [.Attribute (.Name "self" p1) f p2] (.Name par p3) p4]) (S : FnScope ["self", par] ["self", par] (defScope st)) (v0 : Vis (defScope st) "self") (v1 : Vis (defScope st) par)
    (d0 : (par == ("__debug__" : Str)) = false := by decide) (d1 : (par == ("__classdict__" : Str)) = false := by decide) : FnOk P w K mg base CX0 1 fI fd ["self", par] (spErr C f) := by
  refine F.ok S (fun vs H Q E h => ?_) (fun cdv A outer s H vs Q E hr h => ?_)
  · obtain ⟨a, v, rfl, _⟩ := h
    rfl
  · obtain ⟨a, v, rfl, e, q⟩ := h
    rw [hB]
    refine ⟨_, pss_one (ps_ost (pe_var (i := 0) rfl v0 (by decide) (by decide)) (pe_var (i := 1) rfl v1 d0 d1)), ?_⟩
    exact ⟨_, rfl, _, rfl, a, C, rfl, T.ox, T.no, .inl ⟨e, fun dx n ne => q dx n ne⟩⟩
theorem mkErr {C : Addr} {f : Str} {v : V} {H1 : Hp} {Q : XK} (h : ∀ H' d, Same H1 H' → H1 d = none → H' d = some (.xd [(f, v)]) → Q (.ref C) (some d) H') :
    [v].length ≤ 1000 ∧ ∀ a, H1 a = none → spErr C f (.ref a :: ([v] ++ [])) (upd H1 a (exo a C none))
      (fun u H2 => u = .non ∧ ∃ (d : Addr) (fs : List (Str × V)), H2 a = some (exo a C (some d)) ∧ H2 d = some (exd d fs) ∧ H1 d = none ∧ Q (.ref C) (some d) (upd (del H2 a) d (.xd fs))) (fun _ _ _ => False) := by
  refine ⟨(by decide : 1 ≤ 1000), fun a na => ⟨a, v, rfl, upd_same, fun dx nd ne => ⟨rfl, dx, [(f, v)], upd_same, (upd_ne ne).trans upd_same, ?_, ?_⟩⟩⟩
  · rwa [upd_ne ne] at nd
  · rw [upd_ne ne] at nd
    refine h _ dx (fun b o e => ?_) nd upd_same
    have n1 : b ≠ a := ne_of_none e na
    have n2 : b ≠ dx := ne_of_none e nd
    rw [upd_ne n2, del_ne n1, upd_ne n1, upd_ne n2, upd_ne n1]
    exact e
/-- isinstance(e, c) of the caught error with its dict -/
def rIsX (K : PySem.W.Frag) (D a : Addr) (cls : Value) (d : Option Addr) : List V → Hp → VK → Prop := fun xs H Q =>
  ∃ (c : V) (cv : Value) (b : Bool) (dd : Addr) (fs : List (Str × V)), xs = [.ref a, c] ∧ ClsV c cv ∧ cls = .ref D ∧ d = some dd ∧ H dd = some (.xd fs) ∧ PySem.W.kitOne K (.ref D) cv = some b ∧ Q (.bl b) H
theorem call_isX {X : Cx} {a D fI : Addr} {x f : Str} {oe : Obj} {cls : Value} {d : Option Addr} {pn : List (Addr × Obj)} (T : ErrC X.K X.mg x f D fI) (hz : Zc cls d oe) (hf : ∃ vs, oe.data = .fields vs) :
    CallR (X.suite a ((a, oe) :: pn)) (.builtin "isinstance") (rIsX X.K D a cls d) := by
  intro pins s σ H xs us Q I r h
  obtain ⟨c, cv, b, dd, fs, rfl, k, rfl, rfl, hd, e, q⟩ := h
  cases r with
  | cons rx rr =>
    cases rr with
    | cons rt rr =>
      cases rr
      cases rx
      have ec := k.eq rt
      subst ec
      obtain ⟨hget, _⟩ := I.pin (a, oe) (List.mem_append_left _ List.mem_cons_self)
      obtain ⟨vs, hv⟩ := hf
      have hx : ObjOk X.prog X.w H s.heap dd (.xd fs) := I.hok dd _ hd
      obtain ⟨mA, hns, _⟩ := hx
      obtain ⟨od, ho, _⟩ := lookIn_ns hns
      have J : PySem.W.InstAt s.heap a oe D (some od) := ⟨hget, hz.1, by unfold PySem.W.notCls; rw [hv] <;> rfl, by rw [hz.2]; exact ho⟩
      exact PySem.W.kia_one (PySem.W.kitx_exc T.cl T.ga T.gg T.ox.exC T.ac T.gt T.tk T.ob) I.kIn J e (fun z => nomatch z) fun tk => ⟨.bl b, H, I.kept (t' := tk) fun _ _ z => z, rfl, q⟩
theorem TyX.same {K : PySem.W.Frag} {H H' : Hp} {v : V} {t : Value} (ty : TyX K H v t) (s : Same H H') : TyX K H' v t := by
  cases ty with
  | base b =>
    cases b with
    | non => exact .base .non
    | bl y => exact .base (.bl y)
    | int i => exact .base (.int i)
    | str y => exact .base (.str y)
    | flt y => exact .base (.flt y)
    | lst e => exact .base (.lst (s _ _ e))
    | frz e => exact .base (.frz (s _ _ e))
    | tup e => exact .base (.tup (s _ _ e))
    | dK e => exact .base (.dK (s _ _ e))
    | dT e => exact .base (.dT (s _ _ e))
    | ins e cl ha hn htk hm => exact .base (.ins (s _ _ e) cl ha hn htk hm)
  | byt b => exact .byt b
  | set e => exact .set (s _ _ e)
  | kList e c => exact .kList e c
  | kTuple e c => exact .kTuple e c
  | kDict e c => exact .kDict e c
  | fTuple e => exact .fTuple (s _ _ e)
  | fDict e => exact .fDict (s _ _ e)
end L2

/-! things of any kind, as menus hold them -/
namespace L2
open PySem PySem.Spec PyProof.Rows
inductive Flat : V → PyData → Prop
  | non : Flat .non .none
  | bl (b : Bool) : Flat (.bl b) (.bool b)
  | int (i : Int) : Flat (.int i) (.int i)
  | str (x : Str) : Flat (.str x) (.str x)
inductive Flats : List V → List PyData → Prop
  | nil : Flats [] []
  | cons {v : V} {vs : List V} {d : PyData} {ds : List PyData} : Flat v d → Flats vs ds → Flats (v :: vs) (d :: ds)
/-- a thing that is not at p: its value, its data, its kind -/
inductive Thing (p : Addr) (H : Hp) : V → PyData → String → Prop
  | non : Thing p H .non .none "NoneType"
  | bl (b : Bool) : Thing p H (.bl b) (.bool b) "bool"
  | int (i : Int) : Thing p H (.int i) (.int i) "int"
  | str (x : Str) : Thing p H (.str x) (.str x) "str"
  | tup {a : Addr} {xs : List V} {ds : List PyData} : a ≠ p → H a = some (.tup xs) → Flats xs ds → Thing p H (.ref a) (.tuple ds) "tuple"
  | lst {a : Addr} {xs : List V} {ds : List PyData} : a ≠ p → H a = some (.lst xs) → Flats xs ds → Thing p H (.ref a) (.list ds) "list"
  | dic {a : Addr} : a ≠ p → H a = some (.dK []) → Thing p H (.ref a) (.dict []) "dict"
theorem Flat.dq {K : PySem.W.Frag} {H : Hp} {v : V} {d : PyData} (h : Flat v d) : Dq K H v d := by
  cases h with
  | non => exact .non
  | bl b => exact .bl b
  | int i => exact .int i
  | str x => exact .str x
theorem Flats.dq {K : PySem.W.Frag} {H : Hp} {vs : List V} {ds : List PyData} (h : Flats vs ds) : DqAll K H vs ds := by
  induction h with
  | nil => exact .nil
  | cons a _ ih => exact .cons a.dq ih
section
variable {K : PySem.W.Frag} {p : Addr} {H H' : Hp} {v : V} {d : PyData} {t : String}
/-- all but p and the tables of code objects stands as it stood -/
def Kp (p : Addr) (H H' : Hp) : Prop := ∀ b o, b ≠ p → (∀ ps, o ≠ .tbl ps) → H b = some o → H' b = some o
theorem Kp.refl : Kp p H H := fun _ _ _ _ e => e
theorem Kp.trans {H1 H2 H3 : Hp} (a : Kp p H1 H2) (b : Kp p H2 H3) : Kp p H1 H3 := fun c o n t e => b c o n t (a c o n t e)
theorem Kp.of (s : Same H H') : Kp p H H' := fun b o _ _ e => s b o e
theorem Kp.ext (s : LamX.ExtN H H') : Kp p H H' := fun b o _ t e => s b o e t
theorem Kp.but (s : ∀ b o, b ≠ p → H b = some o → H' b = some o) : Kp p H H' := fun b o n _ e => s b o n e
theorem Kp.new {q : Addr} {o : HO} (s : Kp p H H') (n : H q = none) : Kp p H (upd H' q o) := fun b u nb t e => by rw [upd_ne (ne_of_none e n)]; exact s b u nb t e
theorem Thing.keep (h : Thing p H v d t) (k : Kp p H H') : Thing p H' v d t := by
  cases h with
  | non => exact .non
  | bl b => exact .bl b
  | int i => exact .int i
  | str x => exact .str x
  | tup n e f => exact .tup n (k _ _ n (fun _ z => by cases z) e) f
  | lst n e f => exact .lst n (k _ _ n (fun _ z => by cases z) e) f
  | dic n e => exact .dic n (k _ _ n (fun _ z => by cases z) e)
theorem Thing.same (h : Thing p H v d t) (s : Same H H') : Thing p H' v d t := h.keep (.of s)
theorem Thing.ty (h : Thing p H v d t) : TyX K H v (.type t) := by
  cases h with
  | non => exact .base .non
  | bl b => exact .base (.bl b)
  | int i => exact .base (.int i)
  | str x => exact .base (.str x)
  | tup n e f => exact .base (.tup e)
  | lst n e f => exact .base (.lst e)
  | dic n e => exact .base (.dK e)
theorem Thing.dq (h : Thing p H v d t) : Dq K H v d := by
  cases h with
  | non => exact .non
  | bl b => exact .bl b
  | int i => exact .int i
  | str x => exact .str x
  | tup n e f => exact .tup (SqT.of e) f.dq
  | lst n e f => exact .lst (SqL.of e) f.dq
  | dic n e => exact .dic e
end
theorem Thing.free (h : Thing p H v d t) {q : Addr} (n : H q = none) : v ≠ .ref q := fun z => by
  cases h with
  | tup _ e f => cases z; rw [n] at e; cases e
  | lst _ e f => cases z; rw [n] at e; cases e
  | dic _ e => cases z; rw [n] at e; cases e
  | _ => cases z
/-! sizes of what repr shows -/
structure ShAll (ds : List PyData) (n m : Nat) : Prop where
  ok : PyData.showableAll ds = true
  long : ((PyData.shownAll ds).map (·.length)).sum + 2 * ds.length ≤ n
  deep : PyData.depthAll ds ≤ m
theorem ShAll.nil {m : Nat} : ShAll [] 0 m := ⟨by simp [PyData.showableAll], by simp [PyData.shownAll], by simp [PyData.depthAll]⟩
theorem ShAll.cons {d : PyData} {ds : List PyData} {n k m : Nat} (h : Sh d n m) (hs : ShAll ds k m) : ShAll (d :: ds) (n + 2 + k) m := by
  refine ⟨?_, ?_, ?_⟩
  · simp only [PyData.showableAll, h.ok, hs.ok, Bool.and_self]
  · have a := h.long
    have b := hs.long
    simp only [PyData.shownAll, List.map_cons, List.sum_cons, List.length_cons]
    omega
  · have a := h.deep
    have b := hs.deep
    simp only [PyData.depthAll]
    omega
theorem Sh.lst {ds : List PyData} {n m : Nat} (h : ShAll ds n m) : Sh (.list ds) (n + 3) (m + 1) := by
  refine ⟨?_, ?_, ?_⟩
  · simp only [PyData.showable, h.ok]
  · have a := h.long
    have b := listText_len_le (PyData.shownAll ds)
    rw [PyData.shownAll_length] at b
    simp only [PyData.shown]
    omega
  · have a := h.deep
    simp only [PyData.depth]
    omega
theorem Sh.tup {ds : List PyData} {n m : Nat} (h : ShAll ds n m) : Sh (.tuple ds) (n + 3) (m + 1) := by
  refine ⟨?_, ?_, ?_⟩
  · simp only [PyData.showable, h.ok]
  · have a := h.long
    have b := tupleText_len_le (PyData.shownAll ds)
    rw [PyData.shownAll_length] at b
    simp only [PyData.shown]
    omega
  · have a := h.deep
    simp only [PyData.depth]
    omega
theorem Sh.le {d : PyData} {n n' m m' : Nat} (h : Sh d n m) (hn : n ≤ n') (hm : m ≤ m') : Sh d n' m' := ⟨h.ok, Nat.le_trans h.long hn, Nat.le_trans h.deep hm⟩
theorem Sh.bl (b : Bool) {m : Nat} : Sh (.bool b) 5 m := ⟨by simp only [PyData.showable], by cases b <;> (simp only [PyData.shown]; decide), by simp only [PyData.depth]; omega⟩
theorem Sh.non {m : Nat} : Sh .none 4 m := ⟨by simp only [PyData.showable], by simp only [PyData.shown]; decide, by simp only [PyData.depth]; omega⟩
theorem Sh.str (x : Str) {n m : Nat} (h : (reprText x).length ≤ n) : Sh (.str x) n m := ⟨by simp only [PyData.showable], by simp only [PyData.shown]; exact h, by simp only [PyData.depth]; omega⟩
theorem Sh.int (i : Int) {n m : Nat} (h : i.natAbs.log2 < 1920) (h2 : ((toString i : String) : Str).length ≤ n) : Sh (.int i) n m := ⟨by simp only [PyData.showable]; exact decide_eq_true h, by simp only [PyData.shown]; exact h2, by simp only [PyData.depth]; omega⟩
theorem Sh.dic {m : Nat} : Sh (.dict []) 10 (m + 1) := ⟨by simp only [PyData.showable, PyData.showableKv], by simp only [PyData.shown, PyData.shownKv]; decide +kernel, by simp only [PyData.depth, PyData.depthKv]; omega⟩
/-- an item of a menu: a thing that can be shown, of which C holds -/
def Item (p : Addr) (H : Hp) (C : V → Prop) (v : V) : Prop := ∃ d t, Thing p H v d t ∧ Sh d 300 2 ∧ C v
section
variable {p : Addr} {H H' : Hp} {C : V → Prop}
theorem Item.keep {v : V} (h : Item p H C v) (k : Kp p H H') : Item p H' C v := let ⟨d, t, a, b, c⟩ := h; ⟨d, t, a.keep k, b, c⟩
theorem item_non (c : C .non) : Item p H C .non := ⟨_, _, .non, (Sh.non (m := 0)).le (by decide) (by decide), c⟩
theorem item_bl (b : Bool) (c : C (.bl b)) : Item p H C (.bl b) := ⟨_, _, .bl b, (Sh.bl b).le (by decide) (Nat.le_refl _), c⟩
theorem item_int (i : Int) (h : i.natAbs.log2 < 1920) (h2 : ((toString i : String) : Str).length ≤ 300) (c : C (.int i)) : Item p H C (.int i) := ⟨_, _, .int i, .int i h h2, c⟩
theorem item_str (x : Str) (h : (reprText x).length ≤ 300) (c : C (.str x)) : Item p H C (.str x) := ⟨_, _, .str x, .str x h, c⟩
theorem item_dic {a : Addr} (n : a ≠ p) (e : H a = some (.dK [])) (c : C (.ref a)) : Item p H C (.ref a) := ⟨_, _, .dic n e, (Sh.dic (m := 0)).le (by decide) (by decide), c⟩
theorem item_tup {a : Addr} {xs : List V} {ds : List PyData} {k : Nat} (n : a ≠ p) (e : H a = some (.tup xs)) (f : Flats xs ds) (s : ShAll ds k 0) (hk : k + 3 ≤ 300) (c : C (.ref a)) : Item p H C (.ref a) := ⟨_, _, .tup n e f, (Sh.tup s).le hk (by decide), c⟩
theorem item_lst {a : Addr} {xs : List V} {ds : List PyData} {k : Nat} (n : a ≠ p) (e : H a = some (.lst xs)) (f : Flats xs ds) (s : ShAll ds k 0) (hk : k + 3 ≤ 300) (c : C (.ref a)) : Item p H C (.ref a) := ⟨_, _, .lst n e f, (Sh.lst s).le hk (by decide), c⟩
end
end L2

/-! error classes over any built-in error: made, raised, caught, asked for their class (X0 has those over ValueError) -/
namespace PySem.HandSPX
open PySem PySem.W PySem.Calls PyProof.Rows Builtin Builtin.ObjectAttr
theorem passAE (self : Value) : refuseLoop self "__setattr__" [.type "ArithmeticError", .type "Exception", .type "BaseException", .type "object"] = pure () := by kernel_rfl
theorem passLE (self : Value) : refuseLoop self "__setattr__" [.type "LookupError", .type "Exception", .type "BaseException", .type "object"] = pure () := by kernel_rfl
section
variable {prog : Program} {w : World} {A : Around} {R : Result → Shared → Prop} {hp : Heap} {g : Array GenState} {dr : Drawn} {tk0 : Nat} {os : OsState}
/-- the first attribute of an error, whatever built-in error its class is over -/
theorem gm_store {K : W.Frag} {nm : Str} {tk : Tok} {v : Value} {x C : Addr} {fv : Array Value} {cd : ClassData} (X : K.In hp) (hx : hp.get? x = some { cls := .ref C, data := .fields fv }) (hcd : W.clsIn K C = some cd)
    (full : cd.mro.isEmpty = false) (hob : cd.mro.contains (.type "object") = true) (pass : refuseLoop (.ref x) "__setattr__" cd.mro = pure ()) (hh : cd.hasDict = true) (ha : W.findIn K (.ref C) nm = some none)
    (done : ∀ h1 tk1 dx, (∀ b o, b ≠ x → hp.get? b = some o → h1.get? b = some o) → hp.objs.size ≤ dx → dx ≠ x → h1.get? x = some { cls := .ref C, dict := some dx, data := .fields fv } → h1.Ns1 dx (fun y => if y = nm then some v else none) → R (.ok (.ret .none)) ⟨h1, g, dr, tk1, os⟩) :
    codeAny (model prog w) A (.call (.builtin "object.__setattr__") ⟨[.ref x, .str nm tk, v], []⟩) R ⟨hp, g, dr, tk0, os⟩ := by
  have J : W.InstAt hp x { cls := .ref C, data := .fields fv } C none := ⟨hx, rfl, rfl, trivial⟩
  have S := F.store_object
  have off : x ≠ hp.objs.size := Nat.ne_of_lt (Heap.lt_size hx)
  have mroO : W.mroIn K C (.type "object") = some true := by
    unfold W.mroIn
    rw [hcd, Option.bind_some, if_neg (by rw [full]; decide), hob]
  have isO : W.Looks (model prog w) hp (isInstance (.ref x) (.type "object")) true := J.type.andThen (W.looks_mroIn X mroO)
  refine codeAny_call_builtin S.slot.plain S.entry (@W.check_slot (model prog w) _ _ ⟨hp, g, dr, tk0, os⟩ "object.__setattr__" "object" "__setattr__" (.ref x) [.str nm tk, v] [] _ S.kind S.split isO (S.args (.ref x) (.str nm tk) v) ?_)
  have look : W.Looks (model prog w) hp (classData C) cd := W.looks_clsIn X hcd
  have order : W.Looks (model prog w) hp (mroOf (.ref C)) cd.mro := look.andThen .now
  have none3 : W.Looks (model prog w) hp (storeTaker? none) none := .now
  rw [W.osa_eq, refuse_eq]
  refine wpAny_bind <| wpAny_bind <| J.type.at <| wpAny_bind <| order.at ?_
  rw [pass]
  refine wpAny_pure <| wpAny_bind <| J.type.at <| wpAny_bind <| (W.looks_findIn X ha).at <| wpAny_bind <| none3.at ?_
  show wpAny _ _ (storeInOwnDict (.ref x) (.ref C) (.str nm tk) nm v false) _ _ _
  obtain ⟨c1, c2, c3, c4, c5, c6, c7, c8, c9, c10, c11⟩ := cd
  dsimp only at hh
  subst hh
  unfold storeInOwnDict ownDictForStores
  repeat (first | (with_reducible refine store_in_new ?_ ?_) | (with_reducible refine wpAny_loadPart_at hx ?_) | (with_reducible refine look.at ?_) | wp_step)
  · exact ⟨_, #[], _, (Heap.get?_update_ne _ _ _ _ off.symm).trans (Heap.get?_push_at rfl rfl), rfl, (fun e he => absurd he (by simp)), fun _ => rfl⟩
  intro h1 tk1 hn1 same
  have hx1 : (hp.push { cls := .type "dict", data := .dict #[] }).get? x = some { cls := .ref C, data := .fields fv } := Heap.get?_push_of_some _ hx
  refine done h1 tk1 hp.objs.size (fun b o nb e => ?_) (Nat.le_refl _) off.symm ?_ hn1
  · exact (same.2 b (Nat.ne_of_lt (Heap.lt_size e))).trans ((Heap.get?_update_ne _ _ _ _ nb).trans (Heap.get?_push_of_some _ e))
  · exact (same.2 x off).trans (Heap.get?_update_self _ hx1 rfl)
end
end PySem.HandSPX
namespace L2
open PySem PySem.Spec PyProof.Rows
/-- what the written part says of an error class over some built-in error -/
structure OexB (K : PySem.W.Frag) (C : Addr) : Prop where
  cls : ∃ (nm q : Str) (N : Addr) (bs bm sub bmB : List Value) (sn : List Str) (ab : Bool) (col : Option Bool) (dd : Option Addr) (k0 k1 k2 k3 k5 : Option Value) (B newId initId : String),
    K.lookup C = some (excClassObj nm q C N bs bm true sn sub ab col dd k0 k1 k2 k3 k5 newId) ∧ ExcBaseFacts B newId initId bmB ∧ (∀ Y : String, bm.contains (.type Y) = bmB.contains (.type Y)) ∧ (∀ self : Value, refuseLoop self "__setattr__" bm = pure ()) ∧ bmB.contains (.type "object") = true
  sa : PySem.W.findIn K (.ref C) "__setattr__" = some (some (.builtin "object.__setattr__"))
  exC : PySem.W.subIn K (.ref C) (.type "BaseException") = some true
  tyC : PySem.W.typeIn K (.ref C) = some (.type "type")
  kC : PySem.W.keepIn K (.ref C) = true
theorem OexC.toB {K : PySem.W.Frag} {C : Addr} (T : OexC K C) : OexB K C := by
  obtain ⟨nm, q, N, bs, bm, sn, sub, ab, col, dd, k0, k1, k2, k3, k5, hC, hbm⟩ := T.cls
  exact ⟨⟨nm, q, N, bs, bm, sub, _, sn, ab, col, dd, k0, k1, k2, k3, k5, _, _, _, hC, PySem.F.excBase_ValueError, fun Y => PySem.HandSPX.refsVE_contains Y bm hbm, fun self => PySem.HandSPX.refsVE_pass self bm hbm, by decide +kernel⟩, T.sa, T.exC, T.tyC, T.kC⟩
section
variable {X : Cx} {pins : List (Addr × Obj)} {σ : St} {H : Hp} {s : Shared} {a C : Addr} {f : Str} {y : V} {u : Value} {Q : Unit → Shared → Prop} {E : Value → Shared → Prop} {A : Around}
theorem gm_first (T : OexB X.K C) (I : Inv X pins σ H s) (e : H a = some (exo a C none)) (hno : PySem.W.findIn X.K (.ref C) f = some none) (ry : RelV y u)
    (h : ∀ dx s', H dx = none → dx ≠ a → Inv X pins σ (upd (upd H dx (exd dx [(f, y)])) a (exo a C (some dx))) s' → Q () s') : wpAny (model X.prog X.w) A (setAttr (.ref a) f u) Q E s := by
  obtain ⟨nm, q, N, bs, bm, sub, bmB, sn, ab, col, dd, k0, k1, k2, k3, k5, B, n1, n2, hC, FB, has, pass, ob⟩ := T.cls
  have hcl : PySem.W.clsIn X.K C = some { name := nm, bases := bs, mro := .ref C :: bm, ns := N, qualname := q, hasDict := true, slotNames := sn, subclasses := sub, abstract := ab, collection := col, hasDel := false } := by
    unfold PySem.W.clsIn
    rw [hC] <;> rfl
  obtain ⟨t1, ho⟩ := exo_at I.hok e
  obtain ⟨hp, g, d, t, os⟩ := s
  refine PySem.W.set_plain I.kIn (od := none) (ox := { cls := .ref C, dict := none, data := .fields #[.ref t1, .none, .none, .none, .bool false, .none] }) ⟨ho, rfl, rfl, trivial⟩ T.sa ?_
  refine PySem.HandSPX.gm_store I.kIn ho hcl rfl (show (Value.ref C :: bm).contains (.type "object") = true from by rw [List.contains_cons, has, ob, Bool.or_true]) ((PySem.refuseLoop_ref _ _ C bm).trans (pass _)) rfl hno fun h' tk' dx k dn dne hx hn => ?_
  have hnd : H dx = none := I.hok.fresh dn
  have nd : ∀ {b : Addr} {o : Obj}, hp.get? b = some o → b ≠ dx := fun {b o} z => Nat.ne_of_lt (Nat.lt_of_lt_of_le (Heap.lt_size z) dn)
  have na : ∀ {b : Addr}, H b = none → b ≠ a := fun {b} n z => by
    rw [z, e] at n
    cases n
  have U : Un X.fs [] H (upd (upd H dx (exd dx [(f, y)])) a (exo a C (some dx))) hp h' := by
    constructor
    · intro b o z n _ _
      exact k b o (na n) z
    · intro b o z n _ _
      exact ⟨o.slots, k b o (na n) z⟩
    · intro b o z n _
      rw [upd_ne (na n), upd_ne (nd z)]
      exact n
    · intro b o z _
      by_cases hb : b = a
      · rw [hb]
        exact ⟨_, hx⟩
      · exact ⟨o, k b o hb z⟩
    · intro b xs z
      rw [upd_ne (at_ne e z exo_tup), upd_ne (ne_of_none z hnd)]
      exact z
    · intro b o v z
      rw [upd_ne (at_ne e z exo_frz), upd_ne (ne_of_none z hnd)]
      exact z
    · intro b ps z
      refine ⟨#[], ?_⟩
      rw [upd_ne (at_ne e z exo_tbl), upd_ne (ne_of_none z hnd), z]
      simp
  refine h dx _ hnd dne (I.un (t' := tk') U fun b o z => ?_)
  by_cases hb : b = a
  · subst hb
    rw [upd_same] at z
    cases z
    exact exo_ok hx
  rw [upd_ne hb] at z
  by_cases hd : b = dx
  · subst hd
    rw [upd_same] at z
    cases z
    exact exd_ok hn (relO_put (fs := []) ry fun _ => True.intro)
  rw [upd_ne hd] at z
  refine (I.hok b o z).stay (fun c v hc y => k c v ?_ y) (fun c hc => ?_) (fun c xs hc => ?_)
  · rcases hc with hc | hc
    · rw [hc]
      exact hb
    · exact at_ne e hc exo_own
  · rw [upd_ne (at_ne e hc exo_own), upd_ne (ne_of_none hc hnd)]
    exact hc
  · rw [upd_ne (at_ne e hc exo_tup), upd_ne (ne_of_none hc hnd)]
    exact hc
end
/-- self.f = e, the first attribute of an error -/
def tOstB (K : PySem.W.Frag) (f : Str) (to te : TE) : TS := fun D σ H => te σ H fun y H1 => to σ H1 fun x H2 => ∃ a C : Addr, x = .ref a ∧ OexB K C ∧ PySem.W.findIn K (.ref C) f = some none ∧
  H2 a = some (exo a C none) ∧ ∀ dx, H2 dx = none → dx ≠ a → D.nx σ (upd (upd H2 dx (exd dx [(f, y)])) a (exo a C (some dx)))
section
variable {X : Cx} {o e : Expr} {es : List Expr} {to te : TE} {ta : TA} {f : Str} {p p' pos : Pos}
theorem ps_ostB (ho : PE X o to) (he : PE X e te) (hs : swapsWith e (some (.Attribute o f p')) pos.line X.env = pure false := by rfl) : PS X (.Assign [.Attribute o f p'] e pos) (tOstB X.K f to te) := by
  constructor
  intro pins s σ H D I h
  refine plainObj_wpAny_Assign_Attribute (thn (he.run pins s σ H _ I h) fun v s1 h1 => ?_) hs
  obtain ⟨y, H1, I1, r1, q1⟩ := h1
  refine thn (ho.run pins s1 σ H1 _ I1 q1) fun u s2 h2 => ?_
  obtain ⟨x, H2, I2, r2, a, C, rfl, T, hno, ea, q⟩ := h2
  obtain rfl : u = Value.ref a := r2
  exact gm_first T I2 ea hno r1 fun dx s' n ne J => ⟨σ, _, J, q dx n ne⟩
theorem pmk_oexB {CX : CXT} {x : Str} {C fI : Addr} {k : Nat} {fd : FuncData} {ps : List Str} {sp : Sp} (T : OexB X.K C) (iC : PySem.W.findIn X.K (.ref C) "__init__" = some (some (.ref fI))) (tI : PySem.W.typeIn X.K (.ref fI) = some (.type "function"))
    (F1 : FnOk X.prog X.w X.K X.mg X.base CX k fI fd ps sp) (hr : Room (k + 1) X.A) (hb : Binds X.K fd ps []) (hx : Passes CX X (fun _ _ _ => False)) (hg : Gl X x) (hm : X.mg x = some (.ref C)) (ha : PA X (e :: es) ta)
    (hdb : (x == ("__debug__" : Str)) = false := by decide) (he : starEach (e :: es) X.env = (false, eval e X.env) :: starEach es X.env := by rfl) (hpl : (backTo pos (starEach es X.env)).any (·.1) = false := by rfl) :
    PMk X (.Call (.Name x p) (e :: es) [] pos) (tMkO C sp [] ta) := by
  intro pins s σ H Q I h
  obtain ⟨nm, q, N, bs, bm, sub, bmB, sn, ab, col, dd, k0, k1, k2, k3, k5, B, n1, n2, hC, FB, has, pass, ob⟩ := T.cls
  refine wpAny_Call_Name_kw (ld_glob I hg hm ?_ hdb)
  refine PySem.W.callWith_K (h₀ := X.base) I.ok.mod.kin T.kC (thn (ha.run pos pins s σ H _ I h) fun us s1 h1 => ?_) he hpl
  obtain ⟨vs, H1, I1, r1, hz, q1⟩ := h1
  refine ⟨I1.kIn, ?_⟩
  show wpAny _ _ (call (.ref C) us) _ _ _
  obtain ⟨hp, g, dr, tk, os⟩ := s1
  obtain ⟨top, etop⟩ : ∃ z, z = hp.objs.size + 1 := ⟨_, rfl⟩
  have hsz : hp.objs.size ≤ top := etop ▸ Nat.le_succ _
  have hq := q1 top (I1.hok.fresh hsz)
  have kk : ∀ b o, hp.get? b = some o → ((hp.push (PySem.W.kdv_tup us)).push (PySem.HandSPX.excO C hp.objs.size)).get? b = some o := fun b o z => Heap.get?_push_of_some _ (Heap.get?_push_of_some _ z)
  have hget : ((hp.push (PySem.W.kdv_tup us)).push (PySem.HandSPX.excO C hp.objs.size)).get? top = some (PySem.HandSPX.excO C hp.objs.size) := by
    rw [etop]
    heap_get
  have I2 : Inv X pins σ (upd H1 top (exo top C none)) ⟨(hp.push (PySem.W.kdv_tup us)).push (PySem.HandSPX.excO C hp.objs.size), g, dr, tk, os⟩ := I1.laid (t' := tk) kk hsz (exo_ok hget)
  have r2 : Vals (V.ref top :: (vs ++ [])) (Value.ref top :: (us ++ [])) := .cons rfl (r1.append .nil)
  have hl : (Value.ref top :: us ++ []).length = ps.length := by
    have z := r2.length
    rw [F1.len _ _ _ _ hq] at z
    exact z.symm
  have hus : us.length ≤ sizeLine := by
    rw [← Paired.length r1, sizeLine_eq]
    omega
  have bound : BindsTo ⟨(hp.push (PySem.W.kdv_tup us)).push (PySem.HandSPX.excO C hp.objs.size), g, dr, tk, os⟩ fd ⟨Value.ref top :: us, []⟩ (ps.zip (Value.ref top :: us ++ [])) := hb _ (Value.ref top :: us) I2.kIn hl
  have run := F1.run _ X.stack _ _ ⟨Value.ref top :: us, []⟩ (Value.ref top :: us ++ []) _ _ (fun _ _ _ => False) (hr.make C us []) (I2.env0.make C us []) bound r2 hq
  subst etop
  refine wpAny_call (PySem.HandSPX.call_own FB has (I1.kIn _ _ hC) (PySem.W.looks_findIn I1.kIn iC) (fun self => PySem.W.bind_fn I1.kIn self tI) hus (codeAny_mono run fun r s' hq' => ?_))
  match r, hq' with
  | .error er, hq' => exact hx pins σ _ _ er s' I2 hq'
  | .ok (.ret u), hq' =>
    obtain ⟨v, H2, os2, bare2, un2, hok2, rv, ev, d, fs, ea, ed, hd1, q2⟩ := hq'
    subst ev
    obtain ⟨h2, g2, d2, t2, os'⟩ := s'
    exact ⟨rv, mk_end (raises_own T.exC T.tyC) I1 hsz kk un2 hok2 os2 bare2 ea ed hd1 q2⟩
end
/-- an error class with one attribute, over any built-in error -/
structure ErrB (K : PySem.W.Frag) (mg : Str → Option Value) (x f : Str) (C fI : Addr) : Prop where
  gC : mg x = some (.ref C)
  ox : OexB K C
  no : PySem.W.findIn K (.ref C) f = some none
  iC : PySem.W.findIn K (.ref C) "__init__" = some (some (.ref fI))
  tI : PySem.W.typeIn K (.ref fI) = some (.type "function")
  ga : PySem.W.findIn K (.ref C) "__getattribute__" = some (some (.builtin "BaseException.__getattribute__"))
  gg : PySem.W.findIn K (.ref C) "__getattr__" = some none
  hd : PySem.W.hasDictIn K C = true
  ac : PySem.W.findIn K (.ref C) "__class__" = some (some (.builtin "object.__class__"))
  gt : PySem.W.specialIn K (.builtin "object.__class__") "__get__" = some (some (.builtin "getset_descriptor.__get__"))
  tk : PySem.W.takesIn K (.builtin "object.__class__") = some true
  ob : PySem.W.mroIn K C (.type "object") = some true
section
variable {K : PySem.W.Frag} {mg : Str → Option Value} {x f : Str} {C fI : Addr}
theorem ErrC.toB (T : ErrC K mg x f C fI) : ErrB K mg x f C fI := ⟨T.gC, T.ox.toB, T.no, T.iC, T.tI, T.ga, T.gg, T.hd, T.ac, T.gt, T.tk, T.ob⟩
theorem ErrB.xf (T : ErrB K mg x f C fI) : XfC K C := ⟨T.ga, T.gg, T.ox.exC, T.hd⟩
theorem ErrB.cl (T : ErrB K mg x f C fI) : (PySem.W.clsIn K C).isSome = true := by
  obtain ⟨cd, hc, _⟩ := PySem.W.any_some T.hd
  rw [hc]
  rfl
end
theorem ok_errB {P : Program} {w : World} {K : PySem.W.Frag} {mg : Str → Option Value} {base : Heap} {qual f x par : Str} {st : Stmt} {fI C : Addr} {fd : FuncData} {p1 p2 p3 p4 : Pos} (F : Fun K "__init__" qual st fI fd) (T : ErrB K mg x f C fI)
    (hB : defBody st = [.Assign [.Attribute (.Name "self" p1) f p2] (.Name par p3) p4]) (S : FnScope ["self", par] ["self", par] (defScope st)) (v0 : Vis (defScope st) "self") (v1 : Vis (defScope st) par)
    (d0 : (par == ("__debug__" : Str)) = false := by decide) (d1 : (par == ("__classdict__" : Str)) = false := by decide) : FnOk P w K mg base CX0 1 fI fd ["self", par] (spErr C f) := by
  refine F.ok S (fun vs H Q E h => ?_) (fun cdv A outer s H vs Q E hr h => ?_)
  · obtain ⟨a, v, rfl, _⟩ := h
    rfl
  · obtain ⟨a, v, rfl, e, q⟩ := h
    rw [hB]
    refine ⟨_, pss_one (ps_ostB (pe_var (i := 0) rfl v0 (by decide) (by decide)) (pe_var (i := 1) rfl v1 d0 d1)), ?_⟩
    exact ⟨_, rfl, _, rfl, a, C, rfl, T.ox, T.no, e, fun dx n ne => q dx n ne⟩
theorem call_isXB {X : Cx} {a D fI : Addr} {x f : Str} {oe : Obj} {cls : Value} {d : Option Addr} {pn : List (Addr × Obj)} (T : ErrB X.K X.mg x f D fI) (hz : Zc cls d oe) (hf : ∃ vs, oe.data = .fields vs) :
    CallR (X.suite a ((a, oe) :: pn)) (.builtin "isinstance") (rIsX X.K D a cls d) := by
  intro pins s σ H xs us Q I r h
  obtain ⟨c, cv, b, dd, fs, rfl, k, rfl, rfl, hd, e, q⟩ := h
  cases r with
  | cons rx rr =>
    cases rr with
    | cons rt rr =>
      cases rr
      cases rx
      have ec := k.eq rt
      subst ec
      obtain ⟨hget, _⟩ := I.pin (a, oe) (List.mem_append_left _ List.mem_cons_self)
      obtain ⟨vs, hv⟩ := hf
      have hx : ObjOk X.prog X.w H s.heap dd (.xd fs) := I.hok dd _ hd
      obtain ⟨mA, hns, _⟩ := hx
      obtain ⟨od, ho, _⟩ := lookIn_ns hns
      have J : PySem.W.InstAt s.heap a oe D (some od) := ⟨hget, hz.1, by unfold PySem.W.notCls; rw [hv] <;> rfl, by rw [hz.2]; exact ho⟩
      exact PySem.W.kia_one (PySem.W.kitx_exc T.cl T.ga T.gg T.ox.exC T.ac T.gt T.tk T.ob) I.kIn J e (fun z => nomatch z) fun tk => ⟨.bl b, H, I.kept (t' := tk) fun _ _ z => z, rfl, q⟩
end L2

-- NOREN
namespace Gm
open PySem L2 LamX

abbrev nGot : List Str := ["_law_ask", "_law_given", "e"]
theorem scGot : FnScope nGot ["_law_ask"] (defScope sGot) := ⟨rfl, rfl, rfl, by decide +kernel, rfl, by decide +kernel, by decide +kernel⟩
/-- an error class that _law_got tells: where it stands, how it is told, its attribute -/
structure Cat where
  at_ : Addr
  name : Str
  fld : Str
def gotW (cs : List Cat) (Q : VK) : XK := fun cls d H' => ∃ c ∈ cs, cls = .ref c.at_ ∧ ∃ (dd : Addr) (v : V), d = some dd ∧ H' dd = some (.xd [(c.fld, v)]) ∧ ∀ p, H' p = none → Q (.ref p) (upd H' p (.lst [.str c.name, v, .bl true]))
def TTgot (cs : List Cat) : (XK → Hp → VK → Prop) → Hp → VK → Prop := fun tl H Q => tl (gotW cs Q) H (fun v H' => ∀ p, H' p = none → Q (.ref p) (upd H' p (.lst [.str "given", v])))
abbrev Yg (X : Cx) (g : Addr) (cdg : Value) (s : Shared) (H : Hp) : Cx := (cxOf C8.CX0 X.prog X.w X.K X.mg X.base nGot "_law_got" (defScope sGot) g cdg X.A X.stack s H C8.E0).nox
theorem pe_weak {X : Cx} {e : Expr} {t : TE} (h : PE X e t) : PE X e (fun σ H Q => ∃ R : VK, t σ H R ∧ ∀ v H', R v H' → Q v H') := ⟨fun pins s σ H Q I ⟨R, hr, k⟩ =>
  wpAny_mono (h.run pins s σ H R I hr) (fun u s' ⟨v, H', I', r, q⟩ => ⟨v, H', I', r, k _ _ q⟩) fun _ _ z => z⟩
theorem look1 {f : Str} {v : V} : List.lookup f [(f, v)] = some v := by simp [List.lookup]
structure TxG (K : PySem.W.Frag) (mg : Str → Option Value) (CIn CMk CWd CNb : Addr) : Prop where
  isi : mg "isinstance" = none
  pValueError : mg "ValueError" = none
  gIn : mg "InputError" = some (.ref CIn)
  xMk_Mk : PySem.W.exmOne K (.ref CMk) (.ref CMk) = some true
  xWd_Mk : PySem.W.exmOne K (.ref CWd) (.ref CMk) = some false
  xWd_Wd : PySem.W.exmOne K (.ref CWd) (.ref CWd) = some true
  xNb_Mk : PySem.W.exmOne K (.ref CNb) (.ref CMk) = some false
  xNb_Wd : PySem.W.exmOne K (.ref CNb) (.ref CWd) = some false
  xNb_Nb : PySem.W.exmOne K (.ref CNb) (.ref CNb) = some true
  bMk : PySem.W.kitOne K (.ref CMk) (.ref CIn) = some true
  vMk : PySem.W.kitOne K (.ref CMk) (.type "ValueError") = some true
  bWd : PySem.W.kitOne K (.ref CWd) (.ref CIn) = some true
  vWd : PySem.W.kitOne K (.ref CWd) (.type "ValueError") = some true
  bNb : PySem.W.kitOne K (.ref CNb) (.ref CIn) = some true
  vNb : PySem.W.kitOne K (.ref CNb) (.type "ValueError") = some true
abbrev catsG (CMk CWd CNb : Addr) : List Cat := [⟨CMk, "InvalidMarks", "value"⟩, ⟨CWd, "InvalidWord", "value"⟩, ⟨CNb, "NotABoard", "value"⟩]
theorem got_gives {X : Cx} {q : Str} {g CIn CMk CWd CNb eMk eWd eNb : Addr} {cdg : Value} (T : TxG X.K X.mg CIn CMk CWd CNb) (EMk : ErrB X.K X.mg "InvalidMarks" "value" CMk eMk) (EWd : ErrB X.K X.mg "InvalidWord" "value" CWd eWd) (ENb : ErrB X.K X.mg "NotABoard" "value" CNb eNb) :
    GivesTo X nGot "_law_got" (defScope sGot) g cdg (defBody sGot) "_law_ask" q (TTgot (catsG CMk CWd CNb)) := by
  intro f c' s H Q tl act hc h
  have nd := scGot.nd
  refine ⟨_, pss_cons (ps_try_named (X := Yg X g cdg s H)
      (tb := fun W D σ H => ∃ Ech : XK, (∀ cls d σ' H', Ech cls d H' → W cls d σ' H') ∧ ∃ R : VK, (σ[0]? = some (some (.ref f)) ∧ H c' = some (CodeO c' q) ∧ tl Ech H R) ∧ ∀ v H', R v H' → D.nx (σ.set 1 (some v)) H')
      rfl rfl nd L2.takes0 (fun W pn xe tk _ => ?_)
      (.cons (k := (.ref CMk, 2, _)) ⟨⟨by rfl, by decide, .inl EMk.gC⟩, rfl, rfl, fun a oe cl d pn hz hf => pss_one (ps_ret (pe_lst (pa_cons pe_str (pa_cons (pe_xf (X := Yg X g cdg s H) EMk.xf EMk.no hz hf (pv 2))
          (pa_cons (pe_and (pe_callB (call_isXB (X := Yg X g cdg s H) EMk hz hf) (by rfl) T.isi (by decide +kernel) (pa_cons (pv 2) (pa_cons (pe_glob (v := .ref CIn) (by rfl) T.gIn rfl) pa_nil)))
            (pe_one (pe_callB (call_isXB (X := Yg X g cdg s H) EMk hz hf) (by rfl) T.isi (by decide +kernel) (pa_cons (pv 2) (pa_cons (pe_bltn (v := .ty "ValueError") (by rfl) T.pValueError (by decide +kernel) rfl) pa_nil))))) pa_nil)))))⟩
      (.cons (k := (.ref CWd, 2, _)) ⟨⟨by rfl, by decide, .inl EWd.gC⟩, rfl, rfl, fun a oe cl d pn hz hf => pss_one (ps_ret (pe_lst (pa_cons pe_str (pa_cons (pe_xf (X := Yg X g cdg s H) EWd.xf EWd.no hz hf (pv 2))
          (pa_cons (pe_and (pe_callB (call_isXB (X := Yg X g cdg s H) EWd hz hf) (by rfl) T.isi (by decide +kernel) (pa_cons (pv 2) (pa_cons (pe_glob (v := .ref CIn) (by rfl) T.gIn rfl) pa_nil)))
            (pe_one (pe_callB (call_isXB (X := Yg X g cdg s H) EWd hz hf) (by rfl) T.isi (by decide +kernel) (pa_cons (pv 2) (pa_cons (pe_bltn (v := .ty "ValueError") (by rfl) T.pValueError (by decide +kernel) rfl) pa_nil))))) pa_nil)))))⟩
      (.cons (k := (.ref CNb, 2, _)) ⟨⟨by rfl, by decide, .inl ENb.gC⟩, rfl, rfl, fun a oe cl d pn hz hf => pss_one (ps_ret (pe_lst (pa_cons pe_str (pa_cons (pe_xf (X := Yg X g cdg s H) ENb.xf ENb.no hz hf (pv 2))
          (pa_cons (pe_and (pe_callB (call_isXB (X := Yg X g cdg s H) ENb hz hf) (by rfl) T.isi (by decide +kernel) (pa_cons (pv 2) (pa_cons (pe_glob (v := .ref CIn) (by rfl) T.gIn rfl) pa_nil)))
            (pe_one (pe_callB (call_isXB (X := Yg X g cdg s H) ENb hz hf) (by rfl) T.isi (by decide +kernel) (pa_cons (pv 2) (pa_cons (pe_bltn (v := .ty "ValueError") (by rfl) T.pValueError (by decide +kernel) rfl) pa_nil))))) pa_nil)))))⟩
      .nil))))
    (pss_one (ps_ret (pe_lst (pa_cons pe_str (pa_cons (pv 1) pa_nil))))), ?_⟩
  · refine ⟨fun pins s' σ H' D I h' => ?_⟩
    obtain ⟨Ech, hW, h1⟩ := h'
    exact (pss_one (ps_set (i := 1) nd rfl (Or.inl rfl) (pe_weak (act W pn xe Ech _ _ tk hW)))).run pins s' σ H' D I h1
  · refine ⟨_, ?_, _, ⟨rfl, hc, h⟩, ?_⟩
    · rintro cls d σ' H' ⟨c, m, rfl, dd, v, rfl, e, k⟩ hl
      simp only [List.mem_cons, List.not_mem_nil, or_false] at m
      have h2 : ∀ u, (σ'.set 2 u)[2]? = some u := fun u => List.getElem?_set_self (by rw [hl]; exact (by decide : 2 < 3))
      have hz : 3 ≤ sizeLine := by rw [sizeLine_eq]; decide
      rcases m with rfl | rfl | rfl
      · refine ⟨true, T.xMk_Mk, fun _ a na => ?_, fun z => nomatch z⟩
        refine ⟨_, h2 _, rfl, rfl, dd, _, v, rfl, e, look1, ?_⟩
        refine ⟨_, h2 _, _, _, true, dd, _, rfl, .own CIn, rfl, rfl, e, T.bMk, _, rfl, iteT ?_⟩
        exact ⟨_, h2 _, _, _, true, dd, _, rfl, .ty "ValueError", rfl, rfl, e, T.vMk, hz, k⟩
      · refine ⟨false, T.xWd_Mk, (fun z => nomatch z), fun _ => ⟨true, T.xWd_Wd, (fun _ a na => ?_), fun z => nomatch z⟩⟩
        refine ⟨_, h2 _, rfl, rfl, dd, _, v, rfl, e, look1, ?_⟩
        refine ⟨_, h2 _, _, _, true, dd, _, rfl, .own CIn, rfl, rfl, e, T.bWd, _, rfl, iteT ?_⟩
        exact ⟨_, h2 _, _, _, true, dd, _, rfl, .ty "ValueError", rfl, rfl, e, T.vWd, hz, k⟩
      · refine ⟨false, T.xNb_Mk, (fun z => nomatch z), fun _ => ⟨false, T.xNb_Wd, (fun z => nomatch z), fun _ => ⟨true, T.xNb_Nb, (fun _ a na => ?_), fun z => nomatch z⟩⟩⟩
        refine ⟨_, h2 _, rfl, rfl, dd, _, v, rfl, e, look1, ?_⟩
        refine ⟨_, h2 _, _, _, true, dd, _, rfl, .own CIn, rfl, rfl, e, T.bNb, _, rfl, iteT ?_⟩
        exact ⟨_, h2 _, _, _, true, dd, _, rfl, .ty "ValueError", rfl, rfl, e, T.vNb, hz, k⟩
    · intro v H' k
      exact ⟨_, rfl, by show 2 ≤ sizeLine; rw [sizeLine_eq]; decide, k⟩
end Gm

-- NOREN
/-! checks that refuse, of laws without histories -/
namespace Gm
open PySem L2 LamX
/-- an own error comes out, with v in its attribute -/
def Comes (E : XK) (H : Hp) (C : Addr) (f : Str) (v : V) : Prop := ∀ H' d, Same H H' → H d = none → H' d = some (.xd [(f, v)]) → E (.ref C) (some d) H'
theorem Comes.same {E : XK} {H H1 : Hp} {C : Addr} {f : Str} {v : V} (h : Comes E H C f v) (s : Same H H1) : Comes E H1 C f v := fun H' d s' n e => h H' d (fun b o x => s' _ _ (s _ _ x)) (s.free n) e
/-- whether v is a text over ch of length n -/
def AsW (K : PySem.W.Frag) (H : Hp) (v : V) (ch : List Nat) (n : Int) (b : Bool) : Prop := (∃ s : List Nat, v = .str (tx s) ∧ s.length ≤ 1000 ∧ b = decide (Wd ch n s)) ∨ (∃ t, TyX K H v t ∧ PySem.W.kitOne K t (.type "str") = some false ∧ b = false)
section
variable {K : PySem.W.Frag} {H H' : Hp} {v : V} {l ch : List Nat} {n : Int} {b : Bool}
theorem AsW.same (h : AsW K H v ch n b) (s : Same H H') : AsW K H' v ch n b := by
  rcases h with h | ⟨t, ty, k⟩
  · exact .inl h
  · exact .inr ⟨t, ty.same s, k⟩
theorem AsW.sp {Q : VK} (h : AsW K H v ch n b) (q : ∀ H', Same H H' → Q (.bl b) H') : (∃ s : List Nat, v = .str (tx s) ∧ s.length ≤ 1000 ∧ ∀ H', Same H H' → Q (.bl (decide (Wd ch n s))) H') ∨ (∃ t, TyX K H v t ∧ PySem.W.kitOne K t (.type "str") = some false ∧ Q (.bl false) H) := by
  rcases h with ⟨s, e, hs, rfl⟩ | ⟨t, ty, no, rfl⟩
  · exact .inl ⟨s, e, hs, q⟩
  · exact .inr ⟨t, ty, no, q _ (Same.refl H)⟩
end
def spChkWX (K : PySem.W.Frag) (C CE : Addr) (ch : Option (List Nat)) : Sp := fun vs H Q E => ∃ (p : Addr) (l : List Nat) (n : Int) (v : V) (b : Bool), vs = [.ref p, v] ∧ Bd C H p l n ∧ AsW K H v (ch.getD l) n b ∧
  ((b = true ∧ ∀ H', Same H H' → Q .non H') ∨ (b = false ∧ Comes E H CE "value" v))
def spChkBX (K : PySem.W.Frag) (C CE : Addr) : Sp := fun vs H Q E => ∃ (v : V) (t : Value), vs = [v] ∧ TyX K H v t ∧ ((PySem.W.kitOne K t (.ref C) = some true ∧ Q .non H) ∨ (PySem.W.kitOne K t (.ref C) = some false ∧ Comes E H CE "value" v))
section
variable {P : Program} {w : World} {K : PySem.W.Frag} {mg : Str → Option Value} {base : Heap}
theorem ok_chkWX {f C CE fO eE : Addr} {fd fdO fdE : FuncData} (F : Fun K "check_word" "check_word" sChkW f fd) (GO : FnOk P w K mg base L2.CX0 2 fO fdO ["board", "value"] (spIsW K C none)) (DO : Df K mg "is_word" fO fdO ["board", "value"])
    (EW : ErrB K mg "InvalidWord" "value" CE eE) (GE : FnOk P w K mg base L2.CX0 1 eE fdE ["self", "value"] (spErr CE "value")) (bE : Binds K fdE ["self", "value"] []) : FnOk P w K mg base (L2.CX P w) 3 f fd ["board", "word"] (spChkWX K C CE none) := by
  refine F.okX scCW (fun vs H Q E h => ?_) (fun cdv A outer s H vs Q E hr h => ?_)
  · obtain ⟨p, l, n, v, b, rfl, _⟩ := h
    rfl
  · obtain ⟨p, l, n, v, b, rfl, hb, hv, h⟩ := h
    refine ⟨_, pss_one (ps_if (pt_not (pt_val (pe_call GO hr (by rfl) DO.mg DO.kp DO.b .nil L2.pass0 (pa_cons (pv 0) (pa_cons (pv 1) pa_nil)))))
      (pss_one (ps_raise rfl (takes_of rfl rfl rfl rfl) (pmk_oexB EW.ox EW.iC EW.tI GE hr bE L2.pass0 (by rfl) EW.gC (pa_cons (pv 1) pa_nil)))) pss_nil), ?_⟩
    refine ⟨_, rfl, _, rfl, p, l, n, _, rfl, hb, ?_⟩
    rcases hv with ⟨z, rfl, hz, ez⟩ | ⟨t, ty, no, rfl⟩
    · refine .inl ⟨z, rfl, hz, fun H1 s1 => ⟨_, rfl, ?_⟩⟩
      rw [show decide (Wd ((none : Option (List Nat)).getD l) n z) = b from ez.symm]
      rcases h with ⟨rfl, q⟩ | ⟨rfl, ex⟩
      · exact iteF (q _ s1)
      · exact iteT ⟨_, rfl, mkErr (ex.same s1)⟩
    · rcases h with ⟨h, _⟩ | ⟨_, ex⟩
      · cases h
      · exact .inr ⟨t, ty, no, _, rfl, iteT ⟨_, rfl, mkErr ex⟩⟩
theorem ok_chkMX {f C CE fO eE : Addr} {fd fdO fdE : FuncData} (F : Fun K "check_marks" "check_marks" sChkM f fd) (GO : FnOk P w K mg base L2.CX0 2 fO fdO ["board", "value"] (spIsW K C (some [48, 49, 50]))) (DO : Df K mg "are_marks" fO fdO ["board", "value"])
    (EW : ErrB K mg "InvalidMarks" "value" CE eE) (GE : FnOk P w K mg base L2.CX0 1 eE fdE ["self", "value"] (spErr CE "value")) (bE : Binds K fdE ["self", "value"] []) : FnOk P w K mg base (L2.CX P w) 3 f fd ["board", "told"] (spChkWX K C CE (some [48, 49, 50])) := by
  refine F.okX scCM (fun vs H Q E h => ?_) (fun cdv A outer s H vs Q E hr h => ?_)
  · obtain ⟨p, l, n, v, b, rfl, _⟩ := h
    rfl
  · obtain ⟨p, l, n, v, b, rfl, hb, hv, h⟩ := h
    refine ⟨_, pss_one (ps_if (pt_not (pt_val (pe_call GO hr (by rfl) DO.mg DO.kp DO.b .nil L2.pass0 (pa_cons (pv 0) (pa_cons (pv 1) pa_nil)))))
      (pss_one (ps_raise rfl (takes_of rfl rfl rfl rfl) (pmk_oexB EW.ox EW.iC EW.tI GE hr bE L2.pass0 (by rfl) EW.gC (pa_cons (pv 1) pa_nil)))) pss_nil), ?_⟩
    refine ⟨_, rfl, _, rfl, p, l, n, _, rfl, hb, ?_⟩
    rcases hv with ⟨z, rfl, hz, ez⟩ | ⟨t, ty, no, rfl⟩
    · refine .inl ⟨z, rfl, hz, fun H1 s1 => ⟨_, rfl, ?_⟩⟩
      rw [show decide (Wd ((some [48, 49, 50] : Option (List Nat)).getD l) n z) = b from ez.symm]
      rcases h with ⟨rfl, q⟩ | ⟨rfl, ex⟩
      · exact iteF (q _ s1)
      · exact iteT ⟨_, rfl, mkErr (ex.same s1)⟩
    · rcases h with ⟨h, _⟩ | ⟨_, ex⟩
      · cases h
      · exact .inr ⟨t, ty, no, _, rfl, iteT ⟨_, rfl, mkErr ex⟩⟩
theorem ok_chkBX {f C CE eE : Addr} {fd fdE : FuncData} (F : Fun K "check_board" "check_board" sChkB f fd) (T : TxW mg) (TC : TxC K mg C) (EW : ErrB K mg "NotABoard" "value" CE eE) (GE : FnOk P w K mg base L2.CX0 1 eE fdE ["self", "value"] (spErr CE "value")) (bE : Binds K fdE ["self", "value"] []) :
    FnOk P w K mg base (L2.CX P w) 3 f fd ["board"] (spChkBX K C CE) := by
  refine F.okX scCB (fun vs H Q E h => ?_) (fun cdv A outer s H vs Q E hr h => ?_)
  · obtain ⟨v, t, rfl, _⟩ := h
    rfl
  · obtain ⟨v, t, rfl, ty, h⟩ := h
    refine ⟨_, pss_one (ps_if (pt_not (pt_val (pe_callB call_isi (by rfl) T.isi (by decide +kernel) (pa_cons (pv 0) (pa_cons (pe_glob (v := .ref C) (by rfl) TC.mgC rfl) pa_nil)))))
      (pss_one (ps_raise rfl (takes_of rfl rfl rfl rfl) (pmk_oexB EW.ox EW.iC EW.tI GE hr bE L2.pass0 (by rfl) EW.gC (pa_cons (pv 0) pa_nil)))) pss_nil), ?_⟩
    rcases h with ⟨k, q⟩ | ⟨k, ex⟩
    · exact ⟨_, rfl, _, _, _, _, _, rfl, .own C, ty, k, _, rfl, iteF q⟩
    · exact ⟨_, rfl, _, _, _, _, _, rfl, .own C, ty, k, _, rfl, iteT ⟨_, rfl, mkErr ex⟩⟩
end
end Gm

-- NOREN
/-! marks and can_come refuse -/
namespace Gm
open PySem L2 LamX

/-- the board, the word, or the third thing is wrong -/
def spRefX (K : PySem.W.Frag) (C CB CW CX : Addr) (ch : Option (List Nat)) : Sp := fun vs H _ E => ∃ (v0 v1 v2 : V), vs = [v0, v1, v2] ∧ ((∃ t, TyX K H v0 t ∧ PySem.W.kitOne K t (.ref C) = some false ∧ Comes E H CB "value" v0) ∨
  ∃ (a : Addr) (l : List Nat) (n : Int), v0 = .ref a ∧ Bd C H a l n ∧ TyX K H v0 (.ref C) ∧ PySem.W.kitOne K (.ref C) (.ref C) = some true ∧
    ((AsW K H v1 l n false ∧ Comes E H CW "value" v1) ∨ (AsW K H v1 l n true ∧ AsW K H v2 (ch.getD l) n false ∧ Comes E H CX "value" v2)))
section
variable {P : Program} {w : World} {K : PySem.W.Frag} {mg : Str → Option Value} {base : Heap}
theorem scMaX : FnScope ["board", "guess", "word"] ["board", "guess", "word"] (defScope sMarks) := ⟨rfl, rfl, rfl, by decide +kernel, rfl, by decide +kernel, by decide +kernel⟩
theorem scCoX : FnScope ["board", "guess", "told"] ["board", "guess", "told"] (defScope sComeX) := ⟨rfl, rfl, rfl, by decide +kernel, rfl, by decide +kernel, by decide +kernel⟩
theorem ok_marksX {f C CB CW fB fW : Addr} {fd fdB fdW : FuncData} (F : Fun K "marks" "marks" sMarks f fd) (GB : FnOk P w K mg base (L2.CX P w) 3 fB fdB ["board"] (spChkBX K C CB)) (DB : Df K mg "check_board" fB fdB ["board"])
    (GW : FnOk P w K mg base (L2.CX P w) 3 fW fdW ["board", "word"] (spChkWX K C CW none)) (DW : Df K mg "check_word" fW fdW ["board", "word"]) : FnOk P w K mg base (L2.CX P w) 4 f fd ["board", "guess", "word"] (spRefX K C CB CW CW none) := by
  refine F.okX scMaX (fun vs H Q E h => ?_) (fun cdv A outer s H vs Q E hr h => ?_)
  · obtain ⟨v0, v1, v2, rfl, _⟩ := h
    rfl
  · obtain ⟨v0, v1, v2, rfl, h⟩ := h
    refine ⟨_, pss_cons (ps_expr (pe_call GB hr (by rfl) DB.mg DB.kp DB.b .nil (passes_call (takes_of rfl rfl rfl rfl) fun _ _ _ _ h => h) (pa_cons (pv 0) pa_nil)))
      (pss_cons (ps_expr (pe_call GW hr (by rfl) DW.mg DW.kp DW.b .nil (passes_call (takes_of rfl rfl rfl rfl) fun _ _ _ _ h => h) (pa_cons (pv 0) (pa_cons (pv 1) pa_nil))))
      (pss_cons (ps_expr (pe_call GW hr (by rfl) DW.mg DW.kp DW.b .nil (passes_call (takes_of rfl rfl rfl rfl) fun _ _ _ _ h => h) (pa_cons (pv 0) (pa_cons (pv 2) pa_nil))))
      (pss_one ps_never))), ?_⟩
    rcases h with ⟨t, ty, no, ex⟩ | ⟨a, l, n, rfl, hb, ty, yes, h⟩
    · exact ⟨_, rfl, v0, t, rfl, ty, .inr ⟨no, ex⟩⟩
    refine ⟨_, rfl, _, _, rfl, ty, .inl ⟨yes, ?_⟩⟩
    rcases h with ⟨h1, ex⟩ | ⟨h1, h2, ex⟩
    · exact ⟨_, rfl, _, rfl, a, l, n, v1, false, rfl, hb, h1, .inr ⟨rfl, ex⟩⟩
    refine ⟨_, rfl, _, rfl, a, l, n, v1, true, rfl, hb, h1, .inl ⟨rfl, fun H1 s1 => ?_⟩⟩
    exact ⟨_, rfl, _, rfl, a, l, n, v2, false, rfl, hb.same s1, h2.same s1, .inr ⟨rfl, ex.same s1⟩⟩
theorem ok_comeX {f C CB CW CM fB fW fM : Addr} {fd fdB fdW fdM : FuncData} (F : Fun K "can_come" "can_come" sComeX f fd) (GB : FnOk P w K mg base (L2.CX P w) 3 fB fdB ["board"] (spChkBX K C CB)) (DB : Df K mg "check_board" fB fdB ["board"])
    (GW : FnOk P w K mg base (L2.CX P w) 3 fW fdW ["board", "word"] (spChkWX K C CW none)) (DW : Df K mg "check_word" fW fdW ["board", "word"]) (GM : FnOk P w K mg base (L2.CX P w) 3 fM fdM ["board", "told"] (spChkWX K C CM (some [48, 49, 50]))) (DM : Df K mg "check_marks" fM fdM ["board", "told"]) :
    FnOk P w K mg base (L2.CX P w) 4 f fd ["board", "guess", "told"] (spRefX K C CB CW CM (some [48, 49, 50])) := by
  refine F.okX scCoX (fun vs H Q E h => ?_) (fun cdv A outer s H vs Q E hr h => ?_)
  · obtain ⟨v0, v1, v2, rfl, _⟩ := h
    rfl
  · obtain ⟨v0, v1, v2, rfl, h⟩ := h
    refine ⟨_, pss_cons (ps_expr (pe_call GB hr (by rfl) DB.mg DB.kp DB.b .nil (passes_call (takes_of rfl rfl rfl rfl) fun _ _ _ _ h => h) (pa_cons (pv 0) pa_nil)))
      (pss_cons (ps_expr (pe_call GW hr (by rfl) DW.mg DW.kp DW.b .nil (passes_call (takes_of rfl rfl rfl rfl) fun _ _ _ _ h => h) (pa_cons (pv 0) (pa_cons (pv 1) pa_nil))))
      (pss_cons (ps_expr (pe_call GM hr (by rfl) DM.mg DM.kp DM.b .nil (passes_call (takes_of rfl rfl rfl rfl) fun _ _ _ _ h => h) (pa_cons (pv 0) (pa_cons (pv 2) pa_nil))))
      (pss_one ps_never))), ?_⟩
    rcases h with ⟨t, ty, no, ex⟩ | ⟨a, l, n, rfl, hb, ty, yes, h⟩
    · exact ⟨_, rfl, v0, t, rfl, ty, .inr ⟨no, ex⟩⟩
    refine ⟨_, rfl, _, _, rfl, ty, .inl ⟨yes, ?_⟩⟩
    rcases h with ⟨h1, ex⟩ | ⟨h1, h2, ex⟩
    · exact ⟨_, rfl, _, rfl, a, l, n, v1, false, rfl, hb, h1, .inr ⟨rfl, ex⟩⟩
    refine ⟨_, rfl, _, rfl, a, l, n, v1, true, rfl, hb, h1, .inl ⟨rfl, fun H1 s1 => ?_⟩⟩
    exact ⟨_, rfl, _, rfl, a, l, n, v2, false, rfl, hb.same s1, h2.same s1, .inr ⟨rfl, ex.same s1⟩⟩
end
end Gm

/-! len and truth of an instance with its own __len__ -/
namespace PySem.W
open PySem PySem.Spec PySem.Calls PyProof.Rows Builtin
section
variable {prog : Program} {w : World} {A : Around} {E : Value → Shared → Prop} {s : Shared} {K : Frag} {x C f L : Addr} {ox : Obj} {od : Option Obj} {h₀ : Heap} {m : Str → Option Value}
theorem gm_lenBody {Q : Value → Shared → Prop} (X : K.In s.heap) (I : InstAt s.heap x ox C od) (hs : findIn K (.ref C) "__len__" = some (some (.ref f))) (hf : isFn K (.ref f) = true)
    (h : wpAny (model prog w) A (call (.ref f) [.ref x]) (LenBack Q) E s) : wpAny (model prog w) A (Builtin.«len» ⟨[.ref x], []⟩) (fun fin s' => ∃ r, fin = .done (.ret r) ∧ Q r s') E s := by
  unfold Builtin.«len»
  refine wpAny_bind (m := oneArg "len" _) (wpAny_pure ?_)
  refine wpAny_bind (m := callSpecial? (.ref x) (Str.ofString "__len__")) (special_fn X I hs (beq_iff_eq.mp hf) (wpAny_mono h (fun r s' hr => ?_) fun _ _ y => y))
  cases r <;> first | exact hr.elim | skip
  rename_i n u
  obtain ⟨⟨h0, h1⟩, hq⟩ := hr
  refine wpAny_bind (wpAny_holding (wpAny_pure ?_))
  refine wpAny_bind (wpAny_letGo ?_)
  show wpAny _ _ (if n < 0 then _ else _) _ _ _
  rw [if_neg (by omega)]
  show wpAny _ _ (if n ≥ 2 ^ 63 then _ else _) _ _ _
  rw [if_neg (by omega)]
  exact wpAny_bind (wpAny_mkInt (wpAny_pure ⟨_, rfl, hq⟩))
theorem gm_truthyLen {Q : Bool → Shared → Prop} (X : K.In s.heap) (I : InstAt s.heap x ox C od) (hb : findIn K (.ref C) "__bool__" = some none) (hs : findIn K (.ref C) "__len__" = some (some (.ref f))) (hf : isFn K (.ref f) = true)
    (h : wpAny (model prog w) A.in1 (call (.ref f) [.ref x]) (LenBack fun v s' => ∃ n u, v = .int n u ∧ Q (n != 0) s') E s) : wpAny (model prog w) A (truthy (.ref x)) Q E s := by
  unfold truthy
  refine wpAny_bind (m := callSpecial? (.ref x) (Str.ofString "__bool__")) (wpAny_bind (wpAny_bind (I.type.here ((looks_findIn X hb).here (wpAny_pure ?_)))))
  refine wpAny_bind (wpAny_bind (I.type.here ((looks_findIn X hs).here ?_)))
  show wpAny _ _ (if (some (Value.ref f)).isNone = true then _ else _) _ _ _
  rw [if_neg (by simp)]
  have key : wpAny (model prog w) A (runValue (.builtin "len" ⟨[.ref x], []⟩)) (fun v s' => ∃ n u, v = .int n u ∧ Q (n != 0) s') E s := by
    refine wpAny_runValue (codeAny_builtin entry_len ?_)
    rw [Around.under_plainId plain_len _]
    exact wpAny_mono (gm_lenBody (Q := fun v s' => ∃ n u, v = .int n u ∧ Q (n != 0) s') X I hs hf h) (fun fin s' h' => by obtain ⟨r, rfl, hq⟩ := h'; exact hq) fun _ _ e => e
  exact wpAny_bind (wpAny_mono key (fun r s' h' => by obtain ⟨n, u, rfl, hq⟩ := h'; exact wpAny_pure hq) fun _ _ e => e)
theorem gm_boolLen {Q : Value → Shared → Prop} (X : K.In s.heap) (I : InstAt s.heap x ox C od) (hb : findIn K (.ref C) "__bool__" = some none) (hs : findIn K (.ref C) "__len__" = some (some (.ref f))) (hf : isFn K (.ref f) = true)
    (h : wpAny (model prog w) A.in1.in1.in1 (call (.ref f) [.ref x]) (LenBack fun v s' => ∃ n u, v = .int n u ∧ Q (.bool (n != 0)) s') E s) : wpAny (model prog w) A (call (.type "bool") [.ref x]) Q E s := by
  refine callType_codes (T := "bool") (Bi := Builtin.«object.__init__») (Q₁ := fun r s₁ => ∃ b, r = .bool b ∧ Q r s₁) PySem.F.called_bool (PySem.F.typeCall_bool_1 _) PySem.F.entry_object_init ?_ ?_
  · refine codeAny_of_tree ?_
    show wpAny _ A.in1.in1 (do checkBuiltinCall "bool.__new__" ⟨[.type "bool", .ref x], []⟩; again (.builtin "bool.__new__" ⟨[.type "bool", .ref x], []⟩)) _ _ s
    refine wpAny_bind (wpAny_of_eq (PySem.F.newCall_bool_1 _) (wpAny_pure ⟨plainId_quiet (by decide +kernel) _, codeAny_builtin PySem.F.entry_bool_new ?_⟩))
    rw [Around.under_plainId (by decide +kernel) _]
    unfold Builtin.«bool.__new__»
    refine wpAny_bind (wpAny_pure ?_)
    refine wpAny_bind (wpAny_of_eq PySem.F.conv_sub_bool ?_)
    refine wpAny_bind (wpAny_pure ?_)
    exact wpAny_bind (wpAny_mono (gm_truthyLen (Q := fun b s₁ => Q (.bool b) s₁) X I hb hs hf h) (fun b s₁ hq => wpAny_pure ⟨_, rfl, hq⟩) fun _ _ y => y)
  · rintro obj s₁ ⟨b, rfl, hq⟩
    exact ⟨typeIs_bool _ _, PySem.F.args_object_init_2 _ _, object_init_meets PySem.F.called_bool.init.lookup PySem.F.called_bool.made (by decide) prog w A.in1 _ s₁ ⟨typeIs_bool _ _, rfl, hq⟩⟩
end
end PySem.W
namespace L2
open PySem PySem.Spec PyProof.Rows
section
variable {X : Cx} {n : Nat} {pins : List (Addr × Obj)} {σ : St} {H : Hp} {s : Shared}
/-- len(x), bool(x) by the class's own __len__ -/
def rLenO (C : Addr) (sp : Sp) (E : XK) (g : Int → V) : List V → Hp → VK → Prop := fun xs H Q => ∃ a dx fs, xs = [.ref a] ∧ H a = some (.ins C dx fs) ∧ sp [.ref a] H (fun v H' => ∃ i : Int, v = .int i ∧ 0 ≤ i ∧ i < 1073741824 ∧ Q (g i) H') E
theorem call_lenOwn {CX : CXT} {C f : Addr} {fd : FuncData} {ps : List Str} {sp : Sp} {E : XK} (hr : Room (n + 1) X.A) (F : FnOk X.prog X.w X.K X.mg X.base CX n f fd ps sp) (hs : PySem.W.findIn X.K (.ref C) "__len__" = some (some (.ref f))) (hf : PySem.W.isFn X.K (.ref f) = true)
    (hb : Binds X.K fd ps []) (hx : Passes CX X E) : CallR X (.builtin "len") (rLenO C sp E .int) := by
  intro pins s σ H xs us Q I r h
  obtain ⟨a, dx, fs, rfl, ha, hsp⟩ := h
  obtain ⟨mA, J, _⟩ := ins_get I.hok ha
  obtain ⟨od, J, _⟩ := J.look
  obtain ⟨m, hF⟩ := I.fr
  cases r with
  | cons r1 r2 =>
    cases r2
    cases r1
    refine PySem.W.len_K hF I.ok.mod.kin J hs hf ?_
    refine wpAny_mono (gm_call ⟨hr.in1, rfl⟩ I F hb hx (vs := [.ref a]) (us := [.ref a]) (.cons rfl .nil) hsp) (fun z s' hz => ?_) fun _ _ e => e
    obtain ⟨z', H', I', rz, i, rfl, h0, h1, q⟩ := hz
    obtain ⟨t, rfl⟩ := rz
    exact ⟨⟨h0, by omega⟩, .int i, H', I'.tok _, ⟨_, rfl⟩, q⟩
theorem call_boolOwn {CX : CXT} {C f : Addr} {fd : FuncData} {ps : List Str} {sp : Sp} {E : XK} (hr : Room (n + 3) X.A) (F : FnOk X.prog X.w X.K X.mg X.base CX n f fd ps sp) (hb0 : PySem.W.findIn X.K (.ref C) "__bool__" = some none) (hs : PySem.W.findIn X.K (.ref C) "__len__" = some (some (.ref f))) (hf : PySem.W.isFn X.K (.ref f) = true)
    (hb : Binds X.K fd ps []) (hx : Passes CX X E) : CallR X (.type "bool") (rLenO C sp E fun i => .bl (i != 0)) := by
  intro pins s σ H xs us Q I r h
  obtain ⟨a, dx, fs, rfl, ha, hsp⟩ := h
  obtain ⟨mA, J, _⟩ := ins_get I.hok ha
  obtain ⟨od, J, _⟩ := J.look
  cases r with
  | cons r1 r2 =>
    cases r2
    cases r1
    refine PySem.W.gm_boolLen I.kIn J hb0 hs hf ?_
    refine wpAny_mono (gm_call ⟨hr.in1.in1.in1, rfl⟩ I F hb hx (vs := [.ref a]) (us := [.ref a]) (.cons rfl .nil) hsp) (fun z s' hz => ?_) fun _ _ e => e
    obtain ⟨z', H', I', rz, i, rfl, h0, h1, q⟩ := hz
    obtain ⟨t, rfl⟩ := rz
    exact ⟨⟨h0, by omega⟩, _, _, rfl, .bl (i != 0), H', I'.tok _, rfl, q⟩
end
end L2

-- NOREN
namespace Gm
open PySem PySem.Spec PyProof.Rows L2 LamX
/-- a def whose code object stands at c -/
structure FunC (K : PySem.W.Frag) (x qual : Str) (st : Stmt) (f : Addr) (fd : FuncData) (c : Addr) : Prop where
  ex : ∃ (oc : Value) (od : Option Addr) (kV doc pm : Value) (an : Option Addr) (ct : Value) (osl : Array (Option Value)),
    fd = PySem.W.fnOf x qual (defArgs st) (defBody st) (defScope st) .none kV doc pm an (.ref c) ct ∧ K.lookup f = some ⟨oc, od, .func fd, osl⟩ ∧ PySem.W.codeIn K (.ref c) qual = true
  keep : PySem.W.keepIn K (.ref f) = true
theorem FunC.okG {P : Program} {w : World} {K : PySem.W.Frag} {mg : Str → Option Value} {base : Heap} {x qual : Str} {st : Stmt} {f c : Addr} {fd : FuncData} {N ps : List Str} {k : Nat} {sp : Sp} (F : FunC K x qual st f fd c) (S : FnScope N ps (defScope st))
    (many : ∀ vs H Q E, sp vs H Q E → vs.length = ps.length)
    (body : ∀ (A : Around) (outer : List Env) (s : Shared) (H : Hp) (vs : List V) (Q : VK) (E : XK), A.guards = some [] → Room k (A.deeper (envOfC qual (defScope st) s.heap.objs.size f (.ref c))) → sp vs H Q E →
      ∃ t, PSs (cxOf L2.CX0 P w K mg base N qual (defScope st) f (.ref c) A outer s H E).nox (defBody st) t ∧ t { nx := fun _ H' => Q .non H', rt := Q } (L2.start N vs) H) : FnG P w K mg base L2.CX0 (k + 1) f fd ps sp := by
  obtain ⟨oc, od, kV, doc, pm, an, ct, osl, rfl, lk, hcd⟩ := F.ex
  refine ⟨fun h => many _ _ _ _ h, fun {A outer s H args us vs Q E} g hr e b r h => ?_⟩
  refine LamX.run_ofS lk hcd S hr e b r (many _ _ _ _ h) fun hr' => ?_
  obtain ⟨t, ht, q⟩ := body A outer s H vs Q E g hr' h
  exact ⟨t, ht.nox, q⟩
/-- q is no address of what is known of H -/
def New (H : Hp) (q : Addr) : Prop := ∀ b o, H b = some o → (∀ ps, o ≠ .tbl ps) → b ≠ q
theorem New.of {H : Hp} {q : Addr} (n : H q = none) : New H q := fun b o e _ => ne_of_none e n
theorem Tabs.keep {p : Addr} {T : List (Addr × Str)} {H H' : Hp} (t : Tabs T H) (hp : ∃ xs, H p = some (.lst xs)) (k : ∀ b o, b ≠ p → H b = some o → H' b = some o) : Tabs T H' := fun z hz => by
  obtain ⟨ps, h1, h2, h3⟩ := t z hz
  obtain ⟨xs, e⟩ := hp
  have np : ∀ {b : Addr} {o : HO}, H b = some o → (∀ xs, o ≠ .lst xs) → b ≠ p := fun {b o} e' n q => by
    rw [q, e] at e'
    exact n xs (Option.some.inj e').symm
  refine ⟨ps, k _ _ (np h1 fun _ z => by cases z) h1, h2, fun pos cv hc => ?_⟩
  obtain ⟨c, e1, e2⟩ := h3 pos cv hc
  exact ⟨c, e1, k _ _ (np e2 fun xs z => by unfold CodeO at z; cases z) e2⟩
/-- what _law_got tells of an error that comes -/
theorem comes_got {cs : List Cat} {c : Cat} {v : V} {H H2 : Hp} {Q : VK} {T : List (Addr × Str)} (m : c ∈ cs) (s : ExtN H H2) (t : Tabs T H2)
    (k : ∀ H' q, ExtN H H' → Tabs T H' → New H q → H' q = some (.lst [.str c.name, v, .bl true]) → Q (.ref q) H') : Comes (gotW cs Q) H2 c.at_ c.fld v := fun H' d s' n e =>
  ⟨c, m, rfl, d, v, rfl, e, fun q nq => by
    have x : ExtN H (upd H' q (.lst [.str c.name, v, .bl true])) := fun b o e tb => by
      have e' := s' _ _ (s b o e tb)
      rw [upd_ne (ne_of_none e' nq)]
      exact e'
    exact k _ q x (t.ext fun b o e => by rw [upd_ne (ne_of_none (s' _ _ e) nq)]; exact s' _ _ e) (fun b o e tb z => by
      have e' := s' _ _ (s b o e tb)
      rw [z, nq] at e'
      cases e') upd_same⟩

def spOfL : Sp := fun vs H Q _ => ∃ (p l : Addr) (xs : List V), vs = [.ref p, .ref l] ∧ BowlAt H p ∧ l ≠ p ∧ H l = some (.lst xs) ∧ 0 < xs.length ∧ xs.length ≤ 1000 ∧ ∀ H' v, Stir p H H' → v ∈ xs → Q v H'
theorem scOf : FnScope ["_law_bowl_here", "_law_things"] ["_law_bowl_here", "_law_things"] (defScope sOf) := ⟨rfl, rfl, rfl, by decide +kernel, rfl, by decide +kernel, by decide +kernel⟩
section
variable {P : Program} {w : World} {K : PySem.W.Frag} {mg : Str → Option Value} {base : Heap}
theorem ok_ofL {f fD : Addr} {fd fdD : FuncData} (F : Fun K "_law_of" "_law_of" sOf f fd) (tl : mg "len" = none) (GD : FnOk P w K mg base L2.CX0 1 fD fdD ["_law_bowl_here", "_law_many"] spDip) (DD : Df K mg "_law_dip" fD fdD ["_law_bowl_here", "_law_many"]) :
    FnOk P w K mg base L2.CX0 2 f fd ["_law_bowl_here", "_law_things"] spOfL := by
  refine F.ok scOf (fun vs H Q E h => ?_) (fun cdv A outer s H vs Q E hr h => ?_)
  · obtain ⟨p, l, xs, rfl, _⟩ := h
    rfl
  · obtain ⟨p, l, xs, rfl, hp, nl, hl, l0, l1, q⟩ := h
    refine ⟨_, pss_one (ps_ret (pe_ix ix_list (pv 1) (pe_call GD hr (by rfl) DD.mg DD.kp DD.b .nil L2.pass0 (pa_cons (pv 0) (pa_cons (pe_callB call_len_seq (by rfl) tl PySem.boot_len (pa_cons (pv 1) pa_nil)) pa_nil))) (fun _ _ => rfl))), ?_⟩
    refine ⟨_, rfl, _, rfl, _, rfl, l, _, rfl, .inl (SqL.of hl), p, _, rfl, hp, by omega, by omega, fun H1 d R d0 d1 => ?_⟩
    obtain ⟨j, rfl⟩ := Int.eq_ofNat_of_zero_le d0
    have hj : j < xs.length := by omega
    exact ⟨l, _, _, xs[j], rfl, rfl, SqL.of (R.1 _ _ nl hl), atI_nat (List.getElem?_eq_getElem hj), q H1 _ R (List.getElem_mem hj)⟩
end
theorem new_at {H : Hp} {a : Addr} {o : HO} (_ : H a = none) : upd H a o a = some o := upd_same
theorem Same.trans {A B C : Hp} (x : Same A B) (y : Same B C) : Same A C := fun b o e => y _ _ (x _ _ e)
theorem forall_app {P : V → Prop} {xs ys : List V} (h : ∀ v ∈ xs, P v) (k : ∀ v ∈ ys, P v) : ∀ v ∈ xs ++ ys, P v := fun v m => (List.mem_append.mp m).elim (h v) (k v)
theorem ExtN.made {H H1 : Hp} {x dx : Addr} {o u : HO} (e : ExtN H H1) (nx : H1 x = none) (nd : H1 dx = none) : ExtN H (upd (upd H1 dx o) x u) := fun b v h t => by
  have h' := e b v h t
  rw [upd_ne (ne_of_none h' nx), upd_ne (ne_of_none h' nd)]
  exact h'
theorem tabs_made {T : List (Addr × Str)} {H1 : Hp} {x dx : Addr} {o u : HO} (t : Tabs T H1) (nx : H1 x = none) (nd : H1 dx = none) : Tabs T (upd (upd H1 dx o) x u) := t.ext fun b v h => by
  rw [upd_ne (ne_of_none h nx), upd_ne (ne_of_none h nd)]
  exact h
theorem tabs_put {T : List (Addr × Str)} {H : Hp} {S : Addr} {xs ys : List V} (t : Tabs T H) (e : H S = some (.lst xs)) : Tabs T (upd H S (.lst ys)) := Gm.Tabs.keep t ⟨xs, e⟩ fun b o n h => by rw [upd_ne n]; exact h

/-! ### things as data -/
def shortS : PyData → Bool
  | .str s => decide (s.length ≤ 1000)
  | _ => true
def shortD : PyData → Bool
  | .str s => decide (s.length ≤ 1000)
  | .tuple ds => decide (ds.length ≤ 1000) && ds.all shortS
  | _ => true
def wordB (ch : List Nat) (n : Int) : PyData → Bool
  | .str s => decide (Wd ch n s.cps.toList)
  | _ => false
theorem flats_len {vs : List V} {ds : List PyData} (h : Flats vs ds) : vs.length = ds.length := by
  induction h with
  | nil => rfl
  | cons _ _ ih => rw [List.length_cons, List.length_cons, ih]
theorem tx_self (s : Str) : s = tx s.cps.toList := TL.ext_tl rfl
theorem flat_word {K : PySem.W.Frag} {H : Hp} {v : V} {d : PyData} {ch : List Nat} {n : Int} (h : Flat v d) (sh : shortS d = true) : AsW K H v ch n (wordB ch n d) := by
  cases h with
  | str x => exact .inl ⟨x.cps.toList, by rw [← tx_self], by have := of_decide_eq_true sh; rw [str_len]; exact this, rfl⟩
  | non => exact .inr ⟨_, .base .non, kit_ty (by decide +kernel), rfl⟩
  | bl b => exact .inr ⟨_, .base (.bl b), kit_ty (by decide +kernel), rfl⟩
  | int i => exact .inr ⟨_, .base (.int i), kit_ty (by decide +kernel), rfl⟩
theorem thing_word {K : PySem.W.Frag} {p : Addr} {H : Hp} {v : V} {d : PyData} {t : String} {ch : List Nat} {n : Int} (h : Thing p H v d t) (sh : shortD d = true) : AsW K H v ch n (wordB ch n d) := by
  have ty := h.ty (K := K)
  cases h with
  | str x => exact .inl ⟨x.cps.toList, by rw [← tx_self], by have := of_decide_eq_true sh; rw [str_len]; exact this, rfl⟩
  | _ => exact .inr ⟨_, ty, kit_ty (by decide +kernel), rfl⟩
/-- an item of a menu, of whose data P holds, of whose value C -/
def ItemD (p : Addr) (H : Hp) (P : PyData → Prop) (C : V → Prop) (v : V) : Prop := ∃ d t, Thing p H v d t ∧ Sh d 300 2 ∧ P d ∧ C v
section
variable {p : Addr} {H H' : Hp} {P : PyData → Prop} {C : V → Prop}
theorem ItemD.keep {v : V} (h : ItemD p H P C v) (k : Kp p H H') : ItemD p H' P C v := let ⟨d, t, a, b, c⟩ := h; ⟨d, t, a.keep k, b, c⟩
theorem itd_non (c : P .none) (e : C .non) : ItemD p H P C .non := ⟨_, _, .non, (Sh.non (m := 0)).le (by decide) (by decide), c, e⟩
theorem itd_bl (b : Bool) (c : P (.bool b)) (e : C (.bl b)) : ItemD p H P C (.bl b) := ⟨_, _, .bl b, (Sh.bl b).le (by decide) (Nat.le_refl _), c, e⟩
theorem itd_int (i : Int) (h : i.natAbs.log2 < 1920) (h2 : ((toString i : String) : Str).length ≤ 300) (c : P (.int i)) (e : C (.int i)) : ItemD p H P C (.int i) := ⟨_, _, .int i, .int i h h2, c, e⟩
theorem itd_str (x : Str) (h : (reprText x).length ≤ 300) (c : P (.str x)) (e : C (.str x)) : ItemD p H P C (.str x) := ⟨_, _, .str x, .str x h, c, e⟩
theorem itd_dic {a : Addr} (n : a ≠ p) (h : H a = some (.dK [])) (c : P (.dict [])) (e : C (.ref a)) : ItemD p H P C (.ref a) := ⟨_, _, .dic n h, (Sh.dic (m := 0)).le (by decide) (by decide), c, e⟩
theorem itd_tup {a : Addr} {xs : List V} {ds : List PyData} {k : Nat} (n : a ≠ p) (h : H a = some (.tup xs)) (f : Flats xs ds) (s : ShAll ds k 0) (hk : k + 3 ≤ 300) (c : P (.tuple ds)) (e : C (.ref a)) : ItemD p H P C (.ref a) := ⟨_, _, .tup n h f, (Sh.tup s).le hk (by decide), c, e⟩
theorem itd_lst {a : Addr} {xs : List V} {ds : List PyData} {k : Nat} (n : a ≠ p) (h : H a = some (.lst xs)) (f : Flats xs ds) (s : ShAll ds k 0) (hk : k + 3 ≤ 300) (c : P (.list ds)) (e : C (.ref a)) : ItemD p H P C (.ref a) := ⟨_, _, .lst n h f, (Sh.lst s).le hk (by decide), c, e⟩
end
theorem itd_heap {p : Addr} {H : Hp} {o : HO} {xs : List V} {P : PyData → Prop} {C : V → Prop} (_ : H p = some o) (h : ∀ v ∈ xs, ItemD p H P C v) : ∀ v ∈ xs, ItemD p H P C v := h
/-! ### what stands while the law asks -/
/-- all but p, S and the tables as it stood -/
def Kq (p S : Addr) (H H' : Hp) : Prop := ∀ b o, b ≠ p → b ≠ S → (∀ ps, o ≠ .tbl ps) → H b = some o → H' b = some o
theorem Kq.refl {p S : Addr} {H : Hp} : Kq p S H H := fun _ _ _ _ _ e => e
theorem Kq.trans {p S : Addr} {A B D : Hp} (a : Kq p S A B) (b : Kq p S B D) : Kq p S A D := fun c o n m t e => b c o n m t (a c o n m t e)
theorem Kq.kp {p S : Addr} {H H' : Hp} (k : Kp p H H') : Kq p S H H' := fun b o n _ t e => k b o n t e
theorem Kq.put {p S : Addr} {H : Hp} {o : HO} : Kq p S H (upd H S o) := fun b u _ m _ e => by rw [upd_ne m]; exact e
/-- S is no address of a tuple or an instance of H -/
def NewL (H : Hp) (S : Addr) : Prop := ∀ b o, H b = some o → (∀ ps, o ≠ .tbl ps) → (∀ xs, o ≠ .lst xs) → b ≠ S
theorem NewL.of {H : Hp} {S : Addr} (w : New H S) : NewL H S := fun b o e t _ => w b o e t
theorem NewL.at_ {H : Hp} {S : Addr} {xs : List V} (h : H S = some (.lst xs)) : NewL H S := fun b o e _ l z => by
  rw [z, h] at e
  exact l _ (Option.some.inj e).symm
theorem Thing.kq {p S : Addr} {H H' : Hp} {v : V} {d : PyData} {t : String} (h : Thing p H v d t) (ne : v ≠ .ref S) (k : Kq p S H H') : Thing p H' v d t := by
  cases h with
  | non => exact .non
  | bl b => exact .bl b
  | int i => exact .int i
  | str x => exact .str x
  | tup n e f => exact .tup n (k _ _ n (fun z => ne (by rw [z])) (fun _ z => by cases z) e) f
  | lst n e f => exact .lst n (k _ _ n (fun z => ne (by rw [z])) (fun _ z => by cases z) e) f
  | dic n e => exact .dic n (k _ _ n (fun z => ne (by rw [z])) (fun _ z => by cases z) e)
theorem Thing.new {p S : Addr} {H : Hp} {v : V} {d : PyData} {t : String} (h : Thing p H v d t) (w : New H S) : v ≠ .ref S := fun z => by
  cases h with
  | tup _ e f => cases z; exact w _ _ e (fun _ z => by cases z) rfl
  | lst _ e f => cases z; exact w _ _ e (fun _ z => by cases z) rfl
  | dic _ e => cases z; exact w _ _ e (fun _ z => by cases z) rfl
  | _ => cases z
theorem ne_bowl {H : Hp} {p a : Addr} {o : HO} (hp : BowlAt H p) (h : H a = some o) (n : ∀ xs, o ≠ .lst xs) : a ≠ p := fun z => by
  obtain ⟨x, y, w, e⟩ := hp
  rw [z, e] at h
  exact n _ (Option.some.inj h).symm
section
variable {p S : Addr} {H H' : Hp} {l : List Nat} {n : Int}
theorem keep1 (hp : BowlAt H p) (w : NewL H S) (k : Kq p S H H') {b : Addr} {o : HO} (t : ∀ ps, o ≠ .tbl ps) (ls : ∀ xs, o ≠ .lst xs) (e : H b = some o) : H' b = some o := k b o (ne_bowl hp e ls) (w b o e t ls) t e
theorem Bd.kq {C b : Addr} (h : Bd C H b l n) (hp : BowlAt H p) (w : NewL H S) (k : Kq p S H H') : Bd C H' b l n := by
  obtain ⟨⟨dx, e⟩, r⟩ := h
  exact ⟨⟨dx, keep1 hp w k (fun _ z => by cases z) (fun _ z => by cases z) e⟩, r⟩
theorem BowlAt.ext (h : BowlAt H p) (x : ExtN H H') : BowlAt H' p := let ⟨a, b, c, e⟩ := h; ⟨a, b, c, x _ _ e fun _ z => by cases z⟩
end
abbrev RowX := Addr × Str × V
def rowO (x : RowX) : HO := .lst [.str x.2.1, x.2.2, .bl true]
def refsX (qs : List RowX) : List V := qs.map fun x => V.ref x.1
/-- behind the base H0: nothing asked yet -/
structure Bs (p : Addr) (T : List (Addr × Str)) (H0 H : Hp) : Prop where
  kb : Kp p H0 H
  bowl : BowlAt H p
  tabs : Tabs T H
/-- behind the base H0: the list at S holds what came -/
structure Seen (p S : Addr) (T : List (Addr × Str)) (H0 H : Hp) (qs : List RowX) : Prop where
  at_ : H S = some (.lst (refsX qs))
  rows : ∀ x ∈ qs, H x.1 = some (rowO x) ∧ x.1 ≠ S ∧ x.1 ≠ p
  np : S ≠ p
  kb : Kq p S H0 H
  bowl : BowlAt H p
  tabs : Tabs T H
section
variable {p S : Addr} {T : List (Addr × Str)} {H0 H H' : Hp} {qs : List RowX}
theorem Bs.self (hp : BowlAt H p) (t : Tabs T H) : Bs p T H H := ⟨Kp.refl, hp, t⟩
theorem Bs.same (h : Bs p T H0 H) (s : Same H H') : Bs p T H0 H' := ⟨h.kb.trans (.of s), h.bowl.ext (ExtN.of s), h.tabs.ext s⟩
theorem Bs.stir (h : Bs p T H0 H) (R : Stir p H H') : Bs p T H0 H' := ⟨h.kb.trans (.but R.1), R.2, Tabs.keep h.tabs (let ⟨_, _, _, e⟩ := h.bowl; ⟨_, e⟩) R.1⟩
theorem Bs.base (h : Bs p T H0 H) : Bs p T H H := ⟨Kp.refl, h.bowl, h.tabs⟩
theorem new_ne {q : Addr} (w : New H q) {b : Addr} {xs : List V} (e : H b = some (.lst xs)) : q ≠ b := (w _ _ e fun _ z => by cases z).symm
theorem bowl_ne {q : Addr} (w : New H q) (hp : BowlAt H p) : q ≠ p := let ⟨_, _, _, e⟩ := hp; new_ne w e
theorem Bs.start (h : Bs p T H0 H) (x : ExtN H H') (t : Tabs T H') {q : Addr} (w : New H q) {nm : Str} {v : V} (e : H' q = some (.lst [.str nm, v, .bl true])) (zS : H' S = none) : Seen p S T H0 (upd H' S (.lst [.ref q])) [(q, nm, v)] ∧ New H0 S := by
  have hp' := h.bowl.ext x
  have nS : S ≠ p := by
    obtain ⟨_, _, _, e⟩ := hp'
    exact (ne_of_none e zS).symm
  have s := same_upd (o := HO.lst [.ref q]) zS
  refine ⟨⟨upd_same, fun y hy => ?_, nS, fun b o n m tt eb => s _ _ (x _ _ (h.kb _ _ n tt eb) tt), hp'.ext (ExtN.of s), t.ext s⟩, fun b o eb tt => ?_⟩
  · rw [List.mem_singleton.mp hy]
    exact ⟨s _ _ e, ne_of_none e zS, bowl_ne w h.bowl⟩
  · by_cases hbp : b = p
    · rw [hbp]
      exact nS.symm
    · exact ne_of_none (x _ _ (h.kb _ _ hbp tt eb) tt) zS
theorem Seen.same (h : Seen p S T H0 H qs) (s : Same H H') : Seen p S T H0 H' qs := ⟨s _ _ h.at_, fun x hx => ⟨s _ _ (h.rows x hx).1, (h.rows x hx).2⟩, h.np, h.kb.trans (.kp (.of s)), h.bowl.ext (ExtN.of s), h.tabs.ext s⟩
theorem Seen.stir (h : Seen p S T H0 H qs) (R : Stir p H H') : Seen p S T H0 H' qs := ⟨R.1 _ _ h.np h.at_, fun x hx => ⟨R.1 _ _ (h.rows x hx).2.2 (h.rows x hx).1, (h.rows x hx).2⟩, h.np, h.kb.trans (.kp (.but R.1)), R.2, Tabs.keep h.tabs (let ⟨_, _, _, e⟩ := h.bowl; ⟨_, e⟩) R.1⟩
theorem Seen.base (h : Seen p S T H0 H qs) : Seen p S T H H qs := ⟨h.at_, h.rows, h.np, .refl, h.bowl, h.tabs⟩
theorem Seen.got (h : Seen p S T H0 H qs) (x : ExtN H H') (t : Tabs T H') {q : Addr} (w : New H q) {nm : Str} {v : V} (e : H' q = some (.lst [.str nm, v, .bl true])) :
    H' S = some (.lst (refsX qs)) ∧ Seen p S T H0 (upd H' S (.lst (refsX qs ++ [.ref q]))) (qs ++ [(q, nm, v)]) := by
  have eS := x _ _ h.at_ fun _ z => by cases z
  have nq := new_ne w h.at_
  have nqp := bowl_ne w h.bowl
  refine ⟨eS, ⟨?_, fun y hy => ?_, h.np, fun b o n m tt eb => ?_, ?_, tabs_put t eS⟩⟩
  · rw [upd_same]
    unfold refsX
    rw [List.map_append]
    rfl
  · rcases List.mem_append.mp hy with hy | hy
    · obtain ⟨a, b, c⟩ := h.rows y hy
      exact ⟨(upd_ne b).trans (x _ _ a fun _ z => by cases z), b, c⟩
    · rw [List.mem_singleton.mp hy]
      exact ⟨(upd_ne nq).trans e, nq, nqp⟩
  · rw [upd_ne m]
    exact x _ _ (h.kb _ _ n m tt eb) tt
  · obtain ⟨a, b, c, e⟩ := h.bowl.ext x
    exact ⟨a, b, c, (upd_ne h.np.symm).trans e⟩
end
end Gm

/-! repr of lists within lists, own instances among their leaves (the loop along the library's, its items' heaps told by Inv) -/
namespace PySem.W
open PySem PySem.Spec PySem.Calls PyProof.Rows Builtin
section
variable {prog : Program} {w : World} {A : Around} {E : Value → Shared → Prop} {s : Shared} {K : Frag} {x C f L : Addr} {ox : Obj} {od : Option Obj} {h₀ : Heap} {m : Str → Option Value}
theorem ifBoundBy_K {M : Model} {last : Value → List Value → Sem Value} {name : Str} {Q : Option Value → Shared → Prop} (X : K.In s.heap) (I : InstAt s.heap x ox C od) (hs : findIn K (.ref C) name = some (some (.ref f))) (hf : isFn K (.ref f) = true)
    (h : wpAny M A (last (.ref f) [.ref x]) (fun v => Q (some v)) E s) : wpAny M A (callSpecialIfBoundBy? last (.ref x) name) Q E s := by
  simp only [callSpecialIfBoundBy?, bindSpecialIfBound?]
  refine wpAny_holding (wpAny_bind (wpAny_bind (wpAny_bind (I.type.here ((looks_findIn X hs).here ?_)))))
  refine wpAny_bind (wpAny_askSetting (wpAny_ite ?_))
  have fin : wpAny M A (last (.ref f) [.ref x] >>= fun v => pure (some v)) Q E s := wpAny_bind (wpAny_mono h (fun v s' h' => wpAny_pure h') fun _ _ h' => h')
  split
  · exact wpAny_bind ((bind_fn X _ (beq_iff_eq.mp hf)).here (wpAny_pure (by exact fin)))
  · exact wpAny_tryCatch (wpAny_bind ((bind_fn X _ (beq_iff_eq.mp hf)).here (wpAny_pure (by exact fin))))
theorem reprUnder_K {base : Nat} {Q : Value → Shared → Prop} (hu : A.units < cLine) (F : Fr h₀ L s.heap m) (X₀ : K.In h₀) (I : InstAt s.heap x ox C od) (hs : findIn K (.ref C) "__repr__" = some (some (.ref f))) (hf : isFn K (.ref f) = true)
    (h : wpAny (model prog w) A (call (.ref f) [.ref x]) (StrBack Q) E s) : wpAny (model prog w) A (pyReprObjUnder base (.ref x)) Q E s := by
  unfold pyReprObjUnder pyReprObjBy
  refine wpAny_bind (wpAny_cRoomFor hu ?_)
  refine wpAny_bind (wpAny_bind (I.type.here ((looks_findIn (X₀.keeps F.keep) hs).here ?_)))
  show wpAny _ _ (if (some (Value.ref f)).isNone = true then _ else _) _ _ _
  rw [if_neg (by simp)]
  refine wpAny_bind (ifBoundBy_K (name := Str.ofString "__repr__") (X₀.keeps F.keep) I hs hf ?_)
  show wpAny _ _ (call (.ref f) ([.ref x] ++ [])) _ _ _
  refine wpAny_mono h (fun r s' hr => ?_) fun _ _ y => y
  cases r <;> first | exact hr.elim | skip
  refine wpAny_bind (wpAny_isInstance (typeIs_str _ _ _) isSubtype_str_str ?_)
  first
    | exact wpAny_pure hr
    | (rw [if_pos rfl]; exact wpAny_pure hr)
    | (simp only [if_true]; exact wpAny_pure hr)
end
end PySem.W
namespace L2
open PySem PySem.Spec PyProof.Rows
/-- an own instance stands in it: it is no data -/
inductive Odd (H : Hp) : Addr → Prop
  | own {a C dx : Addr} {fs : List (Str × V)} : H a = some (.ins C dx fs) → Odd H a
  | lst {a b : Addr} {xs : List V} : H a = some (.lst xs) → V.ref b ∈ xs → Odd H b → Odd H a
theorem Odd.same {H H' : Hp} {a : Addr} (h : Odd H a) (s : Same H H') : Odd H' a := by
  induction h with
  | own e => exact .own (s _ _ e)
  | lst e m _ ih => exact .lst (s _ _ e) m ih
/-- whose lists are being shown: none of them is data -/
def GOk (g : List Code) (H : Hp) : Prop := ∀ id v rest kw, Code.builtin id ⟨v :: rest, kw⟩ ∈ g → ∃ a, v = .ref a ∧ Odd H a
theorem GOk.same {g : List Code} {H H' : Hp} (h : GOk g H) (s : Same H H') : GOk g H' := fun id v rest kw m => let ⟨a, e, o⟩ := h id v rest kw m; ⟨a, e, o.same s⟩
theorem GOk.nil {H : Hp} : GOk [] H := fun _ _ _ _ m => nomatch m
theorem GOk.cons {g : List Code} {H : Hp} {a : Addr} {id : String} {rest : List Value} {kw : List (Str × Value)} (h : GOk g H) (o : Odd H a) : GOk (.builtin id ⟨.ref a :: rest, kw⟩ :: g) H := by
  intro id' v rest' kw' m
  rcases List.mem_cons.mp m with e | m
  · cases e
    exact ⟨a, rfl, o⟩
  · exact h id' v rest' kw' m
section
variable {X : Cx} {pins : List (Addr × Obj)} {σ : St} {H : Hp} {s : Shared}
theorem reads_mem {h : Heap} {vs : List Value} {ds : List PyData} {as : List Addr} (r : ReadsAll h vs ds as) : ∀ {v}, v ∈ vs → ∃ d bs, Reads h v d bs := by
  induction vs generalizing ds as with
  | nil => intro v m; cases m
  | cons u vs ih =>
    intro v m
    cases r with
    | cons r1 r2 =>
      rcases List.mem_cons.mp m with e | m
      · exact ⟨_, _, e ▸ r1⟩
      · exact ih r2 m
theorem Odd.no {a : Addr} (h : Odd H a) (I : Inv X pins σ H s) : ∀ d as, ¬ Reads s.heap (.ref a) d as := by
  induction h with
  | @own a C dx fs e =>
    intro d as r
    obtain ⟨mA, J, _⟩ := ins_get I.hok e
    have hg := J.obj
    cases r with
    | list h1 h2 _ _ =>
      rw [hg] at h1; cases h1
      have z : Value.ref C = .type "list" := h2
      cases z
    | tuple h1 h2 _ _ =>
      rw [hg] at h1; cases h1
      have z : Value.ref C = .type "tuple" := h2
      cases z
    | dict h1 h2 _ _ _ =>
      rw [hg] at h1; cases h1
      have z : Value.ref C = .type "dict" := h2
      cases z
  | @lst a b xs e m _ ih =>
    intro d as r
    obtain ⟨its, rv, hl, _⟩ := I.list (.inl (.inl e))
    obtain ⟨i, hi⟩ := List.mem_iff_getElem?.mp m
    obtain ⟨u, hu, ru⟩ := rv.get hi
    cases ru
    obtain ⟨o, ho, hc, n, hd⟩ := hl.isList
    cases r with
    | list h1 h2 h3 h4 =>
      rw [ho] at h1; cases h1
      rw [hd] at h3; cases h3
      obtain ⟨d', bs, r'⟩ := reads_mem h4 (List.mem_of_getElem? hu)
      exact ih _ _ r'
    | tuple h1 h2 _ _ => rw [ho] at h1; cases h1; rw [hc] at h2; exact absurd (Value.type.inj h2) (by decide)
    | dict h1 h2 _ _ _ => rw [ho] at h1; cases h1; rw [hc] at h2; exact absurd (Value.type.inj h2) (by decide)
/-- an item's text -/
def RepO (X : Cx) (k : Nat) (as : List Addr) (H : Hp) (x : V) (t : Str) : Prop :=
  ∀ (pins : List (Addr × Obj)) (s : Shared) (σ : St) (H1 : Hp) (u : Value) (A : Around) (g : List Code) (base : Nat) (E : Value → Shared → Prop) (Q : Str → Shared → Prop), Same H H1 → Inv X pins σ H1 s → RelV x u → Sub X k A → A.guards = some g → GOk g H1 → (∀ b ∈ as, Clear g b) → base + t.length ≤ sizeLine →
    (∀ s' H2, Same H1 H2 → Inv X pins σ H2 s' → Q t s') → wpAny (model X.prog X.w) A (pyReprUnder base u) Q E s
theorem RepO.same {k : Nat} {as : List Addr} {H H' : Hp} {x : V} {t : Str} (h : RepO X k as H x t) (e : Same H H') : RepO X k as H' x t :=
  fun pins s σ H1 u A g base E Q e1 => h pins s σ H1 u A g base E Q fun b o z => e1 b o (e b o z)
theorem Dq.same {K : PySem.W.Frag} {H H' : Hp} (e : Same H H') : ∀ {v d}, Dq K H v d → Dq K H' v d
  | _, _, .non => .non
  | _, _, .bl b => .bl b
  | _, _, .int i => .int i
  | _, _, .str x => .str x
  | _, _, .lst h1 h2 => .lst (h1.imp (fun z => z.imp (e _ _) fun ⟨o, z⟩ => ⟨o, e _ _ z⟩) id) (sameAll e h2)
  | _, _, .tup h1 h2 => .tup (h1.imp (fun z => z.imp (e _ _) fun ⟨o, z⟩ => ⟨o, e _ _ z⟩) id) (sameAll e h2)
  | _, _, .dic h1 => .dic (e _ _ h1)
where sameAll {K : PySem.W.Frag} {H H' : Hp} (e : Same H H') : ∀ {vs ds}, DqAll K H vs ds → DqAll K H' vs ds
  | _, _, .nil => .nil
  | _, _, .cons h1 h2 => .cons (Dq.same e h1) (sameAll e h2)
/-- data -/
theorem RepO.data {k : Nat} {H : Hp} {x : V} {d : PyData} (hm : ∃ mm, X.base.Ns sysModules mm) (hd : Dq X.K H x d) (hs : Sh d 16777216 60) : RepO X k [] H x d.shown := by
  intro pins s σ H1 u A g base E Q e I r sub hg hgo _ hb q
  obtain ⟨mm, hm⟩ := hm
  obtain ⟨as, rd, nm⟩ := Dq.reads (hm.keeps I.bk) I d _ _ (Dq.same e hd) r
  obtain ⟨bs, hbs, hk⟩ := ReprAllK.of_readsAll (prog := X.prog) (w := X.w) (.cons rd .nil) (by simpa [PyData.showableAll] using hs.ok) (fun _ => by simpa using nm) (fun t ht => by
    simp only [PyData.shownAll, List.mem_singleton] at ht
    rw [ht, sizeLine_eq]
    exact hs.long)
  simp only [PyData.shownAll] at hk
  cases hk with
  | cons h1 _ =>
    refine h1 base hb A g E s Q hg (fun b hbm => ?_) ?_ (fun _ _ z => z) fun h' tk kp => q _ H1 (fun _ _ z => z) (I.kept (t' := tk) kp)
    · obtain ⟨d', as', r', _⟩ := hbs b hbm
      intro id v rest kw m z
      obtain ⟨a, ea, o⟩ := hgo id v rest kw m
      rw [ea] at z
      cases z
      exact o.no I _ _ r'
    · have h1 := hs.deep
      have h2 := sub.room.un
      simp only [PyData.depthAll]
      omega
/-- an own instance whose class shows itself -/
theorem RepO.own {k n : Nat} {H : Hp} {C f a dx : Addr} {fs : List (Str × V)} {fd : FuncData} {ps : List Str} {sp : Sp} {t : Str} (F : FnOk X.prog X.w X.K X.mg X.base CX0 n f fd ps sp) (hk : n ≤ k) (hs : PySem.W.findIn X.K (.ref C) "__repr__" = some (some (.ref f))) (hf : PySem.W.isFn X.K (.ref f) = true)
    (hb : Binds X.K fd ps []) (ha : H a = some (.ins C dx fs)) (hsp : ∀ H1, Same H H1 → sp [.ref a] H1 (fun v H' => v = .str t ∧ Same H1 H') E0) : RepO X k [] H (.ref a) t := by
  intro pins s σ H1 u A g base E Q e I r sub hg hgo _ hbase q
  cases r
  have ha1 := e _ _ ha
  obtain ⟨mA, J, _⟩ := ins_get I.hok ha1
  obtain ⟨od, J, _⟩ := J.look
  obtain ⟨m, hF⟩ := I.fr
  refine wpAny_pyReprUnder_ref (by omega) (PySem.W.reprUnder_K sub.room.units0 hF I.ok.mod.kin J hs hf ?_)
  have e0 : Env0 X.prog X.w X.K X.mg X.base A X.stack s H1 := by
    have e := I.env0
    exact ⟨by rw [sub.fr]; exact e.frames, e.mod, e.bs, e.bsz, e.funs, e.frf, e.hok, e.bare⟩
  have hl := F.len _ _ _ _ (hsp H1 e)
  refine wpAny_call <| codeAny_mono (F.run A X.stack s H1 ⟨[.ref a], []⟩ [.ref a] [.ref a] _ E0 (sub.room.mono hk) e0 (by
    have := hb s [.ref a] I.kIn (by simpa using hl)
    simpa using this) (.cons rfl .nil) (hsp H1 e)) fun r s' hq => ?_
  cases r with
  | error e => exact hq.elim
  | ok fl =>
    cases fl with
    | ret w =>
      obtain ⟨v, H', I', rv, ev, sm⟩ := I.after hq
      subst ev
      obtain ⟨tk, rfl⟩ := rv
      exact ⟨_, _, rfl, q s' H' sm I'⟩
    | next => exact hq.elim
    | brk => exact hq.elim
    | cont => exact hq.elim
theorem sub_loop {k : Nat} {A : Around} {args : Args} (h : Sub X (k + 1) A) : Sub X k (A.under (.builtin "list.__repr__.loop" args)) := by
  have hd : (A.under (.builtin "list.__repr__.loop" args)).handled = A.handled := rfl
  have e1 : (A.under (.builtin "list.__repr__.loop" args)).depth ≤ A.depth + 1 := by
    first
      | exact Nat.le_succ _
      | exact Nat.le_refl _
      | simp [Around.under, Code.weight, Code.isCreation, Code.isGuard, Code.isCaller, Code.frames, Code.isFrame, guardIds]
  have e2 := units_under_list_loop A args
  have e3 : (A.under (.builtin "list.__repr__.loop" args)).frames = A.frames := by
    first
      | rfl
      | simp [Around.under, Code.envs, pushEnvs]
  obtain ⟨⟨h1, h2, h3⟩, h4⟩ := h
  exact ⟨⟨hd.trans h1, by omega, by rw [e2]; omega⟩, e3.trans h4⟩
/-- the loop over a list's items -/
theorem loopO {a P : Addr} {xs : List V} {ts : List Str} {as : List Addr} {k base : Nat} {A : Around} {g : List Code} (ha : H a = some (.lst xs)) (hodd : Odd H a) (hg : A.guards = some g) (hgo : GOk g H) (hcl : ∀ b ∈ as, Clear g b) (hS : Sub X (k + 1) A) (hna : a ∉ as) (hlen : ts.length = xs.length)
    (hT : ∀ (i : Nat) (x : V), xs[i]? = some x → ∃ t, ts[i]? = some t ∧ RepO X k as H x t) (hsz : base + (listText ts).length ≤ sizeLine) {R : Result → Shared → Prop} :
    ∀ (m i : Nat) (s : Shared) (H1 : Hp) (acc : Array Value) (c : Nat) (done : List (Str × Tok)), xs.length - i = m → i ≤ xs.length → Same H H1 → Inv X pins σ H1 s → FpOk X pins H1 P →
    s.heap.get? P = some { cls := .type "list", dict := none, data := .seq acc c, slots := #[] } → acc.toList = strValues done → done.map (·.1) = ts.take i →
    (∀ s' H2 u, Same H1 H2 → Inv X pins σ H2 s' → R (.ok (.ret (.str (listText ts) u))) s') →
    codeAny (model X.prog X.w) A (.builtin "list.__repr__.loop" ⟨[.ref a, rawInt i, .ref P, rawInt ((base + piled (ts.take i) : Nat) : Int)], []⟩) R s := by
  have hX : (listText ts).length = (textFrom 0 "[" ts).length + 1 := by
    show (textFrom 0 "[" ts ++ "]").length = _
    rw [strLen_append]; rfl
  have hL := textFrom_len ts 0 "["
  have hsz2 : ∀ t ∈ ts, t.length ≤ sizeLine := fun t ht => by
    have h2 := hL.2.1 t ht
    omega
  have hsz1 : ts.length ≤ sizeLine := by
    have h1 := hL.1
    rw [if_neg (Nat.lt_irrefl 0)] at h1
    omega
  have hsz3 : (listText ts).length ≤ sizeLine := by omega
  have hp3 := piled_le_listText ts
  intro m
  induction m with
  | zero =>
    intro i s H1 acc c done hk hi e I fP hP hacc hdone hR
    have hin : i = xs.length := by omega
    obtain ⟨its, rv, hl, _⟩ := I.list (.inl (.inl (e _ _ ha)))
    obtain ⟨o, ho, hc, n, hd⟩ := hl.isList
    have hli := rv.length
    refine codeAny_builtin F.entry_list_repr_loop ?_
    show wpAny _ _ (Builtin.«list.__repr__.loop» ⟨[.ref a, .int i 0, .ref P, .int ((base + piled (ts.take i) : Nat) : Int) 0], []⟩) _ _ s
    rw [repr_loop_tree]
    refine wpAny_bind (wpAny_listItems ho hd ?_)
    have hnone : (its.toArray)[(i : Int).toNat]? = none := by simp [hin]; omega
    simp only [hnone]
    unfold reprEnd
    refine wpAny_bind (wpAny_listItems hP rfl ?_)
    rw [hacc, repr_fold]
    refine wpAny_bind (wpAny_pure ?_)
    have hall : done.map (·.1) = ts := by rw [hdone, hin, ← hlen, List.take_length]
    rw [hall]
    refine wpAny_bind (wpAny_mkStr (wpAny_pure ?_) hsz3)
    exact hR _ H1 _ (fun _ _ z => z) (I.tok _)
  | succ m ih =>
    intro i s H1 acc c done hk hi e I fP hP hacc hdone hR
    have hlt : i < xs.length := by omega
    obtain ⟨its, rv, hl, _⟩ := I.list (.inl (.inl (e _ _ ha)))
    obtain ⟨o, ho, hc, n, hd⟩ := hl.isList
    have hx : xs[i]? = some xs[i] := List.getElem?_eq_getElem hlt
    obtain ⟨t, ht, hrep⟩ := hT i xs[i] hx
    obtain ⟨u, hu, ru⟩ := rv.get hx
    have hp1 := piled_take_succ ht
    have hp2 := piled_take_le ts (i + 1)
    refine codeAny_builtin F.entry_list_repr_loop ?_
    show wpAny _ _ (Builtin.«list.__repr__.loop» ⟨[.ref a, .int i 0, .ref P, .int ((base + piled (ts.take i) : Nat) : Int) 0], []⟩) _ _ s
    rw [repr_loop_tree]
    refine wpAny_bind (wpAny_listItems ho hd ?_)
    have hsome : (its.toArray)[(i : Int).toNat]? = some u := by simpa using hu
    simp only [hsome]
    rw [Int.toNat_natCast]
    have Ip := I.pinned (fp := [P]) (fun b hb => by rw [List.mem_singleton.mp hb]; exact fP) (fun b hb => by rw [List.mem_singleton.mp hb]; exact ⟨_, hP, fun v z => by cases z⟩)
    refine wpAny_bind (wpAny_holding (hrep _ s σ H1 u _ _ (base + piled (ts.take i) + 1) _ _ e Ip ru (sub_loop hS) (guards_under_guard (isGuard_list_loop _) hg) ((hgo.same e).cons (hodd.same e)) (fun b hb => (hcl b hb).cons (a := a) fun z => hna (z ▸ hb)) (by omega) fun s2 H2 e2 I2 => ?_))
    have pP := I2.pin (P, _) (List.mem_append_right _ (List.mem_append_right _ (mem_pinsAt (List.mem_singleton.mpr rfl) hP)))
    have I2' := I2.unpinned
    have f2 : FpOk X pins H2 P := ⟨pP.2.1, fP.2⟩
    refine wpAny_bind (wpAny_mkStr ?_ (hsz2 t (List.mem_of_getElem? ht)))
    refine wpAny_bind ?_
    show wpAny _ _ (updateSeq P _) _ _ _
    have hasz : acc.size ≤ sizeLine := by
      have e1 : acc.toList.length = acc.size := by simp
      have e2 : (strValues done).length = done.length := by simp [strValues]
      have e3 : done.length = (ts.take i).length := by rw [← hdone, List.length_map]
      have e4 : (ts.take i).length ≤ i := by rw [List.length_take]; omega
      rw [hacc] at e1; omega
    refine wpAny_updateSeq pP.1 rfl (wpAny_pure ⟨F.quiet_list_repr_loop _, ?_⟩) hasz
    have e1 : ((i : Int) + 1) = ((i + 1 : Nat) : Int) := by omega
    have e2' : base + piled (ts.take i) + (t.length + 2) = base + piled (ts.take (i + 1)) := by omega
    rw [e1, e2']
    refine ih (i + 1) _ H2 (acc.push (.str t s2.toks)) _ (done ++ [(t, s2.toks)]) (by omega) hlt (fun b o z => e2 b o (e b o z))
      (Inv.turnedL (ch := [P]) (I2'.tok (s2.toks + 1)) (fun b o nb z => (Heap.get?_update_other _ _ fun h : P = b => nb (by simp [h])).trans z) (fun b hb => by rw [List.mem_singleton.mp hb]; exact f2)) f2 (Heap.get?_update_self _ pP.1 rfl) (by simp [hacc, strValues]) (by simp [List.take_add_one, ht, hdone]) fun s' H3 u' e3 I3 => ?_
    exact hR s' H3 u' (fun b o z => e3 b o (e2 b o z)) I3
theorem reprAtO {a : Addr} {xs : List V} {ts : List Str} {as : List Addr} {k base : Nat} {A : Around} {g : List Code} {H1 : Hp} (ha : H a = some (.lst xs)) (hodd : Odd H a) (hne : xs ≠ []) (hg : A.guards = some g) (hgo : GOk g H) (hcl : ∀ b ∈ a :: as, Clear g b) (hS : Sub X (k + 1) A) (hna : a ∉ as) (hlen : ts.length = xs.length)
    (hT : ∀ (i : Nat) (x : V), xs[i]? = some x → ∃ t, ts[i]? = some t ∧ RepO X k as H x t) (hsz : base + (listText ts).length ≤ sizeLine) {R : Result → Shared → Prop} (e : Same H H1) (I : Inv X pins σ H1 s)
    (hR : ∀ s' H2 u, Same H1 H2 → Inv X pins σ H2 s' → R (.ok (.ret (.str (listText ts) u))) s') :
    wpAny (model X.prog X.w) A.in1 (Builtin.listReprAt base ⟨[.ref a], []⟩) (fun fin s' => match fin with | .done f => R (.ok f) s' | .again c' => c'.quiet = true ∧ codeAny (model X.prog X.w) A c' R s') (fun e s' => R (.error e) s') s := by
  have hca : Clear g a := hcl a (.head _)
  obtain ⟨its, rv, hl, _⟩ := I.list (.inl (.inl (e _ _ ha)))
  obtain ⟨o, ho, hc, n, hd⟩ := hl.isList
  cases its with
  | nil =>
    have := rv.length
    exact absurd (List.length_eq_zero_iff.mp this) hne
  | cons u l =>
    have hP : H1 s.heap.objs.size = none := I.hok.fresh (Nat.le_refl _)
    refine wpAny_list_repr_head (A := A.in1) hg (fun v rest kw hm => listSameRef_of_ne (hca _ _ _ _ hm)) ho hd ?_
    refine wpAny_bind (m := newList []) (wpAny_newObj_type ?_)
    refine wpAny_pure ⟨F.quiet_list_repr_loop _, ?_⟩
    have I2 := I.kept (h' := s.heap.push { cls := .type "list", dict := none, data := .seq #[] 0, slots := #[] }) (t' := s.toks) fun b o z => Heap.get?_push_of_some _ z
    exact loopO (P := s.heap.objs.size) ha hodd hg hgo (fun b hb => hcl b (.tail _ hb)) hS hna hlen hT hsz _ 0 _ H1 #[] _ [] rfl (Nat.zero_le _) e I2 (I.fpOk (Nat.le_refl _) hP) (Heap.get?_push_size _ rfl) rfl (by simp) fun s' H2 u' e2 I3 => hR s' H2 u' e2 I3
/-- a list with an own instance in it -/
theorem RepO.list {a : Addr} {xs : List V} {ts : List Str} {as : List Addr} {k : Nat} (ha : H a = some (.lst xs)) (hodd : Odd H a) (hne : xs ≠ []) (hna : a ∉ as) (hlen : ts.length = xs.length)
    (hT : ∀ (i : Nat) (x : V), xs[i]? = some x → ∃ t, ts[i]? = some t ∧ RepO X k as H x t) : RepO X (k + 1) (a :: as) H (.ref a) (listText ts) := by
  intro pins s σ H1 u A g base E Q e I r sub hg hgo hcl hb q
  cases r
  obtain ⟨its, rv, hl, _⟩ := I.list (.inl (.inl (e _ _ ha)))
  obtain ⟨o, ho, hc, n, hd⟩ := hl.isList
  refine wpAny_pyReprUnder_ref (by omega) (wpAny_pyReprObjUnder_twin (twin := "list.__repr__.under") ⟨o, ho, hc⟩ F.slot_list_repr.toG rfl sub.room.units0 ?_)
  refine call_twin_plain F.plain_list_repr_under F.entry_list_repr_under F.check_list_repr_under ⟨o, ho, hc⟩ F.slot_list_repr.toG (F.args_list_repr_1 _) ?_
  refine reprAtO (H := H1) (R := callEnd _ E) (e _ _ ha) (hodd.same e) hne hg hgo hcl sub hna hlen (fun i x hx => let ⟨t, h1, h2⟩ := hT i x hx; ⟨t, h1, h2.same e⟩) hb (fun _ _ z => z) I fun s' H2 u e2 I2 => ?_
  exact ⟨⟨_, _, rfl⟩, _, _, rfl, q s' H2 e2 I2⟩
/-- repr([..]), an own instance in it -/
def rReprO (X : Cx) (k : Nat) : List V → Hp → VK → Prop := fun vs H Q => ∃ (a : Addr) (xs : List V) (ts : List Str) (as : List Addr), vs = [.ref a] ∧ H a = some (.lst xs) ∧ Odd H a ∧ xs ≠ [] ∧ a ∉ as ∧ ts.length = xs.length ∧
  (∀ (i : Nat) (x : V), xs[i]? = some x → ∃ t, ts[i]? = some t ∧ RepO X k as H x t) ∧ (listText ts).length ≤ sizeLine ∧ ∀ H', Same H H' → Q (.str (listText ts)) H'
theorem call_reprO {k : Nat} (g : X.A.guards = some []) (hr : Room (k + 2) X.A) : CallR X (.builtin "repr") (rReprO X k) := by
  intro pins s σ H vs us Q I r h
  obtain ⟨a, xs, ts, as, rfl, ha, hodd, hne, hna, hlen, hT, hsz, q⟩ := h
  obtain rfl := Vals.ref1 r
  obtain ⟨its, rv, hl, _⟩ := I.list (.inl (.inl ha))
  obtain ⟨o, ho, hc, n, hd⟩ := hl.isList
  refine call_repr_slot hr.in1.units0 ⟨o, ho, hc⟩ F.slot_list_repr.toG ?_
  refine wpAny_call (codeAny_call_builtin F.slot_list_repr.plain F.entry_list_repr (F.slot_list_repr.check _ _ _ _ _ _ _ _ ⟨o, ho, hc⟩ (F.args_list_repr_1 _) ?_))
  refine reprAtO (A := X.A.in1) (base := 0) (R := callEnd _ _) (g := []) ha hodd hne g GOk.nil (fun b _ => Clear.nil b) ⟨hr.in1, rfl⟩ hna hlen hT (by omega) (fun _ _ z => z) I fun s' H2 u e2 I2 => ?_
  exact ⟨_, _, rfl, .str (listText ts), H2, I2, ⟨_, rfl⟩, q H2 e2⟩
end
end L2

/-! repr of a list of rows [name, value, True], the value a thing or an own instance or a list with one in it -/
namespace L2
open PySem PySem.Spec PyProof.Rows
section
variable {X : Cx} {H : Hp}
theorem RepO.more {k : Nat} {as bs : List Addr} {x : V} {t : Str} (h : RepO X k as H x t) (sub : ∀ b ∈ as, b ∈ bs) : RepO X k bs H x t :=
  fun pins s σ H1 u A g base E Q e I r sb hg hgo hcl hb q => h pins s σ H1 u A g base E Q e I r sb hg hgo (fun b hm => hcl b (sub b hm)) hb q
theorem RepO.up {j k : Nat} {as : List Addr} {x : V} {t : Str} (h : RepO X j as H x t) (l : j ≤ k) : RepO X k as H x t :=
  fun pins s σ H1 u A g base E Q e I r sb hg hgo hcl hb q => h pins s σ H1 u A g base E Q e I r (sb.mono l) hg hgo hcl hb q
/-- repr of a list that is data, or in which an own instance stands -/
def rReprU (X : Cx) (k : Nat) : List V → Hp → VK → Prop := fun xs H Q => (∃ (a : Addr) (d : PyData), xs = [.ref a] ∧ Dq X.K H (.ref a) d ∧ Sh d 16777216 60 ∧ Q (.str d.shown) H) ∨ rReprO X k xs H Q
theorem call_reprU {k : Nat} (g : X.A.guards = some []) (hr : Room (k + 2) X.A) (hm : ∃ mm, X.base.Ns sysModules mm) : CallR X (.builtin "repr") (rReprU X k) := by
  intro pins s σ H xs us Q I r h
  rcases h with h | h
  · exact call_reprD g hr.units hm pins s σ H xs us Q I r h
  · exact call_reprO g hr pins s σ H xs us Q I r h
/-- what is known of a value that is to be shown: data, or odd with its text -/
inductive Shw (X : Cx) (k : Nat) (as : List Addr) (H : Hp) (v : V) (t : Str) : Prop
  | data {d : PyData} : Dq X.K H v d → Sh d 300 2 → t = d.shown → Shw X k as H v t
  | odd {a : Addr} : v = .ref a → Odd H a → t.length ≤ 300 → RepO X k as H v t → Shw X k as H v t
def isOdd (H : Hp) (v : V) : Prop := ∃ a, v = .ref a ∧ Odd H a
def rowT (nm t : Str) : Str := listText [reprText nm, t, "True"]
theorem shown_str (x : Str) : (PyData.str x).shown = reprText x := by simp only [PyData.shown]
theorem shown_true : (PyData.bool true).shown = "True" := by simp only [PyData.shown]; rfl
theorem shown_row (nm : Str) (d : PyData) : (PyData.list [.str nm, d, .bool true]).shown = rowT nm d.shown := by
  simp only [PyData.shown, PyData.shownAll]
  rfl
/-- a row -/
theorem row_rep {k : Nat} {as : List Addr} {q : Addr} {nm t : Str} {v : V} (hm : ∃ mm, X.base.Ns sysModules mm) (hq : H q = some (.lst [.str nm, v, .bl true])) (hn : (reprText nm).length ≤ 100) (h : Shw X k as H v t) (na : q ∉ as) : RepO X (k + 1) (q :: as) H (.ref q) (rowT nm t) := by
  cases h with
  | @data d hd hs et =>
    subst et
    rw [← shown_row]
    refine (RepO.data hm (.lst (.inl (.inl hq)) (.cons (.str _) (.cons hd (.cons (.bl true) .nil)))) ?_).more fun _ z => nomatch z
    exact (Sh.lst (.cons (Sh.str nm hn) (.cons hs (.cons (Sh.bl true) .nil)))).le (by decide) (by decide)
  | @odd a ev o lt r =>
    subst ev
    refine RepO.list hq (.lst hq (by simp) o) (by simp) na rfl fun i x hx => ?_
    match i, hx with
    | 0, hx =>
      cases hx
      refine ⟨_, rfl, ?_⟩
      have := (RepO.data (X := X) (k := k) (H := H) hm (.str nm) ((Sh.str nm hn).le (n' := 16777216) (m' := 60) (m := 0) (by decide) (by decide))).more (bs := as) fun _ z => nomatch z
      rw [shown_str] at this
      exact this
    | 1, hx =>
      cases hx
      exact ⟨_, rfl, r⟩
    | 2, hx =>
      cases hx
      refine ⟨_, rfl, ?_⟩
      have := (RepO.data (X := X) (k := k) (H := H) hm (.bl true) ((Sh.bl true (m := 0)).le (n' := 16777216) (m' := 60) (by decide) (by decide))).more (bs := as) fun _ z => nomatch z
      rw [shown_true] at this
      exact this
    | i + 3, hx => simp at hx
structure RowS where
  q : Addr
  nm : Str
  v : V
  t : Str
theorem Shw.len {k : Nat} {as : List Addr} {v : V} {t : Str} (h : Shw X k as H v t) : t.length ≤ 300 := by
  cases h with
  | data hd hs e => rw [e]; exact hs.long
  | odd _ _ l _ => exact l
theorem rowT_len {nm t : Str} (h1 : (reprText nm).length ≤ 100) (h2 : t.length ≤ 300) : (rowT nm t).length ≤ 420 := by
  have b := listText_len_le [reprText nm, t, "True"]
  simp only [List.map_cons, List.map_nil, List.sum_cons, List.sum_nil, List.length_cons, List.length_nil] at b
  have e : (Str.ofString "True").length = 4 := rfl
  unfold rowT
  omega
theorem rows_len : ∀ {rs : List RowS}, (∀ r ∈ rs, (rowT r.nm r.t).length ≤ 420) → ((rs.map fun r => rowT r.nm r.t).map (·.length)).sum ≤ 420 * rs.length
  | [], _ => by simp
  | r :: rs, h => by
    have ih := rows_len (rs := rs) fun x hx => h x (List.mem_cons_of_mem _ hx)
    have h1 := h r List.mem_cons_self
    simp only [List.map_cons, List.sum_cons, List.length_cons]
    omega
theorem rows_data : ∀ {rs : List RowS}, (∀ r ∈ rs, H r.q = some (.lst [.str r.nm, r.v, .bl true]) ∧ (reprText r.nm).length ≤ 100 ∧ ∃ d, Dq X.K H r.v d ∧ Sh d 300 2 ∧ r.t = d.shown) →
    ∃ ds, DqAll X.K H (rs.map fun r => .ref r.q) ds ∧ ShAll ds (450 * rs.length) 5 ∧ PyData.shownAll ds = rs.map fun r => rowT r.nm r.t
  | [], _ => ⟨[], .nil, ShAll.nil, by simp [PyData.shownAll]⟩
  | r :: rs, h => by
    obtain ⟨ds, h1, h2, h3⟩ := rows_data (rs := rs) fun x hx => h x (List.mem_cons_of_mem _ hx)
    obtain ⟨hq, hn, d, hd, hs, et⟩ := h r List.mem_cons_self
    have sr : Sh (.list [.str r.nm, d, .bool true]) 448 5 := (Sh.lst (.cons (Sh.str r.nm hn) (.cons hs (.cons (Sh.bl true) .nil)))).le (by decide) (by decide)
    refine ⟨_ :: ds, .cons (.lst (.inl (.inl hq)) (.cons (.str _) (.cons hd (.cons (.bl true) .nil)))) h1, ?_, ?_⟩
    · have := ShAll.cons sr h2
      rw [List.length_cons, show 450 * (rs.length + 1) = 448 + 2 + 450 * rs.length by omega]
      exact this
    · simp only [PyData.shownAll, List.map_cons]
      rw [h3, et, ← shown_row]
/-- repr of the rows -/
theorem rows_show {k : Nat} {as : List Addr} {S : Addr} {rs : List RowS} {Q : VK} (hm : ∃ mm, X.base.Ns sysModules mm) (hS : H S = some (.lst (rs.map fun r => .ref r.q))) (hr : ∀ r ∈ rs, H r.q = some (.lst [.str r.nm, r.v, .bl true]) ∧ (reprText r.nm).length ≤ 100 ∧ Shw X k as H r.v r.t ∧ r.q ∉ as)
    (hn : S ∉ rs.map (·.q) ++ as) (r0 : rs ≠ []) (r1 : rs.length ≤ 1000) (q : ∀ H', Same H H' → Q (.str (listText (rs.map fun r => rowT r.nm r.t))) H') : rReprU X (k + 1) [.ref S] H Q := by
  by_cases hall : ∀ r ∈ rs, ∃ d, Dq X.K H r.v d ∧ Sh d 300 2 ∧ r.t = d.shown
  · obtain ⟨ds, h1, h2, h3⟩ := rows_data (X := X) (H := H) (rs := rs) fun r hx => ⟨(hr r hx).1, (hr r hx).2.1, hall r hx⟩
    refine .inl ⟨S, .list ds, rfl, .lst (.inl (.inl hS)) h1, (Sh.lst h2).le (by omega) (by decide), ?_⟩
    have e : (PyData.list ds).shown = listText (PyData.shownAll ds) := by simp only [PyData.shown]
    rw [e, h3]
    exact q H fun _ _ z => z
  · obtain ⟨r, hx, hno⟩ : ∃ r ∈ rs, ¬ ∃ d, Dq X.K H r.v d ∧ Sh d 300 2 ∧ r.t = d.shown := by
      refine Classical.byContradiction fun z => hall fun r hx => Classical.byContradiction fun y => z ⟨r, hx, y⟩
    obtain ⟨hq, hnm, hs, hna⟩ := hr r hx
    have hodd : Odd H r.q := by
      cases hs with
      | data hd hs e => exact absurd ⟨_, hd, hs, e⟩ hno
      | @odd a ev o _ _ => exact .lst hq (by rw [ev]; simp) o
    refine .inr ⟨S, _, rs.map fun r => rowT r.nm r.t, rs.map (·.q) ++ as, rfl, hS, .lst hS (List.mem_map.mpr ⟨r, hx, rfl⟩) hodd, by simpa using r0, hn, by simp, fun i x hi => ?_, ?_, q⟩
    · rw [List.getElem?_map] at hi
      obtain ⟨y, hy, rfl⟩ := Option.map_eq_some_iff.mp hi
      have my := List.mem_of_getElem? hy
      obtain ⟨a1, a2, a3, a4⟩ := hr y my
      refine ⟨rowT y.nm y.t, by rw [List.getElem?_map, hy]; rfl, (row_rep hm a1 a2 a3 a4).more fun b hb => ?_⟩
      rcases List.mem_cons.mp hb with e | hb
      · rw [e]
        exact List.mem_append_left _ (List.mem_map.mpr ⟨y, my, rfl⟩)
      · exact List.mem_append_right _ hb
    · have b := listText_len_le (rs.map fun r => rowT r.nm r.t)
      have c := rows_len (rs := rs) fun r hx => rowT_len (hr r hx).2.1 (hr r hx).2.2.1.len
      rw [List.length_map] at b
      rw [sizeLine_eq]
      omega
end
end L2

-- NOREN
/-! k05: the right -/
namespace Gm
open PySem PySem.Spec PyProof.Rows L2 LamX

abbrev nR : List Str := ["_law_bowl_here", "_law_box", "_law_none", "_law_bad", "_law_odd", "_law_low", "_law_seen_here", "_law_due"]
theorem scR_ : FnScope nR ["_law_bowl_here"] (defScope sRight) := ⟨rfl, rfl, rfl, by decide +kernel, rfl, by decide +kernel, by decide +kernel⟩
def tabR (Pt : Addr) : List (Addr × Str) := [(Pt, (envOfC "_law_right" (defScope sRight) 0 0 .none).qual ++ "<lambda>")]
def spRight (Pt : Addr) : Sp := fun vs H Q _ => ∃ (p : Addr), vs = [.ref p] ∧ BowlAt H p ∧ Tabs (tabR Pt) H ∧ ∀ H', Kp p H H' → Tabs (tabR Pt) H' → BowlAt H' p → Q (.bl true) H'
theorem Kp.ofKq {p S : Addr} {H H' : Hp} (w : New H S) (k : Kq p S H H') : Kp p H H' := fun b o n t e => k b o n (w b o e t) t e
/-- no kind of a menu's thing is a board; a board is no text -/
structure TxK (K : PySem.W.Frag) (C : Addr) : Prop where
  n : PySem.W.kitOne K (.type "NoneType") (.ref C) = some false
  b : PySem.W.kitOne K (.type "bool") (.ref C) = some false
  i : PySem.W.kitOne K (.type "int") (.ref C) = some false
  s : PySem.W.kitOne K (.type "str") (.ref C) = some false
  t : PySem.W.kitOne K (.type "tuple") (.ref C) = some false
  l : PySem.W.kitOne K (.type "list") (.ref C) = some false
  d : PySem.W.kitOne K (.type "dict") (.ref C) = some false
  c : PySem.W.kitOne K (.ref C) (.type "str") = some false
theorem thing_kit {K : PySem.W.Frag} {C p : Addr} {H : Hp} {v : V} {d : PyData} {t : String} (T : TxK K C) (h : Thing p H v d t) : PySem.W.kitOne K (.type t) (.ref C) = some false := by
  cases h with
  | non => exact T.n
  | bl _ => exact T.b
  | int _ => exact T.i
  | str _ => exact T.s
  | tup _ _ _ => exact T.t
  | lst _ _ _ => exact T.l
  | dic _ _ => exact T.d
def gRev3 {α : Type} : List α → List α → List α
  | [], [c, b, a] => [a, b, c]
  | _, _ => []
theorem gRev3_rel {vs : List V} {us : List Value} {zs : List V} {ws : List Value} (r : Vals vs us) (q : Vals zs ws) : Vals (gRev3 vs zs) (gRev3 us ws) := by
  cases r with
  | cons a r => exact .nil
  | nil =>
    cases q with
    | nil => exact .nil
    | cons a q =>
      cases q with
      | nil => exact .nil
      | cons b q =>
        cases q with
        | nil => exact .nil
        | cons c q =>
          cases q with
          | nil => exact .cons c (.cons b (.cons a .nil))
          | cons d q => exact .nil
theorem kw_come {K : PySem.W.Frag} {f : Addr} {fd : FuncData} (F : Fun K "can_come" "can_come" sComeX f fd) : KBinds K fd ["board", "guess", "told"] ["told", "guess", "board"] gRev3 gRev3 := by
  obtain ⟨oc, od, kV, doc, pm, an, cdv, ct, osl, rfl, lk, hcd⟩ := F.ex
  refine ⟨fun s us ws X l1 => ?_, gRev3_rel⟩
  match us, ws, l1 with
  | [], [a, b, c], _ => exact .of_eq rfl
  | [], [], l | [], [_], l | [], [_, _], l | [], _ :: _ :: _ :: _ :: _, l | _ :: _, _, l => simp [gRev3] at l
theorem Shw.more {X : Cx} {k : Nat} {as bs : List Addr} {H : Hp} {v : V} {t : Str} (h : Shw X k as H v t) (sub : ∀ b ∈ as, b ∈ bs) : Shw X k bs H v t := by
  cases h with
  | data a b c => exact .data a b c
  | odd a b c d => exact .odd a b c (d.more sub)
theorem rows_show4 {X : Cx} {H : Hp} {as : List Addr} {S : Addr} {rs : List RowS} {Q : VK} (hm : ∃ mm, X.base.Ns sysModules mm) (hS : H S = some (.lst (rs.map fun r => .ref r.q))) (hr : ∀ r ∈ rs, H r.q = some (.lst [.str r.nm, r.v, .bl true]) ∧ (reprText r.nm).length ≤ 100 ∧ Shw X 3 as H r.v r.t ∧ r.q ∉ as)
    (hn : S ∉ rs.map (·.q) ++ as) (r0 : rs ≠ []) (r1 : rs.length ≤ 1000) (q : ∀ H', Same H H' → Q (.str (listText (rs.map fun r => rowT r.nm r.t))) H') : rReprU X 4 [.ref S] H Q := rows_show hm hS hr hn r0 r1 q
/-- a value that is to be shown, at H and behind it -/
def ShV (X : Cx) (p : Addr) (H : Hp) (as : List Addr) (v : V) : Prop := (∀ b ∈ as, b ≠ p ∧ ∃ o, H b = some o ∧ ∀ ps, o ≠ .tbl ps) ∧ ∃ t, ∀ H', Kp p H H' → Shw X 3 as H' v t
theorem item_shv {X : Cx} {p : Addr} {H : Hp} {P : PyData → Prop} {C : V → Prop} {v : V} (h : ItemD p H P C v) : ShV X p H [] v := by
  obtain ⟨d, t, th, sh, _⟩ := h
  exact ⟨fun b hb => (nomatch hb), d.shown, fun H' k => .data (th.keep k).dq sh rfl⟩
section
variable {X : Cx} {C fRe x p : Addr} {fdRe : FuncData} {H : Hp} {l : List Nat} {n : Int} (GRe : FnOk X.prog X.w X.K X.mg X.base L2.CX0 1 fRe fdRe ["self"] (spRepr C)) (aRe : PySem.W.findIn X.K (.ref C) "__repr__" = some (some (.ref fRe))) (iRe : PySem.W.isFn X.K (.ref fRe) = true) (bRe : Binds X.K fdRe ["self"] [])
include GRe aRe iRe bRe
theorem box_rep (bd : Bd C H x l n) : RepO X 2 [] H (.ref x) ("Board(" ++ tx l ++ " " ++ digit n ++ ")") ∧ Odd H x := by
  obtain ⟨⟨dx, e⟩, l26, n1, n6⟩ := bd
  refine ⟨RepO.own GRe (by decide) aRe iRe bRe e fun H1 s => ⟨x, tx l, n, rfl, ⟨dx, s _ _ e⟩, by rw [tx_len]; exact l26, n1, n6, rfl, fun _ _ z => z⟩, .own e⟩
theorem box_shv (bd : Bd C H x l n) (nx : x ≠ p) : ShV X p H [] (.ref x) := by
  refine ⟨fun b hb => (nomatch hb), "Board(" ++ tx l ++ " " ++ digit n ++ ")", fun H' k => ?_⟩
  have bd' : Bd C H' x l n := by
    obtain ⟨⟨dx, e⟩, r⟩ := bd
    exact ⟨⟨dx, k _ _ nx (fun _ z => by cases z) e⟩, r⟩
  obtain ⟨a, b⟩ := box_rep GRe aRe iRe bRe bd'
  refine .odd rfl b ?_ (a.up (by decide))
  have h1 := bd.2.1
  have h2 := digit_len (n := n) bd.2.2.1 bd.2.2.2
  have e1 : (Str.ofString "Board(").length = 6 := rfl
  have e2 : (Str.ofString " ").length = 1 := rfl
  have e3 : (Str.ofString ")").length = 1 := rfl
  have h4 := tx_len l
  rw [strLen_append, strLen_append, strLen_append, strLen_append]
  omega
theorem lbox_shv {nb : Addr} (bd : Bd C H x l n) (nx : x ≠ p) (nn : nb ≠ p) (hn : H nb = some (.lst [.ref x])) : ShV X p H [nb] (.ref nb) := by
  refine ⟨fun b hb => by have e := List.mem_singleton.mp hb; subst e; exact ⟨nn, _, hn, fun _ z => by cases z⟩, listText ["Board(" ++ tx l ++ " " ++ digit n ++ ")"], fun H' k => ?_⟩
  have bd' : Bd C H' x l n := by
    obtain ⟨⟨dx, e⟩, r⟩ := bd
    exact ⟨⟨dx, k _ _ nx (fun _ z => by cases z) e⟩, r⟩
  have hn' := k _ _ nn (fun _ z => by cases z) hn
  obtain ⟨a, b⟩ := box_rep GRe aRe iRe bRe bd'
  have od : Odd H' nb := .lst hn' (by simp) b
  refine .odd rfl od ?_ (RepO.list hn' od (by simp) (by simp) rfl fun i y hy => ?_)
  · have h1 := bd.2.1
    have h2 := digit_len (n := n) bd.2.2.1 bd.2.2.2
    have e1 : (Str.ofString "Board(").length = 6 := rfl
    have e2 : (Str.ofString " ").length = 1 := rfl
    have e3 : (Str.ofString ")").length = 1 := rfl
    have b := listText_len_le ["Board(" ++ tx l ++ " " ++ digit n ++ ")"]
    simp only [List.map_cons, List.map_nil, List.sum_cons, List.sum_nil, List.length_cons, List.length_nil] at b
    have h4 := tx_len l
    rw [strLen_append, strLen_append, strLen_append, strLen_append] at b
    omega
  · match i, hy with
    | 0, hy =>
      cases hy
      exact ⟨_, rfl, a⟩
    | i + 1, hy => simp at hy
end
def VN (p x : Addr) (H : Hp) (v : V) : Prop := ItemD p H (fun _ => True) (fun _ => True) v ∨ ∃ nb, v = .ref nb ∧ nb ≠ p ∧ H nb = some (.lst [.ref x])
def VW (p : Addr) (H : Hp) (ch : List Nat) (v : V) : Prop := ItemD p H (fun d => shortD d = true ∧ wordB ch 3 d = false) (fun _ => True) v
def VO (p x : Addr) (H : Hp) (v : V) : Prop := VW p H [97, 98, 99] v ∨ v = .ref x
theorem VN.keep {p x : Addr} {H H' : Hp} {v : V} (h : VN p x H v) (k : Kp p H H') : VN p x H' v := h.imp (·.keep k) fun ⟨nb, a, b, c⟩ => ⟨nb, a, b, k _ _ b (fun _ z => by cases z) c⟩
theorem VW.keep {p : Addr} {H H' : Hp} {ch : List Nat} {v : V} (h : VW p H ch v) (k : Kp p H H') : VW p H' ch v := ItemD.keep h k
theorem VO.keep {p x : Addr} {H H' : Hp} {v : V} (h : VO p x H v) (k : Kp p H H') : VO p x H' v := h.imp (·.keep k) id
theorem VW.asw {K : PySem.W.Frag} {p : Addr} {H : Hp} {ch : List Nat} {v : V} (h : VW p H ch v) : AsW K H v ch 3 false := by
  obtain ⟨d, t, th, _, ⟨a, b⟩, _⟩ := h
  have := thing_word (K := K) (ch := ch) (n := 3) th a
  rw [b] at this
  exact this
theorem Bd.kp {C p x : Addr} {H H' : Hp} {l : List Nat} {n : Int} (h : Bd C H x l n) (nx : x ≠ p) (k : Kp p H H') : Bd C H' x l n := by
  obtain ⟨⟨dx, e⟩, r⟩ := h
  exact ⟨⟨dx, k _ _ nx (fun _ z => by cases z) e⟩, r⟩
section
variable {P : Program} {w : World} {K : PySem.W.Frag} {mg : Str → Option Value} {base : Heap}
theorem ok_right {f c Pt C CIn CMk CWd CNb eMk eWd eNb fG fO fI fMa fCo fRe : Addr} {fd fdG fdO fdI fdMa fdCo fdRe : FuncData} (F : FunC K "_law_right" "_law_right" sRight f fd c) (trepr : mg "repr" = none) (TC : TxC K mg C) (TK : TxK K C)
    (TG : TxG K mg CIn CMk CWd CNb) (EMk : ErrB K mg "InvalidMarks" "value" CMk eMk) (EWd : ErrB K mg "InvalidWord" "value" CWd eWd) (ENb : ErrB K mg "NotABoard" "value" CNb eNb)
    (FG : Fun K "_law_got" "_law_got" sGot fG fdG) (DG : Df K mg "_law_got" fG fdG ["_law_ask"])
    (GO : FnOk P w K mg base L2.CX0 2 fO fdO ["_law_bowl_here", "_law_things"] spOfL) (DO : Df K mg "_law_of" fO fdO ["_law_bowl_here", "_law_things"])
    (GI : FnOk P w K mg base L2.CX0 2 fI fdI ["self", "letters", "length"] (spInit C)) (MB : Mk K C fI) (bI : Binds K fdI ["self", "letters", "length"] [])
    (GMa : FnOk P w K mg base (L2.CX P w) 4 fMa fdMa ["board", "guess", "word"] (spRefX K C CNb CWd CWd none)) (DMa : Df K mg "marks" fMa fdMa ["board", "guess", "word"])
    (GCo : FnOk P w K mg base (L2.CX P w) 4 fCo fdCo ["board", "guess", "told"] (spRefX K C CNb CWd CMk (some [48, 49, 50]))) (DCo : Df K mg "can_come" fCo fdCo ["board", "guess", "told"]) (kCo : KBinds K fdCo ["board", "guess", "told"] ["told", "guess", "board"] gRev3 gRev3)
    (GRe : FnOk P w K mg base L2.CX0 1 fRe fdRe ["self"] (spRepr C)) (aRe : PySem.W.findIn K (.ref C) "__repr__" = some (some (.ref fRe))) (iRe : PySem.W.isFn K (.ref fRe) = true) (bRe : Binds K fdRe ["self"] [])
    (hM : ∃ mm, base.Ns sysModules mm) (TB : TabB base mg c Pt) : FnG P w K mg base L2.CX0 10 f fd ["_law_bowl_here"] (spRight Pt) := by
  refine F.okG scR_ (fun vs H Q E h => ?_) (fun A outer s H vs Q E g hr h => ?_)
  · obtain ⟨p, rfl, _⟩ := h
    rfl
  · obtain ⟨p, rfl, hp, hT, q⟩ := h
    have nd := scR_.nd
    have hr2 : Room 2 _ := hr.mono (by decide)
    have hr3 : Room 3 _ := hr.mono (by decide)
    have hr6 : Room 6 _ := hr.mono (by decide)
    obtain ⟨oc, od, kV, doc, pm, an, cdG, ct, osl, rfl, lk, hcd⟩ := FG.ex
    refine ⟨_, pss_cons (ps_set (i := 1) nd rfl (Or.inr rfl) (pe_make MB GI hr3 (by rfl) TC.mgC bI .nil L2.pass0 (pa_cons pe_str (pa_cons pe_int pa_nil))))
      (pss_cons (ps_set (i := 2) nd rfl (Or.inr rfl) (pe_call GO hr2 (by rfl) DO.mg DO.kp DO.b .nil L2.pass0 (pa_cons (pv 0) (pa_cons (pe_lst (pa_cons pe_non (pa_cons pe_str (pa_cons (pe_tup (pa_cons pe_str (pa_cons pe_int pa_nil))) (pa_cons pe_int (pa_cons pe_dnewK (pa_cons (pe_lst (pa_cons (pv 1) pa_nil)) (pa_cons pe_bl pa_nil)))))))) pa_nil))))
      (pss_cons (ps_set (i := 3) nd rfl (Or.inr rfl) (pe_call GO hr2 (by rfl) DO.mg DO.kp DO.b .nil L2.pass0 (pa_cons (pv 0) (pa_cons (pe_lst (pa_cons pe_non (pa_cons pe_str (pa_cons pe_str (pa_cons pe_str (pa_cons pe_str (pa_cons pe_str (pa_cons pe_int (pa_cons (pe_tup (pa_cons pe_str (pa_cons pe_str (pa_cons pe_str pa_nil)))) (pa_cons (pe_lst (pa_cons pe_str pa_nil)) (pa_cons pe_str (pa_cons pe_bl (pa_cons pe_dnewK pa_nil))))))))))))) pa_nil))))
      (pss_cons (ps_set (i := 4) nd rfl (Or.inr rfl) (pe_call GO hr2 (by rfl) DO.mg DO.kp DO.b .nil L2.pass0 (pa_cons (pv 0) (pa_cons (pe_lst (pa_cons pe_non (pa_cons pe_str (pa_cons pe_str (pa_cons pe_str (pa_cons pe_str (pa_cons pe_int (pa_cons (pe_tup pa_nil) (pa_cons (pv 1) pa_nil))))))))) pa_nil))))
      (pss_cons (ps_set (i := 5) nd rfl (Or.inr rfl) (pe_call GO hr2 (by rfl) DO.mg DO.kp DO.b .nil L2.pass0 (pa_cons (pv 0) (pa_cons (pe_lst (pa_cons pe_non (pa_cons pe_str (pa_cons pe_str (pa_cons pe_str (pa_cons pe_str (pa_cons pe_str (pa_cons pe_int (pa_cons (pe_tup (pa_cons pe_str (pa_cons pe_str (pa_cons pe_str pa_nil)))) (pa_cons (pe_lst (pa_cons pe_str pa_nil)) (pa_cons pe_bl (pa_cons pe_dnewK (pa_cons pe_str pa_nil))))))))))))) pa_nil))))
      (pss_cons (ps_set (i := 6) nd rfl (Or.inl rfl) (pe_lst (pa_cons (pe_lamcall (T := tabR Pt) (TT := TTgot (catsG CMk CWd CNb)) (k := 7) (by rfl) DG.mg DG.kp lk hcd DG.b scGot rfl (Or.inl rfl) (got_gives TG EMk EWd ENb) TB rfl (by exact List.mem_singleton.mpr rfl) (fun z hz _ => by rw [List.mem_singleton.mp hz]; rfl) hr (show LamS (defScope sRight) _ from lamS_by (by decide +kernel)) rfl (fun _ _ _ _ _ => rfl)
          (fun A outer s H E f c' hr7 => pe_call GMa (hr7.mono (by decide)) (by rfl) DMa.mg DMa.kp DMa.b .nil (passes_call (takes_of rfl rfl rfl rfl) fun _ _ _ _ h => h) (pa_cons (pv 2) (pa_cons (pv 3) (pa_cons (pv 4) pa_nil))))) pa_nil)))
      (pss_cons (ps_expr (pe_bm PySem.F.plainAttrs_list PySem.F.slot_list_append PySem.F.type_list_append mt_append (pv 6) (pa_cons (pe_lamcall (T := tabR Pt) (TT := TTgot (catsG CMk CWd CNb)) (k := 7) (by rfl) DG.mg DG.kp lk hcd DG.b scGot rfl (Or.inl rfl) (got_gives TG EMk EWd ENb) TB rfl (by exact List.mem_singleton.mpr rfl) (fun z hz _ => by rw [List.mem_singleton.mp hz]; rfl) hr (show LamS (defScope sRight) _ from lamS_by (by decide +kernel)) rfl (fun _ _ _ _ _ => rfl)
          (fun A outer s H E f c' hr7 => pe_call GMa (hr7.mono (by decide)) (by rfl) DMa.mg DMa.kp DMa.b .nil (passes_call (takes_of rfl rfl rfl rfl) fun _ _ _ _ h => h) (pa_cons (pv 1) (pa_cons (pv 3) (pa_cons (pv 4) pa_nil))))) pa_nil)))
      (pss_cons (ps_expr (pe_bm PySem.F.plainAttrs_list PySem.F.slot_list_append PySem.F.type_list_append mt_append (pv 6) (pa_cons (pe_lamcall (T := tabR Pt) (TT := TTgot (catsG CMk CWd CNb)) (k := 7) (by rfl) DG.mg DG.kp lk hcd DG.b scGot rfl (Or.inl rfl) (got_gives TG EMk EWd ENb) TB rfl (by exact List.mem_singleton.mpr rfl) (fun z hz _ => by rw [List.mem_singleton.mp hz]; rfl) hr (show LamS (defScope sRight) _ from lamS_by (by decide +kernel)) rfl (fun _ _ _ _ _ => rfl)
          (fun A outer s H E f c' hr7 => pe_call GMa (hr7.mono (by decide)) (by rfl) DMa.mg DMa.kp DMa.b .nil (passes_call (takes_of rfl rfl rfl rfl) fun _ _ _ _ h => h) (pa_cons (pv 1) (pa_cons pe_str (pa_cons (pv 4) pa_nil))))) pa_nil)))
      (pss_cons (ps_expr (pe_bm PySem.F.plainAttrs_list PySem.F.slot_list_append PySem.F.type_list_append mt_append (pv 6) (pa_cons (pe_lamcall (T := tabR Pt) (TT := TTgot (catsG CMk CWd CNb)) (k := 7) (by rfl) DG.mg DG.kp lk hcd DG.b scGot rfl (Or.inl rfl) (got_gives TG EMk EWd ENb) TB rfl (by exact List.mem_singleton.mpr rfl) (fun z hz _ => by rw [List.mem_singleton.mp hz]; rfl) hr (show LamS (defScope sRight) _ from lamS_by (by decide +kernel)) rfl (fun _ _ _ _ _ => rfl)
          (fun A outer s H E f c' hr7 => pe_call GCo (hr7.mono (by decide)) (by rfl) DCo.mg DCo.kp DCo.b .nil (passes_call (takes_of rfl rfl rfl rfl) fun _ _ _ _ h => h) (pa_cons (pv 2) (pa_cons (pv 3) (pa_cons (pv 5) pa_nil))))) pa_nil)))
      (pss_cons (ps_expr (pe_bm PySem.F.plainAttrs_list PySem.F.slot_list_append PySem.F.type_list_append mt_append (pv 6) (pa_cons (pe_lamcall (T := tabR Pt) (TT := TTgot (catsG CMk CWd CNb)) (k := 7) (by rfl) DG.mg DG.kp lk hcd DG.b scGot rfl (Or.inl rfl) (got_gives TG EMk EWd ENb) TB rfl (by exact List.mem_singleton.mpr rfl) (fun z hz _ => by rw [List.mem_singleton.mp hz]; rfl) hr (show LamS (defScope sRight) _ from lamS_by (by decide +kernel)) rfl (fun _ _ _ _ _ => rfl)
          (fun A outer s H E f c' hr7 => pe_call GCo (hr7.mono (by decide)) (by rfl) DCo.mg DCo.kp DCo.b .nil (passes_call (takes_of rfl rfl rfl rfl) fun _ _ _ _ h => h) (pa_cons (pv 1) (pa_cons (pv 3) (pa_cons (pv 5) pa_nil))))) pa_nil)))
      (pss_cons (ps_expr (pe_bm PySem.F.plainAttrs_list PySem.F.slot_list_append PySem.F.type_list_append mt_append (pv 6) (pa_cons (pe_lamcall (T := tabR Pt) (TT := TTgot (catsG CMk CWd CNb)) (k := 7) (by rfl) DG.mg DG.kp lk hcd DG.b scGot rfl (Or.inl rfl) (got_gives TG EMk EWd ENb) TB rfl (by exact List.mem_singleton.mpr rfl) (fun z hz _ => by rw [List.mem_singleton.mp hz]; rfl) hr (show LamS (defScope sRight) _ from lamS_by (by decide +kernel)) rfl (fun _ _ _ _ _ => rfl)
          (fun A outer s H E f c' hr7 => pe_callK0 (ks := ["told", "guess", "board"]) GCo (hr7.mono (by decide)) (by rfl) DCo.mg DCo.kp kCo (passes_call (takes_of rfl rfl rfl rfl) fun _ _ _ _ h => h) (pk_cons (pv 5) (pk_cons pe_str (pk_cons (pv 1) pk_nil))))) pa_nil)))
      (pss_cons (ps_set (i := 7) nd rfl (Or.inl rfl) (pe_lst (pa_cons (pe_lst (pa_cons pe_str (pa_cons (pv 2) (pa_cons pe_bl pa_nil)))) (pa_cons (pe_lst (pa_cons pe_str (pa_cons (pv 3) (pa_cons pe_bl pa_nil)))) (pa_cons (pe_lst (pa_cons pe_str (pa_cons (pv 4) (pa_cons pe_bl pa_nil)))) (pa_cons (pe_lst (pa_cons pe_str (pa_cons (pv 2) (pa_cons pe_bl pa_nil)))) pa_nil))))))
      (pss_one (ps_ret (pe_cmpR op_eq (pe_callB (call_reprU (k := 4) g hr6 hM) (by rfl) trepr (by decide +kernel) (pa_cons (pv 6) pa_nil)) (pe_callB (call_reprU (k := 4) g hr6 hM) (by rfl) trepr (by decide +kernel) (pa_cons (pe_op op_cat (pv 7) (pe_lst (pa_cons (pe_lst (pa_cons pe_str (pa_cons (pv 3) (pa_cons pe_bl pa_nil)))) (pa_cons (pe_lst (pa_cons pe_str (pa_cons (pv 5) (pa_cons pe_bl pa_nil)))) pa_nil)))) pa_nil)) (nomark _))))))))))))))), ?_⟩
    refine fun x dx nx nd_ ne => ⟨x, dx, _, _, rfl, by decide +kernel, by decide, by decide, upd_same, fun Hb bt ba => ⟨rfl, ?_⟩⟩
    have sb : Same H Hb := fun b o e => bt b o (ne_of_none e nx) (by rw [upd_ne (ne_of_none e nx), upd_ne (ne_of_none e nd_)]; exact e)
    have eabc : (Str.ofString "abc") = tx [97, 98, 99] := by decide +kernel
    have bd : Bd C Hb x [97, 98, 99] 3 := ⟨by rw [← eabc]; exact ba, by decide, by decide, by decide⟩
    have nxp : x ≠ p := fun z => by obtain ⟨_, _, _, e⟩ := hp; rw [z, e] at nx; cases nx
    have st := (Bs.self hp hT).same sb
    obtain ⟨_, _, _, hpc⟩ := st.bowl
    -- non
    refine ⟨_, rfl, by rw [sizeLine_eq]; show 2 ≤ 16777216; decide, fun non2 z_non2 => ?_⟩
    have sx := same_upd (o := HO.tup [.str "abc", .int 3]) z_non2
    have sc := sx
    have p_non2 : non2 ≠ p := fun z => by rw [z, hpc] at z_non2; cases z_non2
    have hpc := sx _ _ hpc
    have e_non2 := new_at (o := HO.tup [.str "abc", .int 3]) z_non2
    refine fun non4 z_non4 => ?_
    have sx := same_upd (o := HO.dK []) z_non4
    have sc := Gm.Same.trans sc sx
    have p_non4 : non4 ≠ p := fun z => by rw [z, hpc] at z_non4; cases z_non4
    have hpc := sx _ _ hpc
    have e_non2 := sx _ _ e_non2
    have e_non4 := new_at (o := HO.dK []) z_non4
    refine ⟨_, rfl, by rw [sizeLine_eq]; show 1 ≤ 16777216; decide, fun non5 z_non5 => ?_⟩
    have sx := same_upd (o := HO.lst [.ref x]) z_non5
    have sc := Gm.Same.trans sc sx
    have p_non5 : non5 ≠ p := fun z => by rw [z, hpc] at z_non5; cases z_non5
    have hpc := sx _ _ hpc
    have e_non2 := sx _ _ e_non2
    have e_non4 := sx _ _ e_non4
    have e_non5 := new_at (o := HO.lst [.ref x]) z_non5
    refine ⟨by rw [sizeLine_eq]; show 7 ≤ 16777216; decide, fun Lnon z_Lnon => ?_⟩
    have sx := same_upd (o := HO.lst [.non, .str "abc 3", .ref non2, .int 3, .ref non4, .ref non5, .bl true]) z_Lnon
    have sc := Gm.Same.trans sc sx
    have p_Lnon : Lnon ≠ p := fun z => by rw [z, hpc] at z_Lnon; cases z_Lnon
    have hpc := sx _ _ hpc
    have e_non2 := sx _ _ e_non2
    have e_non4 := sx _ _ e_non4
    have e_non5 := sx _ _ e_non5
    have e_Lnon := new_at (o := HO.lst [.non, .str "abc 3", .ref non2, .int 3, .ref non4, .ref non5, .bl true]) z_Lnon
    have st := st.same sc
    refine ⟨p, Lnon, _, rfl, st.bowl, p_Lnon, e_Lnon, by simp, by simp, fun Hnon non R hv => ?_⟩
    have v_non : VN p x Hnon non := by
      refine VN.keep ?_ (.but R.1)
      simp only [List.mem_cons, List.not_mem_nil, or_false] at hv
      rcases hv with rfl | rfl | rfl | rfl | rfl | rfl | rfl
      · exact .inl (itd_non trivial trivial)
      · exact .inl (itd_str _ (by decide +kernel) trivial trivial)
      · exact .inl (itd_tup p_non2 e_non2 (.cons (.str _) (.cons (.int _) .nil)) (.cons (Sh.str _ (by decide +kernel : _ ≤ 20)) (.cons (Sh.int _ (by decide) (by decide +kernel : _ ≤ 5)) ShAll.nil)) (by decide) trivial trivial)
      · exact .inl (itd_int _ (by decide) (by decide +kernel) trivial trivial)
      · exact .inl (itd_dic p_non4 e_non4 trivial trivial)
      · exact .inr ⟨non5, rfl, p_non5, e_non5⟩
      · exact .inl (itd_bl _ trivial trivial)
    have kk : Kp p _ Hnon := (Kp.of sc).trans (.but R.1)
    have st := st.stir R
    have bd := bd.kp nxp kk
    obtain ⟨_, _, _, hpc⟩ := st.bowl
    clear sc sx hv kk R
    -- bad
    refine ⟨_, rfl, by rw [sizeLine_eq]; show 3 ≤ 16777216; decide, fun bad7 z_bad7 => ?_⟩
    have sx := same_upd (o := HO.tup [.str "a", .str "b", .str "c"]) z_bad7
    have sc := sx
    have p_bad7 : bad7 ≠ p := fun z => by rw [z, hpc] at z_bad7; cases z_bad7
    have hpc := sx _ _ hpc
    have e_bad7 := new_at (o := HO.tup [.str "a", .str "b", .str "c"]) z_bad7
    refine ⟨by rw [sizeLine_eq]; show 1 ≤ 16777216; decide, fun bad8 z_bad8 => ?_⟩
    have sx := same_upd (o := HO.lst [.str "abc"]) z_bad8
    have sc := Gm.Same.trans sc sx
    have p_bad8 : bad8 ≠ p := fun z => by rw [z, hpc] at z_bad8; cases z_bad8
    have hpc := sx _ _ hpc
    have e_bad7 := sx _ _ e_bad7
    have e_bad8 := new_at (o := HO.lst [.str "abc"]) z_bad8
    refine fun bad11 z_bad11 => ?_
    have sx := same_upd (o := HO.dK []) z_bad11
    have sc := Gm.Same.trans sc sx
    have p_bad11 : bad11 ≠ p := fun z => by rw [z, hpc] at z_bad11; cases z_bad11
    have hpc := sx _ _ hpc
    have e_bad7 := sx _ _ e_bad7
    have e_bad8 := sx _ _ e_bad8
    have e_bad11 := new_at (o := HO.dK []) z_bad11
    refine ⟨by rw [sizeLine_eq]; show 12 ≤ 16777216; decide, fun Lbad z_Lbad => ?_⟩
    have sx := same_upd (o := HO.lst [.non, .str "", .str "ab", .str "abcd", .str "abd", .str "aBC", .int 7, .ref bad7, .ref bad8, .str "ab ", .bl true, .ref bad11]) z_Lbad
    have sc := Gm.Same.trans sc sx
    have p_Lbad : Lbad ≠ p := fun z => by rw [z, hpc] at z_Lbad; cases z_Lbad
    have hpc := sx _ _ hpc
    have e_bad7 := sx _ _ e_bad7
    have e_bad8 := sx _ _ e_bad8
    have e_bad11 := sx _ _ e_bad11
    have e_Lbad := new_at (o := HO.lst [.non, .str "", .str "ab", .str "abcd", .str "abd", .str "aBC", .int 7, .ref bad7, .ref bad8, .str "ab ", .bl true, .ref bad11]) z_Lbad
    have st := st.same sc
    refine ⟨p, Lbad, _, rfl, st.bowl, p_Lbad, e_Lbad, by simp, by simp, fun Hbad bad R hv => ?_⟩
    have v_bad : VW p Hbad [97, 98, 99] bad := by
      refine VW.keep ?_ (.but R.1)
      simp only [List.mem_cons, List.not_mem_nil, or_false] at hv
      rcases hv with rfl | rfl | rfl | rfl | rfl | rfl | rfl | rfl | rfl | rfl | rfl | rfl
      · exact itd_non (show shortD _ = true ∧ wordB _ 3 _ = false from by decide +kernel) trivial
      · exact itd_str _ (by decide +kernel) (show shortD _ = true ∧ wordB _ 3 _ = false from by decide +kernel) trivial
      · exact itd_str _ (by decide +kernel) (show shortD _ = true ∧ wordB _ 3 _ = false from by decide +kernel) trivial
      · exact itd_str _ (by decide +kernel) (show shortD _ = true ∧ wordB _ 3 _ = false from by decide +kernel) trivial
      · exact itd_str _ (by decide +kernel) (show shortD _ = true ∧ wordB _ 3 _ = false from by decide +kernel) trivial
      · exact itd_str _ (by decide +kernel) (show shortD _ = true ∧ wordB _ 3 _ = false from by decide +kernel) trivial
      · exact itd_int _ (by decide) (by decide +kernel) (show shortD _ = true ∧ wordB _ 3 _ = false from by decide +kernel) trivial
      · exact itd_tup p_bad7 e_bad7 (.cons (.str _) (.cons (.str _) (.cons (.str _) .nil))) (.cons (Sh.str _ (by decide +kernel : _ ≤ 20)) (.cons (Sh.str _ (by decide +kernel : _ ≤ 20)) (.cons (Sh.str _ (by decide +kernel : _ ≤ 20)) ShAll.nil))) (by decide) (show shortD _ = true ∧ wordB _ 3 _ = false from by decide +kernel) trivial
      · exact itd_lst p_bad8 e_bad8 (.cons (.str _) .nil) (.cons (Sh.str _ (by decide +kernel : _ ≤ 20)) ShAll.nil) (by decide) (show shortD _ = true ∧ wordB _ 3 _ = false from by decide +kernel) trivial
      · exact itd_str _ (by decide +kernel) (show shortD _ = true ∧ wordB _ 3 _ = false from by decide +kernel) trivial
      · exact itd_bl _ (show shortD _ = true ∧ wordB _ 3 _ = false from by decide +kernel) trivial
      · exact itd_dic p_bad11 e_bad11 (show shortD _ = true ∧ wordB _ 3 _ = false from by decide +kernel) trivial
    have kk : Kp p _ Hbad := (Kp.of sc).trans (.but R.1)
    have st := st.stir R
    have bd := bd.kp nxp kk
    have v_non := VN.keep v_non kk
    obtain ⟨_, _, _, hpc⟩ := st.bowl
    clear sc sx hv kk R
    -- odd
    refine ⟨_, rfl, by rw [sizeLine_eq]; show 0 ≤ 16777216; decide, fun odd6 z_odd6 => ?_⟩
    have sx := same_upd (o := HO.tup []) z_odd6
    have sc := sx
    have p_odd6 : odd6 ≠ p := fun z => by rw [z, hpc] at z_odd6; cases z_odd6
    have hpc := sx _ _ hpc
    have e_odd6 := new_at (o := HO.tup []) z_odd6
    refine ⟨_, rfl, by rw [sizeLine_eq]; show 8 ≤ 16777216; decide, fun Lodd z_Lodd => ?_⟩
    have sx := same_upd (o := HO.lst [.non, .str "", .str "ab", .str "aba b", .str "xyz", .int 0, .ref odd6, .ref x]) z_Lodd
    have sc := Gm.Same.trans sc sx
    have p_Lodd : Lodd ≠ p := fun z => by rw [z, hpc] at z_Lodd; cases z_Lodd
    have hpc := sx _ _ hpc
    have e_odd6 := sx _ _ e_odd6
    have e_Lodd := new_at (o := HO.lst [.non, .str "", .str "ab", .str "aba b", .str "xyz", .int 0, .ref odd6, .ref x]) z_Lodd
    have st := st.same sc
    refine ⟨p, Lodd, _, rfl, st.bowl, p_Lodd, e_Lodd, by simp, by simp, fun Hodd odd R hv => ?_⟩
    have v_odd : VO p x Hodd odd := by
      refine VO.keep ?_ (.but R.1)
      simp only [List.mem_cons, List.not_mem_nil, or_false] at hv
      rcases hv with rfl | rfl | rfl | rfl | rfl | rfl | rfl | rfl
      · exact .inl (itd_non (show shortD _ = true ∧ wordB _ 3 _ = false from by decide +kernel) trivial)
      · exact .inl (itd_str _ (by decide +kernel) (show shortD _ = true ∧ wordB _ 3 _ = false from by decide +kernel) trivial)
      · exact .inl (itd_str _ (by decide +kernel) (show shortD _ = true ∧ wordB _ 3 _ = false from by decide +kernel) trivial)
      · exact .inl (itd_str _ (by decide +kernel) (show shortD _ = true ∧ wordB _ 3 _ = false from by decide +kernel) trivial)
      · exact .inl (itd_str _ (by decide +kernel) (show shortD _ = true ∧ wordB _ 3 _ = false from by decide +kernel) trivial)
      · exact .inl (itd_int _ (by decide) (by decide +kernel) (show shortD _ = true ∧ wordB _ 3 _ = false from by decide +kernel) trivial)
      · exact .inl (itd_tup p_odd6 e_odd6 .nil ShAll.nil (by decide) (show shortD _ = true ∧ wordB _ 3 _ = false from by decide +kernel) trivial)
      · exact .inr rfl
    have kk : Kp p _ Hodd := (Kp.of sc).trans (.but R.1)
    have st := st.stir R
    have bd := bd.kp nxp kk
    have v_non := VN.keep v_non kk
    have v_bad := VW.keep v_bad kk
    obtain ⟨_, _, _, hpc⟩ := st.bowl
    clear sc sx hv kk R
    -- low
    refine ⟨_, rfl, by rw [sizeLine_eq]; show 3 ≤ 16777216; decide, fun low7 z_low7 => ?_⟩
    have sx := same_upd (o := HO.tup [.str "0", .str "1", .str "2"]) z_low7
    have sc := sx
    have p_low7 : low7 ≠ p := fun z => by rw [z, hpc] at z_low7; cases z_low7
    have hpc := sx _ _ hpc
    have e_low7 := new_at (o := HO.tup [.str "0", .str "1", .str "2"]) z_low7
    refine ⟨by rw [sizeLine_eq]; show 1 ≤ 16777216; decide, fun low8 z_low8 => ?_⟩
    have sx := same_upd (o := HO.lst [.str "012"]) z_low8
    have sc := Gm.Same.trans sc sx
    have p_low8 : low8 ≠ p := fun z => by rw [z, hpc] at z_low8; cases z_low8
    have hpc := sx _ _ hpc
    have e_low7 := sx _ _ e_low7
    have e_low8 := new_at (o := HO.lst [.str "012"]) z_low8
    refine fun low10 z_low10 => ?_
    have sx := same_upd (o := HO.dK []) z_low10
    have sc := Gm.Same.trans sc sx
    have p_low10 : low10 ≠ p := fun z => by rw [z, hpc] at z_low10; cases z_low10
    have hpc := sx _ _ hpc
    have e_low7 := sx _ _ e_low7
    have e_low8 := sx _ _ e_low8
    have e_low10 := new_at (o := HO.dK []) z_low10
    refine ⟨by rw [sizeLine_eq]; show 12 ≤ 16777216; decide, fun Llow z_Llow => ?_⟩
    have sx := same_upd (o := HO.lst [.non, .str "", .str "01", .str "0123", .str "013", .str "0 1", .int 12, .ref low7, .ref low8, .bl true, .ref low10, .str "12x"]) z_Llow
    have sc := Gm.Same.trans sc sx
    have p_Llow : Llow ≠ p := fun z => by rw [z, hpc] at z_Llow; cases z_Llow
    have hpc := sx _ _ hpc
    have e_low7 := sx _ _ e_low7
    have e_low8 := sx _ _ e_low8
    have e_low10 := sx _ _ e_low10
    have e_Llow := new_at (o := HO.lst [.non, .str "", .str "01", .str "0123", .str "013", .str "0 1", .int 12, .ref low7, .ref low8, .bl true, .ref low10, .str "12x"]) z_Llow
    have st := st.same sc
    refine ⟨p, Llow, _, rfl, st.bowl, p_Llow, e_Llow, by simp, by simp, fun Hlow low R hv => ?_⟩
    have v_low : VW p Hlow [48, 49, 50] low := by
      refine VW.keep ?_ (.but R.1)
      simp only [List.mem_cons, List.not_mem_nil, or_false] at hv
      rcases hv with rfl | rfl | rfl | rfl | rfl | rfl | rfl | rfl | rfl | rfl | rfl | rfl
      · exact itd_non (show shortD _ = true ∧ wordB _ 3 _ = false from by decide +kernel) trivial
      · exact itd_str _ (by decide +kernel) (show shortD _ = true ∧ wordB _ 3 _ = false from by decide +kernel) trivial
      · exact itd_str _ (by decide +kernel) (show shortD _ = true ∧ wordB _ 3 _ = false from by decide +kernel) trivial
      · exact itd_str _ (by decide +kernel) (show shortD _ = true ∧ wordB _ 3 _ = false from by decide +kernel) trivial
      · exact itd_str _ (by decide +kernel) (show shortD _ = true ∧ wordB _ 3 _ = false from by decide +kernel) trivial
      · exact itd_str _ (by decide +kernel) (show shortD _ = true ∧ wordB _ 3 _ = false from by decide +kernel) trivial
      · exact itd_int _ (by decide) (by decide +kernel) (show shortD _ = true ∧ wordB _ 3 _ = false from by decide +kernel) trivial
      · exact itd_tup p_low7 e_low7 (.cons (.str _) (.cons (.str _) (.cons (.str _) .nil))) (.cons (Sh.str _ (by decide +kernel : _ ≤ 20)) (.cons (Sh.str _ (by decide +kernel : _ ≤ 20)) (.cons (Sh.str _ (by decide +kernel : _ ≤ 20)) ShAll.nil))) (by decide) (show shortD _ = true ∧ wordB _ 3 _ = false from by decide +kernel) trivial
      · exact itd_lst p_low8 e_low8 (.cons (.str _) .nil) (.cons (Sh.str _ (by decide +kernel : _ ≤ 20)) ShAll.nil) (by decide) (show shortD _ = true ∧ wordB _ 3 _ = false from by decide +kernel) trivial
      · exact itd_bl _ (show shortD _ = true ∧ wordB _ 3 _ = false from by decide +kernel) trivial
      · exact itd_dic p_low10 e_low10 (show shortD _ = true ∧ wordB _ 3 _ = false from by decide +kernel) trivial
      · exact itd_str _ (by decide +kernel) (show shortD _ = true ∧ wordB _ 3 _ = false from by decide +kernel) trivial
    have kk : Kp p _ Hlow := (Kp.of sc).trans (.but R.1)
    have st := st.stir R
    have bd := bd.kp nxp kk
    have v_non := VN.keep v_non kk
    have v_bad := VW.keep v_bad kk
    have v_odd := VO.keep v_odd kk
    obtain ⟨_, _, _, hpc⟩ := st.bowl
    clear sc sx hv kk R
    have kall := st.kb
    have st := st.base
    have f_non : ∀ H', Kp p Hlow H' → ∃ t, TyX K H' non t ∧ PySem.W.kitOne K t (.ref C) = some false := fun H' k => by
      rcases v_non.keep k with ⟨d, t, th, _⟩ | ⟨nb, rfl, a, b⟩
      · exact ⟨_, th.ty, thing_kit TK th⟩
      · exact ⟨_, .base (.lst b), TK.l⟩
    have f_bad : ∀ H', Kp p Hlow H' → AsW K H' bad [97, 98, 99] 3 false := fun H' k => (v_bad.keep k).asw
    have f_low : ∀ H', Kp p Hlow H' → AsW K H' low [48, 49, 50] 3 false := fun H' k => (v_low.keep k).asw
    have f_box : ∀ H', Kp p Hlow H' → Bd C H' x [97, 98, 99] 3 ∧ TyX K H' (.ref x) (.ref C) := fun H' k => by
      have b := bd.kp nxp k
      obtain ⟨⟨dx, eb⟩, _⟩ := id b
      exact ⟨b, ty_board TC eb⟩
    have f_odd : ∀ H', Kp p Hlow H' → AsW K H' odd [97, 98, 99] 3 false := fun H' k => by
      rcases v_odd.keep k with h | rfl
      · exact h.asw
      · exact .inr ⟨_, (f_box H' k).2, TK.c, rfl⟩
    have f_abc : ∀ H', AsW K H' (.str "abc") [97, 98, 99] 3 true := fun H' => .inl ⟨[97, 98, 99], by rw [← eabc], by decide, by decide⟩
    have ecab : (Str.ofString "cab") = tx [99, 97, 98] := by decide +kernel
    have f_cab : ∀ H', AsW K H' (.str "cab") [97, 98, 99] 3 true := fun H' => .inl ⟨[99, 97, 98], by rw [← ecab], by decide, by decide⟩
    obtain ⟨asN, sv_non⟩ : ∃ as, ShV (cxOf L2.CX0 P w K mg base nR "_law_right" (defScope sRight) f (.ref c) A outer s H E).nox p Hlow as non := by
      rcases v_non with h | ⟨nb, rfl, a, b⟩
      · exact ⟨_, item_shv h⟩
      · exact ⟨_, lbox_shv (X := (cxOf L2.CX0 P w K mg base nR "_law_right" (defScope sRight) f (.ref c) A outer s H E).nox) GRe aRe iRe bRe bd nxp a b⟩
    obtain ⟨asF, t_non, sh_non⟩ := sv_non
    obtain ⟨_, t_bad, sh_bad⟩ := item_shv (X := (cxOf L2.CX0 P w K mg base nR "_law_right" (defScope sRight) f (.ref c) A outer s H E).nox) v_bad
    obtain ⟨_, t_low, sh_low⟩ := item_shv (X := (cxOf L2.CX0 P w K mg base nR "_law_right" (defScope sRight) f (.ref c) A outer s H E).nox) v_low
    obtain ⟨_, t_odd, sh_odd⟩ : ShV (cxOf L2.CX0 P w K mg base nR "_law_right" (defScope sRight) f (.ref c) A outer s H E).nox p Hlow [] odd := by
      rcases v_odd with h | rfl
      · exact item_shv h
      · exact box_shv (X := (cxOf L2.CX0 P w K mg base nR "_law_right" (defScope sRight) f (.ref c) A outer s H E).nox) GRe aRe iRe bRe bd nxp
    refine ⟨st.tabs, fun H3 x3 t3 => ?_⟩
    have kp : Kp p Hlow H3 := .ext x3
    have kc : Kp p Hlow Hlow := Kp.refl
    obtain ⟨t, ty, no⟩ := f_non H3 kp
    refine ⟨_, rfl, _, rfl, _, rfl, _, _, _, rfl, .inl ⟨t, ty, no, comes_got (c := ⟨CNb, "NotABoard", "value"⟩) (.tail _ (.tail _ (.head _))) x3 t3 fun H4 q1 x4 t4 w4 e4 => ?_⟩⟩
    have n_q1 : q1 ∉ asN := fun m => by obtain ⟨bp, o, ee, nt⟩ := asF _ m; exact w4 _ o (kc _ _ bp nt ee) nt rfl
    refine ⟨by rw [sizeLine_eq]; show 1 ≤ 16777216; decide, fun S zS => ?_⟩
    obtain ⟨sn, wS⟩ := st.start x4 t4 w4 e4 zS
    refine ⟨_, rfl, .inl ⟨rfl, _, SqL.of sn.at_⟩, sn.tabs, fun H3 x3 t3 => ?_⟩
    have kp := Kp.ofKq wS (sn.kb.trans (.kp (.ext x3)))
    have kc := Kp.ofKq wS sn.kb
    obtain ⟨bx, tyx⟩ := f_box H3 kp
    refine ⟨_, rfl, _, rfl, _, rfl, _, _, _, rfl, .inr ⟨x, _, _, rfl, bx, tyx, TC.own, .inl ⟨f_bad H3 kp, comes_got (c := ⟨CWd, "InvalidWord", "value"⟩) (.tail _ (.head _)) x3 t3 fun H4 q2 x4 t4 w4 e4 => ?_⟩⟩⟩
    have n_q2 : q2 ∉ asN := fun m => by obtain ⟨bp, o, ee, nt⟩ := asF _ m; exact w4 _ o (kc _ _ bp nt ee) nt rfl
    obtain ⟨eS, sn⟩ := sn.got x4 t4 w4 e4
    refine ⟨S, _, _, rfl, rfl, eS, by rw [sizeLine_eq]; show 1 < 16777216; decide, ?_⟩
    refine ⟨_, rfl, .inl ⟨rfl, _, SqL.of sn.at_⟩, sn.tabs, fun H3 x3 t3 => ?_⟩
    have kp := Kp.ofKq wS (sn.kb.trans (.kp (.ext x3)))
    have kc := Kp.ofKq wS sn.kb
    obtain ⟨bx, tyx⟩ := f_box H3 kp
    refine ⟨_, rfl, _, rfl, _, _, _, rfl, .inr ⟨x, _, _, rfl, bx, tyx, TC.own, .inr ⟨f_abc H3, f_odd H3 kp, comes_got (c := ⟨CWd, "InvalidWord", "value"⟩) (.tail _ (.head _)) x3 t3 fun H4 q3 x4 t4 w4 e4 => ?_⟩⟩⟩
    have n_q3 : q3 ∉ asN := fun m => by obtain ⟨bp, o, ee, nt⟩ := asF _ m; exact w4 _ o (kc _ _ bp nt ee) nt rfl
    obtain ⟨eS, sn⟩ := sn.got x4 t4 w4 e4
    refine ⟨S, _, _, rfl, rfl, eS, by rw [sizeLine_eq]; show 2 < 16777216; decide, ?_⟩
    refine ⟨_, rfl, .inl ⟨rfl, _, SqL.of sn.at_⟩, sn.tabs, fun H3 x3 t3 => ?_⟩
    have kp := Kp.ofKq wS (sn.kb.trans (.kp (.ext x3)))
    have kc := Kp.ofKq wS sn.kb
    obtain ⟨t, ty, no⟩ := f_non H3 kp
    refine ⟨_, rfl, _, rfl, _, rfl, _, _, _, rfl, .inl ⟨t, ty, no, comes_got (c := ⟨CNb, "NotABoard", "value"⟩) (.tail _ (.tail _ (.head _))) x3 t3 fun H4 q4 x4 t4 w4 e4 => ?_⟩⟩
    have n_q4 : q4 ∉ asN := fun m => by obtain ⟨bp, o, ee, nt⟩ := asF _ m; exact w4 _ o (kc _ _ bp nt ee) nt rfl
    obtain ⟨eS, sn⟩ := sn.got x4 t4 w4 e4
    refine ⟨S, _, _, rfl, rfl, eS, by rw [sizeLine_eq]; show 3 < 16777216; decide, ?_⟩
    refine ⟨_, rfl, .inl ⟨rfl, _, SqL.of sn.at_⟩, sn.tabs, fun H3 x3 t3 => ?_⟩
    have kp := Kp.ofKq wS (sn.kb.trans (.kp (.ext x3)))
    have kc := Kp.ofKq wS sn.kb
    obtain ⟨bx, tyx⟩ := f_box H3 kp
    refine ⟨_, rfl, _, rfl, _, rfl, _, _, _, rfl, .inr ⟨x, _, _, rfl, bx, tyx, TC.own, .inl ⟨f_bad H3 kp, comes_got (c := ⟨CWd, "InvalidWord", "value"⟩) (.tail _ (.head _)) x3 t3 fun H4 q5 x4 t4 w4 e4 => ?_⟩⟩⟩
    have n_q5 : q5 ∉ asN := fun m => by obtain ⟨bp, o, ee, nt⟩ := asF _ m; exact w4 _ o (kc _ _ bp nt ee) nt rfl
    obtain ⟨eS, sn⟩ := sn.got x4 t4 w4 e4
    refine ⟨S, _, _, rfl, rfl, eS, by rw [sizeLine_eq]; show 4 < 16777216; decide, ?_⟩
    refine ⟨_, rfl, .inl ⟨rfl, _, SqL.of sn.at_⟩, sn.tabs, fun H3 x3 t3 => ?_⟩
    have kp := Kp.ofKq wS (sn.kb.trans (.kp (.ext x3)))
    have kc := Kp.ofKq wS sn.kb
    obtain ⟨bx, tyx⟩ := f_box H3 kp
    refine ⟨_, rfl, _, rfl, _, _, _, rfl, .inr ⟨x, _, _, rfl, bx, tyx, TC.own, .inr ⟨f_cab H3, f_low H3 kp, comes_got (c := ⟨CMk, "InvalidMarks", "value"⟩) (.head _) x3 t3 fun H4 q6 x4 t4 w4 e4 => ?_⟩⟩⟩
    have n_q6 : q6 ∉ asN := fun m => by obtain ⟨bp, o, ee, nt⟩ := asF _ m; exact w4 _ o (kc _ _ bp nt ee) nt rfl
    obtain ⟨eS, sn⟩ := sn.got x4 t4 w4 e4
    refine ⟨S, _, _, rfl, rfl, eS, by rw [sizeLine_eq]; show 5 < 16777216; decide, ?_⟩
    have n_S : S ∉ asN := fun m => by obtain ⟨bp, o, ee, nt⟩ := asF _ m; exact wS _ o ee nt rfl
    obtain ⟨_, _, _, hpc⟩ := sn.bowl
    refine ⟨_, rfl, by rw [sizeLine_eq]; show 3 ≤ 16777216; decide, fun r1 z_r1 => ?_⟩
    have n_r1 : r1 ∉ asN := fun m => by obtain ⟨bp, o, ee, nt⟩ := asF _ m; exact (ne_of_none (Kp.ofKq wS sn.kb _ _ bp nt ee) z_r1) rfl
    have sx := same_upd (o := HO.lst [.str "NotABoard", non, .bl true]) z_r1
    have sn := sn.same sx
    have e_r1 := new_at (o := HO.lst [.str "NotABoard", non, .bl true]) z_r1
    refine ⟨_, rfl, by rw [sizeLine_eq]; show 3 ≤ 16777216; decide, fun r2 z_r2 => ?_⟩
    have n_r2 : r2 ∉ asN := fun m => by obtain ⟨bp, o, ee, nt⟩ := asF _ m; exact (ne_of_none (Kp.ofKq wS sn.kb _ _ bp nt ee) z_r2) rfl
    have d_r1_r2 : r1 ≠ r2 := ne_of_none e_r1 z_r2
    have sx := same_upd (o := HO.lst [.str "InvalidWord", bad, .bl true]) z_r2
    have sn := sn.same sx
    have e_r1 := sx _ _ e_r1
    have e_r2 := new_at (o := HO.lst [.str "InvalidWord", bad, .bl true]) z_r2
    refine ⟨_, rfl, by rw [sizeLine_eq]; show 3 ≤ 16777216; decide, fun r3 z_r3 => ?_⟩
    have n_r3 : r3 ∉ asN := fun m => by obtain ⟨bp, o, ee, nt⟩ := asF _ m; exact (ne_of_none (Kp.ofKq wS sn.kb _ _ bp nt ee) z_r3) rfl
    have d_r1_r3 : r1 ≠ r3 := ne_of_none e_r1 z_r3
    have d_r2_r3 : r2 ≠ r3 := ne_of_none e_r2 z_r3
    have sx := same_upd (o := HO.lst [.str "InvalidWord", odd, .bl true]) z_r3
    have sn := sn.same sx
    have e_r1 := sx _ _ e_r1
    have e_r2 := sx _ _ e_r2
    have e_r3 := new_at (o := HO.lst [.str "InvalidWord", odd, .bl true]) z_r3
    refine ⟨_, rfl, by rw [sizeLine_eq]; show 3 ≤ 16777216; decide, fun r4 z_r4 => ?_⟩
    have n_r4 : r4 ∉ asN := fun m => by obtain ⟨bp, o, ee, nt⟩ := asF _ m; exact (ne_of_none (Kp.ofKq wS sn.kb _ _ bp nt ee) z_r4) rfl
    have d_r1_r4 : r1 ≠ r4 := ne_of_none e_r1 z_r4
    have d_r2_r4 : r2 ≠ r4 := ne_of_none e_r2 z_r4
    have d_r3_r4 : r3 ≠ r4 := ne_of_none e_r3 z_r4
    have sx := same_upd (o := HO.lst [.str "NotABoard", non, .bl true]) z_r4
    have sn := sn.same sx
    have e_r1 := sx _ _ e_r1
    have e_r2 := sx _ _ e_r2
    have e_r3 := sx _ _ e_r3
    have e_r4 := new_at (o := HO.lst [.str "NotABoard", non, .bl true]) z_r4
    refine ⟨by rw [sizeLine_eq]; show 4 ≤ 16777216; decide, fun D z_D => ?_⟩
    have n_D : D ∉ asN := fun m => by obtain ⟨bp, o, ee, nt⟩ := asF _ m; exact (ne_of_none (Kp.ofKq wS sn.kb _ _ bp nt ee) z_D) rfl
    have d_r1_D : r1 ≠ D := ne_of_none e_r1 z_D
    have d_r2_D : r2 ≠ D := ne_of_none e_r2 z_D
    have d_r3_D : r3 ≠ D := ne_of_none e_r3 z_D
    have d_r4_D : r4 ≠ D := ne_of_none e_r4 z_D
    have sx := same_upd (o := HO.lst [.ref r1, .ref r2, .ref r3, .ref r4]) z_D
    have sn := sn.same sx
    have e_r1 := sx _ _ e_r1
    have e_r2 := sx _ _ e_r2
    have e_r3 := sx _ _ e_r3
    have e_r4 := sx _ _ e_r4
    have e_D := new_at (o := HO.lst [.ref r1, .ref r2, .ref r3, .ref r4]) z_D
    refine ⟨_, rfl, ?_⟩
    unfold tNil
    dsimp only
    refine rows_show4 (X := (cxOf L2.CX0 P w K mg base nR "_law_right" (defScope sRight) f (.ref c) A outer s H E).nox) (as := asN) (rs := [⟨q1, "NotABoard", non, t_non⟩, ⟨q2, "InvalidWord", bad, t_bad⟩, ⟨q3, "InvalidWord", odd, t_odd⟩, ⟨q4, "NotABoard", non, t_non⟩, ⟨q5, "InvalidWord", bad, t_bad⟩, ⟨q6, "InvalidMarks", low, t_low⟩]) hM sn.at_ (fun r hr => ?_) (fun m => ?_) (by simp) (by simp) fun H8 s8 => ?_
    · have kc := Kp.ofKq wS sn.kb
      simp only [List.mem_cons, List.not_mem_nil, or_false] at hr
      rcases hr with rfl | rfl | rfl | rfl | rfl | rfl
      · exact ⟨(sn.rows (q1, "NotABoard", non) (by simp)).1, (show (reprText "NotABoard").length ≤ 100 from by decide +kernel), sh_non _ kc, n_q1⟩
      · exact ⟨(sn.rows (q2, "InvalidWord", bad) (by simp)).1, (show (reprText "InvalidWord").length ≤ 100 from by decide +kernel), Gm.Shw.more (sh_bad _ kc) (fun _ z => nomatch z), n_q2⟩
      · exact ⟨(sn.rows (q3, "InvalidWord", odd) (by simp)).1, (show (reprText "InvalidWord").length ≤ 100 from by decide +kernel), Gm.Shw.more (sh_odd _ kc) (fun _ z => nomatch z), n_q3⟩
      · exact ⟨(sn.rows (q4, "NotABoard", non) (by simp)).1, (show (reprText "NotABoard").length ≤ 100 from by decide +kernel), sh_non _ kc, n_q4⟩
      · exact ⟨(sn.rows (q5, "InvalidWord", bad) (by simp)).1, (show (reprText "InvalidWord").length ≤ 100 from by decide +kernel), Gm.Shw.more (sh_bad _ kc) (fun _ z => nomatch z), n_q5⟩
      · exact ⟨(sn.rows (q6, "InvalidMarks", low) (by simp)).1, (show (reprText "InvalidMarks").length ≤ 100 from by decide +kernel), Gm.Shw.more (sh_low _ kc) (fun _ z => nomatch z), n_q6⟩
    · simp only [List.map_cons, List.map_nil, List.cons_append, List.nil_append, List.mem_cons] at m
      rcases m with h | h | h | h | h | h | m
      · exact (sn.rows (q1, "NotABoard", non) (by simp)).2.1 h.symm
      · exact (sn.rows (q2, "InvalidWord", bad) (by simp)).2.1 h.symm
      · exact (sn.rows (q3, "InvalidWord", odd) (by simp)).2.1 h.symm
      · exact (sn.rows (q4, "NotABoard", non) (by simp)).2.1 h.symm
      · exact (sn.rows (q5, "InvalidWord", bad) (by simp)).2.1 h.symm
      · exact (sn.rows (q6, "InvalidMarks", low) (by simp)).2.1 h.symm
      · exact n_S m
    have sn := sn.same s8
    have e_r1 := s8 _ _ e_r1
    have e_r2 := s8 _ _ e_r2
    have e_r3 := s8 _ _ e_r3
    have e_r4 := s8 _ _ e_r4
    have e_D := s8 _ _ e_D
    refine ⟨_, rfl, _, rfl, by rw [sizeLine_eq]; show 3 ≤ 16777216; decide, fun r5 z_r5 => ?_⟩
    have n_r5 : r5 ∉ asN := fun m => by obtain ⟨bp, o, ee, nt⟩ := asF _ m; exact (ne_of_none (Kp.ofKq wS sn.kb _ _ bp nt ee) z_r5) rfl
    have d_r1_r5 : r1 ≠ r5 := ne_of_none e_r1 z_r5
    have d_r2_r5 : r2 ≠ r5 := ne_of_none e_r2 z_r5
    have d_r3_r5 : r3 ≠ r5 := ne_of_none e_r3 z_r5
    have d_r4_r5 : r4 ≠ r5 := ne_of_none e_r4 z_r5
    have d_D_r5 : D ≠ r5 := ne_of_none e_D z_r5
    have sx := same_upd (o := HO.lst [.str "InvalidWord", bad, .bl true]) z_r5
    have sn := sn.same sx
    have e_r1 := sx _ _ e_r1
    have e_r2 := sx _ _ e_r2
    have e_r3 := sx _ _ e_r3
    have e_r4 := sx _ _ e_r4
    have e_D := sx _ _ e_D
    have e_r5 := new_at (o := HO.lst [.str "InvalidWord", bad, .bl true]) z_r5
    refine ⟨_, rfl, by rw [sizeLine_eq]; show 3 ≤ 16777216; decide, fun r6 z_r6 => ?_⟩
    have n_r6 : r6 ∉ asN := fun m => by obtain ⟨bp, o, ee, nt⟩ := asF _ m; exact (ne_of_none (Kp.ofKq wS sn.kb _ _ bp nt ee) z_r6) rfl
    have d_r1_r6 : r1 ≠ r6 := ne_of_none e_r1 z_r6
    have d_r2_r6 : r2 ≠ r6 := ne_of_none e_r2 z_r6
    have d_r3_r6 : r3 ≠ r6 := ne_of_none e_r3 z_r6
    have d_r4_r6 : r4 ≠ r6 := ne_of_none e_r4 z_r6
    have d_D_r6 : D ≠ r6 := ne_of_none e_D z_r6
    have d_r5_r6 : r5 ≠ r6 := ne_of_none e_r5 z_r6
    have sx := same_upd (o := HO.lst [.str "InvalidMarks", low, .bl true]) z_r6
    have sn := sn.same sx
    have e_r1 := sx _ _ e_r1
    have e_r2 := sx _ _ e_r2
    have e_r3 := sx _ _ e_r3
    have e_r4 := sx _ _ e_r4
    have e_D := sx _ _ e_D
    have e_r5 := sx _ _ e_r5
    have e_r6 := new_at (o := HO.lst [.str "InvalidMarks", low, .bl true]) z_r6
    refine ⟨by rw [sizeLine_eq]; show 2 ≤ 16777216; decide, fun M z_M => ?_⟩
    have n_M : M ∉ asN := fun m => by obtain ⟨bp, o, ee, nt⟩ := asF _ m; exact (ne_of_none (Kp.ofKq wS sn.kb _ _ bp nt ee) z_M) rfl
    have d_r1_M : r1 ≠ M := ne_of_none e_r1 z_M
    have d_r2_M : r2 ≠ M := ne_of_none e_r2 z_M
    have d_r3_M : r3 ≠ M := ne_of_none e_r3 z_M
    have d_r4_M : r4 ≠ M := ne_of_none e_r4 z_M
    have d_D_M : D ≠ M := ne_of_none e_D z_M
    have d_r5_M : r5 ≠ M := ne_of_none e_r5 z_M
    have d_r6_M : r6 ≠ M := ne_of_none e_r6 z_M
    have sx := same_upd (o := HO.lst [.ref r5, .ref r6]) z_M
    have sn := sn.same sx
    have e_r1 := sx _ _ e_r1
    have e_r2 := sx _ _ e_r2
    have e_r3 := sx _ _ e_r3
    have e_r4 := sx _ _ e_r4
    have e_D := sx _ _ e_D
    have e_r5 := sx _ _ e_r5
    have e_r6 := sx _ _ e_r6
    have e_M := new_at (o := HO.lst [.ref r5, .ref r6]) z_M
    refine ⟨D, M, _, _, rfl, rfl, e_D, e_M, by rw [sizeLine_eq]; simp, fun D2 z_D2 => ?_⟩
    have n_D2 : D2 ∉ asN := fun m => by obtain ⟨bp, o, ee, nt⟩ := asF _ m; exact (ne_of_none (Kp.ofKq wS sn.kb _ _ bp nt ee) z_D2) rfl
    have d_r1_D2 : r1 ≠ D2 := ne_of_none e_r1 z_D2
    have d_r2_D2 : r2 ≠ D2 := ne_of_none e_r2 z_D2
    have d_r3_D2 : r3 ≠ D2 := ne_of_none e_r3 z_D2
    have d_r4_D2 : r4 ≠ D2 := ne_of_none e_r4 z_D2
    have d_D_D2 : D ≠ D2 := ne_of_none e_D z_D2
    have d_r5_D2 : r5 ≠ D2 := ne_of_none e_r5 z_D2
    have d_r6_D2 : r6 ≠ D2 := ne_of_none e_r6 z_D2
    have d_M_D2 : M ≠ D2 := ne_of_none e_M z_D2
    have sx := same_upd (o := HO.lst ([.ref r1, .ref r2, .ref r3, .ref r4] ++ [.ref r5, .ref r6])) z_D2
    have sn := sn.same sx
    have e_r1 := sx _ _ e_r1
    have e_r2 := sx _ _ e_r2
    have e_r3 := sx _ _ e_r3
    have e_r4 := sx _ _ e_r4
    have e_D := sx _ _ e_D
    have e_r5 := sx _ _ e_r5
    have e_r6 := sx _ _ e_r6
    have e_M := sx _ _ e_M
    refine rows_show4 (X := (cxOf L2.CX0 P w K mg base nR "_law_right" (defScope sRight) f (.ref c) A outer s H E).nox) (as := asN) (rs := [⟨r1, "NotABoard", non, t_non⟩, ⟨r2, "InvalidWord", bad, t_bad⟩, ⟨r3, "InvalidWord", odd, t_odd⟩, ⟨r4, "NotABoard", non, t_non⟩, ⟨r5, "InvalidWord", bad, t_bad⟩, ⟨r6, "InvalidMarks", low, t_low⟩]) hM upd_same (fun r hr => ?_) (fun m => ?_) (by simp) (by simp) fun H9 s9 => ?_
    · have kc := Kp.ofKq wS sn.kb
      simp only [List.mem_cons, List.not_mem_nil, or_false] at hr
      rcases hr with rfl | rfl | rfl | rfl | rfl | rfl
      · exact ⟨e_r1, (show (reprText "NotABoard").length ≤ 100 from by decide +kernel), sh_non _ kc, n_r1⟩
      · exact ⟨e_r2, (show (reprText "InvalidWord").length ≤ 100 from by decide +kernel), Gm.Shw.more (sh_bad _ kc) (fun _ z => nomatch z), n_r2⟩
      · exact ⟨e_r3, (show (reprText "InvalidWord").length ≤ 100 from by decide +kernel), Gm.Shw.more (sh_odd _ kc) (fun _ z => nomatch z), n_r3⟩
      · exact ⟨e_r4, (show (reprText "NotABoard").length ≤ 100 from by decide +kernel), sh_non _ kc, n_r4⟩
      · exact ⟨e_r5, (show (reprText "InvalidWord").length ≤ 100 from by decide +kernel), Gm.Shw.more (sh_bad _ kc) (fun _ z => nomatch z), n_r5⟩
      · exact ⟨e_r6, (show (reprText "InvalidMarks").length ≤ 100 from by decide +kernel), Gm.Shw.more (sh_low _ kc) (fun _ z => nomatch z), n_r6⟩
    · simp only [List.map_cons, List.map_nil, List.cons_append, List.nil_append, List.mem_cons] at m
      rcases m with h | h | h | h | h | h | m
      · exact d_r1_D2 h.symm
      · exact d_r2_D2 h.symm
      · exact d_r3_D2 h.symm
      · exact d_r4_D2 h.symm
      · exact d_r5_D2 h.symm
      · exact d_r6_D2 h.symm
      · exact n_D2 m
    have sn := sn.same s9
    refine ⟨rfl, ?_⟩
    have fin : ∀ b : Bool, b = true → Q (.bl b) H9 := fun b e => by rw [e]; exact q _ (kall.trans (Kp.ofKq wS sn.kb)) sn.tabs sn.bowl
    exact fin _ (decide_eq_true rfl)
end
end Gm

-- NOREN
namespace Gm
open PySem PySem.Spec PyProof.Rows L2 LamX

def spLaw (K : PySem.W.Frag) : Sp := fun vs H Q _ => ∃ (a : Addr) (ns : List Int), vs = [.ref a] ∧ SqL K H a (ns.map V.int) ∧ ns.length ≤ 63 ∧ ∀ H', Q (.bl true) H'
def spLawT (K : PySem.W.Frag) (c Pt : Addr) : Sp := fun vs H Q E => (∀ p ∈ [(c, Pt)], H p.2 = some (.tbl #[])) ∧ spLaw K vs H Q E
structure TxL (mg : Str → Option Value) : Prop where
  all : mg "all" = none
  range : mg "range" = none
  max : mg "max" = none
  min : mg "min" = none
  len : mg "len" = none
theorem SqL.extN {K : PySem.W.Frag} {H H' : Hp} {a : Addr} {xs : List V} (h : SqL K H a xs) (e : ExtN H H') : SqL K H' a xs := by
  rcases h with (h | ⟨o, h⟩) | h
  · exact .inl (.inl (e _ _ h fun _ z => by cases z))
  · exact .inl (.inr ⟨o, e _ _ h fun _ z => by cases z⟩)
  · exact .inr h
section
variable {P : Program} {w : World} {K : PySem.W.Frag} {mg : Str → Option Value} {base : Heap}
abbrev nL : List Str := ["_law_script", "_law_k"]
theorem scL : FnScope nL ["_law_script"] (defScope sLaw) := ⟨rfl, rfl, rfl, by decide +kernel, rfl, by decide +kernel, by decide +kernel⟩
theorem ok_law {f fB fR c Pt : Addr} {fd fdB fdR : FuncData} (F : Fun K "law" "law" sLaw f fd) (T : TxL mg)
    (GB : FnOk P w K mg base L2.CX0 1 fB fdB ["_law_script", "_law_k"] (spBowl K)) (DB : Df K mg "_law_bowl" fB fdB ["_law_script", "_law_k"])
    (GR : FnG P w K mg base L2.CX0 10 fR fdR ["_law_bowl_here"] (spRight Pt)) (DR : Df K mg "_law_right" fR fdR ["_law_bowl_here"]) : FnG P w K mg base L2.CX0 11 f fd ["_law_script"] (spLawT K c Pt) := by
  refine F.okG scL (fun vs H Q E h => ?_) (fun cdv A outer s H vs Q E g hr h => ?_)
  · obtain ⟨_, a, ns, rfl, _⟩ := h
    rfl
  · obtain ⟨hT, a, ns, rfl, hS, hlen, q⟩ := h
    have nd := scL.nd
    have hr1 : Room 1 _ := hr.mono (by decide)
    refine ⟨_, pss_one (ps_ret (pe_callB (cr_all rfl) (by rfl) T.all (by decide +kernel) (pa_cons
      (pe_lc (own := [("_law_k", 1)]) (g := gName 1) (by rfl) nd
        (pi_range1 (by rfl) T.range (pa_cons (pe_callB (call_max2 rfl) (by rfl) T.max (by decide +kernel) (pa_cons pe_int (pa_cons (pe_callB (call_min2 rfl) (by rfl) T.min (by decide +kernel)
          (pa_cons (pe_callB call_len_seq (by rfl) T.len PySem.boot_len (pa_cons (pv 0) pa_nil)) (pa_cons pe_int pa_nil))) pa_nil))) pa_nil))
        (blkOk_by (own := [("_law_k", 1)]) (N := nL) (sc := defScope sLaw) (by decide +kernel))
        (fun _ _ _ _ _ => pg_name (i := 1) nd rfl (Or.inl rfl)) (fun _ _ _ _ _ => pts_nil)
        (fun _ _ _ _ _ => pe_callG GR g hr (by rfl) DR.mg DR.kp DR.b L2.pass0 (pa_cons (pe_call GB hr1 (by rfl) DB.mg DB.kp DB.b .nil L2.pass0 (pa_cons (pv 0) (pa_cons (pv 1) pa_nil))) pa_nil))) pa_nil))), ?_⟩
    have hline : sizeLine = 16777216 := sizeLine_eq
    refine ⟨_, rfl, a, _, rfl, .inl hS, _, _, rfl, _, _, rfl, ?_⟩
    refine ⟨_, rfl, ?_, ?_, fun D hD => ?_⟩
    · rw [List.length_map]
      split <;> (try split) <;> omega
    · rw [List.length_map]
      split <;> (try split) <;> omega
    have hn : ∀ L : Int, (if (if (6 : Int) < L then (6 : Int) else L) > 2 then (if (6 : Int) < L then (6 : Int) else L) else 2).toNat ≤ 6 := fun L => by
      split <;> (try split) <;> omega
    have tab0 : Tabs (tabR Pt) H := fun z hz => by
      rw [List.mem_singleton.mp hz]
      exact TabS.nil (hT _ (List.mem_singleton.mpr rfl))
    refine lc_range (lo := 0) (fun i H' => ExtN H H' ∧ Tabs (tabR Pt) H' ∧ H' D = some (.lst ((List.replicate i true).map V.bl))) ⟨ExtN.of (same_upd hD), tab0.ext (same_upd hD), upd_same⟩ ?_ ?_
    · rintro i H1 hi ⟨sm, tb, hDi⟩
      have hi6 : i < 6 := Nat.lt_of_lt_of_le hi (hn _)
      refine ⟨rfl, ⟨_, rfl, _, rfl, a, ns, _, rfl, SqL.extN hS sm, hlen, by omega, fun H2 p s2 np B => ⟨p, rfl, B, tb.ext s2, fun H3 k3 t3 B3 => ?_⟩⟩⟩
      have keep : ExtN H1 H3 := fun b o e t => k3 b o (ne_of_none e np) t (s2 b o e)
      have hD3 := keep _ _ hDi fun _ z => by cases z
      refine ⟨_, hD3, ?_, fun b u e t => ?_, ?_, ?_⟩
      · rw [List.length_map, List.length_replicate]
        omega
      · rw [upd_ne (ne_of_none e hD)]
        exact keep b u (sm b u e t) t
      · exact tabs_put t3 hD3
      · rw [upd_same, List.replicate_succ', List.map_append]
        rfl
    · rintro H1 ⟨sm, tb, hD1⟩
      refine ⟨D, _, rfl, SqL.of hD1, ?_⟩
      rw [List.all_replicate]
      simp only [id, if_true, ite_self]
      exact q _
end
end Gm

-- NOREN
namespace Gm
open PySem PySem.Spec PyProof.Rows L2 LamX



theorem kit_ref {K : PySem.W.Frag} {t : Value} {C : Addr} (h2 : PySem.W.isClsIn K C = true) (h3 : PySem.W.typeIn K (.ref C) = some (.type "type")) (h4 : PySem.W.subIn K t (.ref C) = some true) : PySem.W.kitOne K t (.ref C) = some true := by
  unfold PySem.W.kitOne
  split
  · rfl
  · have e2 : ((PySem.W.clsIn K C).isSome && PySem.W.typeIn K (.ref C) == some (.type "type")) = true := by
      have h2' : (PySem.W.clsIn K C).isSome = true := h2
      rw [h2', h3] <;> rfl
    exact (if_pos e2).trans h4
theorem kit_type {K : PySem.W.Frag} {t : Value} {T : String} (h1 : PySem.W.kitMeta T = true) (h4 : PySem.W.subIn K t (.type T) = some true) : PySem.W.kitOne K t (.type T) = some true := by
  unfold PySem.W.kitOne
  split
  · rfl
  · exact (if_pos h1).trans h4
/-- the code table of a def of the top -/
theorem tab_of {q : Program} {K : PySem.W.Frag} {h : Heap} {mg : Str → Option Value} {x : Str} {f c P : Addr} {oc kV doc pm ct ok : Value} {o2 an dk : Option Addr} {sl sk : Array (Option Value)} {vs : Array Value} {qn : Str} {ar : Arguments} {bd : List Stmt} {sc : Scope} (X : K.In h) (hm : mg x = some (.ref f))
    (lk : K.lookup f = some ⟨oc, o2, .func (PySem.W.fnOf x qn ar bd sc .none kV doc pm an (.ref c) ct), sl⟩) (lc : K.lookup c = some ⟨ok, dk, .fields vs, sk⟩) (hP : vs[11]? = some (.ref P))
    (tab : ∀ d ∈ recsOf q, ∃ a o fd c P, mg d.name = some (.ref a) ∧ h.get? a = some o ∧ o.data = .func fd ∧ fd.code = .ref c ∧ h.IsCode c P #[] ∧ h.TableAt c P #[]) (hr : ∃ d ∈ recsOf q, d.name = x) :
    h.get? P = some { cls := .none, data := .fields #[] } ∧ PySem.W.CodeHd h c P := by
  obtain ⟨d, hd, e⟩ := hr
  obtain ⟨a, o, fd, c', P', m, ho, hof, hc, ic, ta⟩ := tab d hd
  rw [e, hm] at m
  cases m
  have h1 := X _ _ lk
  rw [ho] at h1
  cases h1
  cases hof
  have ec : c = c' := Value.ref.inj hc
  subst ec
  obtain ⟨⟨o', vs', g1, _, g3, g4⟩, g5⟩ := id ta
  have h2 := X _ _ lc
  rw [g1] at h2
  cases h2
  cases g3
  rw [hP] at g4
  cases g4
  exact ⟨g5, .of ic ta⟩
/-- an error class one step below a class over the built-in error B -/
theorem oexB_one {K : PySem.W.Frag} {C S N : Addr} {nm q : Str} {bs sub bmB : List Value} {sn : List Str} {ab : Bool} {col : Option Bool} {dd : Option Addr} {k0 k1 k2 k3 k5 : Option Value} {B n1 n2 : String}
    (x : K.lookup C = some (excClassObj nm q C N bs (.ref S :: bmB) true sn sub ab col dd k0 k1 k2 k3 k5 n1)) (F : ExcBaseFacts B n1 n2 bmB) (pass : ∀ self : Value, refuseLoop self "__setattr__" bmB = pure ()) (ob : bmB.contains (.type "object") = true)
    (sa : PySem.W.findIn K (.ref C) "__setattr__" = some (some (.builtin "object.__setattr__"))) (eb : PySem.W.subIn K (.ref C) (.type "BaseException") = some true) (ty : PySem.W.typeIn K (.ref C) = some (.type "type")) (kp : PySem.W.keepIn K (.ref C) = true) : OexB K C :=
  ⟨⟨nm, q, N, bs, .ref S :: bmB, sub, bmB, sn, ab, col, dd, k0, k1, k2, k3, k5, B, n1, n2, x, F, fun Y => by rw [List.contains_cons]; rfl, fun self => (PySem.refuseLoop_ref _ _ _ _).trans (pass self), ob⟩, sa, eb, ty, kp⟩
end Gm

namespace Gm
open PySem PySem.Spec PyProof.Rows L2 LamX
theorem all_mk {P : Program} {w : World} {K : PySem.W.Frag} {h : Heap} {mg : Str → Option Value} {fa CB CIn CMk CWd CNb fB fD fOf fGt fR fL fW fA fCn fOv fIw fAm fCw fCm fCb fMa fCo fI fRp fIMk fIWd fINb adR ptR : Addr} (X : K.In h) (G : h.Ns mainGlobals mg) (hfa : mg "law" = some (.ref fa))
    {odB anB odD anD odOf anOf odGt anGt odR anR odL anL odW anW odA anA odCn anCn odOv anOv odIw anIw odAm anAm odCw anCw odCm anCm odCb anCb odMa anMa odCo anCo odI anI odRp anRp odIMk anIMk odIWd anIWd odINb anINb : Option Addr} {slB slD slOf slGt slR slL slW slA slCn slOv slIw slAm slCw slCm slCb slMa slCo slI slRp slIMk slIWd slINb : Array (Option Value)} {ocB kVB dcB pmB cdB ctB ocD kVD dcD pmD cdD ctD ocOf kVOf dcOf pmOf cdOf ctOf ocGt kVGt dcGt pmGt cdGt ctGt ocR kVR dcR pmR ctR ocL kVL dcL pmL cdL ctL ocW kVW dcW pmW cdW ctW ocA kVA dcA pmA cdA ctA ocCn kVCn dcCn pmCn cdCn ctCn ocOv kVOv dcOv pmOv cdOv ctOv ocIw kVIw dcIw pmIw cdIw ctIw ocAm kVAm dcAm pmAm cdAm ctAm ocCw kVCw dcCw pmCw cdCw ctCw ocCm kVCm dcCm pmCm cdCm ctCm ocCb kVCb dcCb pmCb cdCb ctCb ocMa kVMa dcMa pmMa cdMa ctMa ocCo kVCo dcCo pmCo cdCo ctCo ocI kVI dcI pmI cdI ctI ocRp kVRp dcRp pmRp cdRp ctRp ocIMk kVIMk dcIMk pmIMk cdIMk ctIMk ocIWd kVIWd dcIWd pmIWd cdIWd ctIWd ocINb kVINb dcINb pmINb cdINb ctINb : Value}
    {tkML tkMM tkLO tkMA : Tok}
    {nmMk qnMk : Str} {NSMk : Addr} {bsMk sbMk : List Value} {snMk : List Str} {abMk : Bool} {clMk : Option Bool} {ddMk : Option Addr} {m0Mk m1Mk m2Mk m3Mk m5Mk : Option Value}
    {nmWd qnWd : Str} {NSWd : Addr} {bsWd sbWd : List Value} {snWd : List Str} {abWd : Bool} {clWd : Option Bool} {ddWd : Option Addr} {m0Wd m1Wd m2Wd m3Wd m5Wd : Option Value}
    {nmNb qnNb : Str} {NSNb : Addr} {bsNb sbNb : List Value} {snNb : List Str} {abNb : Bool} {clNb : Option Bool} {ddNb : Option Addr} {m0Nb m1Nb m2Nb m3Nb m5Nb : Option Value}
    (gCB : PySem.W.nsIn K mainGlobals "Board" = some (some (.ref CB)))
    (gCIn : PySem.W.nsIn K mainGlobals "InputError" = some (some (.ref CIn)))
    (gCMk : PySem.W.nsIn K mainGlobals "InvalidMarks" = some (some (.ref CMk)))
    (gCWd : PySem.W.nsIn K mainGlobals "InvalidWord" = some (some (.ref CWd)))
    (gCNb : PySem.W.nsIn K mainGlobals "NotABoard" = some (some (.ref CNb)))
    (aB : PySem.W.nsIn K mainGlobals "_law_bowl" = some (some (.ref fB)))
    (lB : K.lookup fB = some ⟨ocB, odB, .func (PySem.W.fnOf "_law_bowl" "_law_bowl" (defArgs sBowl) (defBody sBowl) (defScope sBowl) .none kVB dcB pmB anB cdB ctB), slB⟩)
    (cB : PySem.W.codeIn K cdB "_law_bowl" = true)
    (kB : PySem.W.keepIn K (.ref fB) = true)
    (aD : PySem.W.nsIn K mainGlobals "_law_dip" = some (some (.ref fD)))
    (lD : K.lookup fD = some ⟨ocD, odD, .func (PySem.W.fnOf "_law_dip" "_law_dip" (defArgs sDip) (defBody sDip) (defScope sDip) .none kVD dcD pmD anD cdD ctD), slD⟩)
    (cD : PySem.W.codeIn K cdD "_law_dip" = true)
    (kD : PySem.W.keepIn K (.ref fD) = true)
    (aOf : PySem.W.nsIn K mainGlobals "_law_of" = some (some (.ref fOf)))
    (lOf : K.lookup fOf = some ⟨ocOf, odOf, .func (PySem.W.fnOf "_law_of" "_law_of" (defArgs sOf) (defBody sOf) (defScope sOf) .none kVOf dcOf pmOf anOf cdOf ctOf), slOf⟩)
    (cOf : PySem.W.codeIn K cdOf "_law_of" = true)
    (kOf : PySem.W.keepIn K (.ref fOf) = true)
    (aGt : PySem.W.nsIn K mainGlobals "_law_got" = some (some (.ref fGt)))
    (lGt : K.lookup fGt = some ⟨ocGt, odGt, .func (PySem.W.fnOf "_law_got" "_law_got" (defArgs sGot) (defBody sGot) (defScope sGot) .none kVGt dcGt pmGt anGt cdGt ctGt), slGt⟩)
    (cGt : PySem.W.codeIn K cdGt "_law_got" = true)
    (kGt : PySem.W.keepIn K (.ref fGt) = true)
    (aR : PySem.W.nsIn K mainGlobals "_law_right" = some (some (.ref fR)))
    (lR : K.lookup fR = some ⟨ocR, odR, .func (PySem.W.fnOf "_law_right" "_law_right" (defArgs sRight) (defBody sRight) (defScope sRight) .none kVR dcR pmR anR (.ref adR) ctR), slR⟩)
    (cR : PySem.W.codeIn K (.ref adR) "_law_right" = true)
    (kR : PySem.W.keepIn K (.ref fR) = true)
    (aL : PySem.W.nsIn K mainGlobals "law" = some (some (.ref fL)))
    (lL : K.lookup fL = some ⟨ocL, odL, .func (PySem.W.fnOf "law" "law" (defArgs sLaw) (defBody sLaw) (defScope sLaw) .none kVL dcL pmL anL cdL ctL), slL⟩)
    (cL : PySem.W.codeIn K cdL "law" = true)
    (kL : PySem.W.keepIn K (.ref fL) = true)
    (aW : PySem.W.nsIn K mainGlobals "is_integer_within" = some (some (.ref fW)))
    (lW : K.lookup fW = some ⟨ocW, odW, .func (PySem.W.fnOf "is_integer_within" "is_integer_within" (defArgs sWithin) (defBody sWithin) (defScope sWithin) .none kVW dcW pmW anW cdW ctW), slW⟩)
    (cW : PySem.W.codeIn K cdW "is_integer_within" = true)
    (kW : PySem.W.keepIn K (.ref fW) = true)
    (aA : PySem.W.nsIn K mainGlobals "is_alphabet" = some (some (.ref fA)))
    (lA : K.lookup fA = some ⟨ocA, odA, .func (PySem.W.fnOf "is_alphabet" "is_alphabet" (defArgs sAlpha) (defBody sAlpha) (defScope sAlpha) .none kVA dcA pmA anA cdA ctA), slA⟩)
    (cA : PySem.W.codeIn K cdA "is_alphabet" = true)
    (kA : PySem.W.keepIn K (.ref fA) = true)
    (aCn : PySem.W.nsIn K mainGlobals "count_words" = some (some (.ref fCn)))
    (lCn : K.lookup fCn = some ⟨ocCn, odCn, .func (PySem.W.fnOf "count_words" "count_words" (defArgs sCount) (defBody sCount) (defScope sCount) .none kVCn dcCn pmCn anCn cdCn ctCn), slCn⟩)
    (cCn : PySem.W.codeIn K cdCn "count_words" = true)
    (kCn : PySem.W.keepIn K (.ref fCn) = true)
    (aOv : PySem.W.nsIn K mainGlobals "is_text_over" = some (some (.ref fOv)))
    (lOv : K.lookup fOv = some ⟨ocOv, odOv, .func (PySem.W.fnOf "is_text_over" "is_text_over" (defArgs sOver) (defBody sOver) (defScope sOver) .none kVOv dcOv pmOv anOv cdOv ctOv), slOv⟩)
    (cOv : PySem.W.codeIn K cdOv "is_text_over" = true)
    (kOv : PySem.W.keepIn K (.ref fOv) = true)
    (aIw : PySem.W.nsIn K mainGlobals "is_word" = some (some (.ref fIw)))
    (lIw : K.lookup fIw = some ⟨ocIw, odIw, .func (PySem.W.fnOf "is_word" "is_word" (defArgs sIsW) (defBody sIsW) (defScope sIsW) .none kVIw dcIw pmIw anIw cdIw ctIw), slIw⟩)
    (cIw : PySem.W.codeIn K cdIw "is_word" = true)
    (kIw : PySem.W.keepIn K (.ref fIw) = true)
    (aAm : PySem.W.nsIn K mainGlobals "are_marks" = some (some (.ref fAm)))
    (lAm : K.lookup fAm = some ⟨ocAm, odAm, .func (PySem.W.fnOf "are_marks" "are_marks" (defArgs sAreM) (defBody sAreM) (defScope sAreM) .none kVAm dcAm pmAm anAm cdAm ctAm), slAm⟩)
    (cAm : PySem.W.codeIn K cdAm "are_marks" = true)
    (kAm : PySem.W.keepIn K (.ref fAm) = true)
    (aCw : PySem.W.nsIn K mainGlobals "check_word" = some (some (.ref fCw)))
    (lCw : K.lookup fCw = some ⟨ocCw, odCw, .func (PySem.W.fnOf "check_word" "check_word" (defArgs sChkW) (defBody sChkW) (defScope sChkW) .none kVCw dcCw pmCw anCw cdCw ctCw), slCw⟩)
    (cCw : PySem.W.codeIn K cdCw "check_word" = true)
    (kCw : PySem.W.keepIn K (.ref fCw) = true)
    (aCm : PySem.W.nsIn K mainGlobals "check_marks" = some (some (.ref fCm)))
    (lCm : K.lookup fCm = some ⟨ocCm, odCm, .func (PySem.W.fnOf "check_marks" "check_marks" (defArgs sChkM) (defBody sChkM) (defScope sChkM) .none kVCm dcCm pmCm anCm cdCm ctCm), slCm⟩)
    (cCm : PySem.W.codeIn K cdCm "check_marks" = true)
    (kCm : PySem.W.keepIn K (.ref fCm) = true)
    (aCb : PySem.W.nsIn K mainGlobals "check_board" = some (some (.ref fCb)))
    (lCb : K.lookup fCb = some ⟨ocCb, odCb, .func (PySem.W.fnOf "check_board" "check_board" (defArgs sChkB) (defBody sChkB) (defScope sChkB) .none kVCb dcCb pmCb anCb cdCb ctCb), slCb⟩)
    (cCb : PySem.W.codeIn K cdCb "check_board" = true)
    (kCb : PySem.W.keepIn K (.ref fCb) = true)
    (aMa : PySem.W.nsIn K mainGlobals "marks" = some (some (.ref fMa)))
    (lMa : K.lookup fMa = some ⟨ocMa, odMa, .func (PySem.W.fnOf "marks" "marks" (defArgs sMarks) (defBody sMarks) (defScope sMarks) .none kVMa dcMa pmMa anMa cdMa ctMa), slMa⟩)
    (cMa : PySem.W.codeIn K cdMa "marks" = true)
    (kMa : PySem.W.keepIn K (.ref fMa) = true)
    (aCo : PySem.W.nsIn K mainGlobals "can_come" = some (some (.ref fCo)))
    (lCo : K.lookup fCo = some ⟨ocCo, odCo, .func (PySem.W.fnOf "can_come" "can_come" (defArgs sComeX) (defBody sComeX) (defScope sComeX) .none kVCo dcCo pmCo anCo cdCo ctCo), slCo⟩)
    (cCo : PySem.W.codeIn K cdCo "can_come" = true)
    (kCo : PySem.W.keepIn K (.ref fCo) = true)
    (aI : PySem.W.findIn K (.ref CB) "__init__" = some (some (.ref fI)))
    (iI : PySem.W.isFn K (.ref fI) = true)
    (lI : K.lookup fI = some ⟨ocI, odI, .func (PySem.W.fnOf "__init__" "Board.__init__" (defArgs sInit) (defBody sInit) (defScope sInit) .none kVI dcI pmI anI cdI ctI), slI⟩)
    (cI : PySem.W.codeIn K cdI "Board.__init__" = true)
    (kI : PySem.W.keepIn K (.ref fI) = true)
    (aRp : PySem.W.findIn K (.ref CB) "__repr__" = some (some (.ref fRp)))
    (iRp : PySem.W.isFn K (.ref fRp) = true)
    (lRp : K.lookup fRp = some ⟨ocRp, odRp, .func (PySem.W.fnOf "__repr__" "Board.__repr__" (defArgs sRepr) (defBody sRepr) (defScope sRepr) .none kVRp dcRp pmRp anRp cdRp ctRp), slRp⟩)
    (cRp : PySem.W.codeIn K cdRp "Board.__repr__" = true)
    (kRp : PySem.W.keepIn K (.ref fRp) = true)
    (aIMk : PySem.W.findIn K (.ref CMk) "__init__" = some (some (.ref fIMk)))
    (iIMk : PySem.W.isFn K (.ref fIMk) = true)
    (lIMk : K.lookup fIMk = some ⟨ocIMk, odIMk, .func (PySem.W.fnOf "__init__" "InvalidMarks.__init__" (defArgs sEMk) (defBody sEMk) (defScope sEMk) .none kVIMk dcIMk pmIMk anIMk cdIMk ctIMk), slIMk⟩)
    (cIMk : PySem.W.codeIn K cdIMk "InvalidMarks.__init__" = true)
    (kIMk : PySem.W.keepIn K (.ref fIMk) = true)
    (aIWd : PySem.W.findIn K (.ref CWd) "__init__" = some (some (.ref fIWd)))
    (iIWd : PySem.W.isFn K (.ref fIWd) = true)
    (lIWd : K.lookup fIWd = some ⟨ocIWd, odIWd, .func (PySem.W.fnOf "__init__" "InvalidWord.__init__" (defArgs sEWd) (defBody sEWd) (defScope sEWd) .none kVIWd dcIWd pmIWd anIWd cdIWd ctIWd), slIWd⟩)
    (cIWd : PySem.W.codeIn K cdIWd "InvalidWord.__init__" = true)
    (kIWd : PySem.W.keepIn K (.ref fIWd) = true)
    (aINb : PySem.W.findIn K (.ref CNb) "__init__" = some (some (.ref fINb)))
    (iINb : PySem.W.isFn K (.ref fINb) = true)
    (lINb : K.lookup fINb = some ⟨ocINb, odINb, .func (PySem.W.fnOf "__init__" "NotABoard.__init__" (defArgs sENb) (defBody sENb) (defScope sENb) .none kVINb dcINb pmINb anINb cdINb ctINb), slINb⟩)
    (cINb : PySem.W.codeIn K cdINb "NotABoard.__init__" = true)
    (kINb : PySem.W.keepIn K (.ref fINb) = true)
    (gtc : PySem.W.specialIn K (.builtin "object.__class__") "__get__" = some (some (.builtin "getset_descriptor.__get__")))
    (tkc : PySem.W.takesIn K (.builtin "object.__class__") = some true)
    (ibIn : PySem.W.isClsIn K CIn = true)
    (tbIn : PySem.W.typeIn K (.ref CIn) = some (.type "type"))
    (xMk : K.lookup CMk = some (excClassObj nmMk qnMk CMk NSMk bsMk [.ref CIn, .type "ValueError", .type "Exception", .type "BaseException", .type "object"] true snMk sbMk abMk clMk ddMk m0Mk m1Mk m2Mk m3Mk m5Mk "ValueError.__new__"))
    (saMk : PySem.W.findIn K (.ref CMk) "__setattr__" = some (some (.builtin "object.__setattr__")))
    (ebMk : PySem.W.subIn K (.ref CMk) (.type "BaseException") = some true)
    (tyMk : PySem.W.typeIn K (.ref CMk) = some (.type "type"))
    (kpMk : PySem.W.keepIn K (.ref CMk) = true)
    (noMk : PySem.W.findIn K (.ref CMk) "value" = some none)
    (tiMk : PySem.W.typeIn K (.ref fIMk) = some (.type "function"))
    (gaMk : PySem.W.findIn K (.ref CMk) "__getattribute__" = some (some (.builtin "BaseException.__getattribute__")))
    (ggMk : PySem.W.findIn K (.ref CMk) "__getattr__" = some none)
    (hdMk : PySem.W.hasDictIn K CMk = true)
    (acMk : PySem.W.findIn K (.ref CMk) "__class__" = some (some (.builtin "object.__class__")))
    (obMk : PySem.W.mroIn K CMk (.type "object") = some true)
    (ssMk : PySem.W.subIn K (.ref CMk) (.ref CMk) = some true)
    (sBMk : PySem.W.subIn K (.ref CMk) (.ref CIn) = some true)
    (sPMk : PySem.W.subIn K (.ref CMk) (.type "ValueError") = some true)
    (xWd : K.lookup CWd = some (excClassObj nmWd qnWd CWd NSWd bsWd [.ref CIn, .type "ValueError", .type "Exception", .type "BaseException", .type "object"] true snWd sbWd abWd clWd ddWd m0Wd m1Wd m2Wd m3Wd m5Wd "ValueError.__new__"))
    (saWd : PySem.W.findIn K (.ref CWd) "__setattr__" = some (some (.builtin "object.__setattr__")))
    (ebWd : PySem.W.subIn K (.ref CWd) (.type "BaseException") = some true)
    (tyWd : PySem.W.typeIn K (.ref CWd) = some (.type "type"))
    (kpWd : PySem.W.keepIn K (.ref CWd) = true)
    (noWd : PySem.W.findIn K (.ref CWd) "value" = some none)
    (tiWd : PySem.W.typeIn K (.ref fIWd) = some (.type "function"))
    (gaWd : PySem.W.findIn K (.ref CWd) "__getattribute__" = some (some (.builtin "BaseException.__getattribute__")))
    (ggWd : PySem.W.findIn K (.ref CWd) "__getattr__" = some none)
    (hdWd : PySem.W.hasDictIn K CWd = true)
    (acWd : PySem.W.findIn K (.ref CWd) "__class__" = some (some (.builtin "object.__class__")))
    (obWd : PySem.W.mroIn K CWd (.type "object") = some true)
    (ssWd : PySem.W.subIn K (.ref CWd) (.ref CWd) = some true)
    (sBWd : PySem.W.subIn K (.ref CWd) (.ref CIn) = some true)
    (sPWd : PySem.W.subIn K (.ref CWd) (.type "ValueError") = some true)
    (xNb : K.lookup CNb = some (excClassObj nmNb qnNb CNb NSNb bsNb [.ref CIn, .type "ValueError", .type "Exception", .type "BaseException", .type "object"] true snNb sbNb abNb clNb ddNb m0Nb m1Nb m2Nb m3Nb m5Nb "ValueError.__new__"))
    (saNb : PySem.W.findIn K (.ref CNb) "__setattr__" = some (some (.builtin "object.__setattr__")))
    (ebNb : PySem.W.subIn K (.ref CNb) (.type "BaseException") = some true)
    (tyNb : PySem.W.typeIn K (.ref CNb) = some (.type "type"))
    (kpNb : PySem.W.keepIn K (.ref CNb) = true)
    (noNb : PySem.W.findIn K (.ref CNb) "value" = some none)
    (tiNb : PySem.W.typeIn K (.ref fINb) = some (.type "function"))
    (gaNb : PySem.W.findIn K (.ref CNb) "__getattribute__" = some (some (.builtin "BaseException.__getattribute__")))
    (ggNb : PySem.W.findIn K (.ref CNb) "__getattr__" = some none)
    (hdNb : PySem.W.hasDictIn K CNb = true)
    (acNb : PySem.W.findIn K (.ref CNb) "__class__" = some (some (.builtin "object.__class__")))
    (obNb : PySem.W.mroIn K CNb (.type "object") = some true)
    (ssNb : PySem.W.subIn K (.ref CNb) (.ref CNb) = some true)
    (sBNb : PySem.W.subIn K (.ref CNb) (.ref CIn) = some true)
    (sPNb : PySem.W.subIn K (.ref CNb) (.type "ValueError") = some true)
    (sWd_Mk : PySem.W.subIn K (.ref CWd) (.ref CMk) = some false)
    (sNb_Mk : PySem.W.subIn K (.ref CNb) (.ref CMk) = some false)
    (sNb_Wd : PySem.W.subIn K (.ref CNb) (.ref CWd) = some false)
    (nML : PySem.W.nsIn K mainGlobals "MOST_LENGTH" = some (some (.int 6 tkML)))
    (nMM : PySem.W.nsIn K mainGlobals "MOST_LETTERS" = some (some (.int 26 tkMM)))
    (nLO : PySem.W.nsIn K mainGlobals "LOWERCASE" = some (some (.str lowTxt tkLO)))
    (nMA : PySem.W.nsIn K mainGlobals "MARKS" = some (some (.str (Str.ofString "012") tkMA)))
    (zlen : PySem.W.nsIn K mainGlobals "len" = some none)
    (zint : PySem.W.nsIn K mainGlobals "int" = some none)
    (zabs : PySem.W.nsIn K mainGlobals "abs" = some none)
    (zdivmod : PySem.W.nsIn K mainGlobals "divmod" = some none)
    (zisinstance : PySem.W.nsIn K mainGlobals "isinstance" = some none)
    (zbool : PySem.W.nsIn K mainGlobals "bool" = some none)
    (zstr : PySem.W.nsIn K mainGlobals "str" = some none)
    (zrange : PySem.W.nsIn K mainGlobals "range" = some none)
    (zrepr : PySem.W.nsIn K mainGlobals "repr" = some none)
    (zall : PySem.W.nsIn K mainGlobals "all" = some none)
    (zmax : PySem.W.nsIn K mainGlobals "max" = some none)
    (zmin : PySem.W.nsIn K mainGlobals "min" = some none)
    (ztuple : PySem.W.nsIn K mainGlobals "tuple" = some none)
    (zValueError : PySem.W.nsIn K mainGlobals "ValueError" = some none)
    (pg : PySem.W.plainGet K CB Str.empty = true)
    (hd : PySem.W.hasDictIn K CB = true)
    (po : PySem.W.plainOver K CB = true)
    (sa : PySem.W.findIn K (.ref CB) "__setattr__" = some (some (.builtin "object.__setattr__")))
    (mk : PySem.W.makesIn K CB = true)
    (kc : PySem.W.keepIn K (.ref CB) = true)
    (naL : PySem.W.findIn K (.ref CB) "letters" = some none)
    (naN : PySem.W.findIn K (.ref CB) "length" = some none)
    (naS : PySem.W.findIn K (.ref CB) "size" = some none)
    (ac : PySem.W.findIn K (.ref CB) "__class__" = some (some (.builtin "object.__class__")))
    (ob : PySem.W.mroIn K CB (.type "object") = some true)
    (kitO : PySem.W.kitOne K (.ref CB) (.ref CB) = some true)
    (kitS : PySem.W.kitOne K (.ref CB) (.type "str") = some false)
    (kitNoneType : PySem.W.kitOne K (.type "NoneType") (.ref CB) = some false)
    (kitbool : PySem.W.kitOne K (.type "bool") (.ref CB) = some false)
    (kitint : PySem.W.kitOne K (.type "int") (.ref CB) = some false)
    (kitstr : PySem.W.kitOne K (.type "str") (.ref CB) = some false)
    (kittuple : PySem.W.kitOne K (.type "tuple") (.ref CB) = some false)
    (kitlist : PySem.W.kitOne K (.type "list") (.ref CB) = some false)
    (kitdict : PySem.W.kitOne K (.type "dict") (.ref CB) = some false)
    (hPR : h.get? ptR = some { cls := .none, data := .fields #[] })
    (nnR : K.lookup ptR = none)
    (hCR : PySem.W.CodeHd h adR ptR) :
    ∃ (fd : FuncData) (cs : List (Addr × Addr)), (∀ p ∈ cs, h.get? p.2 = some { cls := .none, data := .fields #[] } ∧ K.lookup p.2 = none ∧ PySem.W.CodeHd h p.1 p.2) ∧ (∀ (s : Shared) (u : Value), BindsTo s fd ⟨[u], []⟩ [("_law_script", u)]) ∧
      ∀ base : Heap, K.In base → base.Ns mainGlobals mg → (∃ mm, base.Ns sysModules mm) → (∀ p ∈ cs, TabB base mg p.1 p.2) → FnG P w K mg base L2.CX0 11 fa fd ["_law_script"] (fun vs H Q E => (∀ p ∈ cs, H p.2 = some (.tbl #[])) ∧ spLaw K vs H Q E) := by
  have e := hfa.symm.trans (PySem.W.mg_of X G aL)
  cases e
  have FB := fun_mk (st := sBowl) lB cB kB
  have FD := fun_mk (st := sDip) lD cD kD
  have FOf := fun_mk (st := sOf) lOf cOf kOf
  have FGt := fun_mk (st := sGot) lGt cGt kGt
  have FR := fun_mk (st := sRight) lR cR kR
  have FL := fun_mk (st := sLaw) lL cL kL
  have FW := fun_mk (st := sWithin) lW cW kW
  have FA := fun_mk (st := sAlpha) lA cA kA
  have FCn := fun_mk (st := sCount) lCn cCn kCn
  have FOv := fun_mk (st := sOver) lOv cOv kOv
  have FIw := fun_mk (st := sIsW) lIw cIw kIw
  have FAm := fun_mk (st := sAreM) lAm cAm kAm
  have FCw := fun_mk (st := sChkW) lCw cCw kCw
  have FCm := fun_mk (st := sChkM) lCm cCm kCm
  have FCb := fun_mk (st := sChkB) lCb cCb kCb
  have FMa := fun_mk (st := sMarks) lMa cMa kMa
  have FCo := fun_mk (st := sComeX) lCo cCo kCo
  have FI := fun_mk (st := sInit) lI cI kI
  have FRp := fun_mk (st := sRepr) lRp cRp kRp
  have FIMk := fun_mk (st := sEMk) lIMk cIMk kIMk
  have FIWd := fun_mk (st := sEWd) lIWd cIWd kIWd
  have FINb := fun_mk (st := sENb) lINb cINb kINb
  have bB := FB.binds (ps := ["_law_script", "_law_k"]) fun _ _ _ _ _ _ us hl => match us, hl with | [_, _], _ => rfl
  have bD := FD.binds (ps := ["_law_bowl_here", "_law_many"]) fun _ _ _ _ _ _ us hl => match us, hl with | [_, _], _ => rfl
  have bOf := FOf.binds (ps := ["_law_bowl_here", "_law_things"]) fun _ _ _ _ _ _ us hl => match us, hl with | [_, _], _ => rfl
  have bGt := FGt.binds (ps := ["_law_ask"]) fun _ _ _ _ _ _ us hl => match us, hl with | [_], _ => rfl
  have bR := FR.binds (ps := ["_law_bowl_here"]) fun _ _ _ _ _ _ us hl => match us, hl with | [_], _ => rfl
  have bW := FW.binds (ps := ["value", "least", "most"]) fun _ _ _ _ _ _ us hl => match us, hl with | [_, _, _], _ => rfl
  have bA := FA.binds (ps := ["letters"]) fun _ _ _ _ _ _ us hl => match us, hl with | [_], _ => rfl
  have bCn := FCn.binds (ps := ["many", "length"]) fun _ _ _ _ _ _ us hl => match us, hl with | [_, _], _ => rfl
  have bOv := FOv.binds (ps := ["value", "characters", "length"]) fun _ _ _ _ _ _ us hl => match us, hl with | [_, _, _], _ => rfl
  have bIw := FIw.binds (ps := ["board", "value"]) fun _ _ _ _ _ _ us hl => match us, hl with | [_, _], _ => rfl
  have bAm := FAm.binds (ps := ["board", "value"]) fun _ _ _ _ _ _ us hl => match us, hl with | [_, _], _ => rfl
  have bCw := FCw.binds (ps := ["board", "word"]) fun _ _ _ _ _ _ us hl => match us, hl with | [_, _], _ => rfl
  have bCm := FCm.binds (ps := ["board", "told"]) fun _ _ _ _ _ _ us hl => match us, hl with | [_, _], _ => rfl
  have bCb := FCb.binds (ps := ["board"]) fun _ _ _ _ _ _ us hl => match us, hl with | [_], _ => rfl
  have bMa := FMa.binds (ps := ["board", "guess", "word"]) fun _ _ _ _ _ _ us hl => match us, hl with | [_, _, _], _ => rfl
  have bCo := FCo.binds (ps := ["board", "guess", "told"]) fun _ _ _ _ _ _ us hl => match us, hl with | [_, _, _], _ => rfl
  have bI := FI.binds (ps := ["self", "letters", "length"]) fun _ _ _ _ _ _ us hl => match us, hl with | [_, _, _], _ => rfl
  have bRp := FRp.binds (ps := ["self"]) fun _ _ _ _ _ _ us hl => match us, hl with | [_], _ => rfl
  have bIMk := FIMk.binds (ps := ["self", "value"]) fun _ _ _ _ _ _ us hl => match us, hl with | [_, _], _ => rfl
  have bIWd := FIWd.binds (ps := ["self", "value"]) fun _ _ _ _ _ _ us hl => match us, hl with | [_, _], _ => rfl
  have bINb := FINb.binds (ps := ["self", "value"]) fun _ _ _ _ _ _ us hl => match us, hl with | [_, _], _ => rfl
  have DB : Df K mg "_law_bowl" _ _ _ := ⟨PySem.W.mg_of X G aB, kB, bB⟩
  have DD : Df K mg "_law_dip" _ _ _ := ⟨PySem.W.mg_of X G aD, kD, bD⟩
  have DOf : Df K mg "_law_of" _ _ _ := ⟨PySem.W.mg_of X G aOf, kOf, bOf⟩
  have DGt : Df K mg "_law_got" _ _ _ := ⟨PySem.W.mg_of X G aGt, kGt, bGt⟩
  have DR : Df K mg "_law_right" _ _ _ := ⟨PySem.W.mg_of X G aR, kR, bR⟩
  have DW : Df K mg "is_integer_within" _ _ _ := ⟨PySem.W.mg_of X G aW, kW, bW⟩
  have DA : Df K mg "is_alphabet" _ _ _ := ⟨PySem.W.mg_of X G aA, kA, bA⟩
  have DCn : Df K mg "count_words" _ _ _ := ⟨PySem.W.mg_of X G aCn, kCn, bCn⟩
  have DOv : Df K mg "is_text_over" _ _ _ := ⟨PySem.W.mg_of X G aOv, kOv, bOv⟩
  have DIw : Df K mg "is_word" _ _ _ := ⟨PySem.W.mg_of X G aIw, kIw, bIw⟩
  have DAm : Df K mg "are_marks" _ _ _ := ⟨PySem.W.mg_of X G aAm, kAm, bAm⟩
  have DCw : Df K mg "check_word" _ _ _ := ⟨PySem.W.mg_of X G aCw, kCw, bCw⟩
  have DCm : Df K mg "check_marks" _ _ _ := ⟨PySem.W.mg_of X G aCm, kCm, bCm⟩
  have DCb : Df K mg "check_board" _ _ _ := ⟨PySem.W.mg_of X G aCb, kCb, bCb⟩
  have DMa : Df K mg "marks" _ _ _ := ⟨PySem.W.mg_of X G aMa, kMa, bMa⟩
  have DCo : Df K mg "can_come" _ _ _ := ⟨PySem.W.mg_of X G aCo, kCo, bCo⟩
  have EMk : ErrB K mg "InvalidMarks" "value" CMk fIMk := ⟨PySem.W.mg_of X G gCMk, oexB_one xMk PySem.F.excBase_ValueError PySem.F.store_ValueError.passes (by decide +kernel) saMk ebMk tyMk kpMk, noMk, aIMk, tiMk, gaMk, ggMk, hdMk, acMk, gtc, tkc, obMk⟩
  have EWd : ErrB K mg "InvalidWord" "value" CWd fIWd := ⟨PySem.W.mg_of X G gCWd, oexB_one xWd PySem.F.excBase_ValueError PySem.F.store_ValueError.passes (by decide +kernel) saWd ebWd tyWd kpWd, noWd, aIWd, tiWd, gaWd, ggWd, hdWd, acWd, gtc, tkc, obWd⟩
  have ENb : ErrB K mg "NotABoard" "value" CNb fINb := ⟨PySem.W.mg_of X G gCNb, oexB_one xNb PySem.F.excBase_ValueError PySem.F.store_ValueError.passes (by decide +kernel) saNb ebNb tyNb kpNb, noNb, aINb, tiNb, gaNb, ggNb, hdNb, acNb, gtc, tkc, obNb⟩
  have FC : FunC K "_law_right" "_law_right" sRight fR _ adR := ⟨⟨_, _, _, _, _, _, _, _, rfl, lR, cR⟩, kR⟩
  have TBx : TxB mg := ⟨(PySem.W.mg_none_of X G zlen),(PySem.W.mg_none_of X G zint),(PySem.W.mg_none_of X G zabs),(PySem.W.mg_none_of X G zdivmod)⟩
  have TW : TxW mg := ⟨(PySem.W.mg_none_of X G zisinstance),(PySem.W.mg_none_of X G zbool),(PySem.W.mg_none_of X G zint),(PySem.W.mg_none_of X G zstr),(PySem.W.mg_none_of X G zlen),(PySem.W.mg_none_of X G zrange), ⟨_, PySem.W.mg_of X G nMM⟩, ⟨_, PySem.W.mg_of X G nML⟩, ⟨_, PySem.W.mg_of X G nLO⟩⟩
  have TC : TxC K mg CB := ⟨⟨pg, hd, po, sa⟩, PySem.W.mg_of X G gCB, naL, naN, naS, ac, gtc, tkc, ob, kitO⟩
  have TKx : TxK K CB := ⟨kitNoneType, kitbool, kitint, kitstr, kittuple, kitlist, kitdict, kitS⟩
  have TL : TxL mg := ⟨(PySem.W.mg_none_of X G zall),(PySem.W.mg_none_of X G zrange),(PySem.W.mg_none_of X G zmax),(PySem.W.mg_none_of X G zmin),(PySem.W.mg_none_of X G zlen)⟩
  have TG : TxG K mg CIn CMk CWd CNb := ⟨(PySem.W.mg_none_of X G zisinstance),(PySem.W.mg_none_of X G zValueError), PySem.W.mg_of X G gCIn, PySem.W.exm_ref ebMk hdMk tyMk ssMk, PySem.W.exm_ref ebMk hdMk tyMk sWd_Mk, PySem.W.exm_ref ebWd hdWd tyWd ssWd, PySem.W.exm_ref ebMk hdMk tyMk sNb_Mk, PySem.W.exm_ref ebWd hdWd tyWd sNb_Wd, PySem.W.exm_ref ebNb hdNb tyNb ssNb, kit_ref ibIn tbIn sBMk, kit_type (by decide +kernel) sPMk, kit_ref ibIn tbIn sBWd, kit_type (by decide +kernel) sPWd, kit_ref ibIn tbIn sBNb, kit_type (by decide +kernel) sPNb⟩
  have eM : (Str.ofString "012") = tx [48, 49, 50] := by decide +kernel
  have mMA : ∃ t, mg "MARKS" = some (.str (tx [48, 49, 50]) t) := ⟨_, eM ▸ PySem.W.mg_of X G nMA⟩
  refine ⟨PySem.W.fnOf "law" "law" (defArgs sLaw) (defBody sLaw) (defScope sLaw) .none kVL dcL pmL anL cdL ctL, [(adR, ptR)], fun p hp => by rw [List.mem_singleton.mp hp]; exact ⟨hPR, nnR, hCR⟩, fun s v => .of_eq rfl, fun base _ _ hM TB0 => ?_⟩
  have TB := TB0 _ (List.mem_singleton.mpr rfl)

  have GD : FnOk P w K mg base L2.CX0 1 fD _ _ spDip := ok_dip FD TBx
  have GIMk : FnOk P w K mg base L2.CX0 1 fIMk _ _ (spErr CMk "value") := ok_errB (par := "value") FIMk EMk rfl ⟨rfl, rfl, rfl, by decide +kernel, rfl, by decide +kernel, by decide +kernel⟩ (.inl rfl) (.inl rfl)
  have GIWd : FnOk P w K mg base L2.CX0 1 fIWd _ _ (spErr CWd "value") := ok_errB (par := "value") FIWd EWd rfl ⟨rfl, rfl, rfl, by decide +kernel, rfl, by decide +kernel, by decide +kernel⟩ (.inl rfl) (.inl rfl)
  have GINb : FnOk P w K mg base L2.CX0 1 fINb _ _ (spErr CNb "value") := ok_errB (par := "value") FINb ENb rfl ⟨rfl, rfl, rfl, by decide +kernel, rfl, by decide +kernel, by decide +kernel⟩ (.inl rfl) (.inl rfl)
  have GWi : FnOk P w K mg base L2.CX0 1 fW _ _ (spWithin K) := ok_within FW TW
  have GI : FnOk P w K mg base L2.CX0 2 fI _ _ (spInit CB) := ok_init FI TW TC (ok_alpha FA TW) DA GWi DW (ok_count FCn TW) DCn
  have GOf : FnOk P w K mg base L2.CX0 2 fOf _ _ spOfL := ok_ofL FOf ((PySem.W.mg_none_of X G zlen)) GD DD
  have GOv : FnOk P w K mg base L2.CX0 1 fOv _ _ (spOver K) := ok_over FOv TW ((PySem.W.mg_none_of X G zall))
  have GIw : FnOk P w K mg base L2.CX0 2 fIw _ _ (spIsW K CB none) := ok_isW FIw TC GOv DOv
  have GAm : FnOk P w K mg base L2.CX0 2 fAm _ _ (spIsW K CB (some [48, 49, 50])) := ok_areM FAm TC mMA GOv DOv
  have GRp : FnOk P w K mg base L2.CX0 1 fRp _ _ (spRepr CB) := ok_repr FRp TC
  have GCwX : FnOk P w K mg base (L2.CX P w) 3 fCw _ _ (spChkWX K CB CWd none) := ok_chkWX FCw GIw DIw EWd GIWd bIWd
  have GCmX : FnOk P w K mg base (L2.CX P w) 3 fCm _ _ (spChkWX K CB CMk (some [48, 49, 50])) := ok_chkMX FCm GAm DAm EMk GIMk bIMk
  have GCbX : FnOk P w K mg base (L2.CX P w) 3 fCb _ _ (spChkBX K CB CNb) := ok_chkBX FCb TW TC ENb GINb bINb
  have GMa : FnOk P w K mg base (L2.CX P w) 4 fMa _ _ (spRefX K CB CNb CWd CWd none) := ok_marksX FMa GCbX DCb GCwX DCw
  have GCo : FnOk P w K mg base (L2.CX P w) 4 fCo _ _ (spRefX K CB CNb CWd CMk (some [48, 49, 50])) := ok_comeX FCo GCbX DCb GCwX DCw GCmX DCm
  have GR : FnG P w K mg base L2.CX0 10 fR _ _ (spRight ptR) := ok_right FC (PySem.W.mg_none_of X G zrepr) TC TKx TG EMk EWd ENb FGt DGt GOf DOf GI ⟨mk, aI, iI, kc⟩ bI GMa DMa GCo DCo (kw_come FCo) GRp aRp iRp bRp hM TB
  exact ok_law FL TL (ok_bowl FB TBx) DB GR DR

/-! the head -/
theorem of_says {P : Program} {w : World} {K : PySem.W.Frag} {h : Heap} {mg : Str → Option Value} {fa : Addr} (X : K.In h) (G : h.Ns mainGlobals mg) (hfa : mg "law" = some (.ref fa)) (c : HX.SaysA fnH tfH exH exI h K) :
    ∃ (fd : FuncData) (cs : List (Addr × Addr)), (∀ p ∈ cs, h.get? p.2 = some { cls := .none, data := .fields #[] } ∧ K.lookup p.2 = none ∧ PySem.W.CodeHd h p.1 p.2) ∧ (∀ (s : Shared) (u : Value), BindsTo s fd ⟨[u], []⟩ [("_law_script", u)]) ∧
      ∀ base : Heap, K.In base → base.Ns mainGlobals mg → (∃ mm, base.Ns sysModules mm) → (∀ p ∈ cs, TabB base mg p.1 p.2) → FnG P w K mg base L2.CX0 11 fa fd ["_law_script"] (fun vs H Q E => (∀ p ∈ cs, H p.2 = some (.tbl #[])) ∧ spLaw K vs H Q E) := by
  have mm := c.more
  have mm : exH K = true := mm
  unfold exH at mm
  have m2 := HX.and_r mm
  replace mm := HX.and_l mm
  have m1 := HX.and_r mm
  replace mm := HX.and_l mm
  have m0 := mm
  have mm := c.more2
  have mm : exI K = true := mm
  unfold exI at mm
  have m4 := HX.and_r mm
  replace mm := HX.and_l mm
  have m3 := mm
  obtain ⟨ocB, odB, kVB, dcB, pmB, anB, cdB, ctB, slB, lB, cB, kB⟩ := c.def_ 0 (d := dHB) rfl rfl
  obtain ⟨ocD, odD, kVD, dcD, pmD, anD, cdD, ctD, slD, lD, cD, kD⟩ := c.def_ 1 (d := dHD) rfl rfl
  obtain ⟨ocOf, odOf, kVOf, dcOf, pmOf, anOf, cdOf, ctOf, slOf, lOf, cOf, kOf⟩ := c.def_ 2 (d := dHOf) rfl rfl
  obtain ⟨ocGt, odGt, kVGt, dcGt, pmGt, anGt, cdGt, ctGt, slGt, lGt, cGt, kGt⟩ := c.def_ 3 (d := dHGt) rfl rfl
  obtain ⟨ocR, odR, kVR, dcR, pmR, anR, cdR0, ctR, slR, lR, cR, kR⟩ := c.def_ 4 (d := dHR) rfl rfl
  obtain ⟨adR, rfl⟩ := He.codeIn_ref cR
  obtain ⟨ocL, odL, kVL, dcL, pmL, anL, cdL, ctL, slL, lL, cL, kL⟩ := c.def_ 5 (d := dHL) rfl rfl
  obtain ⟨ocW, odW, kVW, dcW, pmW, anW, cdW, ctW, slW, lW, cW, kW⟩ := c.def_ 6 (d := dHW) rfl rfl
  obtain ⟨ocA, odA, kVA, dcA, pmA, anA, cdA, ctA, slA, lA, cA, kA⟩ := c.def_ 7 (d := dHA) rfl rfl
  obtain ⟨ocCn, odCn, kVCn, dcCn, pmCn, anCn, cdCn, ctCn, slCn, lCn, cCn, kCn⟩ := c.def_ 8 (d := dHCn) rfl rfl
  obtain ⟨ocOv, odOv, kVOv, dcOv, pmOv, anOv, cdOv, ctOv, slOv, lOv, cOv, kOv⟩ := c.def_ 9 (d := dHOv) rfl rfl
  obtain ⟨ocIw, odIw, kVIw, dcIw, pmIw, anIw, cdIw, ctIw, slIw, lIw, cIw, kIw⟩ := c.def_ 10 (d := dHIw) rfl rfl
  obtain ⟨ocAm, odAm, kVAm, dcAm, pmAm, anAm, cdAm, ctAm, slAm, lAm, cAm, kAm⟩ := c.def_ 11 (d := dHAm) rfl rfl
  obtain ⟨ocCw, odCw, kVCw, dcCw, pmCw, anCw, cdCw, ctCw, slCw, lCw, cCw, kCw⟩ := c.def_ 12 (d := dHCw) rfl rfl
  obtain ⟨ocCm, odCm, kVCm, dcCm, pmCm, anCm, cdCm, ctCm, slCm, lCm, cCm, kCm⟩ := c.def_ 13 (d := dHCm) rfl rfl
  obtain ⟨ocCb, odCb, kVCb, dcCb, pmCb, anCb, cdCb, ctCb, slCb, lCb, cCb, kCb⟩ := c.def_ 14 (d := dHCb) rfl rfl
  obtain ⟨ocMa, odMa, kVMa, dcMa, pmMa, anMa, cdMa, ctMa, slMa, lMa, cMa, kMa⟩ := c.def_ 15 (d := dHMa) rfl rfl
  obtain ⟨ocCo, odCo, kVCo, dcCo, pmCo, anCo, cdCo, ctCo, slCo, lCo, cCo, kCo⟩ := c.def_ 16 (d := dHCo) rfl rfl
  obtain ⟨ocI, odI, kVI, dcI, pmI, anI, cdI, ctI, slI, lI, cI, kI⟩ := c.def_ 17 (d := dHI) rfl rfl
  obtain ⟨ocRp, odRp, kVRp, dcRp, pmRp, anRp, cdRp, ctRp, slRp, lRp, cRp, kRp⟩ := c.def_ 18 (d := dHRp) rfl rfl
  obtain ⟨ocIMk, odIMk, kVIMk, dcIMk, pmIMk, anIMk, cdIMk, ctIMk, slIMk, lIMk, cIMk, kIMk⟩ := c.def_ 19 (d := dHIMk) rfl rfl
  obtain ⟨ocIWd, odIWd, kVIWd, dcIWd, pmIWd, anIWd, cdIWd, ctIWd, slIWd, lIWd, cIWd, kIWd⟩ := c.def_ 20 (d := dHIWd) rfl rfl
  obtain ⟨ocINb, odINb, kVINb, dcINb, pmINb, anINb, cdINb, ctINb, slINb, lINb, cINb, kINb⟩ := c.def_ 21 (d := dHINb) rfl rfl
  have eR : He.codeOf K (("_law_right", none) : He.Defn) = adR := He.codeOf_eq (p := (("_law_right", none) : He.Defn)) lR rfl
  have mT : (("_law_right", none) : He.Defn) ∈ tfH := by unfold tfH; exact List.mem_cons_self
  have hCR := PySem.W.codeHd_of_K X (c.hd _ mT)
  have hPR := c.empty _ mT
  have nnR := c.out _ mT
  rw [show (He.cT K (("_law_right", none) : He.Defn)).1 = adR from eR] at hCR
  have gCB : PySem.W.nsIn K mainGlobals "Board" = some (some (.ref (A_CB K))) := HX.allT_of m0 0 rfl
  have gCIn : PySem.W.nsIn K mainGlobals "InputError" = some (some (.ref (A_CIn K))) := HX.allT_of m0 1 rfl
  have gCMk : PySem.W.nsIn K mainGlobals "InvalidMarks" = some (some (.ref (A_CMk K))) := HX.allT_of m0 2 rfl
  have gCWd : PySem.W.nsIn K mainGlobals "InvalidWord" = some (some (.ref (A_CWd K))) := HX.allT_of m0 3 rfl
  have gCNb : PySem.W.nsIn K mainGlobals "NotABoard" = some (some (.ref (A_CNb K))) := HX.allT_of m0 4 rfl
  have aB : PySem.W.nsIn K mainGlobals "_law_bowl" = some (some (.ref (A_fB K))) := HX.allT_of m0 5 rfl
  have aD : PySem.W.nsIn K mainGlobals "_law_dip" = some (some (.ref (A_fD K))) := HX.allT_of m0 6 rfl
  have aOf : PySem.W.nsIn K mainGlobals "_law_of" = some (some (.ref (A_fOf K))) := HX.allT_of m0 7 rfl
  have aGt : PySem.W.nsIn K mainGlobals "_law_got" = some (some (.ref (A_fGt K))) := HX.allT_of m0 8 rfl
  have aR : PySem.W.nsIn K mainGlobals "_law_right" = some (some (.ref (A_fR K))) := HX.allT_of m0 9 rfl
  have aL : PySem.W.nsIn K mainGlobals "law" = some (some (.ref (A_fL K))) := HX.allT_of m0 10 rfl
  have aW : PySem.W.nsIn K mainGlobals "is_integer_within" = some (some (.ref (A_fW K))) := HX.allT_of m0 11 rfl
  have aA : PySem.W.nsIn K mainGlobals "is_alphabet" = some (some (.ref (A_fA K))) := HX.allT_of m0 12 rfl
  have aCn : PySem.W.nsIn K mainGlobals "count_words" = some (some (.ref (A_fCn K))) := HX.allT_of m0 13 rfl
  have aOv : PySem.W.nsIn K mainGlobals "is_text_over" = some (some (.ref (A_fOv K))) := HX.allT_of m0 14 rfl
  have aIw : PySem.W.nsIn K mainGlobals "is_word" = some (some (.ref (A_fIw K))) := HX.allT_of m0 15 rfl
  have aAm : PySem.W.nsIn K mainGlobals "are_marks" = some (some (.ref (A_fAm K))) := HX.allT_of m0 16 rfl
  have aCw : PySem.W.nsIn K mainGlobals "check_word" = some (some (.ref (A_fCw K))) := HX.allT_of m0 17 rfl
  have aCm : PySem.W.nsIn K mainGlobals "check_marks" = some (some (.ref (A_fCm K))) := HX.allT_of m0 18 rfl
  have aCb : PySem.W.nsIn K mainGlobals "check_board" = some (some (.ref (A_fCb K))) := HX.allT_of m0 19 rfl
  have aMa : PySem.W.nsIn K mainGlobals "marks" = some (some (.ref (A_fMa K))) := HX.allT_of m0 20 rfl
  have aCo : PySem.W.nsIn K mainGlobals "can_come" = some (some (.ref (A_fCo K))) := HX.allT_of m0 21 rfl
  have aI : PySem.W.findIn K (.ref (A_CB K)) "__init__" = some (some (.ref (A_fI K))) := HX.allT_of m0 22 rfl
  have iI : PySem.W.isFn K (.ref (A_fI K)) = true := HX.allT_of m0 23 rfl
  have aRp : PySem.W.findIn K (.ref (A_CB K)) "__repr__" = some (some (.ref (A_fRp K))) := HX.allT_of m0 24 rfl
  have iRp : PySem.W.isFn K (.ref (A_fRp K)) = true := HX.allT_of m1 0 rfl
  have aIMk : PySem.W.findIn K (.ref (A_CMk K)) "__init__" = some (some (.ref (A_fIMk K))) := HX.allT_of m1 1 rfl
  have iIMk : PySem.W.isFn K (.ref (A_fIMk K)) = true := HX.allT_of m1 2 rfl
  have aIWd : PySem.W.findIn K (.ref (A_CWd K)) "__init__" = some (some (.ref (A_fIWd K))) := HX.allT_of m1 3 rfl
  have iIWd : PySem.W.isFn K (.ref (A_fIWd K)) = true := HX.allT_of m1 4 rfl
  have aINb : PySem.W.findIn K (.ref (A_CNb K)) "__init__" = some (some (.ref (A_fINb K))) := HX.allT_of m1 5 rfl
  have iINb : PySem.W.isFn K (.ref (A_fINb K)) = true := HX.allT_of m1 6 rfl
  have gtc : PySem.W.specialIn K (.builtin "object.__class__") "__get__" = some (some (.builtin "getset_descriptor.__get__")) := HX.allT_of m1 7 rfl
  have tkc : PySem.W.takesIn K (.builtin "object.__class__") = some true := HX.allT_of m1 8 rfl
  have ibIn : PySem.W.isClsIn K (A_CIn K) = true := HX.allT_of m1 9 rfl
  have tbIn : PySem.W.typeIn K (.ref (A_CIn K)) = some (.type "type") := HX.allT_of m1 10 rfl
  obtain ⟨_, _, _, _, _, _, _, _, _, _, _, _, _, _, xMk⟩ := HX.excB_of (HX.allT_at m1 (i := 11) rfl)
  have saMk : PySem.W.findIn K (.ref (A_CMk K)) "__setattr__" = some (some (.builtin "object.__setattr__")) := HX.allT_of m1 12 rfl
  have ebMk : PySem.W.subIn K (.ref (A_CMk K)) (.type "BaseException") = some true := HX.allT_of m1 13 rfl
  have tyMk : PySem.W.typeIn K (.ref (A_CMk K)) = some (.type "type") := HX.allT_of m1 14 rfl
  have kpMk : PySem.W.keepIn K (.ref (A_CMk K)) = true := HX.allT_of m1 15 rfl
  have noMk : PySem.W.findIn K (.ref (A_CMk K)) "value" = some none := HX.allT_of m1 16 rfl
  have tiMk : PySem.W.typeIn K (.ref (A_fIMk K)) = some (.type "function") := HX.allT_of m1 17 rfl
  have gaMk : PySem.W.findIn K (.ref (A_CMk K)) "__getattribute__" = some (some (.builtin "BaseException.__getattribute__")) := HX.allT_of m1 18 rfl
  have ggMk : PySem.W.findIn K (.ref (A_CMk K)) "__getattr__" = some none := HX.allT_of m1 19 rfl
  have hdMk : PySem.W.hasDictIn K (A_CMk K) = true := HX.allT_of m1 20 rfl
  have acMk : PySem.W.findIn K (.ref (A_CMk K)) "__class__" = some (some (.builtin "object.__class__")) := HX.allT_of m1 21 rfl
  have obMk : PySem.W.mroIn K (A_CMk K) (.type "object") = some true := HX.allT_of m1 22 rfl
  have ssMk : PySem.W.subIn K (.ref (A_CMk K)) (.ref (A_CMk K)) = some true := HX.allT_of m1 23 rfl
  have sBMk : PySem.W.subIn K (.ref (A_CMk K)) (.ref (A_CIn K)) = some true := HX.allT_of m1 24 rfl
  have sPMk : PySem.W.subIn K (.ref (A_CMk K)) (.type "ValueError") = some true := HX.allT_of m2 0 rfl
  obtain ⟨_, _, _, _, _, _, _, _, _, _, _, _, _, _, xWd⟩ := HX.excB_of (HX.allT_at m2 (i := 1) rfl)
  have saWd : PySem.W.findIn K (.ref (A_CWd K)) "__setattr__" = some (some (.builtin "object.__setattr__")) := HX.allT_of m2 2 rfl
  have ebWd : PySem.W.subIn K (.ref (A_CWd K)) (.type "BaseException") = some true := HX.allT_of m2 3 rfl
  have tyWd : PySem.W.typeIn K (.ref (A_CWd K)) = some (.type "type") := HX.allT_of m2 4 rfl
  have kpWd : PySem.W.keepIn K (.ref (A_CWd K)) = true := HX.allT_of m2 5 rfl
  have noWd : PySem.W.findIn K (.ref (A_CWd K)) "value" = some none := HX.allT_of m2 6 rfl
  have tiWd : PySem.W.typeIn K (.ref (A_fIWd K)) = some (.type "function") := HX.allT_of m2 7 rfl
  have gaWd : PySem.W.findIn K (.ref (A_CWd K)) "__getattribute__" = some (some (.builtin "BaseException.__getattribute__")) := HX.allT_of m2 8 rfl
  have ggWd : PySem.W.findIn K (.ref (A_CWd K)) "__getattr__" = some none := HX.allT_of m2 9 rfl
  have hdWd : PySem.W.hasDictIn K (A_CWd K) = true := HX.allT_of m2 10 rfl
  have acWd : PySem.W.findIn K (.ref (A_CWd K)) "__class__" = some (some (.builtin "object.__class__")) := HX.allT_of m2 11 rfl
  have obWd : PySem.W.mroIn K (A_CWd K) (.type "object") = some true := HX.allT_of m2 12 rfl
  have ssWd : PySem.W.subIn K (.ref (A_CWd K)) (.ref (A_CWd K)) = some true := HX.allT_of m2 13 rfl
  have sBWd : PySem.W.subIn K (.ref (A_CWd K)) (.ref (A_CIn K)) = some true := HX.allT_of m2 14 rfl
  have sPWd : PySem.W.subIn K (.ref (A_CWd K)) (.type "ValueError") = some true := HX.allT_of m2 15 rfl
  obtain ⟨_, _, _, _, _, _, _, _, _, _, _, _, _, _, xNb⟩ := HX.excB_of (HX.allT_at m2 (i := 16) rfl)
  have saNb : PySem.W.findIn K (.ref (A_CNb K)) "__setattr__" = some (some (.builtin "object.__setattr__")) := HX.allT_of m2 17 rfl
  have ebNb : PySem.W.subIn K (.ref (A_CNb K)) (.type "BaseException") = some true := HX.allT_of m2 18 rfl
  have tyNb : PySem.W.typeIn K (.ref (A_CNb K)) = some (.type "type") := HX.allT_of m2 19 rfl
  have kpNb : PySem.W.keepIn K (.ref (A_CNb K)) = true := HX.allT_of m2 20 rfl
  have noNb : PySem.W.findIn K (.ref (A_CNb K)) "value" = some none := HX.allT_of m2 21 rfl
  have tiNb : PySem.W.typeIn K (.ref (A_fINb K)) = some (.type "function") := HX.allT_of m2 22 rfl
  have gaNb : PySem.W.findIn K (.ref (A_CNb K)) "__getattribute__" = some (some (.builtin "BaseException.__getattribute__")) := HX.allT_of m2 23 rfl
  have ggNb : PySem.W.findIn K (.ref (A_CNb K)) "__getattr__" = some none := HX.allT_of m2 24 rfl
  have hdNb : PySem.W.hasDictIn K (A_CNb K) = true := HX.allT_of m3 0 rfl
  have acNb : PySem.W.findIn K (.ref (A_CNb K)) "__class__" = some (some (.builtin "object.__class__")) := HX.allT_of m3 1 rfl
  have obNb : PySem.W.mroIn K (A_CNb K) (.type "object") = some true := HX.allT_of m3 2 rfl
  have ssNb : PySem.W.subIn K (.ref (A_CNb K)) (.ref (A_CNb K)) = some true := HX.allT_of m3 3 rfl
  have sBNb : PySem.W.subIn K (.ref (A_CNb K)) (.ref (A_CIn K)) = some true := HX.allT_of m3 4 rfl
  have sPNb : PySem.W.subIn K (.ref (A_CNb K)) (.type "ValueError") = some true := HX.allT_of m3 5 rfl
  have sWd_Mk : PySem.W.subIn K (.ref (A_CWd K)) (.ref (A_CMk K)) = some false := HX.allT_of m3 6 rfl
  have sNb_Mk : PySem.W.subIn K (.ref (A_CNb K)) (.ref (A_CMk K)) = some false := HX.allT_of m3 7 rfl
  have sNb_Wd : PySem.W.subIn K (.ref (A_CNb K)) (.ref (A_CWd K)) = some false := HX.allT_of m3 8 rfl
  obtain ⟨_, nML⟩ := HX.intB_of (HX.allT_at m3 (i := 9) rfl)
  obtain ⟨_, nMM⟩ := HX.intB_of (HX.allT_at m3 (i := 10) rfl)
  obtain ⟨_, nLO⟩ := HX.strB_of (HX.allT_at m3 (i := 11) rfl)
  obtain ⟨_, nMA⟩ := HX.strB_of (HX.allT_at m3 (i := 12) rfl)
  have zlen : PySem.W.nsIn K mainGlobals "len" = some none := HX.allT_of m3 13 rfl
  have zint : PySem.W.nsIn K mainGlobals "int" = some none := HX.allT_of m3 14 rfl
  have zabs : PySem.W.nsIn K mainGlobals "abs" = some none := HX.allT_of m3 15 rfl
  have zdivmod : PySem.W.nsIn K mainGlobals "divmod" = some none := HX.allT_of m3 16 rfl
  have zisinstance : PySem.W.nsIn K mainGlobals "isinstance" = some none := HX.allT_of m3 17 rfl
  have zbool : PySem.W.nsIn K mainGlobals "bool" = some none := HX.allT_of m3 18 rfl
  have zstr : PySem.W.nsIn K mainGlobals "str" = some none := HX.allT_of m3 19 rfl
  have zrange : PySem.W.nsIn K mainGlobals "range" = some none := HX.allT_of m3 20 rfl
  have zrepr : PySem.W.nsIn K mainGlobals "repr" = some none := HX.allT_of m3 21 rfl
  have zall : PySem.W.nsIn K mainGlobals "all" = some none := HX.allT_of m3 22 rfl
  have zmax : PySem.W.nsIn K mainGlobals "max" = some none := HX.allT_of m3 23 rfl
  have zmin : PySem.W.nsIn K mainGlobals "min" = some none := HX.allT_of m3 24 rfl
  have ztuple : PySem.W.nsIn K mainGlobals "tuple" = some none := HX.allT_of m4 0 rfl
  have zValueError : PySem.W.nsIn K mainGlobals "ValueError" = some none := HX.allT_of m4 1 rfl
  have pg : PySem.W.plainGet K (A_CB K) Str.empty = true := HX.allT_of m4 2 rfl
  have hd : PySem.W.hasDictIn K (A_CB K) = true := HX.allT_of m4 3 rfl
  have po : PySem.W.plainOver K (A_CB K) = true := HX.allT_of m4 4 rfl
  have sa : PySem.W.findIn K (.ref (A_CB K)) "__setattr__" = some (some (.builtin "object.__setattr__")) := HX.allT_of m4 5 rfl
  have mk : PySem.W.makesIn K (A_CB K) = true := HX.allT_of m4 6 rfl
  have kc : PySem.W.keepIn K (.ref (A_CB K)) = true := HX.allT_of m4 7 rfl
  have naL : PySem.W.findIn K (.ref (A_CB K)) "letters" = some none := HX.allT_of m4 8 rfl
  have naN : PySem.W.findIn K (.ref (A_CB K)) "length" = some none := HX.allT_of m4 9 rfl
  have naS : PySem.W.findIn K (.ref (A_CB K)) "size" = some none := HX.allT_of m4 10 rfl
  have ac : PySem.W.findIn K (.ref (A_CB K)) "__class__" = some (some (.builtin "object.__class__")) := HX.allT_of m4 11 rfl
  have ob : PySem.W.mroIn K (A_CB K) (.type "object") = some true := HX.allT_of m4 12 rfl
  have kitO : PySem.W.kitOne K (.ref (A_CB K)) (.ref (A_CB K)) = some true := HX.allT_of m4 13 rfl
  have kitS : PySem.W.kitOne K (.ref (A_CB K)) (.type "str") = some false := HX.allT_of m4 14 rfl
  have kitNoneType : PySem.W.kitOne K (.type "NoneType") (.ref (A_CB K)) = some false := HX.allT_of m4 15 rfl
  have kitbool : PySem.W.kitOne K (.type "bool") (.ref (A_CB K)) = some false := HX.allT_of m4 16 rfl
  have kitint : PySem.W.kitOne K (.type "int") (.ref (A_CB K)) = some false := HX.allT_of m4 17 rfl
  have kitstr : PySem.W.kitOne K (.type "str") (.ref (A_CB K)) = some false := HX.allT_of m4 18 rfl
  have kittuple : PySem.W.kitOne K (.type "tuple") (.ref (A_CB K)) = some false := HX.allT_of m4 19 rfl
  have kitlist : PySem.W.kitOne K (.type "list") (.ref (A_CB K)) = some false := HX.allT_of m4 20 rfl
  have kitdict : PySem.W.kitOne K (.type "dict") (.ref (A_CB K)) = some false := HX.allT_of m4 21 rfl
  exact all_mk X G hfa gCB gCIn gCMk gCWd gCNb aB lB cB kB aD lD cD kD aOf lOf cOf kOf aGt lGt cGt kGt aR lR cR kR aL lL cL kL aW lW cW kW aA lA cA kA aCn lCn cCn kCn aOv lOv cOv kOv aIw lIw cIw kIw aAm lAm cAm kAm aCw lCw cCw kCw aCm lCm cCm kCm aCb lCb cCb kCb aMa lMa cMa kMa aCo lCo cCo kCo aI iI lI cI kI aRp iRp lRp cRp kRp aIMk iIMk lIMk cIMk kIMk aIWd iIWd lIWd cIWd kIWd aINb iINb lINb cINb kINb gtc tkc ibIn tbIn xMk saMk ebMk tyMk kpMk noMk tiMk gaMk ggMk hdMk acMk obMk ssMk sBMk sPMk xWd saWd ebWd tyWd kpWd noWd tiWd gaWd ggWd hdWd acWd obWd ssWd sBWd sPWd xNb saNb ebNb tyNb kpNb noNb tiNb gaNb ggNb hdNb acNb obNb ssNb sBNb sPNb sWd_Mk sNb_Mk sNb_Wd nML nMM nLO nMA zlen zint zabs zdivmod zisinstance zbool zstr zrange zrepr zall zmax zmin ztuple zValueError pg hd po sa mk kc naL naN naS ac ob kitO kitS kitNoneType kitbool kitint kitstr kittuple kitlist kitdict hPR nnR hCR
end Gm
open PySem PySem.W PySem.Calls PyProof.Rows
theorem PySem.Challenge.cw_guessmarks_k05_marks_refused_holds : PySem.Challenge.rw_guessmarks_k05_marks_refused.Holds := by
  w_on; o_law
  refine HandSHeadRun.head_any (r := OpenLaw.row PySem.Challenge.rw_guessmarks_k05_marks_refused) (q := view (OpenLaw.row PySem.Challenge.rw_guessmarks_k05_marks_refused).prog [44]) (H := Gm.hkH) (ob := Gm.obH) (M := 12000) (loose := Gm.namesH) (d := HandSHeadRun.topDef (OpenLaw.row PySem.Challenge.rw_guessmarks_k05_marks_refused).prog 44) (kwd := []) Gm.obH_eq
    (by kernel_rfl) (fun s => by kernel_rfl) Gm.runH (by kernel_rfl) (by kernel_rfl) (by kernel_rfl) (by rfl) (by first | assumption | decide +kernel) (by decide +kernel) ⟨rfl, rfl, rfl, rfl, rfl, by decide +kernel⟩ ?hw ?hc
  case hw => w_witness2
  case hc =>
    refine L2.walkGE (l := PySem.Challenge.rw_guessmarks_k05_marks_refused) (n := 63) (k := 11) (x := "_law_script") rfl (by decide) (by kernel_rfl) ⟨rfl, by decide, by decide⟩ (by first | kernel_rfl | decide +kernel) ?F
    intro w mg fa h Y G hmg0
    obtain ⟨K, KX, c⟩ := Y
    have hmg : mg ("law" : PySem.Str) = some (.ref fa) := by
      have e : (HandSHeadRun.topDef (OpenLaw.row PySem.Challenge.rw_guessmarks_k05_marks_refused).prog 44).name = ("law" : PySem.Str) := by kernel_rfl
      rw [← e]
      exact hmg0
    obtain ⟨fd, cs, hC, hb, hF⟩ := Gm.of_says (P := (PySem.Challenge.rw_guessmarks_k05_marks_refused).prog) (w := w) KX G hmg c
    exact ⟨K, fd, cs, _, KX, hC, hb, fun H a ns hl hT hS => ⟨hT, a, ns, rfl, hS, hl, fun _ => rfl⟩, hF⟩

