import PyProof.Rows.All
import Wide.All
import OpenK.AllK
import Wide.FinOn
import KE.KCallOwn
import PyProof.InstEq
import HandS.ForMost
import HandS.OwnEq
import HandS.IsInst
import HandS.Walk
import HandS.Codes
import HandS.FStr
import KE.GoesMore
import KE.GoesZip
import HandS.Zip
import HandS.SetFor
import KE.GoesEnum
import HandS.Star
import HandS.Defaults
import PyProof.ReprRoads
import HandS.Lambda
import HandS.EndTab
import HandS.Exc
import KE.KExcIs
import HandS.ExcInit
import HandS.ExcField
import HandS.WordsExc
import PyProof.ExcBaseAll.ArithmeticError
import PyProof.ExcBaseAll.LookupError
import HandS.MakeKwOnly
import HandS.ExcValue
import HandS.ExcIs
import HandS.HotCalls
import HandS.ExcCtx
import PyProof.TupleKey
import PyProof.DictRoadsH
import PyProof.DictStraight
import HandS.Dict
import PyProof.Rows.StrFirst
import PyProof.Rows.StrCountLaw
import HandS.TupAny
import HandS.Replace
import HandS.ReplaceList
import HandS.ReplaceLit
import HandS.ReplaceDef
import PyProof.Rows.RegReprOcc
import HandS.DictComp
import OpenK.KOps
import PyProof.Conv_bool
import PyProof.Truth
import PyProof.StrLawsRepr
import HandS.Style
import HandS.More
import PyProof.NeKinds
import HandS.Iter
import PyProof.ReprNest
import PyProof.ReprReads
import HandS.Head2
import HandS.HeadHook4
import PySem.Challenge.RW_guessmarks_k61_games_made
set_option Elab.async false
set_option linter.all false
set_option maxRecDepth 100000
set_option maxHeartbeats 8000000
/-! defs that are called where nothing is being shown, so that they may ask for the repr of lists -/
namespace L2
open PySem PySem.Spec PyProof.Rows
/-- FnOk for calls where no repr is under way -/
structure FnG (P : Program) (w : World) (K : PySem.W.Frag) (mg : Str → Option Value) (base : Heap) (CX : CXT) (k : Nat) (f : Addr) (fd : FuncData) (ps : List Str) (sp : Sp) : Prop where
  many : ∀ {vs H Q E}, sp vs H Q E → vs.length = ps.length
  goes : ∀ {A : Around} {outer : List Env} {s : Shared} {H : Hp} {args : Args} {us : List Value} {vs : List V} {Q : VK} {E : XK}, A.guards = some [] → Room k A → Env0 P w K mg base A outer s H →
    BindsTo s fd args (ps.zip us) → Vals vs us → sp vs H Q E → codeAny (model P w) A (.call (.ref f) args) (CR CX outer P w H s Q E) s
theorem FnOk.toG {P : Program} {w : World} {K : PySem.W.Frag} {mg : Str → Option Value} {base : Heap} {CX : CXT} {k : Nat} {f : Addr} {fd : FuncData} {ps : List Str} {sp : Sp} (F : FnOk P w K mg base CX k f fd ps sp) : FnG P w K mg base CX k f fd ps sp :=
  ⟨fun h => F.len _ _ _ _ h, fun _ hr e b r h => F.run _ _ _ _ _ _ _ _ _ hr e b r h⟩
theorem Fun.okG {P : Program} {w : World} {K : PySem.W.Frag} {mg : Str → Option Value} {base : Heap} {x qual : Str} {st : Stmt} {f : Addr} {fd : FuncData} {N ps : List Str} {k : Nat} {sp : Sp} (F : Fun K x qual st f fd) (S : FnScope N ps (defScope st))
    (many : ∀ vs H Q E, sp vs H Q E → vs.length = ps.length)
    (body : ∀ (cdv : Value) (A : Around) (outer : List Env) (s : Shared) (H : Hp) (vs : List V) (Q : VK) (E : XK), A.guards = some [] → Room k (A.deeper (envOfC qual (defScope st) s.heap.objs.size f cdv)) → sp vs H Q E →
      ∃ t, PSs (cxOf CX0 P w K mg base N qual (defScope st) f cdv A outer s H E).nox (defBody st) t ∧ t { nx := fun _ H' => Q .non H', rt := Q } (start N vs) H) : FnG P w K mg base CX0 (k + 1) f fd ps sp := by
  obtain ⟨oc, od, kV, doc, pm, an, cdv, ct, osl, rfl, lk, hcd⟩ := F.ex
  refine ⟨fun h => many _ _ _ _ h, fun {A outer s H args us vs Q E} g hr e b r h => ?_⟩
  refine LamX.run_ofS lk hcd S hr e b r (many _ _ _ _ h) fun hr' => ?_
  obtain ⟨t, ht, q⟩ := body cdv A outer s H vs Q E g hr' h
  exact ⟨t, ht.nox, q⟩
section
variable {X : Cx} {CX : CXT} {k : Nat} {f : Addr} {fd : FuncData} {ps : List Str} {sp : Sp} {E : XK} {x : Str} {p pos : Pos} {e : Expr} {es : List Expr} {t : TA}
theorem pe_callG (F : FnG X.prog X.w X.K X.mg X.base CX k f fd ps sp) (g : X.A.guards = some []) (hr : Room k X.A) (hg : Gl X x) (hm : X.mg x = some (.ref f)) (hk : PySem.W.keepIn X.K (.ref f) = true) (hb : Binds X.K fd ps []) (hx : Passes CX X E) (ha : PA X (e :: es) t)
    (hdb : (x == ("__debug__" : Str)) = false := by decide) (he : starEach (e :: es) X.env = (false, eval e X.env) :: starEach es X.env := by rfl) (hpl : (backTo pos (starEach es X.env)).any (·.1) = false := by rfl) :
    PE X (.Call (.Name x p) (e :: es) [] pos) (tCall sp [] E t) := by
  constructor
  intro pins s σ H Q I h
  apply wpAny_Call_Name_kw
  apply ld_glob I hg hm _ hdb
  refine PySem.W.callWith_K (h₀ := X.base) I.ok.mod.kin hk (thn (ha.run pos pins s σ H _ I h) fun us s1 hh => ?_) he hpl
  obtain ⟨vs, H1, I1, r, q⟩ := hh
  refine ⟨I1.kIn, wpAny_call (codeAny_mono (F.goes g hr I1.env0 (us := us) ?_ r (by simpa using q)) fun r s' hq => ?_)⟩
  · have hl : (us ++ []).length = ps.length := by
      rw [List.append_nil, ← r.length]
      exact F.many (by simpa using q)
    simpa using hb s1 us I1.kIn hl
  · match r, hq with
    | .error e, hq => exact hx pins σ H1 s1 e s' I1 hq
    | .ok (.ret u), hq => exact I1.after hq
end
/-! ### repr of data -/
mutual
/-- as Dp, with the empty dict besides -/
inductive Dq (K : PySem.W.Frag) (H : Hp) : V → PyData → Prop
  | non : Dq K H .non .none
  | bl (b : Bool) : Dq K H (.bl b) (.bool b)
  | int (i : Int) : Dq K H (.int i) (.int i)
  | str (x : Str) : Dq K H (.str x) (.str x)
  | lst {a : Addr} {xs : List V} {ds : List PyData} : SqL K H a xs → DqAll K H xs ds → Dq K H (.ref a) (.list ds)
  | tup {a : Addr} {xs : List V} {ds : List PyData} : SqT K H a xs → DqAll K H xs ds → Dq K H (.ref a) (.tuple ds)
  | dic {a : Addr} : H a = some (.dK []) → Dq K H (.ref a) (.dict [])
inductive DqAll (K : PySem.W.Frag) (H : Hp) : List V → List PyData → Prop
  | nil : DqAll K H [] []
  | cons {v : V} {vs : List V} {d : PyData} {ds : List PyData} : Dq K H v d → DqAll K H vs ds → DqAll K H (v :: vs) (d :: ds)
end
section
variable {X : Cx} {pins : List (Addr × Obj)} {σ : St} {H : Hp} {s : Shared}
theorem no_mods {a : Addr} {o : Obj} {vs : Array Value} {n : Nat} {h : Heap} {mm : Str → Option Value} (hm : h.Ns sysModules mm) (ho : h.get? a = some o) (hd : o.data = .seq vs n) : sysModules ≠ a := fun z => by
  obtain ⟨o', es, ep, e, d, _⟩ := hm
  rw [z, ho] at e
  cases e
  rw [hd] at d
  cases d
mutual
theorem Dq.reads {mm : Str → Option Value} (hm : s.heap.Ns sysModules mm) (I : Inv X pins σ H s) : ∀ (d : PyData) (v : V) (u : Value), Dq X.K H v d → RelV v u → ∃ as, Reads s.heap u d as ∧ sysModules ∉ as
  | .none, _, _, h, r => by
    cases h; cases r
    exact ⟨_, .none, List.not_mem_nil⟩
  | .bool b, _, _, h, r => by
    cases h; cases r
    exact ⟨_, .bool b, List.not_mem_nil⟩
  | .int i, _, _, h, r => by
    cases h; obtain ⟨t, rfl⟩ := r
    exact ⟨_, .int i t, List.not_mem_nil⟩
  | .str x, _, _, h, r => by
    cases h; obtain ⟨t, rfl⟩ := r
    exact ⟨_, .str x t, List.not_mem_nil⟩
  | .list ds, _, _, h, r => by
    cases h with
    | lst hs ha =>
      cases r
      obtain ⟨its, rv, ⟨o, n, ho, hc, _, hd⟩, _⟩ := I.list hs
      obtain ⟨as, hr, nm⟩ := Dq.readsAll hm I ds _ its ha rv
      refine ⟨_, .list ho hc hd hr, fun z => ?_⟩
      rcases List.mem_cons.mp z with z | z
      · exact no_mods hm ho hd z
      · exact nm z
  | .tuple ds, _, _, h, r => by
    cases h with
    | tup hs ha =>
      cases r
      obtain ⟨its, rv, ⟨o, ho, hc, n, hd⟩, _⟩ := I.tuple hs
      obtain ⟨as, hr, nm⟩ := Dq.readsAll hm I ds _ its ha rv
      exact ⟨_, .tuple ho hc hd hr, nm⟩
  | .dict ks, _, _, h, r => by
    cases h with
    | dic e =>
      cases r
      obtain ⟨_, nd, vs, kv, dd⟩ := dk_of I.hok e
      cases kv
      obtain ⟨o, es, ep, ho, hx, hd, _, he, _⟩ := dd
      have e0 : es.toList = [] := by cases hl : es.toList with | nil => rfl | cons a b => (rw [hl] at he; cases he)
      refine ⟨_, .dict (as := []) (bs := []) ho hx.1 hd (by rw [e0]; exact .nil) (by rw [e0]; exact .nil), fun z => ?_⟩
      rcases List.mem_cons.mp z with z | z
      · rw [← z] at nd
        simp at nd
      · simp at z
theorem Dq.readsAll {mm : Str → Option Value} (hm : s.heap.Ns sysModules mm) (I : Inv X pins σ H s) : ∀ (ds : List PyData) (vs : List V) (us : List Value), DqAll X.K H vs ds → Vals vs us → ∃ as, ReadsAll s.heap us ds as ∧ sysModules ∉ as
  | [], _, _, h, r => by
    cases h; cases r
    exact ⟨_, .nil, List.not_mem_nil⟩
  | d :: ds, _, _, h, r => by
    cases h with
    | cons h1 h2 =>
      cases r with
      | cons r1 r2 =>
        obtain ⟨as, q1, n1⟩ := Dq.reads hm I d _ _ h1 r1
        obtain ⟨bs, q2, n2⟩ := Dq.readsAll hm I ds _ _ h2 r2
        exact ⟨_, .cons q1 q2, fun z => (List.mem_append.mp z).elim n1 n2⟩
end
/-- what repr wants of data: it can be shown, in so much room -/
structure Sh (d : PyData) (n m : Nat) : Prop where
  ok : d.showable = true
  long : d.shown.length ≤ n
  deep : d.depth ≤ m
theorem call_reprD (g : X.A.guards = some []) (hu : X.A.units + 64 < cLine) (hm : ∃ mm, X.base.Ns sysModules mm) :
    CallR X (.builtin "repr") (fun xs H Q => ∃ (a : Addr) (d : PyData), xs = [.ref a] ∧ Dq X.K H (.ref a) d ∧ Sh d 16777216 60 ∧ Q (.str d.shown) H) := by
  intro pins s σ H xs us Q I r h
  obtain ⟨a, d, rfl, hd, hs, q⟩ := h
  obtain ⟨mm, hm⟩ := hm
  cases r with
  | cons r1 r2 =>
    cases r2
    cases r1
    obtain ⟨as, rd, nm⟩ := Dq.reads (hm.keeps I.bk) I d _ _ hd rfl
    refine repr_of_reads' rd hs.ok (fun _ => nm) g ?_ (fun _ _ e => e) (fun h' u tk k => ?_) ?_
    · have := hs.deep
      omega
    · exact ⟨.str d.shown, H, I.kept (t' := tk) k, ⟨_, rfl⟩, q⟩
    · rw [sizeLine_eq]
      exact hs.long
end
end L2

/-! the end of a law whose defs are FnG -/
namespace L2
open PySem PySem.Spec PyProof.Rows LamX
/-- what stands behind the top; cs: code objects with their tables -/
structure Ready (K : PySem.W.Frag) (mg mb : Str → Option Value) (z : Shared) (cs : List (Addr × Addr)) : Prop where
  kin : K.In z.heap
  glob : z.heap.Ns mainGlobals mg
  blt : z.heap.Ns builtinsNs mb
  boot : ∀ x : Str, x ≠ "__name__" → mb x = bootBuiltins x
  lim : z.heap.NoLimit
  mods : ∃ mm, z.heap.Ns sysModules mm
  gens : z.gens = #[]
  tabs : ∀ p ∈ cs, z.heap.get? p.2 = some { cls := .none, data := .fields #[] }
  tabK : ∀ p ∈ cs, K.lookup p.2 = none
  code : ∀ p ∈ cs, PySem.W.CodeHd z.heap p.1 p.2
  main : ∃ (bm : Addr) (ob : Obj), mg "__builtins__" = some (.ref bm) ∧ bm ≠ builtinsNs ∧ z.heap.get? bm = some ob ∧ ob.cls = .type "module" ∧ ob.dict = some builtinsNs ∧ ob.data = .plain
/-- the abstract heap at the law's entry: the tables, and the script if it is no object of the module -/
def hp0 (K : PySem.W.Frag) (cs : List (Addr × Addr)) (a : Addr) (o : Obj) (ns : List Int) : Hp := fun b =>
  if b ∈ cs.map (·.2) then some (.tbl #[]) else if b = a ∧ K.lookup a = none then some (.frz o (.lst (ns.map V.int))) else none
section
variable {P : Program} {w : World} {K : PySem.W.Frag} {mg mb : Str → Option Value} {z : Shared} {cs : List (Addr × Addr)} {a : Addr} {vs : List Value} {ns : List Int}
abbrev scr (vs : List Value) : Obj := { cls := .type "list", data := .seq vs.toArray }
theorem hp0_tab {o : Obj} {p : Addr × Addr} (m : p ∈ cs) : hp0 K cs a o ns p.2 = some (.tbl #[]) := if_pos (List.mem_map.mpr ⟨p, m, rfl⟩)
theorem hp0_of {o : Obj} {b : Addr} {u : HO} (e : hp0 K cs a o ns b = some u) : (∃ p ∈ cs, p.2 = b ∧ u = .tbl #[]) ∨ (b = a ∧ K.lookup a = none ∧ u = .frz o (.lst (ns.map V.int))) := by
  unfold hp0 at e
  split at e
  · rename_i m
    obtain ⟨p, hp, q⟩ := List.mem_map.mp m
    exact .inl ⟨p, hp, q, (Option.some.inj e).symm⟩
  · split at e
    · rename_i m
      exact .inr ⟨m.1, m.2, (Option.some.inj e).symm⟩
    · cases e
theorem Ready.quiet (R : Ready K mg mb z cs) (ha : z.heap.get? a = some (scr vs)) {b : Addr} {o : Obj} (e : z.heap.get? b = some o) (n1 : ∀ us n, o.data ≠ .seq us n) (n2 : o.data ≠ .fields #[]) : hp0 K cs a (scr vs) ns b = none := by
  cases q : hp0 K cs a (scr vs) ns b with
  | none => rfl
  | some u =>
    rcases hp0_of q with ⟨p, hp, rfl, _⟩ | ⟨rfl, _, _⟩
    · rw [R.tabs p hp] at e
      cases e
      exact absurd rfl n2
    · rw [ha] at e
      cases e
      exact absurd rfl (n1 _ _)
theorem Ready.hok (R : Ready K mg mb z cs) (ha : z.heap.get? a = some (scr vs)) (hi : IntsAre vs ns) (hl : ns.length ≤ sizeLine) : HOk P w (hp0 K cs a (scr vs) ns) z.heap := fun b u q => by
  rcases hp0_of q with ⟨p, hp, rfl, rfl⟩ | ⟨rfl, _, rfl⟩
  · exact R.tabs p hp
  · exact ⟨ha, by rw [List.length_map]; exact hl, vs, _, vals_ints hi, ha⟩
theorem Ready.seq (R : Ready K mg mb z cs) (ha : z.heap.get? a = some (scr vs)) (hi : IntsAre vs ns) (hl : ns.length ≤ sizeLine) : SqL K (hp0 K cs a (scr vs) ns) a (ns.map V.int) := by
  cases hk : K.lookup a with
  | some o =>
    have e := R.kin a o hk
    rw [ha] at e
    cases e
    have rv := vals_ints hi
    exact .inr ⟨_, vs.toArray, _, hk, rfl, rfl, rfl, by rw [List.size_toArray, hi.length]; exact hl, by simpa using rv⟩
  | none =>
    have nt : a ∉ cs.map (·.2) := fun m => by
      obtain ⟨p, hp, e⟩ := List.mem_map.mp m
      have q := R.tabs p hp
      rw [e, ha] at q
      have q' : Data.seq vs.toArray _ = Data.fields #[] := congrArg Obj.data (Option.some.inj q)
      cases q'
    exact .inl (.inr ⟨scr vs, (if_neg nt).trans (if_pos ⟨rfl, hk⟩)⟩)
theorem Ready.space (R : Ready K mg mb z cs) (ha : z.heap.get? a = some (scr vs)) {b : Addr} {m : Str → Option Value} (x : z.heap.Ns b m) : (hidT z.heap (hp0 K cs a (scr vs) ns)).Ns b m := by
  obtain ⟨o, es, ep, e, d, r⟩ := x
  refine ⟨o, es, ep, hidT_get e (R.quiet ha e (fun us n q => ?_) fun q => ?_), d, r⟩ <;> (rw [d] at q; cases q)
theorem Ready.mod (R : Ready K mg mb z cs) (ha : z.heap.get? a = some (scr vs)) : L2.Mod K mg (hidT z.heap (hp0 K cs a (scr vs) ns)) := by
  refine ⟨fun b o e => hidT_get (R.kin b o e) ?_, R.space ha R.glob, ⟨mb, R.space ha R.blt, R.boot⟩, ?_⟩
  · cases q : hp0 K cs a (scr vs) ns b with
    | none => rfl
    | some u =>
      rcases hp0_of q with ⟨p, hp, rfl, _⟩ | ⟨rfl, n, _⟩
      · have t := R.tabK p hp
        rw [e] at t
        cases t
      · rw [e] at n
        cases n
  · obtain ⟨mc, h1, h2⟩ := R.lim
    exact ⟨mc, R.space ha h1, h2⟩
theorem Ready.tabB (R : Ready K mg mb z cs) (ha : z.heap.get? a = some (scr vs)) {p : Addr × Addr} (hp : p ∈ cs) : TabB (hidT z.heap (hp0 K cs a (scr vs) ns)) mg p.1 p.2 := by
  have tp := R.tabs p hp
  obtain ⟨og, eg, epg, gg, gd, _⟩ := R.glob
  refine ⟨?_, ?_, fun q => ?_⟩
  · obtain ⟨o, us, file, tf, flags, tg, inF, text, tt, e1, r1, r2, r3, r⟩ := R.code p hp
    refine ⟨o, us, file, tf, flags, tg, inF, text, tt, hidT_get e1 (R.quiet ha e1 (fun us n q => ?_) fun q => ?_), r1, r2, r3, r⟩
    · rw [r2] at q
      cases q
    · rw [r2] at q
      cases q
      simp at r3
  · obtain ⟨bm, ob, b1, b2, b3, b4, b5, b6⟩ := R.main
    refine ⟨bm, ob, b1, b2, fun q => ?_, fun q => ?_, hidT_get b3 (R.quiet ha b3 (fun us n q => ?_) fun q => ?_), b4, b5, b6⟩
    · rw [q, gg] at b3
      cases b3
      rw [gd] at b6
      cases b6
    · rw [q, tp] at b3
      cases b3
      cases b6
    · rw [b6] at q
      cases q
    · rw [b6] at q
      cases q
  · rw [q, tp] at gg
    cases gg
    cases gd
theorem callG {k : Nat} {fa : Addr} {fd : FuncData} {x : Str} {sp : Sp} (R : Ready K mg mb z cs) (ha : z.heap.get? a = some (scr vs)) (hi : IntsAre vs ns) (hl : ns.length ≤ sizeLine) (hr : Room k callerA)
    (F : ∀ base : Heap, K.In base → base.Ns mainGlobals mg → (∃ mm, base.Ns sysModules mm) → (∀ p ∈ cs, TabB base mg p.1 p.2) → FnG P w K mg base CX0 k fa fd [x] sp) (hb : ∀ (s : Shared) (u : Value), BindsTo s fd ⟨[u], []⟩ [(x, u)])
    (hsp : ∀ H : Hp, (∀ p ∈ cs, H p.2 = some (.tbl #[])) → SqL K H a (ns.map V.int) → sp [.ref a] H (fun v _ => v = .bl true) fun _ _ _ => False) :
    codeAny (model P w) callerA (.call (.ref fa) ⟨[.ref a], []⟩) (fun r s' => r = .ok (.ret (.bool true)) ∧ OldK z.heap s'.heap ∧ s'.os = z.os ∧ AllBare s'.gens) z := by
  obtain ⟨H, eH⟩ : ∃ H, H = hp0 K cs a (scr vs) ns := ⟨_, rfl⟩
  have M := R.mod (ns := ns) ha
  have hok : HOk P w H z.heap := eH ▸ R.hok ha hi hl
  have tabH : ∀ p ∈ cs, H p.2 = some (.tbl #[]) := fun p hp => eH ▸ hp0_tab hp
  have G := F _ M.kin M.glob (R.mods.imp fun mm h => R.space (ns := ns) ha h) (fun p hp => R.tabB (ns := ns) ha hp)
  have e0 : Env0 P w K mg (hidT z.heap (hp0 K cs a (scr vs) ns)) callerA [] z H := ⟨rfl, M, fun b o e => eH ▸ of_hidT e, Nat.le_of_eq (hidT_size _ _), trivial, nofun, hok, .of_eq R.gens⟩
  refine codeAny_mono (G.goes (us := [.ref a]) (vs := [.ref a]) rfl hr e0 (hb z (.ref a)) (.cons rfl .nil) (hsp H tabH (eH ▸ R.seq ha hi hl))) fun r s' h => ?_
  match r, h with
  | .ok (.ret u), h =>
    obtain ⟨v, H', os, bare, un, hok', rv, q⟩ := h
    have q' : v = .bl true := q
    subst q'
    obtain rfl : u = Value.bool true := rv
    have kept : ∀ {b : Addr} {o : Obj}, (∀ p ∈ cs, p.2 ≠ b) → z.heap.get? b = some o → s'.heap.get? b = some o := fun {b o} nb e => by
      cases q : H b with
      | none => exact un.keep b o e q nofun (by simp)
      | some u =>
        rw [eH] at q
        rcases hp0_of q with ⟨p, hp, e2, _⟩ | ⟨_, _, rfl⟩
        · exact absurd e2 (nb p hp)
        · have z2 := un.frzs b _ _ (eH ▸ q)
          obtain ⟨e1, _⟩ := hok b _ (eH ▸ q)
          obtain ⟨e3, _⟩ := hok' b _ z2
          rw [e] at e1
          cases e1
          exact e3
    have grown : ∀ p ∈ cs, ∃ more : Array Value, s'.heap.get? p.2 = some { cls := .none, data := .fields more } := fun p hp => by
      obtain ⟨more, zz⟩ := un.tbls p.2 #[] (tabH p hp)
      exact ⟨_, hok' p.2 _ zz⟩
    refine ⟨rfl, ⟨fun b o e => ?_, fun b o e => ?_⟩, os, bare⟩
    · by_cases hm : ∃ p ∈ cs, p.2 = b
      · obtain ⟨p, hp, rfl⟩ := hm
        obtain ⟨more, hm⟩ := grown p hp
        have tp := R.tabs p hp
        rw [tp] at e
        cases e
        exact .inr (.inl ⟨((R.code p hp).tab tp).isCodeTable, rfl, #[], more, rfl, by rw [Array.empty_append]; exact hm⟩)
      · exact .inl (kept (fun p hp q => hm ⟨p, hp, q⟩) e)
    · by_cases hm : ∃ p ∈ cs, p.2 = b
      · obtain ⟨p, hp, rfl⟩ := hm
        obtain ⟨more, hm⟩ := grown p hp
        exact ⟨_, hm⟩
      · exact ⟨o, kept (fun p hp q => hm ⟨p, hp, q⟩) e⟩
/-- the goal that k_head leaves -/
theorem walkG {l : PySem.W.OpenLaw} {n k : Nat} {q : Program} {loose : List Str} {XP : (Str → Option Value) → Heap → Prop} {YP : World → Heap → Prop} {d : DefRec} {K : Params → PySem.W.Frag} {x : Str} {sp : PySem.W.Frag → Sp}
    (hn : l.most = some n) (hn2 : n ≤ sizeLine) (hdf : d.params.defaults = []) (hr : Room k callerA) (him : importsNone q = true) (hY : ∀ (w : World) (h : Heap), YP w h → (K w.params).In h)
    (F : ∀ (w : World) (mg : Str → Option Value) (fa : Addr) (h : Heap), (K w.params).In h → h.Ns mainGlobals mg → mg d.name = some (.ref fa) →
      (∀ d ∈ recsOf q, ∃ a o fd c P, mg d.name = some (.ref a) ∧ h.get? a = some o ∧ o.data = .func fd ∧ fd.code = .ref c ∧ h.IsCode c P #[] ∧ h.TableAt c P #[]) →
      ∃ (fd : FuncData) (cs : List (Addr × Addr)), (∀ p ∈ cs, h.get? p.2 = some { cls := .none, data := .fields #[] } ∧ (K w.params).lookup p.2 = none ∧ PySem.W.CodeHd h p.1 p.2) ∧ (∀ (s : Shared) (u : Value), BindsTo s fd ⟨[u], []⟩ [(x, u)]) ∧
        ∀ base : Heap, (K w.params).In base → base.Ns mainGlobals mg → (∃ mm, base.Ns sysModules mm) → (∀ p ∈ cs, TabB base mg p.1 p.2) → FnG l.prog w (K w.params) mg base CX0 k fa fd [x] (fun vs H Q E => (∀ p ∈ cs, H p.2 = some (.tbl #[])) ∧ sp (K w.params) vs H Q E))
    (hsp : ∀ (K : PySem.W.Frag) (H : Hp) (a : Addr) (ns : List Int), ns.length ≤ n → SqL K H a (ns.map V.int) → sp K [.ref a] H (fun v _ => v = .bl true) fun _ _ _ => False) :
    PySem.W.WalkO q loose XP YP l.row.toRowW d [] (fun f vs => PySem.call f vs) := by
  refine Att.attach_call hn hdf fun w s₀ s₁ mg mb fa o pm cd doc a vs ns G Y ho hd hcd hmg hobj hints hlen hg => ?_
  have KX := hY w _ Y
  obtain ⟨fd, cs, C, hb, hF⟩ := F w mg fa _ KX G.T.g hmg G.T.tab
  obtain ⟨mm, hm, _⟩ := (G.T.seer him).mods
  exact callG (cs := cs) ⟨KX, G.T.g, G.T.b, G.T.builtins, G.T.nolimit, ⟨mm, hm⟩, hg, fun p hp => (C p hp).1, fun p hp => (C p hp).2.1, fun p hp => (C p hp).2.2, G.T.bmain⟩ hobj hints (Nat.le_trans hlen hn2) hr hF hb fun H hT hS => ⟨hT, hsp _ H a ns hlen hS⟩
end
end L2

/-! a law's end whose head is one kernel run: what is known of the heap behind the top is asked by one Bool over a part of it -/
namespace HX
open PySem PySem.Spec PyProof.Rows L2
def allT (l : List Bool) : Bool := l.all _root_.id
theorem allT_at {l : List Bool} (h : allT l = true) {i : Nat} {b : Bool} (e : l[i]? = some b) : b = true := List.all_eq_true.mp h b (List.mem_of_getElem? e)
theorem allT_of {p : Prop} [Decidable p] {l : List Bool} (h : allT l = true) (i : Nat) (e : l[i]? = some (decide p)) : p := of_decide_eq_true (allT_at h e)
theorem and_l {a b : Bool} (h : (a && b) = true) : a = true := (Bool.and_eq_true_iff.mp h).1
theorem and_r {a b : Bool} (h : (a && b) = true) : b = true := (Bool.and_eq_true_iff.mp h).2
theorem dfl_nil {K : PySem.W.Frag} {dV : Value} (h : DflV K dV []) : dV = .none := by
  rcases h with ⟨_, h⟩ | ⟨h, _⟩
  · exact h
  · exact absurd rfl h
/-- constants of the module -/
def intB (K : PySem.W.Frag) (x : Str) (i : Int) : Bool := match PySem.W.nsIn K mainGlobals x with
  | some (some (.int j _)) => decide (j = i)
  | _ => false
theorem intB_of {K : PySem.W.Frag} {x : Str} {i : Int} (h : intB K x i = true) : ∃ t, PySem.W.nsIn K mainGlobals x = some (some (.int i t)) := by
  unfold intB at h
  split at h
  · rename_i j t e
    rw [e, of_decide_eq_true h]
    exact ⟨t, rfl⟩
  · cases h
def strB (K : PySem.W.Frag) (x z : Str) : Bool := match PySem.W.nsIn K mainGlobals x with
  | some (some (.str y _)) => decide (y = z)
  | _ => false
theorem strB_of {K : PySem.W.Frag} {x z : Str} (h : strB K x z = true) : ∃ t, PySem.W.nsIn K mainGlobals x = some (some (.str z t)) := by
  unfold strB at h
  split at h
  · rename_i j t e
    rw [e, of_decide_eq_true h]
    exact ⟨t, rfl⟩
  · cases h
/-- an error class with these bases behind it -/
def excB (K : PySem.W.Frag) (C : Addr) (bm : List Value) (newId : String) : Bool := match K.lookup C with
  | some ⟨.type "type", _, .cls cd, sl⟩ => (match cd.mro, sl.toList with
    | .ref C' :: bm', [_, _, _, _, some (.builtin n), _] => decide (C' = C) && (decide (n = newId) && (!cd.hasDel && (cd.hasDict && decide (bm' = bm))))
    | _, _ => false)
  | _ => false
theorem excB_of {K : PySem.W.Frag} {C : Addr} {bm : List Value} {newId : String} (q : excB K C bm newId = true) : ∃ nm qn N bs sn sub ab col dd k0 k1 k2 k3 k5, K.lookup C = some (excClassObj nm qn C N bs bm true sn sub ab col dd k0 k1 k2 k3 k5 newId) := by
  unfold excB at q
  split at q
  · rename_i dd cd sl ho
    split at q
    · rename_i C' bm' k0 k1 k2 k3 n k5 hm hs
      have e1 := of_decide_eq_true (and_l q)
      have e2 := of_decide_eq_true (and_l (and_r q))
      have e3 := and_l (and_r (and_r q))
      have e4 := and_l (and_r (and_r (and_r q)))
      have e5 := of_decide_eq_true (and_r (and_r (and_r (and_r q))))
      subst e1 e2 e5
      obtain ⟨nm, bs, mro, ns, qn, hd, sn, sub, ab, col, del⟩ := cd
      dsimp only at hm e3 e4
      have e3 : del = false := by simpa using e3
      subst hm e3 e4
      have hsl : sl = #[k0, k1, k2, k3, some (.builtin n), k5] := by
        obtain ⟨l⟩ := sl
        simp only at hs
        rw [hs]
      subst hsl
      exact ⟨nm, qn, ns, bs, sn, sub, ab, col, dd, k0, k1, k2, k3, k5, ho⟩
    · cases q
  · cases q
/-! ### what is looked at behind the top -/
structure SaysA (fn : List He.DefD) (tf : List He.Defn) (ex ex2 : PySem.W.Frag → Bool) (h : Heap) (K : PySem.W.Frag) : Prop where
  vals : (fn.map fun d => He.fnW K d.at_) = fn.map He.DefD.val
  ok : ∀ d ∈ fn, d.ok K = true
  more : ex K = true
  more2 : ex2 K = true
  hd : ∀ p ∈ tf, PySem.W.codeHdIn K (He.cT K p).1 (He.cT K p).2 = true
  out : ∀ p ∈ tf, K.lookup (He.cT K p).2 = none
  empty : ∀ p ∈ tf, h.get? (He.cT K p).2 = some { cls := .none, data := .fields #[] }
abbrev AlA : Type := Bool × Bool × Bool × List He.FnW
def obsK (fn : List He.DefD) (tf : List He.Defn) (ex ex2 : PySem.W.Frag → Bool) (g : Addr → Option Obj) (K : PySem.W.Frag) : AlA := (ex K, ex2 K, (fn.all fun d => d.ok K) && He.tabsB g tf K, fn.map fun d => He.fnW K d.at_)
def valA (fn : List He.DefD) : AlA := (true, true, true, fn.map He.DefD.val)
def obsA (as : List Addr) (fn : List He.DefD) (tf : List He.Defn) (ex ex2 : PySem.W.Frag → Bool) (g : Addr → Option Obj) : AlA := obsK fn tf ex ex2 g (He.frT g as)
theorem saysA_of {as : List Addr} {fn : List He.DefD} {tf : List He.Defn} {ex ex2 : PySem.W.Frag → Bool} {h : Heap} (e : obsA as fn tf ex ex2 h.get? = valA fn) : SaysA fn tf ex ex2 h (He.frT h.get? as) := by
  obtain ⟨K, eK⟩ : ∃ K, K = He.frT h.get? as := ⟨_, rfl⟩
  have e0 : obsK fn tf ex ex2 h.get? K = valA fn := by rw [eK]; exact e
  have e1 : ((fn.all fun d => d.ok K) && He.tabsB h.get? tf K) = true := congrArg (fun z : AlA => z.2.2.1) e0
  have e2 : (fn.map fun d => He.fnW K d.at_) = fn.map He.DefD.val := congrArg (fun z : AlA => z.2.2.2) e0
  have t := and_r e1
  have key : ∀ p ∈ tf, PySem.W.codeHdIn K (He.cT K p).1 (He.cT K p).2 = true ∧ ∃ o, h.get? (He.cT K p).2 = some o ∧ He.emptyTab o = true := fun p hp => by
    have h1 := List.all_eq_true.mp t p hp
    have h3 := and_l h1
    have h4 := and_r h1
    refine ⟨h3, ?_⟩
    cases q : h.get? (He.cT K p).2 with
    | none =>
      rw [q] at h4
      cases h4
    | some o =>
      rw [q] at h4
      exact ⟨o, rfl, h4⟩
  rw [← eK]
  refine ⟨e2, fun d hd => List.all_eq_true.mp (and_l e1) d hd, congrArg (fun z : AlA => z.1) e0, congrArg (fun z : AlA => z.2.1) e0, fun p hp => (key p hp).1, fun p hp => ?_, fun p hp => ?_⟩
  · obtain ⟨_, o, q, z⟩ := key p hp
    have := He.frT_none (as := as) q z
    rw [← eK] at this
    exact this
  · obtain ⟨_, o, q, z⟩ := key p hp
    rw [q, He.emptyTab_eq z]
def hookA (as : List Addr) (fn : List He.DefD) (tf : List He.Defn) (ex ex2 : PySem.W.Frag → Bool) : PySem.W.Hook where
  α := AlA
  obs := fun s => obsA as fn tf ex ex2 s.heap.get?
  val := fun _ => valA fn
  says := fun _ h => ∃ K : PySem.W.Frag, K.In h ∧ SaysA fn tf ex ex2 h K
  of := fun _ _ e => ⟨_, He.frT_in, saysA_of e⟩
  keeps := fun _ _ _ ⟨K, hK, c⟩ k => ⟨K, PySem.W.Frag.In.keeps hK k, ⟨c.vals, c.ok, c.more, c.more2, c.hd, c.out, fun p hp => k _ _ (c.empty p hp)⟩⟩
theorem obsA_eq {as : List Addr} {fn : List He.DefD} {tf : List He.Defn} {ex ex2 : PySem.W.Frag → Bool} {g : Addr → Option Obj} {s : Shared} (h : ∀ a, g a = s.heap.get? a) : obsA as fn tf ex ex2 g = (hookA as fn tf ex ex2).obs s := by
  have e : g = s.heap.get? := funext h
  rw [e] <;> rfl
/-- one run, looked at piece by piece: a kernel run each, so that none holds too much -/
theorem run_all {S T a1 a2 a3 a4 a5 a6 : Type} {x : Option S} {f1 : S → a1} {f2 : S → a2} {f3 : S → a3} {f4 : S → a4} {f5 : S → a5} {f6 : S → a6} {v1 : a1} {v2 : a2} {v3 : a3} {v4 : a4} {v5 : a5} {v6 : a6} {F : S → T} {A : T} (u : (a1 × a2 × a3 × a4 × a5 × a6) → T)
    (h1 : x.map f1 = some v1) (h2 : x.map f2 = some v2) (h3 : x.map f3 = some v3) (h4 : x.map f4 = some v4) (h5 : x.map f5 = some v5) (h6 : x.map f6 = some v6) (hF : ∀ s, F s = u (f1 s, f2 s, f3 s, f4 s, f5 s, f6 s)) (hA : A = u (v1, v2, v3, v4, v5, v6)) : x.map F = some A := by
  cases x with
  | none => cases h1
  | some s =>
    have h1 : some (f1 s) = some v1 := h1
    have h2 : some (f2 s) = some v2 := h2
    have h3 : some (f3 s) = some v3 := h3
    have h4 : some (f4 s) = some v4 := h4
    have h5 : some (f5 s) = some v5 := h5
    have h6 : some (f6 s) = some v6 := h6
    show some (F s) = some A
    rw [hF, hA, Option.some.inj h1, Option.some.inj h2, Option.some.inj h3, Option.some.inj h4, Option.some.inj h5, Option.some.inj h6]
noncomputable abbrev endW (r : PySem.W.OpenRow) (M : Nat) (w : World) (os : OsState) : Option PySem.W.SharedT := HandSHeadRun.endF (HandSHeadRun.stepQ (HandSHeadRun.denQ HandSHeadRun.tabQ) r.prog w) M r.prog w os
noncomputable abbrev seenW (r : PySem.W.OpenRow) (q : Program) (loose : List PySem.Str) (s : PySem.W.SharedT) := HandSHeadRun.seenQ q loose (importedModules r.prog.main.body) (fun s => PySem.W.xlAt q [] s && PySem.W.recOk r.toRowW.records s) s.abs
section
variable {fn : List He.DefD} {tf : List He.Defn} {ex ex2 : PySem.W.Frag → Bool} {h : Heap} {K : PySem.W.Frag}
theorem SaysA.def_ (c : SaysA fn tf ex ex2 h K) (i : Nat) {d : He.DefD} (e : fn[i]? = some d) (dn : d.dfl = []) : ∃ (oc : Value) (od : Option Addr) (kV doc pm : Value) (an : Option Addr) (cdv ct : Value) (osl : Array (Option Value)),
    K.lookup (He.fAd K d.at_) = some ⟨oc, od, .func (PySem.W.fnOf d.name d.qual d.params d.body d.scope .none kV doc pm an cdv ct), osl⟩ ∧ PySem.W.codeIn K cdv d.qual = true ∧ PySem.W.keepIn K (.ref (He.fAd K d.at_)) = true := by
  have ev : He.fnW K d.at_ = d.val := by
    have z := congrArg (fun l => l[i]?) c.vals
    simp only [List.getElem?_map, e, Option.map_some] at z
    exact Option.some.inj z
  obtain ⟨fd, ⟨oc, od, dV, kV, doc, pm, an, cdv, ct, osl, rfl, lk, cd, dv, _⟩, kp⟩ := He.DefD.funD ev (c.ok d (List.mem_of_getElem? e))
  have dv' : DflV K dV [] := by
    have : d.dvs K = [] := by
      unfold He.DefD.dvs
      rw [dn]
      rfl
    rw [← this]
    exact dv
  have := dfl_nil dv'
  subst this
  exact ⟨oc, od, kV, doc, pm, an, cdv, ct, osl, lk, cd, kp⟩
end
end HX
namespace L2
open PySem PySem.Spec PyProof.Rows LamX
/-- the goal that the head leaves -/
theorem walkGE {l : PySem.W.OpenLaw} {n k : Nat} {q : Program} {loose : List Str} {XP : (Str → Option Value) → Heap → Prop} {YP : World → Heap → Prop} {d : DefRec} {x : Str}
    (hn : l.most = some n) (hn2 : n ≤ sizeLine) (hdf : d.params.defaults = []) (hr : Room k callerA) (him : importsNone q = true)
    (F : ∀ (w : World) (mg : Str → Option Value) (fa : Addr) (h : Heap), YP w h → h.Ns mainGlobals mg → mg d.name = some (.ref fa) →
      ∃ (K : PySem.W.Frag) (fd : FuncData) (cs : List (Addr × Addr)) (sp : Sp), K.In h ∧ (∀ p ∈ cs, h.get? p.2 = some { cls := .none, data := .fields #[] } ∧ K.lookup p.2 = none ∧ PySem.W.CodeHd h p.1 p.2) ∧ (∀ (s : Shared) (u : Value), BindsTo s fd ⟨[u], []⟩ [(x, u)]) ∧
        (∀ (H : Hp) (a : Addr) (ns : List Int), ns.length ≤ n → (∀ p ∈ cs, H p.2 = some (.tbl #[])) → SqL K H a (ns.map V.int) → sp [.ref a] H (fun v _ => v = .bl true) fun _ _ _ => False) ∧
        ∀ base : Heap, K.In base → base.Ns mainGlobals mg → (∃ mm, base.Ns sysModules mm) → (∀ p ∈ cs, TabB base mg p.1 p.2) → FnG l.prog w K mg base CX0 k fa fd [x] sp) :
    PySem.W.WalkO q loose XP YP l.row.toRowW d [] (fun f vs => PySem.call f vs) := by
  refine Att.attach_call hn hdf fun w s₀ s₁ mg mb fa o pm cd doc a vs ns G Y ho hd hcd hmg hobj hints hlen hg => ?_
  obtain ⟨K, fd, cs, sp, KX, C, hb, hsp, hF⟩ := F w mg fa _ Y G.T.g hmg
  obtain ⟨mm, hm, _⟩ := (G.T.seer him).mods
  exact callG (cs := cs) ⟨KX, G.T.g, G.T.b, G.T.builtins, G.T.nolimit, ⟨mm, hm⟩, hg, fun p hp => (C p hp).1, fun p hp => (C p hp).2.1, fun p hp => (C p hp).2.2, G.T.bmain⟩ hobj hints (Nat.le_trans hlen hn2) hr hF hb fun H hT hS => hsp H a ns hlen hT hS
end L2

namespace Gm
open PySem PySem.Spec PyProof.Rows L2 LamX
set_option maxHeartbeats 0
def top (i : Nat) : Stmt := PySem.Challenge.pw_guessmarks_k61_games_made.main.body.getD i (.Pass ⟨0, 0, 0, 0⟩)
abbrev sWell : Stmt := top 57
abbrev sDraw : Stmt := top 58

abbrev sOne : Stmt := top 59
abbrev sSigns : Stmt := top 60
abbrev sText : Stmt := top 61
abbrev sReply : Stmt := top 62
abbrev sChkL : Stmt := top 50
abbrev sStory : Stmt := top 63
abbrev sShown : Stmt := top 65
abbrev sRefu : Stmt := top 64
abbrev sRgt : Stmt := top 66
abbrev sWithin : Stmt := top 23
abbrev sAlpha : Stmt := top 33
abbrev sCount : Stmt := top 34

abbrev sOver : Stmt := top 24
abbrev sIsW : Stmt := top 25
abbrev sAreM : Stmt := top 26
abbrev sIsRow : Stmt := top 27
abbrev sChkW : Stmt := top 28
abbrev sChkM : Stmt := top 29
abbrev sChkB : Stmt := top 35
abbrev sChkR : Stmt := top 49
abbrev sMarksOf : Stmt := top 46
abbrev sComm : Stmt := top 43
abbrev sCnt : Stmt := top 42
abbrev sGiven : Stmt := top 38
abbrev sOrd : Stmt := top 39
abbrev sHas : Stmt := top 44
abbrev sLaw : Stmt := top 67
abbrev sInit : Stmt := inClass (top 32) 0
abbrev sHInit : Stmt := inClass (top 48) 0
abbrev sThen : Stmt := inClass (top 48) 1
abbrev sFits : Stmt := inClass (top 48) 3
abbrev sMoInit : Stmt := inClass (top 52) 0
abbrev sAdd : Stmt := inClass (top 53) 1
abbrev sFree : Stmt := inClass (top 53) 6
abbrev sAddR : Stmt := inClass (top 53) 8
abbrev sMove : Stmt := inClass (top 53) 10
abbrev sGInit : Stmt := inClass (top 53) 0
abbrev sGLen : Stmt := inClass (top 53) 11
abbrev sGRepr : Stmt := inClass (top 53) 12
abbrev sHRepr : Stmt := inClass (top 48) 7
abbrev sHEq : Stmt := inClass (top 48) 4
abbrev sRepr : Stmt := inClass (top 32) 5
abbrev sEq : Stmt := inClass (top 32) 3
abbrev sWInit : Stmt := inClass (top 41) 0
abbrev sNone : Stmt := inClass (top 41) 4
abbrev sUsed : Stmt := inClass (top 41) 5
abbrev sManyW : Stmt := inClass (top 41) 7
abbrev sManyF : Stmt := inClass (top 41) 8
abbrev sAddW : Stmt := inClass (top 41) 9
abbrev sMany : Stmt := inClass (top 41) 1
abbrev sBInit : Stmt := inClass (top 37) 0
abbrev sTakeR : Stmt := inClass (top 37) 1
abbrev sKeep : Stmt := inClass (top 37) 3
abbrev sLeave : Stmt := inClass (top 37) 4
abbrev sAskL : Stmt := inClass (top 37) 5
abbrev sAskM : Stmt := inClass (top 37) 6
abbrev sEInvalidWord : Stmt := inClass (top 6) 0
abbrev sEInvalidMarks : Stmt := inClass (top 7) 0
abbrev sETooManyRows : Stmt := inClass (top 17) 0
abbrev sEGuessNotLeft : Stmt := inClass (top 15) 0
abbrev sENotABoard : Stmt := inClass (top 3) 0
def lowTxt : Str := "abcdefghijklmnopqrstuvwxyz"

def A_CB (K : PySem.W.Frag) : Addr := He.ga K "Board"
def A_CH (K : PySem.W.Frag) : Addr := He.ga K "History"
def A_CW (K : PySem.W.Frag) : Addr := He.ga K "Words"
def A_CD (K : PySem.W.Frag) : Addr := He.ga K "Bounds"
def A_CM (K : PySem.W.Frag) : Addr := He.ga K "Moment"
def A_CG (K : PySem.W.Frag) : Addr := He.ga K "Game"
def A_CNo (K : PySem.W.Frag) : Addr := He.ga K "NoWord"
def A_CBu (K : PySem.W.Frag) : Addr := He.ga K "Busy"
def A_CIn (K : PySem.W.Frag) : Addr := He.ga K "InputError"
def A_CSt (K : PySem.W.Frag) : Addr := He.ga K "StateError"
def A_CSi (K : PySem.W.Frag) : Addr := He.ga K "SizeError"
def A_CxW (K : PySem.W.Frag) : Addr := He.ga K "InvalidWord"
def A_CxM (K : PySem.W.Frag) : Addr := He.ga K "InvalidMarks"
def A_CxT (K : PySem.W.Frag) : Addr := He.ga K "TooManyRows"
def A_CxG (K : PySem.W.Frag) : Addr := He.ga K "GuessNotLeft"
def A_CxNb (K : PySem.W.Frag) : Addr := He.ga K "NotABoard"
def A_fB (K : PySem.W.Frag) : Addr := He.fAd K ("_law_well", none)
def A_fD (K : PySem.W.Frag) : Addr := He.fAd K ("_law_draw", none)
def A_fOn (K : PySem.W.Frag) : Addr := He.fAd K ("_law_one", none)
def A_fS (K : PySem.W.Frag) : Addr := He.fAd K ("_law_signs", none)
def A_fTe (K : PySem.W.Frag) : Addr := He.fAd K ("_law_text", none)
def A_fRp (K : PySem.W.Frag) : Addr := He.fAd K ("_law_reply", none)
def A_fCl (K : PySem.W.Frag) : Addr := He.fAd K ("check_word_left", none)
def A_fSto (K : PySem.W.Frag) : Addr := He.fAd K ("_law_story", none)
def A_fSh (K : PySem.W.Frag) : Addr := He.fAd K ("_law_shown", none)
def A_fRf (K : PySem.W.Frag) : Addr := He.fAd K ("_law_refused", none)
def A_fR (K : PySem.W.Frag) : Addr := He.fAd K ("_law_right", none)
def A_fW (K : PySem.W.Frag) : Addr := He.fAd K ("is_integer_within", none)
def A_fA (K : PySem.W.Frag) : Addr := He.fAd K ("is_alphabet", none)
def A_fCn (K : PySem.W.Frag) : Addr := He.fAd K ("count_words", none)
def A_fOv (K : PySem.W.Frag) : Addr := He.fAd K ("is_text_over", none)
def A_fIw (K : PySem.W.Frag) : Addr := He.fAd K ("is_word", none)
def A_fAm (K : PySem.W.Frag) : Addr := He.fAd K ("are_marks", none)
def A_fIr (K : PySem.W.Frag) : Addr := He.fAd K ("is_row", none)
def A_fCw (K : PySem.W.Frag) : Addr := He.fAd K ("check_word", none)
def A_fCm (K : PySem.W.Frag) : Addr := He.fAd K ("check_marks", none)
def A_fCb (K : PySem.W.Frag) : Addr := He.fAd K ("check_board", none)
def A_fCr (K : PySem.W.Frag) : Addr := He.fAd K ("check_rows", none)
def A_fMo (K : PySem.W.Frag) : Addr := He.fAd K ("marks_of", none)
def A_fWc (K : PySem.W.Frag) : Addr := He.fAd K ("common_letters", none)
def A_fWn (K : PySem.W.Frag) : Addr := He.fAd K ("counted_letters", none)
def A_fWg (K : PySem.W.Frag) : Addr := He.fAd K ("marks_given", none)
def A_fOd (K : PySem.W.Frag) : Addr := He.fAd K ("is_in_order", none)
def A_fHw (K : PySem.W.Frag) : Addr := He.fAd K ("has_word", none)
def A_fL (K : PySem.W.Frag) : Addr := He.fAd K ("law", none)
def A_fI (K : PySem.W.Frag) : Addr := He.fAd K ("Board", some "__init__")
def A_fHi (K : PySem.W.Frag) : Addr := He.fAd K ("History", some "__init__")
def A_fTh (K : PySem.W.Frag) : Addr := He.fAd K ("History", some "then")
def A_fFi (K : PySem.W.Frag) : Addr := He.fAd K ("History", some "fits")
def A_fMm (K : PySem.W.Frag) : Addr := He.fAd K ("Moment", some "__init__")
def A_fGa (K : PySem.W.Frag) : Addr := He.fAd K ("Game", some "add")
def A_fGf (K : PySem.W.Frag) : Addr := He.fAd K ("Game", some "check_free")
def A_fGr (K : PySem.W.Frag) : Addr := He.fAd K ("Game", some "add_row")
def A_fGv (K : PySem.W.Frag) : Addr := He.fAd K ("Game", some "move_to")
def A_fGi (K : PySem.W.Frag) : Addr := He.fAd K ("Game", some "__init__")
def A_fGl (K : PySem.W.Frag) : Addr := He.fAd K ("Game", some "__len__")
def A_fGq (K : PySem.W.Frag) : Addr := He.fAd K ("Game", some "__repr__")
def A_fHq (K : PySem.W.Frag) : Addr := He.fAd K ("History", some "__repr__")
def A_fHe (K : PySem.W.Frag) : Addr := He.fAd K ("History", some "__eq__")
def A_fBq (K : PySem.W.Frag) : Addr := He.fAd K ("Board", some "__repr__")
def A_fBe (K : PySem.W.Frag) : Addr := He.fAd K ("Board", some "__eq__")
def A_fXi (K : PySem.W.Frag) : Addr := He.fAd K ("Words", some "__init__")
def A_fXn (K : PySem.W.Frag) : Addr := He.fAd K ("Words", some "none_used")
def A_fXu (K : PySem.W.Frag) : Addr := He.fAd K ("Words", some "used_with")
def A_fXw (K : PySem.W.Frag) : Addr := He.fAd K ("Words", some "many_with")
def A_fXf (K : PySem.W.Frag) : Addr := He.fAd K ("Words", some "many_from")
def A_fXa (K : PySem.W.Frag) : Addr := He.fAd K ("Words", some "add_ways")
def A_fXm (K : PySem.W.Frag) : Addr := He.fAd K ("Words", some "many")
def A_fYi (K : PySem.W.Frag) : Addr := He.fAd K ("Bounds", some "__init__")
def A_fYr (K : PySem.W.Frag) : Addr := He.fAd K ("Bounds", some "take_row")
def A_fYk (K : PySem.W.Frag) : Addr := He.fAd K ("Bounds", some "keep_only")
def A_fYl (K : PySem.W.Frag) : Addr := He.fAd K ("Bounds", some "leave_out")
def A_fYa (K : PySem.W.Frag) : Addr := He.fAd K ("Bounds", some "ask_least")
def A_fYm (K : PySem.W.Frag) : Addr := He.fAd K ("Bounds", some "ask_most")
def A_fIW (K : PySem.W.Frag) : Addr := He.fAd K ("InvalidWord", some "__init__")
def A_fIM (K : PySem.W.Frag) : Addr := He.fAd K ("InvalidMarks", some "__init__")
def A_fIT (K : PySem.W.Frag) : Addr := He.fAd K ("TooManyRows", some "__init__")
def A_fIG (K : PySem.W.Frag) : Addr := He.fAd K ("GuessNotLeft", some "__init__")
def A_fINb (K : PySem.W.Frag) : Addr := He.fAd K ("NotABoard", some "__init__")
def dHB : He.DefD := ⟨("_law_well", none), "_law_well", "_law_well", defArgs sWell, defBody sWell, defScope sWell, [], []⟩
def dHD : He.DefD := ⟨("_law_draw", none), "_law_draw", "_law_draw", defArgs sDraw, defBody sDraw, defScope sDraw, [], []⟩
def dHOn : He.DefD := ⟨("_law_one", none), "_law_one", "_law_one", defArgs sOne, defBody sOne, defScope sOne, [], []⟩
def dHS : He.DefD := ⟨("_law_signs", none), "_law_signs", "_law_signs", defArgs sSigns, defBody sSigns, defScope sSigns, [], []⟩
def dHTe : He.DefD := ⟨("_law_text", none), "_law_text", "_law_text", defArgs sText, defBody sText, defScope sText, [], []⟩
def dHRp : He.DefD := ⟨("_law_reply", none), "_law_reply", "_law_reply", defArgs sReply, defBody sReply, defScope sReply, [], []⟩
def dHCl : He.DefD := ⟨("check_word_left", none), "check_word_left", "check_word_left", defArgs sChkL, defBody sChkL, defScope sChkL, [], []⟩
def dHSto : He.DefD := ⟨("_law_story", none), "_law_story", "_law_story", defArgs sStory, defBody sStory, defScope sStory, [], []⟩
def dHSh : He.DefD := ⟨("_law_shown", none), "_law_shown", "_law_shown", defArgs sShown, defBody sShown, defScope sShown, [], []⟩
def dHRf : He.DefD := ⟨("_law_refused", none), "_law_refused", "_law_refused", defArgs sRefu, defBody sRefu, defScope sRefu, [], []⟩
def dHR : He.DefD := ⟨("_law_right", none), "_law_right", "_law_right", defArgs sRgt, defBody sRgt, defScope sRgt, [], []⟩
def dHW : He.DefD := ⟨("is_integer_within", none), "is_integer_within", "is_integer_within", defArgs sWithin, defBody sWithin, defScope sWithin, [], []⟩
def dHA : He.DefD := ⟨("is_alphabet", none), "is_alphabet", "is_alphabet", defArgs sAlpha, defBody sAlpha, defScope sAlpha, [], []⟩
def dHCn : He.DefD := ⟨("count_words", none), "count_words", "count_words", defArgs sCount, defBody sCount, defScope sCount, [], []⟩
def dHOv : He.DefD := ⟨("is_text_over", none), "is_text_over", "is_text_over", defArgs sOver, defBody sOver, defScope sOver, [], []⟩
def dHIw : He.DefD := ⟨("is_word", none), "is_word", "is_word", defArgs sIsW, defBody sIsW, defScope sIsW, [], []⟩
def dHAm : He.DefD := ⟨("are_marks", none), "are_marks", "are_marks", defArgs sAreM, defBody sAreM, defScope sAreM, [], []⟩
def dHIr : He.DefD := ⟨("is_row", none), "is_row", "is_row", defArgs sIsRow, defBody sIsRow, defScope sIsRow, [], []⟩
def dHCw : He.DefD := ⟨("check_word", none), "check_word", "check_word", defArgs sChkW, defBody sChkW, defScope sChkW, [], []⟩
def dHCm : He.DefD := ⟨("check_marks", none), "check_marks", "check_marks", defArgs sChkM, defBody sChkM, defScope sChkM, [], []⟩
def dHCb : He.DefD := ⟨("check_board", none), "check_board", "check_board", defArgs sChkB, defBody sChkB, defScope sChkB, [], []⟩
def dHCr : He.DefD := ⟨("check_rows", none), "check_rows", "check_rows", defArgs sChkR, defBody sChkR, defScope sChkR, [], []⟩
def dHMo : He.DefD := ⟨("marks_of", none), "marks_of", "marks_of", defArgs sMarksOf, defBody sMarksOf, defScope sMarksOf, [], []⟩
def dHWc : He.DefD := ⟨("common_letters", none), "common_letters", "common_letters", defArgs sComm, defBody sComm, defScope sComm, [], []⟩
def dHWn : He.DefD := ⟨("counted_letters", none), "counted_letters", "counted_letters", defArgs sCnt, defBody sCnt, defScope sCnt, [], []⟩
def dHWg : He.DefD := ⟨("marks_given", none), "marks_given", "marks_given", defArgs sGiven, defBody sGiven, defScope sGiven, [], []⟩
def dHOd : He.DefD := ⟨("is_in_order", none), "is_in_order", "is_in_order", defArgs sOrd, defBody sOrd, defScope sOrd, [], []⟩
def dHHw : He.DefD := ⟨("has_word", none), "has_word", "has_word", defArgs sHas, defBody sHas, defScope sHas, [], []⟩
def dHL : He.DefD := ⟨("law", none), "law", "law", defArgs sLaw, defBody sLaw, defScope sLaw, [], []⟩
def dHI : He.DefD := ⟨("Board", some "__init__"), "__init__", "Board.__init__", defArgs sInit, defBody sInit, defScope sInit, [], []⟩
def dHHi : He.DefD := ⟨("History", some "__init__"), "__init__", "History.__init__", defArgs sHInit, defBody sHInit, defScope sHInit, [], []⟩
def dHTh : He.DefD := ⟨("History", some "then"), "then", "History.then", defArgs sThen, defBody sThen, defScope sThen, [], []⟩
def dHFi : He.DefD := ⟨("History", some "fits"), "fits", "History.fits", defArgs sFits, defBody sFits, defScope sFits, [], []⟩
def dHMm : He.DefD := ⟨("Moment", some "__init__"), "__init__", "Moment.__init__", defArgs sMoInit, defBody sMoInit, defScope sMoInit, [], []⟩
def dHGa : He.DefD := ⟨("Game", some "add"), "add", "Game.add", defArgs sAdd, defBody sAdd, defScope sAdd, [], []⟩
def dHGf : He.DefD := ⟨("Game", some "check_free"), "check_free", "Game.check_free", defArgs sFree, defBody sFree, defScope sFree, [], []⟩
def dHGr : He.DefD := ⟨("Game", some "add_row"), "add_row", "Game.add_row", defArgs sAddR, defBody sAddR, defScope sAddR, [], []⟩
def dHGv : He.DefD := ⟨("Game", some "move_to"), "move_to", "Game.move_to", defArgs sMove, defBody sMove, defScope sMove, [], []⟩
def dHGi : He.DefD := ⟨("Game", some "__init__"), "__init__", "Game.__init__", defArgs sGInit, defBody sGInit, defScope sGInit, [], [("strict", .bl false)]⟩
def dHGl : He.DefD := ⟨("Game", some "__len__"), "__len__", "Game.__len__", defArgs sGLen, defBody sGLen, defScope sGLen, [], []⟩
def dHGq : He.DefD := ⟨("Game", some "__repr__"), "__repr__", "Game.__repr__", defArgs sGRepr, defBody sGRepr, defScope sGRepr, [], []⟩
def dHHq : He.DefD := ⟨("History", some "__repr__"), "__repr__", "History.__repr__", defArgs sHRepr, defBody sHRepr, defScope sHRepr, [], []⟩
def dHHe : He.DefD := ⟨("History", some "__eq__"), "__eq__", "History.__eq__", defArgs sHEq, defBody sHEq, defScope sHEq, [], []⟩
def dHBq : He.DefD := ⟨("Board", some "__repr__"), "__repr__", "Board.__repr__", defArgs sRepr, defBody sRepr, defScope sRepr, [], []⟩
def dHBe : He.DefD := ⟨("Board", some "__eq__"), "__eq__", "Board.__eq__", defArgs sEq, defBody sEq, defScope sEq, [], []⟩
def dHXi : He.DefD := ⟨("Words", some "__init__"), "__init__", "Words.__init__", defArgs sWInit, defBody sWInit, defScope sWInit, [], []⟩
def dHXn : He.DefD := ⟨("Words", some "none_used"), "none_used", "Words.none_used", defArgs sNone, defBody sNone, defScope sNone, [], []⟩
def dHXu : He.DefD := ⟨("Words", some "used_with"), "used_with", "Words.used_with", defArgs sUsed, defBody sUsed, defScope sUsed, [], []⟩
def dHXw : He.DefD := ⟨("Words", some "many_with"), "many_with", "Words.many_with", defArgs sManyW, defBody sManyW, defScope sManyW, [], []⟩
def dHXf : He.DefD := ⟨("Words", some "many_from"), "many_from", "Words.many_from", defArgs sManyF, defBody sManyF, defScope sManyF, [], []⟩
def dHXa : He.DefD := ⟨("Words", some "add_ways"), "add_ways", "Words.add_ways", defArgs sAddW, defBody sAddW, defScope sAddW, [], []⟩
def dHXm : He.DefD := ⟨("Words", some "many"), "many", "Words.many", defArgs sMany, defBody sMany, defScope sMany, [], []⟩
def dHYi : He.DefD := ⟨("Bounds", some "__init__"), "__init__", "Bounds.__init__", defArgs sBInit, defBody sBInit, defScope sBInit, [], []⟩
def dHYr : He.DefD := ⟨("Bounds", some "take_row"), "take_row", "Bounds.take_row", defArgs sTakeR, defBody sTakeR, defScope sTakeR, [], []⟩
def dHYk : He.DefD := ⟨("Bounds", some "keep_only"), "keep_only", "Bounds.keep_only", defArgs sKeep, defBody sKeep, defScope sKeep, [], []⟩
def dHYl : He.DefD := ⟨("Bounds", some "leave_out"), "leave_out", "Bounds.leave_out", defArgs sLeave, defBody sLeave, defScope sLeave, [], []⟩
def dHYa : He.DefD := ⟨("Bounds", some "ask_least"), "ask_least", "Bounds.ask_least", defArgs sAskL, defBody sAskL, defScope sAskL, [], []⟩
def dHYm : He.DefD := ⟨("Bounds", some "ask_most"), "ask_most", "Bounds.ask_most", defArgs sAskM, defBody sAskM, defScope sAskM, [], []⟩
def dHIW : He.DefD := ⟨("InvalidWord", some "__init__"), "__init__", "InvalidWord.__init__", defArgs sEInvalidWord, defBody sEInvalidWord, defScope sEInvalidWord, [], []⟩
def dHIM : He.DefD := ⟨("InvalidMarks", some "__init__"), "__init__", "InvalidMarks.__init__", defArgs sEInvalidMarks, defBody sEInvalidMarks, defScope sEInvalidMarks, [], []⟩
def dHIT : He.DefD := ⟨("TooManyRows", some "__init__"), "__init__", "TooManyRows.__init__", defArgs sETooManyRows, defBody sETooManyRows, defScope sETooManyRows, [], []⟩
def dHIG : He.DefD := ⟨("GuessNotLeft", some "__init__"), "__init__", "GuessNotLeft.__init__", defArgs sEGuessNotLeft, defBody sEGuessNotLeft, defScope sEGuessNotLeft, [], []⟩
def dHINb : He.DefD := ⟨("NotABoard", some "__init__"), "__init__", "NotABoard.__init__", defArgs sENotABoard, defBody sENotABoard, defScope sENotABoard, [], []⟩
def fnH0 : List He.DefD := [dHB, dHD, dHOn, dHS, dHTe, dHRp, dHCl, dHSto, dHSh, dHRf, dHR, dHW, dHA, dHCn, dHOv, dHIw, dHAm, dHIr, dHCw, dHCm]
def fnH1 : List He.DefD := [dHCb, dHCr, dHMo, dHWc, dHWn, dHWg, dHOd, dHHw, dHL, dHI, dHHi, dHTh, dHFi, dHMm, dHGa, dHGf, dHGr, dHGv, dHGi, dHGl]
def fnH2 : List He.DefD := [dHGq, dHHq, dHHe, dHBq, dHBe, dHXi, dHXn, dHXu, dHXw, dHXf, dHXa, dHXm, dHYi, dHYr, dHYk, dHYl, dHYa, dHYm, dHIW, dHIM]
def fnH3 : List He.DefD := [dHIT, dHIG, dHINb]
def fnHa : List He.DefD := fnH0 ++ fnH1
def fnHb : List He.DefD := fnH2 ++ fnH3
def fnH : List He.DefD := fnHa ++ fnHb
theorem comb2 {α : Type} {x : Option α} {f g h : α → Bool} (a : x.map f = some true) (b : x.map g = some true) (e : ∀ s, h s = (f s && g s)) : x.map h = some true := by
  cases x with
  | none => cases a
  | some s =>
    have a' : f s = true := Option.some.inj a
    have b' : g s = true := Option.some.inj b
    show some (h s) = some true
    rw [e, a', b']
    rfl
theorem comb3 {α β : Type} {x : Option α} {f g h : α → List β} {u v w : List β} (a : x.map f = some u) (b : x.map g = some v) (e : ∀ s, h s = f s ++ g s) (k : w = u ++ v) : x.map h = some w := by
  cases x with
  | none => cases a
  | some s =>
    have a' : f s = u := Option.some.inj a
    have b' : g s = v := Option.some.inj b
    show some (h s) = some w
    rw [e, a', b', k]
def tfH : List He.Defn := []
def exH0 (K : PySem.W.Frag) : List Bool := [decide (PySem.W.nsIn K mainGlobals "Board" = some (some (.ref (A_CB K)))), decide (PySem.W.nsIn K mainGlobals "History" = some (some (.ref (A_CH K)))), decide (PySem.W.nsIn K mainGlobals "Words" = some (some (.ref (A_CW K)))), decide (PySem.W.nsIn K mainGlobals "Bounds" = some (some (.ref (A_CD K)))), decide (PySem.W.nsIn K mainGlobals "Moment" = some (some (.ref (A_CM K)))), decide (PySem.W.nsIn K mainGlobals "Game" = some (some (.ref (A_CG K)))), decide (PySem.W.nsIn K mainGlobals "NoWord" = some (some (.ref (A_CNo K)))), decide (PySem.W.nsIn K mainGlobals "Busy" = some (some (.ref (A_CBu K)))), decide (PySem.W.nsIn K mainGlobals "InputError" = some (some (.ref (A_CIn K)))), decide (PySem.W.nsIn K mainGlobals "StateError" = some (some (.ref (A_CSt K)))), decide (PySem.W.nsIn K mainGlobals "SizeError" = some (some (.ref (A_CSi K)))), decide (PySem.W.nsIn K mainGlobals "InvalidWord" = some (some (.ref (A_CxW K)))), decide (PySem.W.nsIn K mainGlobals "InvalidMarks" = some (some (.ref (A_CxM K)))), decide (PySem.W.nsIn K mainGlobals "TooManyRows" = some (some (.ref (A_CxT K)))), decide (PySem.W.nsIn K mainGlobals "GuessNotLeft" = some (some (.ref (A_CxG K)))), decide (PySem.W.nsIn K mainGlobals "NotABoard" = some (some (.ref (A_CxNb K)))), decide (PySem.W.nsIn K mainGlobals "_law_well" = some (some (.ref (A_fB K)))), decide (PySem.W.nsIn K mainGlobals "_law_draw" = some (some (.ref (A_fD K)))), decide (PySem.W.nsIn K mainGlobals "_law_one" = some (some (.ref (A_fOn K)))), decide (PySem.W.nsIn K mainGlobals "_law_signs" = some (some (.ref (A_fS K)))), decide (PySem.W.nsIn K mainGlobals "_law_text" = some (some (.ref (A_fTe K)))), decide (PySem.W.nsIn K mainGlobals "_law_reply" = some (some (.ref (A_fRp K)))), decide (PySem.W.nsIn K mainGlobals "check_word_left" = some (some (.ref (A_fCl K)))), decide (PySem.W.nsIn K mainGlobals "_law_story" = some (some (.ref (A_fSto K)))), decide (PySem.W.nsIn K mainGlobals "_law_shown" = some (some (.ref (A_fSh K))))]
def exH1 (K : PySem.W.Frag) : List Bool := [decide (PySem.W.nsIn K mainGlobals "_law_refused" = some (some (.ref (A_fRf K)))), decide (PySem.W.nsIn K mainGlobals "_law_right" = some (some (.ref (A_fR K)))), decide (PySem.W.nsIn K mainGlobals "is_integer_within" = some (some (.ref (A_fW K)))), decide (PySem.W.nsIn K mainGlobals "is_alphabet" = some (some (.ref (A_fA K)))), decide (PySem.W.nsIn K mainGlobals "count_words" = some (some (.ref (A_fCn K)))), decide (PySem.W.nsIn K mainGlobals "is_text_over" = some (some (.ref (A_fOv K)))), decide (PySem.W.nsIn K mainGlobals "is_word" = some (some (.ref (A_fIw K)))), decide (PySem.W.nsIn K mainGlobals "are_marks" = some (some (.ref (A_fAm K)))), decide (PySem.W.nsIn K mainGlobals "is_row" = some (some (.ref (A_fIr K)))), decide (PySem.W.nsIn K mainGlobals "check_word" = some (some (.ref (A_fCw K)))), decide (PySem.W.nsIn K mainGlobals "check_marks" = some (some (.ref (A_fCm K)))), decide (PySem.W.nsIn K mainGlobals "check_board" = some (some (.ref (A_fCb K)))), decide (PySem.W.nsIn K mainGlobals "check_rows" = some (some (.ref (A_fCr K)))), decide (PySem.W.nsIn K mainGlobals "marks_of" = some (some (.ref (A_fMo K)))), decide (PySem.W.nsIn K mainGlobals "common_letters" = some (some (.ref (A_fWc K)))), decide (PySem.W.nsIn K mainGlobals "counted_letters" = some (some (.ref (A_fWn K)))), decide (PySem.W.nsIn K mainGlobals "marks_given" = some (some (.ref (A_fWg K)))), decide (PySem.W.nsIn K mainGlobals "is_in_order" = some (some (.ref (A_fOd K)))), decide (PySem.W.nsIn K mainGlobals "has_word" = some (some (.ref (A_fHw K)))), decide (PySem.W.nsIn K mainGlobals "law" = some (some (.ref (A_fL K)))), decide (PySem.W.findIn K (.ref (A_CB K)) "__init__" = some (some (.ref (A_fI K)))), decide (PySem.W.isFn K (.ref (A_fI K)) = true), decide (PySem.W.findIn K (.ref (A_CH K)) "__init__" = some (some (.ref (A_fHi K)))), decide (PySem.W.isFn K (.ref (A_fHi K)) = true), decide (PySem.W.findIn K (.ref (A_CH K)) "then" = some (some (.ref (A_fTh K))))]
def exH2 (K : PySem.W.Frag) : List Bool := [decide (PySem.W.isFn K (.ref (A_fTh K)) = true), decide (PySem.W.findIn K (.ref (A_CH K)) "fits" = some (some (.ref (A_fFi K)))), decide (PySem.W.isFn K (.ref (A_fFi K)) = true), decide (PySem.W.findIn K (.ref (A_CM K)) "__init__" = some (some (.ref (A_fMm K)))), decide (PySem.W.isFn K (.ref (A_fMm K)) = true), decide (PySem.W.findIn K (.ref (A_CG K)) "add" = some (some (.ref (A_fGa K)))), decide (PySem.W.isFn K (.ref (A_fGa K)) = true), decide (PySem.W.findIn K (.ref (A_CG K)) "check_free" = some (some (.ref (A_fGf K)))), decide (PySem.W.isFn K (.ref (A_fGf K)) = true), decide (PySem.W.findIn K (.ref (A_CG K)) "add_row" = some (some (.ref (A_fGr K)))), decide (PySem.W.isFn K (.ref (A_fGr K)) = true), decide (PySem.W.findIn K (.ref (A_CG K)) "move_to" = some (some (.ref (A_fGv K)))), decide (PySem.W.isFn K (.ref (A_fGv K)) = true), decide (PySem.W.findIn K (.ref (A_CG K)) "__init__" = some (some (.ref (A_fGi K)))), decide (PySem.W.isFn K (.ref (A_fGi K)) = true), decide (PySem.W.findIn K (.ref (A_CG K)) "__len__" = some (some (.ref (A_fGl K)))), decide (PySem.W.isFn K (.ref (A_fGl K)) = true), decide (PySem.W.findIn K (.ref (A_CG K)) "__repr__" = some (some (.ref (A_fGq K)))), decide (PySem.W.isFn K (.ref (A_fGq K)) = true), decide (PySem.W.findIn K (.ref (A_CH K)) "__repr__" = some (some (.ref (A_fHq K)))), decide (PySem.W.isFn K (.ref (A_fHq K)) = true), decide (PySem.W.findIn K (.ref (A_CH K)) "__eq__" = some (some (.ref (A_fHe K)))), decide (PySem.W.isFn K (.ref (A_fHe K)) = true), decide (PySem.W.findIn K (.ref (A_CB K)) "__repr__" = some (some (.ref (A_fBq K)))), decide (PySem.W.isFn K (.ref (A_fBq K)) = true)]
def exH3 (K : PySem.W.Frag) : List Bool := [decide (PySem.W.findIn K (.ref (A_CB K)) "__eq__" = some (some (.ref (A_fBe K)))), decide (PySem.W.isFn K (.ref (A_fBe K)) = true), decide (PySem.W.findIn K (.ref (A_CW K)) "__init__" = some (some (.ref (A_fXi K)))), decide (PySem.W.isFn K (.ref (A_fXi K)) = true), decide (PySem.W.findIn K (.ref (A_CW K)) "none_used" = some (some (.ref (A_fXn K)))), decide (PySem.W.isFn K (.ref (A_fXn K)) = true), decide (PySem.W.findIn K (.ref (A_CW K)) "used_with" = some (some (.ref (A_fXu K)))), decide (PySem.W.isFn K (.ref (A_fXu K)) = true), decide (PySem.W.findIn K (.ref (A_CW K)) "many_with" = some (some (.ref (A_fXw K)))), decide (PySem.W.isFn K (.ref (A_fXw K)) = true), decide (PySem.W.findIn K (.ref (A_CW K)) "many_from" = some (some (.ref (A_fXf K)))), decide (PySem.W.isFn K (.ref (A_fXf K)) = true), decide (PySem.W.findIn K (.ref (A_CW K)) "add_ways" = some (some (.ref (A_fXa K)))), decide (PySem.W.isFn K (.ref (A_fXa K)) = true), decide (PySem.W.findIn K (.ref (A_CW K)) "many" = some (some (.ref (A_fXm K)))), decide (PySem.W.isFn K (.ref (A_fXm K)) = true), decide (PySem.W.findIn K (.ref (A_CD K)) "__init__" = some (some (.ref (A_fYi K)))), decide (PySem.W.isFn K (.ref (A_fYi K)) = true), decide (PySem.W.findIn K (.ref (A_CD K)) "take_row" = some (some (.ref (A_fYr K)))), decide (PySem.W.isFn K (.ref (A_fYr K)) = true), decide (PySem.W.findIn K (.ref (A_CD K)) "keep_only" = some (some (.ref (A_fYk K)))), decide (PySem.W.isFn K (.ref (A_fYk K)) = true), decide (PySem.W.findIn K (.ref (A_CD K)) "leave_out" = some (some (.ref (A_fYl K)))), decide (PySem.W.isFn K (.ref (A_fYl K)) = true), decide (PySem.W.findIn K (.ref (A_CD K)) "ask_least" = some (some (.ref (A_fYa K))))]
def exH4 (K : PySem.W.Frag) : List Bool := [decide (PySem.W.isFn K (.ref (A_fYa K)) = true), decide (PySem.W.findIn K (.ref (A_CD K)) "ask_most" = some (some (.ref (A_fYm K)))), decide (PySem.W.isFn K (.ref (A_fYm K)) = true), decide (PySem.W.findIn K (.ref (A_CxW K)) "__init__" = some (some (.ref (A_fIW K)))), decide (PySem.W.isFn K (.ref (A_fIW K)) = true), decide (PySem.W.findIn K (.ref (A_CxM K)) "__init__" = some (some (.ref (A_fIM K)))), decide (PySem.W.isFn K (.ref (A_fIM K)) = true), decide (PySem.W.findIn K (.ref (A_CxT K)) "__init__" = some (some (.ref (A_fIT K)))), decide (PySem.W.isFn K (.ref (A_fIT K)) = true), decide (PySem.W.findIn K (.ref (A_CxG K)) "__init__" = some (some (.ref (A_fIG K)))), decide (PySem.W.isFn K (.ref (A_fIG K)) = true), decide (PySem.W.findIn K (.ref (A_CxNb K)) "__init__" = some (some (.ref (A_fINb K)))), decide (PySem.W.isFn K (.ref (A_fINb K)) = true), decide (PySem.W.specialIn K (.builtin "object.__class__") "__get__" = some (some (.builtin "getset_descriptor.__get__"))), decide (PySem.W.takesIn K (.builtin "object.__class__") = some true), HX.excB K (A_CxW K) [.ref (A_CIn K), .type "ValueError", .type "Exception", .type "BaseException", .type "object"] "ValueError.__new__", decide (PySem.W.findIn K (.ref (A_CxW K)) "__setattr__" = some (some (.builtin "object.__setattr__"))), decide (PySem.W.subIn K (.ref (A_CxW K)) (.type "BaseException") = some true), decide (PySem.W.typeIn K (.ref (A_CxW K)) = some (.type "type")), decide (PySem.W.keepIn K (.ref (A_CxW K)) = true), decide (PySem.W.findIn K (.ref (A_CxW K)) "value" = some none), decide (PySem.W.typeIn K (.ref (A_fIW K)) = some (.type "function")), decide (PySem.W.findIn K (.ref (A_CxW K)) "__getattribute__" = some (some (.builtin "BaseException.__getattribute__"))), decide (PySem.W.findIn K (.ref (A_CxW K)) "__getattr__" = some none), decide (PySem.W.hasDictIn K (A_CxW K) = true)]
def exH5 (K : PySem.W.Frag) : List Bool := [decide (PySem.W.findIn K (.ref (A_CxW K)) "__class__" = some (some (.builtin "object.__class__"))), decide (PySem.W.mroIn K (A_CxW K) (.type "object") = some true), HX.excB K (A_CxM K) [.ref (A_CIn K), .type "ValueError", .type "Exception", .type "BaseException", .type "object"] "ValueError.__new__", decide (PySem.W.findIn K (.ref (A_CxM K)) "__setattr__" = some (some (.builtin "object.__setattr__"))), decide (PySem.W.subIn K (.ref (A_CxM K)) (.type "BaseException") = some true), decide (PySem.W.typeIn K (.ref (A_CxM K)) = some (.type "type")), decide (PySem.W.keepIn K (.ref (A_CxM K)) = true), decide (PySem.W.findIn K (.ref (A_CxM K)) "value" = some none), decide (PySem.W.typeIn K (.ref (A_fIM K)) = some (.type "function")), decide (PySem.W.findIn K (.ref (A_CxM K)) "__getattribute__" = some (some (.builtin "BaseException.__getattribute__"))), decide (PySem.W.findIn K (.ref (A_CxM K)) "__getattr__" = some none), decide (PySem.W.hasDictIn K (A_CxM K) = true), decide (PySem.W.findIn K (.ref (A_CxM K)) "__class__" = some (some (.builtin "object.__class__"))), decide (PySem.W.mroIn K (A_CxM K) (.type "object") = some true), HX.excB K (A_CxT K) [.ref (A_CSi K), .type "ArithmeticError", .type "Exception", .type "BaseException", .type "object"] "ArithmeticError.__new__", decide (PySem.W.findIn K (.ref (A_CxT K)) "__setattr__" = some (some (.builtin "object.__setattr__"))), decide (PySem.W.subIn K (.ref (A_CxT K)) (.type "BaseException") = some true), decide (PySem.W.typeIn K (.ref (A_CxT K)) = some (.type "type")), decide (PySem.W.keepIn K (.ref (A_CxT K)) = true), decide (PySem.W.findIn K (.ref (A_CxT K)) "limit" = some none), decide (PySem.W.typeIn K (.ref (A_fIT K)) = some (.type "function")), decide (PySem.W.findIn K (.ref (A_CxT K)) "__getattribute__" = some (some (.builtin "BaseException.__getattribute__"))), decide (PySem.W.findIn K (.ref (A_CxT K)) "__getattr__" = some none), decide (PySem.W.hasDictIn K (A_CxT K) = true), decide (PySem.W.findIn K (.ref (A_CxT K)) "__class__" = some (some (.builtin "object.__class__")))]
def exH6 (K : PySem.W.Frag) : List Bool := [decide (PySem.W.mroIn K (A_CxT K) (.type "object") = some true), HX.excB K (A_CxG K) [.ref (A_CSt K), .type "LookupError", .type "Exception", .type "BaseException", .type "object"] "LookupError.__new__", decide (PySem.W.findIn K (.ref (A_CxG K)) "__setattr__" = some (some (.builtin "object.__setattr__"))), decide (PySem.W.subIn K (.ref (A_CxG K)) (.type "BaseException") = some true), decide (PySem.W.typeIn K (.ref (A_CxG K)) = some (.type "type")), decide (PySem.W.keepIn K (.ref (A_CxG K)) = true), decide (PySem.W.findIn K (.ref (A_CxG K)) "value" = some none), decide (PySem.W.typeIn K (.ref (A_fIG K)) = some (.type "function")), decide (PySem.W.findIn K (.ref (A_CxG K)) "__getattribute__" = some (some (.builtin "BaseException.__getattribute__"))), decide (PySem.W.findIn K (.ref (A_CxG K)) "__getattr__" = some none), decide (PySem.W.hasDictIn K (A_CxG K) = true), decide (PySem.W.findIn K (.ref (A_CxG K)) "__class__" = some (some (.builtin "object.__class__"))), decide (PySem.W.mroIn K (A_CxG K) (.type "object") = some true), HX.excB K (A_CxNb K) [.ref (A_CIn K), .type "ValueError", .type "Exception", .type "BaseException", .type "object"] "ValueError.__new__", decide (PySem.W.findIn K (.ref (A_CxNb K)) "__setattr__" = some (some (.builtin "object.__setattr__"))), decide (PySem.W.subIn K (.ref (A_CxNb K)) (.type "BaseException") = some true), decide (PySem.W.typeIn K (.ref (A_CxNb K)) = some (.type "type")), decide (PySem.W.keepIn K (.ref (A_CxNb K)) = true), decide (PySem.W.findIn K (.ref (A_CxNb K)) "value" = some none), decide (PySem.W.typeIn K (.ref (A_fINb K)) = some (.type "function")), decide (PySem.W.findIn K (.ref (A_CxNb K)) "__getattribute__" = some (some (.builtin "BaseException.__getattribute__"))), decide (PySem.W.findIn K (.ref (A_CxNb K)) "__getattr__" = some none), decide (PySem.W.hasDictIn K (A_CxNb K) = true), decide (PySem.W.findIn K (.ref (A_CxNb K)) "__class__" = some (some (.builtin "object.__class__"))), decide (PySem.W.mroIn K (A_CxNb K) (.type "object") = some true)]
def exH7 (K : PySem.W.Frag) : List Bool := [HX.intB K "MOST_LENGTH" 6, HX.intB K "MOST_LETTERS" 26, HX.intB K "MOST_ROWS" 20, HX.strB K "LOWERCASE" lowTxt, HX.strB K "MARKS" (Str.ofString "012"), decide (PySem.W.nsIn K mainGlobals "len" = some none), decide (PySem.W.nsIn K mainGlobals "int" = some none), decide (PySem.W.nsIn K mainGlobals "abs" = some none), decide (PySem.W.nsIn K mainGlobals "divmod" = some none), decide (PySem.W.nsIn K mainGlobals "isinstance" = some none), decide (PySem.W.nsIn K mainGlobals "bool" = some none), decide (PySem.W.nsIn K mainGlobals "str" = some none), decide (PySem.W.nsIn K mainGlobals "range" = some none), decide (PySem.W.nsIn K mainGlobals "all" = some none), decide (PySem.W.nsIn K mainGlobals "max" = some none), decide (PySem.W.nsIn K mainGlobals "min" = some none), decide (PySem.W.nsIn K mainGlobals "zip" = some none), decide (PySem.W.nsIn K mainGlobals "tuple" = some none), decide (PySem.W.nsIn K mainGlobals "enumerate" = some none), decide (PySem.W.nsIn K mainGlobals "sum" = some none), decide (PySem.W.nsIn K mainGlobals "repr" = some none), decide (PySem.W.nsIn K mainGlobals "ValueError" = some none), decide (PySem.W.plainGet K (A_CB K) Str.empty = true), decide (PySem.W.hasDictIn K (A_CB K) = true), decide (PySem.W.plainOver K (A_CB K) = true)]
def exH8 (K : PySem.W.Frag) : List Bool := [decide (PySem.W.findIn K (.ref (A_CB K)) "__setattr__" = some (some (.builtin "object.__setattr__"))), decide (PySem.W.makesIn K (A_CB K) = true), decide (PySem.W.keepIn K (.ref (A_CB K)) = true), decide (PySem.W.plainGet K (A_CH K) Str.empty = true), decide (PySem.W.hasDictIn K (A_CH K) = true), decide (PySem.W.plainOver K (A_CH K) = true), decide (PySem.W.findIn K (.ref (A_CH K)) "__setattr__" = some (some (.builtin "object.__setattr__"))), decide (PySem.W.makesIn K (A_CH K) = true), decide (PySem.W.keepIn K (.ref (A_CH K)) = true), decide (PySem.W.plainGet K (A_CM K) Str.empty = true), decide (PySem.W.hasDictIn K (A_CM K) = true), decide (PySem.W.plainOver K (A_CM K) = true), decide (PySem.W.findIn K (.ref (A_CM K)) "__setattr__" = some (some (.builtin "object.__setattr__"))), decide (PySem.W.makesIn K (A_CM K) = true), decide (PySem.W.keepIn K (.ref (A_CM K)) = true), decide (PySem.W.plainGet K (A_CG K) Str.empty = true), decide (PySem.W.hasDictIn K (A_CG K) = true), decide (PySem.W.plainOver K (A_CG K) = true), decide (PySem.W.findIn K (.ref (A_CG K)) "__setattr__" = some (some (.builtin "object.__setattr__"))), decide (PySem.W.makesIn K (A_CG K) = true), decide (PySem.W.keepIn K (.ref (A_CG K)) = true), decide (PySem.W.findIn K (.ref (A_CB K)) "letters" = some none), decide (PySem.W.findIn K (.ref (A_CB K)) "length" = some none), decide (PySem.W.findIn K (.ref (A_CB K)) "size" = some none), decide (PySem.W.findIn K (.ref (A_CB K)) "__class__" = some (some (.builtin "object.__class__")))]
def exH9 (K : PySem.W.Frag) : List Bool := [decide (PySem.W.mroIn K (A_CB K) (.type "object") = some true), decide (PySem.W.kitOne K (.ref (A_CB K)) (.ref (A_CB K)) = some true), decide (PySem.W.findIn K (.ref (A_CH K)) "board" = some none), decide (PySem.W.findIn K (.ref (A_CH K)) "rows" = some none), decide (PySem.W.findIn K (.ref (A_CM K)) "history" = some none), decide (PySem.W.findIn K (.ref (A_CM K)) "past" = some none), decide (PySem.W.findIn K (.ref (A_CG K)) "board" = some none), decide (PySem.W.findIn K (.ref (A_CG K)) "strict" = some none), decide (PySem.W.findIn K (.ref (A_CG K)) "history" = some none), decide (PySem.W.findIn K (.ref (A_CG K)) "busy" = some none), decide (PySem.W.findIn K (.ref (A_CG K)) "past" = some none), decide (PySem.W.plainGet K (A_CW K) Str.empty = true), decide (PySem.W.hasDictIn K (A_CW K) = true), decide (PySem.W.plainOver K (A_CW K) = true), decide (PySem.W.findIn K (.ref (A_CW K)) "__setattr__" = some (some (.builtin "object.__setattr__"))), decide (PySem.W.makesIn K (A_CW K) = true), decide (PySem.W.keepIn K (.ref (A_CW K)) = true), decide (PySem.W.findIn K (.ref (A_CW K)) "allowed" = some none), decide (PySem.W.findIn K (.ref (A_CW K)) "counted" = some none), decide (PySem.W.findIn K (.ref (A_CW K)) "least" = some none), decide (PySem.W.findIn K (.ref (A_CW K)) "greatest" = some none), decide (PySem.W.findIn K (.ref (A_CW K)) "known" = some none), decide (PySem.W.plainGet K (A_CD K) Str.empty = true), decide (PySem.W.hasDictIn K (A_CD K) = true), decide (PySem.W.plainOver K (A_CD K) = true)]
def exH10 (K : PySem.W.Frag) : List Bool := [decide (PySem.W.findIn K (.ref (A_CD K)) "__setattr__" = some (some (.builtin "object.__setattr__"))), decide (PySem.W.makesIn K (A_CD K) = true), decide (PySem.W.keepIn K (.ref (A_CD K)) = true), decide (PySem.W.findIn K (.ref (A_CD K)) "allowed" = some none), decide (PySem.W.findIn K (.ref (A_CD K)) "least" = some none), decide (PySem.W.findIn K (.ref (A_CD K)) "greatest" = some none), decide (PySem.W.excIn K (A_CNo K) [.type "LookupError", .type "Exception", .type "BaseException", .type "object"] "LookupError.__new__" = true), decide (PySem.W.keepIn K (.ref (A_CNo K)) = true), decide (PySem.W.subIn K (.ref (A_CNo K)) (.type "BaseException") = some true), decide (PySem.W.typeIn K (.ref (A_CNo K)) = some (.type "type")), decide (PySem.W.excIn K (A_CBu K) [.type "LookupError", .type "Exception", .type "BaseException", .type "object"] "LookupError.__new__" = true), decide (PySem.W.keepIn K (.ref (A_CBu K)) = true), decide (PySem.W.subIn K (.ref (A_CBu K)) (.type "BaseException") = some true), decide (PySem.W.typeIn K (.ref (A_CBu K)) = some (.type "type")), decide (PySem.W.exmOne K (.ref (A_CxNb K)) (.ref (A_CxNb K)) = some true), decide (PySem.W.kitOne K (.ref (A_CxNb K)) (.ref (A_CIn K)) = some true), decide (PySem.W.kitOne K (.ref (A_CxNb K)) (.ref (A_CSt K)) = some false), decide (PySem.W.kitOne K (.ref (A_CxNb K)) (.ref (A_CSi K)) = some false), decide (PySem.W.kitOne K (.ref (A_CxNb K)) (.type "ValueError") = some true), decide (PySem.W.mroIn K (A_CG K) (.type "object") = some true), decide (PySem.W.findIn K (.ref (A_CG K)) "__eq__" = some (some (.builtin "object.__eq__"))), decide (PySem.W.findIn K (.ref (A_CG K)) "__ne__" = some (some (.builtin "object.__ne__"))), decide (PySem.W.subIn K (.ref (A_CG K)) (.type "NoneType") = some false), decide (PySem.W.subIn K (.ref (A_CG K)) (.type "str") = some false), decide (PySem.W.subIn K (.type "str") (.ref (A_CG K)) = some false)]
def exH11 (K : PySem.W.Frag) : List Bool := [decide ((A_CB K) ≠ (A_CG K)), decide ((A_CH K) ≠ (A_CG K)), decide (PySem.W.notFirst K (A_CB K) (.ref (A_CG K)) = true), decide (PySem.W.notFirst K (A_CH K) (.ref (A_CG K)) = true), decide (PySem.W.subIn K (.ref (A_CB K)) (.ref (A_CG K)) = some false), decide (PySem.W.subIn K (.ref (A_CH K)) (.ref (A_CG K)) = some false), decide (PySem.W.kitOne K (.ref (A_CG K)) (.ref (A_CB K)) = some false), decide (PySem.W.kitOne K (.ref (A_CG K)) (.ref (A_CH K)) = some false), decide (PySem.W.kitOne K (.ref (A_CH K)) (.ref (A_CB K)) = some false), decide (PySem.W.kitOne K (.type "NoneType") (.ref (A_CB K)) = some false), decide (PySem.W.kitOne K (.type "str") (.ref (A_CB K)) = some false), decide (PySem.W.kitOne K (.type "tuple") (.ref (A_CB K)) = some false), decide (PySem.W.kitOne K (.type "list") (.ref (A_CB K)) = some false), decide (PySem.W.kitOne K (.type "int") (.ref (A_CB K)) = some false), decide (PySem.W.kitOne K (.type "bool") (.ref (A_CB K)) = some false), decide (PySem.W.kitOne K (.type "dict") (.ref (A_CB K)) = some false), decide (PySem.W.findIn K (.ref (A_CG K)) "__class__" = some (some (.builtin "object.__class__"))), decide (PySem.W.findIn K (.ref (A_CH K)) "__class__" = some (some (.builtin "object.__class__"))), decide (PySem.W.mroIn K (A_CH K) (.type "object") = some true), decide (PySem.W.kitOne K (.ref (A_CH K)) (.ref (A_CH K)) = some true), decide (PySem.W.findIn K (.ref (A_CH K)) "__ne__" = some (some (.builtin "object.__ne__"))), decide (PySem.W.findIn K (.ref (A_CH K)) "__bool__" = some none), decide (PySem.W.kitOne K (.type "tuple") (.ref (A_CH K)) = some false), decide (PySem.W.notFirst K (A_CH K) (.type "tuple") = true), decide (PySem.W.findIn K (.ref (A_CB K)) "__ne__" = some (some (.builtin "object.__ne__")))]
def exH12 (K : PySem.W.Frag) : List Bool := [decide (PySem.W.findIn K (.ref (A_CG K)) "__bool__" = some none)]
def exH (K : PySem.W.Frag) : Bool := HX.allT (exH0 K) && HX.allT (exH1 K) && HX.allT (exH2 K) && HX.allT (exH3 K) && HX.allT (exH4 K) && HX.allT (exH5 K) && HX.allT (exH6 K)
def exI (K : PySem.W.Frag) : Bool := HX.allT (exH7 K) && HX.allT (exH8 K) && HX.allT (exH9 K) && HX.allT (exH10 K) && HX.allT (exH11 K) && HX.allT (exH12 K)
def namesH0 : List PySem.Str := ["_wall", "__name__", "InputError", "NotABoard", "InvalidLetters", "InvalidLength", "InvalidWord", "InvalidMarks", "InvalidNumber", "InvalidPlace", "InvalidRows", "InvalidDeeds", "StateError", "NoWord", "Busy", "GuessNotLeft", "SizeError", "TooManyRows", "MOST_LENGTH", "MOST_LETTERS", "MOST_ROWS", "MARKS", "is_integer_within", "is_text_over", "is_word", "are_marks", "is_row", "check_word", "check_marks", "LOWERCASE"]
def namesH1 : List PySem.Str := ["Board", "is_alphabet", "count_words", "check_board", "Bounds", "marks_given", "is_in_order", "Words", "counted_letters", "common_letters", "has_word", "marks_of", "History", "check_rows", "check_word_left", "Moment", "Game", "is_deed", "check_deeds", "_law_well", "_law_draw", "_law_one", "_law_signs", "_law_text", "_law_reply", "_law_story", "_law_refused", "_law_shown", "_law_right"]
def namesH : List PySem.Str := namesH0 ++ namesH1
abbrev RH : PySem.W.OpenRow := PySem.W.OpenLaw.row PySem.Challenge.rw_guessmarks_k61_games_made
def asH : List Addr := mainGlobals :: List.range 1100
abbrev hkH : PySem.W.Hook := HX.hookA asH fnH tfH exH exI
def obH (s : PySem.W.SharedT) : HX.AlA := HX.obsA asH fnH tfH exH exI (HandSHeadRun.getT s)
theorem obH_eq (s : PySem.W.SharedT) : obH s = hkH.obs s.abs := HX.obsA_eq (HandSHeadRun.getT_eq s)
noncomputable abbrev endH (w : World) (os : OsState) := HX.endW RH 12000 w os
abbrev viewH : Program := PySem.W.view RH.prog [67]
abbrev KH (s : PySem.W.SharedT) : PySem.W.Frag := He.frT (HandSHeadRun.getT s) asH
theorem run1 (w : World) (os : OsState) : (endH w os).map (fun s => HandSHeadRun.looksF RH.prog (PySem.W.boot_heap w.params) s.abs) = some true := by kernel_rfl
theorem run2 (w : World) (os : OsState) : (endH w os).map (fun s => HX.seenW RH viewH namesH s) = some (PySem.W.openGood viewH namesH) := by kernel_rfl
theorem run3 (w : World) (os : OsState) : (endH w os).map (fun s => exH (KH s)) = some true := by kernel_rfl
theorem run4 (w : World) (os : OsState) : (endH w os).map (fun s => exI (KH s)) = some true := by kernel_rfl
theorem run5a (w : World) (os : OsState) : (endH w os).map (fun s => fnHa.all fun d => d.ok (KH s)) = some true := by kernel_rfl
theorem run5b (w : World) (os : OsState) : (endH w os).map (fun s => (fnHb.all fun d => d.ok (KH s)) && He.tabsB (HandSHeadRun.getT s) tfH (KH s)) = some true := by kernel_rfl
theorem e5H (s : PySem.W.SharedT) : ((fnH.all fun d => d.ok (KH s)) && He.tabsB (HandSHeadRun.getT s) tfH (KH s)) = ((fnHa.all fun d => d.ok (KH s)) && ((fnHb.all fun d => d.ok (KH s)) && He.tabsB (HandSHeadRun.getT s) tfH (KH s))) := by
  generalize KH s = k
  generalize He.tabsB (HandSHeadRun.getT s) tfH k = t
  unfold fnH
  rw [List.all_append, Bool.and_assoc]
theorem e6H (s : PySem.W.SharedT) : (fnH.map fun d => He.fnW (KH s) d.at_) = (fnHa.map fun d => He.fnW (KH s) d.at_) ++ (fnHb.map fun d => He.fnW (KH s) d.at_) := by
  generalize KH s = k
  unfold fnH
  rw [List.map_append]
theorem run5 (w : World) (os : OsState) : (endH w os).map (fun s => (fnH.all fun d => d.ok (KH s)) && He.tabsB (HandSHeadRun.getT s) tfH (KH s)) = some true := by
  have a := run5a w os
  have b := run5b w os
  generalize endH w os = x at a b ⊢
  refine comb2 a b ?_
  intro s
  exact e5H s
theorem run6a (w : World) (os : OsState) : (endH w os).map (fun s => fnHa.map fun d => He.fnW (KH s) d.at_) = some (fnHa.map He.DefD.val) := by kernel_rfl
theorem run6b (w : World) (os : OsState) : (endH w os).map (fun s => fnHb.map fun d => He.fnW (KH s) d.at_) = some (fnHb.map He.DefD.val) := by kernel_rfl
theorem run6 (w : World) (os : OsState) : (endH w os).map (fun s => fnH.map fun d => He.fnW (KH s) d.at_) = some (fnH.map He.DefD.val) := by
  have a := run6a w os
  have b := run6b w os
  generalize endH w os = x at a b ⊢
  refine comb3 a b ?_ ?_
  · intro s
    exact e6H s
  · unfold fnH
    rw [List.map_append]
theorem runH (w : World) : HandSHeadRun.RunEq RH (PySem.W.view RH.prog [67]) hkH obH 12000 namesH w := by
  unfold HandSHeadRun.RunEq
  intro os
  exact HX.run_all (x := endH w os) (fun t => (t.1, t.2.1, t.2.2.1, t.2.2.2.1, t.2.2.2.2.1, t.2.2.2.2.2)) (run1 w os) (run2 w os) (run3 w os) (run4 w os) (run5 w os) (run6 w os) (fun _ => rfl) rfl
end Gm
set_option maxHeartbeats 8000000
namespace PySem.W
open PySem PySem.Spec PySem.Calls PyProof.Rows Builtin
section
variable {prog : Program} {w : World} {M : Model} {A : Around} {E : Value → Shared → Prop} {s : Shared} {K : Frag} {x C f L : Addr} {ox : Obj} {od : Option Obj} {h₀ : Heap} {m : Str → Option Value} {b tb : Value}
theorem gm_ifBound {name : Str} {id : String} {args : List Value} {Q : Option Value → Shared → Prop} (X : K.In s.heap) (I : InstAt s.heap x ox C od) (hs : findIn K (.ref C) name = some (some (.builtin id)))
    (hb : ∀ self, bindSpecial (.builtin id) self = pure (.builtin id, [self])) (h : wpAny M A (call (.builtin id) (.ref x :: args)) (fun v => Q (some v)) E s) : wpAny M A (callSpecialIfBound? (.ref x) name args) Q E s := by
  simp only [callSpecialIfBound?, bindSpecialIfBound?]
  refine wpAny_holding <| wpAny_bind <| wpAny_bind <| wpAny_bind <| I.type.here <| (looks_findIn X hs).here ?_
  refine wpAny_bind <| wpAny_askSetting <| wpAny_ite ?_
  have z : wpAny M A (call (.builtin id) ([.ref x] ++ args) >>= fun v => pure (some v)) Q E s := wpAny_bind <| wpAny_mono h (fun v s' h' => wpAny_pure h') fun _ _ h' => h'
  split
  · exact wpAny_bind <| (Looks.of_pure (hb _)).here <| wpAny_pure z
  · exact wpAny_tryCatch <| wpAny_bind <| (Looks.of_pure (hb _)).here <| wpAny_pure z
def NeBack (Q : Value → Shared → Prop) (v : Value) (s' : Shared) : Prop := ∃ r, v = .bool r ∧ Q (.bool (!r)) s'
theorem gm_objNe {Q : Value → Shared → Prop} (hu : A.in1.units < cLine) (X : K.In s.heap) (I : InstAt s.heap x ox C od) (hm : mroIn K C (.type "object") = some true) (hs : findIn K (.ref C) "__eq__" = some (some (.ref f))) (hf : isFn K (.ref f) = true)
    (h : wpAny (model prog w) A.in1 (call (.ref f) [.ref x, b]) (NeBack Q) E s) : wpAny (model prog w) A (call (.builtin "object.__ne__") [.ref x, b]) Q E s := by
  refine wpAny_call <| codeAny_call_builtin PySem.F.cmp_object.ne.plain PySem.F.cmpEntry_ne <| check_slot (owner := "object") (n := "__ne__") PySem.F.cmpKind_ne PySem.F.cmpSplit_ne (I.type.andThen (looks_mroIn X hm)) (PySem.F.cmpArgs_ne _ _) ?_
  unfold Builtin.«object.__ne__»
  refine wpAny_bind (m := slotArgs "__ne__" 1 _) <| wpAny_pure ?_
  refine wpAny_bind (m := cRoomFor _ _) <| wpAny_cRoomFor hu ?_
  refine wpAny_bind (m := callSpecialIfBound? (.ref x) (Str.ofString "__eq__") _) <| ifBound_K X I hs hf <| wpAny_mono h (fun r s' hq => ?_) fun _ _ y => y
  obtain ⟨r, rfl, hq⟩ := hq
  refine wpAny_bind <| wpAny_truthy_bool ?_
  exact wpAny_pure hq
theorem gm_ne {Q : Value → Shared → Prop} (hu : A.units < cLine) (hu1 : A.in1.units < cLine) (X : K.In s.heap) (I : InstAt s.heap x ox C od) (hb : Looks (model prog w) s.heap (typeOf b) tb) (hn : notFirst K C tb = true)
    (hN : findIn K (.ref C) "__ne__" = some (some (.builtin "object.__ne__"))) (hm : mroIn K C (.type "object") = some true)
    (hs : findIn K (.ref C) "__eq__" = some (some (.ref f))) (hf : isFn K (.ref f) = true)
    (h : wpAny (model prog w) A.in1 (call (.ref f) [.ref x, b]) (NeBack Q) E s) : wpAny (model prog w) A (richCompare .NotEq (.ref x) b) Q E s := by
  have one : wpAny (model prog w) A (tryCompare (.ref x) (cmpInfo .NotEq).2.1 b) (fun r s' => ∃ v, r = some v ∧ Q v s') E s := by
    unfold tryCompare
    refine wpAny_bind <| gm_ifBound X I hN PySem.F.cmp_object.ne.bind ?_
    refine wpAny_mono (gm_objNe (Q := fun v s' => (∃ r, v = .bool r) ∧ Q v s') hu1 X I hm hs hf (wpAny_mono h (fun v s' hv => ?_) fun _ _ e => e)) (fun v s' hv => ?_) fun _ _ e => e
    · obtain ⟨r, e, hv⟩ := hv
      exact ⟨r, e, ⟨_, rfl⟩, hv⟩
    · obtain ⟨⟨r, rfl⟩, hv⟩ := hv
      exact wpAny_pure ⟨_, rfl, hv⟩
  unfold richCompare
  simp only [oneThing_ref]
  refine wpAny_holding <| wpAny_bind <| wpAny_cRoomFor hu ?_
  refine wpAny_bind <| I.type.here <| wpAny_bind <| hb.here ?_
  split
  · rename_i q
    have e : subIn K tb (.ref C) = some false := by
      rcases Bool.or_eq_true_iff.mp hn with e | e
      · rw [beq_iff_eq.mp e] at q
        simp at q
      · exact beq_iff_eq.mp e
    refine wpAny_bind <| (looks_subIn X e).here ?_
    simp only [Bool.false_eq_true, if_false]
    refine wpAny_bind <| wpAny_mono one (fun r s' z => ?_) fun _ _ e => e
    obtain ⟨v, rfl, hq⟩ := z
    exact wpAny_pure hq
  · refine wpAny_bind (wpAny_pure ?_)
    simp only [Bool.false_eq_true, if_false]
    refine wpAny_bind <| wpAny_mono one (fun r s' z => ?_) fun _ _ e => e
    obtain ⟨v, rfl, hq⟩ := z
    exact wpAny_pure hq
end
end PySem.W

namespace L2
open PySem PySem.Spec PyProof.Rows
section
variable {X : Cx} {n : Nat} {pins : List (Addr × Obj)} {σ : St} {H : Hp} {s : Shared}
theorem gm_call {A : Around} {CX : CXT} {f : Addr} {fd : FuncData} {ps : List Str} {sp : Sp} {E : XK} {vs : List V} {us : List Value} {Q : VK} (sb : Sub X n A) (I : Inv X pins σ H s) (F : FnOk X.prog X.w X.K X.mg X.base CX n f fd ps sp)
    (hb : Binds X.K fd ps []) (hx : Passes CX X E) (r2 : Vals vs us) (hsp : sp vs H Q E) : wpAny (model X.prog X.w) A (call (.ref f) us) (EP X pins σ Q) X.xe s := by
  have e0 : Env0 X.prog X.w X.K X.mg X.base A X.stack s H := by
    have e := I.env0
    exact ⟨by rw [sb.fr]; exact e.frames, e.mod, e.bs, e.bsz, e.funs, e.frf, e.hok, e.bare⟩
  have hl := F.len _ _ _ _ hsp
  have hl2 : us.length = ps.length := by rw [← r2.length]; exact hl
  refine wpAny_call <| codeAny_mono (F.run A X.stack s H ⟨us, []⟩ us vs Q E sb.room e0 (by
    have := hb s us I.kIn (by simpa using hl2)
    simpa using this) r2 hsp) fun r s' hq => ?_
  cases r with
  | error e => exact hx pins σ H s e s' I hq
  | ok fl =>
    cases fl with
    | ret w => exact I.after hq
    | next => exact hq.elim
    | brk => exact hq.elim
    | cont => exact hq.elim
/-- x == y, x != y by the class's own == -/
def rOwn (K : PySem.W.Frag) (C : Addr) (sp : Sp) (E : XK) (g : Bool → Bool) : R2 := fun x y H Q => ∃ a dx fs t, x = .ref a ∧ H a = some (.ins C dx fs) ∧ TyX K H y t ∧ PySem.W.notFirst K C t = true ∧ sp [.ref a, y] H (fun v H' => ∃ r, v = .bl r ∧ Q (.bl (g r)) H') E
theorem op_eqOwn {CX : CXT} {C f : Addr} {fd : FuncData} {ps : List Str} {sp : Sp} {E : XK} (hr : Room n X.A) (F : FnOk X.prog X.w X.K X.mg X.base CX n f fd ps sp) (hs : PySem.W.findIn X.K (.ref C) "__eq__" = some (some (.ref f))) (hf : PySem.W.isFn X.K (.ref f) = true)
    (hb : Binds X.K fd ps []) (hx : Passes CX X E) : OpR X (compareOp .Eq) (rOwn X.K C sp E id) := by
  intro pins s σ H x y u v Q I rx ry d
  obtain ⟨a, dx, fs, t, rfl, ha, ty, hn, hsp⟩ := d
  cases rx
  obtain ⟨mA, J, _⟩ := ins_get I.hok ha
  obtain ⟨od, J, _⟩ := J.look
  obtain ⟨m, hF⟩ := I.fr
  obtain ⟨Pv, Z, pv, _⟩ := kit_of I ry ty
  refine PySem.W.cmp_K (op := .Eq) hr.units0 hF I.ok.mod.kin J (Z.ty _ _ I.kIn pv) hn hs hf ?_
  refine wpAny_mono (gm_call ⟨hr, rfl⟩ I F hb hx (vs := [.ref a, y]) (us := [.ref a, v]) (.cons rfl (.cons ry .nil)) hsp) (fun z s' hz => ?_) fun _ _ e => e
  obtain ⟨z', H', I', rz, r, rfl, q⟩ := hz
  cases rz
  exact ⟨.bl r, H', I', rfl, q⟩
theorem op_neOwn {CX : CXT} {C f : Addr} {fd : FuncData} {ps : List Str} {sp : Sp} {E : XK} (hr : Room (n + 1) X.A) (F : FnOk X.prog X.w X.K X.mg X.base CX n f fd ps sp) (hs : PySem.W.findIn X.K (.ref C) "__eq__" = some (some (.ref f))) (hf : PySem.W.isFn X.K (.ref f) = true)
    (hN : PySem.W.findIn X.K (.ref C) "__ne__" = some (some (.builtin "object.__ne__"))) (hm : PySem.W.mroIn X.K C (.type "object") = some true)
    (hb : Binds X.K fd ps []) (hx : Passes CX X E) : OpR X (compareOp .NotEq) (rOwn X.K C sp E not) := by
  intro pins s σ H x y u v Q I rx ry d
  obtain ⟨a, dx, fs, t, rfl, ha, ty, hn, hsp⟩ := d
  cases rx
  obtain ⟨mA, J, _⟩ := ins_get I.hok ha
  obtain ⟨od, J, _⟩ := J.look
  obtain ⟨Pv, Z, pv, _⟩ := kit_of I ry ty
  refine PySem.W.gm_ne hr.units0 hr.in1.units0 I.kIn J (Z.ty _ _ I.kIn pv) hn hN hm hs hf ?_
  refine wpAny_mono (gm_call ⟨hr.in1, rfl⟩ I F hb hx (vs := [.ref a, y]) (us := [.ref a, v]) (.cons rfl (.cons ry .nil)) hsp) (fun z s' hz => ?_) fun _ _ e => e
  obtain ⟨z', H', I', rz, r, rfl, q⟩ := hz
  cases rz
  exact ⟨_, rfl, .bl (!r), H', I', rfl, q⟩
/-- str(x), repr(x) by the class's own -/
def rTxt (C : Addr) (sp : Sp) (E : XK) : List V → Hp → VK → Prop := fun xs H Q => ∃ a dx fs, xs = [.ref a] ∧ H a = some (.ins C dx fs) ∧ sp [.ref a] H (fun v H' => ∃ r, v = .str r ∧ Q (.str r) H') E
theorem call_reprOwn {CX : CXT} {C f : Addr} {fd : FuncData} {ps : List Str} {sp : Sp} {E : XK} (hr : Room (n + 1) X.A) (F : FnOk X.prog X.w X.K X.mg X.base CX n f fd ps sp) (hs : PySem.W.findIn X.K (.ref C) "__repr__" = some (some (.ref f))) (hf : PySem.W.isFn X.K (.ref f) = true)
    (hb : Binds X.K fd ps []) (hx : Passes CX X E) : CallR X (.builtin "repr") (rTxt C sp E) := by
  intro pins s σ H xs us Q I r h
  obtain ⟨a, dx, fs, rfl, ha, hsp⟩ := h
  obtain ⟨mA, J, _⟩ := ins_get I.hok ha
  obtain ⟨od, J, _⟩ := J.look
  obtain ⟨m, hF⟩ := I.fr
  cases r with
  | cons r1 r2 =>
    cases r2
    cases r1
    refine PySem.W.repr_K hr.in1.units0 hF I.ok.mod.kin J hs hf ?_
    refine wpAny_mono (gm_call ⟨hr.in1, rfl⟩ I F hb hx (vs := [.ref a]) (us := [.ref a]) (.cons rfl .nil) hsp) (fun z s' hz => ?_) fun _ _ e => e
    obtain ⟨z', H', I', rz, r, rfl, q⟩ := hz
    obtain ⟨t, rfl⟩ := rz
    exact ⟨.str r, H', I', ⟨_, rfl⟩, q⟩
theorem call_strOwn {CX : CXT} {C f : Addr} {fd : FuncData} {ps : List Str} {sp : Sp} {E : XK} (hr : Room (n + 2) X.A) (F : FnOk X.prog X.w X.K X.mg X.base CX n f fd ps sp) (hs : PySem.W.findIn X.K (.ref C) "__str__" = some (some (.ref f))) (hf : PySem.W.isFn X.K (.ref f) = true)
    (hb : Binds X.K fd ps []) (hx : Passes CX X E) : CallR X (.type "str") (rTxt C sp E) := by
  intro pins s σ H xs us Q I r h
  obtain ⟨a, dx, fs, rfl, ha, hsp⟩ := h
  obtain ⟨mA, J, _⟩ := ins_get I.hok ha
  obtain ⟨od, J, _⟩ := J.look
  cases r with
  | cons r1 r2 =>
    cases r2
    cases r1
    refine PySem.W.kso_call hr.in1.in1.units0 I.kIn J hs hf ?_
    refine wpAny_mono (gm_call ⟨hr.in1.in1, rfl⟩ I F hb hx (vs := [.ref a]) (us := [.ref a]) (.cons rfl .nil) hsp) (fun z s' hz => ?_) fun _ _ e => e
    obtain ⟨z', H', I', rz, r, rfl, q⟩ := hz
    obtain ⟨t, rfl⟩ := rz
    exact ⟨.str r, H', I', ⟨_, rfl⟩, q⟩
/-- an instance without __bool__ and __len__ is true -/
def tTru (C : Addr) (ta : TE) : TT := fun σ H Q => ta σ H fun x H' => ∃ a dx fs, x = .ref a ∧ H' a = some (.ins C dx fs) ∧ Q true H'
theorem pt_inst {a : Expr} {ta : TE} {C : Addr} (hb : PySem.W.findIn X.K (.ref C) "__bool__" = some none) (hl : PySem.W.findIn X.K (.ref C) "__len__" = some none) (ha : PE X a ta) (he : ∀ whole, isTrue a X.env whole = (do let v ← whole; standAt a.pos; holding [v] (truthy v))) :
    PT X a (tTru C ta) := by
  refine ⟨fun pins s σ H Q I h => ?_⟩
  refine isTrue_plain (thn (ha.run pins s σ H _ I h) fun v s1 hh => ?_) (he _)
  obtain ⟨x, H1, I1, r1, p, dx, fs, rfl, hp, q⟩ := hh
  cases r1
  obtain ⟨mA, J, _⟩ := ins_get I1.hok hp
  obtain ⟨od, J, _⟩ := J.look
  obtain ⟨m, hF⟩ := I1.fr
  exact PySem.W.truthy_K0 hF I1.ok.mod.kin J hb hl ⟨H1, I1, q⟩
end
end L2

namespace Gm
open PySem L2



/-- three ints stand at p -/
def BowlAt (H : Hp) (p : Addr) : Prop := ∃ x y z : Int, H p = some (.lst [.int x, .int y, .int z])
/-- all but p stands as it stood, and p is a bowl -/
def Stir (p : Addr) (H H' : Hp) : Prop := (∀ b o, b ≠ p → H b = some o → H' b = some o) ∧ BowlAt H' p
theorem Stir.trans {p : Addr} {H H1 H2 : Hp} (a : Stir p H H1) (b : Stir p H1 H2) : Stir p H H2 := ⟨fun c o n h => b.1 c o n (a.1 c o n h), b.2⟩
theorem Stir.same {p : Addr} {H H1 H2 : Hp} (a : Stir p H H1) (b : Same H1 H2) : Stir p H H2 := ⟨fun c o n h => b _ _ (a.1 c o n h), let ⟨x, y, z, h⟩ := a.2; ⟨x, y, z, b _ _ h⟩⟩
theorem Stir.refl {p : Addr} {H : Hp} (h : BowlAt H p) : Stir p H H := ⟨fun _ _ _ h => h, h⟩
theorem same_upd {H : Hp} {p : Addr} {o : HO} (h : H p = none) : Same H (upd H p o) := fun b u e => by rw [upd_ne (ne_of_none e h)]; exact e

theorem stir_upd (H : Hp) (p : Addr) (x y z : Int) : Stir p H (upd H p (.lst [.int x, .int y, .int z])) := ⟨fun b o n e => by rw [upd_ne n]; exact e, _, _, _, upd_same⟩
def spBowl (K : PySem.W.Frag) : Sp := fun vs H Q _ => ∃ (a : Addr) (ns : List Int) (k : Int), vs = [.ref a, .int k] ∧ SqL K H a (ns.map V.int) ∧ ns.length ≤ 63 ∧ 0 ≤ k ∧
  ∀ H' p, Same H H' → H p = none → BowlAt H' p → Q (.ref p) H'
def spDip : Sp := fun vs H Q _ => ∃ (p : Addr) (m : Int), vs = [.ref p, .int m] ∧ BowlAt H p ∧ 0 < m ∧ m < 1073741824 ∧
  ∀ H' d, Stir p H H' → 0 ≤ d → d < m → Q (.int d) H'

structure TxB (mg : Str → Option Value) : Prop where
  len : mg "len" = none
  int : mg "int" = none
  abs : mg "abs" = none
  divmod : mg "divmod" = none

theorem int_at {ns : List Int} {k : Int} (h0 : 0 ≤ k) (h : k < ns.length) : ∃ u, atI (ns.map V.int) k = some (V.int u) := by
  obtain ⟨j, rfl⟩ := Int.eq_ofNat_of_zero_le h0
  have hj : j < ns.length := by omega
  exact ⟨ns[j], atI_nat (by rw [List.getElem?_map, List.getElem?_eq_getElem hj]; rfl)⟩

theorem cut_int {ns : List Int} {lo hi : Option Int} {i : Nat} {y : V} (h : (cutV (ns.map V.int) lo hi)[i]? = some y) : ∃ u, y = V.int u := by
  have hm := List.mem_of_getElem? h
  unfold cutV at hm
  have := List.mem_of_mem_drop (List.mem_of_mem_take hm)
  obtain ⟨u, _, rfl⟩ := List.mem_map.mp this
  exact ⟨u, rfl⟩
theorem pos1 : (0 : Int) < 2147483629 := by decide
theorem cutIfA {tA : TT} {ta tb : TE} {g : TG} {tz : TS} {D : Ends} {σ : St} {H : Hp} (C : V → Prop) (k : ∀ v, C v → g v σ H ({ D with nx := tz D } : Ends).nx) (h : ∀ Q : V → Hp → Prop, (∀ v, C v → Q v H) → tIf tA ta tb σ H Q) : ({ D with nx := tSeq (tAsg (tIf tA ta tb) g) tz D } : Ends).nx σ H := h _ k
theorem cutIfV {tA : TT} {ta tb : TE} {σ : St} {H : Hp} {Q : V → Hp → Prop} (C : V → Prop) (k : ∀ v, C v → Q v H) (h : (∀ v, C v → Q v H) → tIf tA ta tb σ H Q) : tIf tA ta tb σ H Q := h k
theorem cutIf {tA : TT} {ta tb : TE} {σ : St} {H : Hp} {Q : V → Hp → Prop} (C : V → Hp → Prop) (k : ∀ v H', C v H' → Q v H') (h : (∀ v H', C v H' → Q v H') → tIf tA ta tb σ H Q) : tIf tA ta tb σ H Q := h k
section
variable {P : Program} {w : World} {K : PySem.W.Frag} {mg : Str → Option Value} {base : Heap}
abbrev nB : List Str := ["_law_script", "_law_k", "_law_own", "_law_blend", "_law_entry", "_law_deep"]
theorem scB : FnScope nB ["_law_script", "_law_k"] (defScope sWell) := ⟨rfl, rfl, rfl, by decide +kernel, rfl, by decide +kernel, by decide +kernel⟩
theorem ok_bowl {f : Addr} {fd : FuncData} (F : Fun K "_law_well" "_law_well" sWell f fd) (T : TxB mg) : FnOk P w K mg base CX0 1 f fd ["_law_script", "_law_k"] (spBowl K) := by
  refine F.ok scB (fun vs H Q E h => ?_) (fun cdv A outer s H vs Q E hr h => ?_)
  · obtain ⟨a, ns, k, rfl, _⟩ := h
    rfl
  · obtain ⟨a, ns, k, rfl, hS, hlen, h0, q⟩ := h
    refine ⟨_, pss_cons (ps_set (i := 2) scB.nd rfl (Or.inl rfl)
        (pe_ifExp (pt_cmpR op_lt (pv 1) (pe_callB call_len_seq (by rfl) T.len PySem.boot_len (pa_cons (pv 0) pa_nil)) (nomark _))
          (pe_callTy call_int1 (by rfl) T.int (by decide +kernel) (pa_cons (pe_ix ix_list (pv 0) (pv 1) (fun _ _ => rfl)) pa_nil))
          (pe_op op_add (pe_op op_mul pe_int (pv 1)) pe_int)))
      (pss_cons (ps_set (i := 3) scB.nd rfl (Or.inl rfl) (pe_op op_add pe_int (pe_op op_mul pe_int (pv 1))))
      (pss_cons (ps_for PassesOwn.never rfl (pi_list (pe_slice sl_list (pv 0) po_none (po_some pe_int))) (pg_name (i := 4) scB.nd rfl (Or.inl rfl))
          (pss_one (ps_set (i := 3) scB.nd rfl (Or.inl rfl)
            (pe_op op_mod (pe_callTy call_int1 (by rfl) T.int (by decide +kernel) (pa_cons (pe_op op_add (pe_op op_mul (pv 3) pe_int)
              (pe_op op_mod (pe_callTy call_int1 (by rfl) T.int (by decide +kernel) (pa_cons (pv 4) pa_nil)) pe_int)) pa_nil)) pe_int))))
      (pss_cons (ps_set (i := 5) scB.nd rfl (Or.inl rfl) (pe_ifExp (PW.pt (pw_or (pt_cmpR op_lt (pv 2) pe_int (nomark _)) (pw_or1 (pt_cmpR op_ge (pv 2) (pe_op op_pow pe_int pe_int) (nomark _)))))
            (pe_callB call_abs (by rfl) T.abs (by decide +kernel) (pa_cons (pv 2) pa_nil)) pe_int))
      (pss_one (ps_ret (pe_lst (pa_cons (pe_op op_mod (pe_callTy call_int1 (by rfl) T.int (by decide +kernel) (pa_cons (pe_op op_add (pv 3) (pe_op op_mod (pe_callTy call_int1 (by rfl) T.int (by decide +kernel) (pa_cons (pv 2) pa_nil)) pe_int)) pa_nil)) pe_int)
        (pa_cons (pv 5) (pa_cons pe_int pa_nil))))))))), ?_⟩
    refine cutIfV (fun v => ∃ u, v = .int u) ?_ (fun c => ?_)
    · rintro _ ⟨u, rfl⟩
      refine ⟨_, rfl, _, _, rfl, rfl, .inl ⟨by decide, by decide⟩, _, _, rfl, rfl, ?_⟩
      refine ⟨_, rfl, 63, rfl, a, _, rfl, hS, fun pl hpl => ?_⟩
      have s1 := same_upd (o := .lst (cutV (ns.map V.int) none (some 63))) hpl
      refine ⟨pl, rfl, ⟨_, SqL.of upd_same⟩, for_list (K := K) (a := pl) (xs := cutV (ns.map V.int) none (some 63))
        (fun i σ H' => H' = upd _ pl (.lst (cutV (ns.map V.int) none (some 63))) ∧ ∃ (z : Int) (v : Option V), σ = [some (.ref a), some (.int k), some (.int u), some (.int z), v, none]) ⟨rfl, _, _, rfl⟩ ?_ ?_ ?_⟩
      · rintro i σ H' _ ⟨rfl, _⟩
        exact SqL.of upd_same
      · rintro i y σ H' hi ⟨rfl, z, v, rfl⟩
        obtain ⟨e, rfl⟩ := cut_int hi
        refine ⟨_, rfl, _, _, rfl, rfl, .inr ⟨by decide, by decide⟩, ?_⟩
        refine ⟨_, rfl, .inl ⟨_, rfl, _, _, rfl, rfl, pos1, _, _, rfl, rfl, .inl ⟨_, rfl, _, _, rfl, rfl, pos1, rfl, _, _, rfl⟩⟩⟩
      · rintro σ H' ⟨rfl, z, v, rfl⟩
        refine cutIfA (fun v => ∃ u, v = .int u) ?_ (fun Q' c => ?_)
        · rintro _ ⟨y, rfl⟩
          refine ⟨_, rfl, _, rfl, .inl ⟨_, rfl, _, _, rfl, rfl, pos1, _, _, rfl, rfl, .inl ⟨_, rfl, _, _, rfl, rfl, pos1, _, rfl, ?_⟩⟩⟩
          refine ⟨by show 3 ≤ sizeLine; decide, fun p hp => ?_⟩
          refine q _ p (s1.trans (same_upd hp)) (s1.free hp) ⟨_, _, _, upd_same⟩
        · refine ⟨_, rfl, _, _, rfl, rfl, _, rfl, ?_⟩
          refine ite2 (fun h => ?_) (fun h => ?_)
          · refine iteT ⟨_, rfl, _, rfl, c _ ⟨_, rfl⟩⟩
          · refine ⟨_, rfl, _, _, rfl, rfl, ⟨by decide, by decide, by decide⟩, _, _, rfl, rfl, _, rfl, ?_⟩
            refine ite2 (fun h => ?_) (fun h => ?_)
            · exact ⟨_, rfl, _, rfl, c _ ⟨_, rfl⟩⟩
            · exact c _ ⟨_, rfl⟩
    · refine ⟨_, rfl, _, rfl, a, _, rfl, .inl hS, _, _, rfl, rfl, _, rfl, ?_⟩
      refine ite2 (fun h => ?_) (fun h => ?_)
      · have h' : k < ns.length := by
          have := of_decide_eq_true h
          rw [List.length_map] at this
          exact this
        obtain ⟨e, he⟩ := int_at h0 h'
        exact ⟨_, rfl, _, rfl, a, _, _, _, rfl, rfl, hS, he, .inl ⟨_, rfl, c _ ⟨_, rfl⟩⟩⟩
      · exact ⟨_, rfl, _, _, rfl, rfl, .inl ⟨by decide, by decide⟩, _, _, rfl, rfl, c _ ⟨_, rfl⟩⟩
abbrev nD : List Str := ["_law_well_here", "_law_many", "_law_digit"]
theorem scD : FnScope nD ["_law_well_here", "_law_many"] (defScope sDraw) := ⟨rfl, rfl, rfl, by decide +kernel, rfl, by decide +kernel, by decide +kernel⟩
theorem ok_dip {f : Addr} {fd : FuncData} (F : Fun K "_law_draw" "_law_draw" sDraw f fd) (T : TxB mg) : FnOk P w K mg base CX0 1 f fd ["_law_well_here", "_law_many"] spDip := by
  refine F.ok scD (fun vs H Q E h => ?_) (fun cdv A outer s H vs Q E hr h => ?_)
  · obtain ⟨p, m, rfl, _⟩ := h
    rfl
  · obtain ⟨p, m, rfl, ⟨x, y, z, hp⟩, hm0, hm1, q⟩ := h
    refine ⟨_, pss_cons (ps_asg (pe_op op_add (pe_ix ix_list (pv 0) pe_int (fun _ _ => rfl)) pe_int) (pg_sub (pv 0) pe_int set_list))
      (pss_cons (ps_if (pt_cmpR op_gt (pe_ix ix_list (pv 0) pe_int (fun _ _ => rfl)) pe_int (nomark _))
        (pss_cons (ps_asg (pe_callB call_divmod (by rfl) T.divmod (by decide +kernel) (pa_cons (pe_callTy call_int1 (by rfl) T.int (by decide +kernel) (pa_cons (pe_ix ix_list (pv 0) pe_int (fun _ _ => rfl)) pa_nil)) (pa_cons (pv 1) pa_nil)))
            (pg_tup (by rfl) (pgs_cons (pg_sub (pv 0) pe_int set_list) (pgs_cons (pg_name (i := 2) scD.nd rfl (Or.inl rfl)) pgs_nil))))
          (pss_one (ps_ret (pv 2)))) pss_nil)
      (pss_cons (ps_asg (pe_op op_mod (pe_callTy call_int1 (by rfl) T.int (by decide +kernel) (pa_cons (pe_op op_add (pe_op op_add (pe_op op_mul (pe_ix ix_list (pv 0) pe_int (fun _ _ => rfl)) pe_int)
            (pe_op op_mul (pe_op op_fdiv (pe_ix ix_list (pv 0) pe_int (fun _ _ => rfl)) pe_int) pe_int))
            (pe_op op_mul (pe_ix ix_list (pv 0) pe_int (fun _ _ => rfl)) pe_int)) pa_nil)) pe_int) (pg_sub (pv 0) pe_int set_list))
      (pss_one (ps_ret (pe_op op_mod (pe_callTy call_int1 (by rfl) T.int (by decide +kernel) (pa_cons (pe_op op_fdiv (pe_ix ix_list (pv 0) pe_int (fun _ _ => rfl)) pe_int) pa_nil)) (pv 1)))))), ?_⟩
    refine ⟨_, rfl, p, _, 2, _, rfl, rfl, SqL.of hp, rfl, _, _, rfl, rfl, _, rfl, p, _, 2, 2, rfl, rfl, hp, rfl, ?_⟩
    have h1 : upd H p (.lst [.int x, .int y, .int (z + 1)]) p = some (.lst [.int x, .int y, .int (z + 1)]) := upd_same
    refine ⟨_, rfl, p, _, 1, _, rfl, rfl, SqL.of h1, rfl, _, _, rfl, rfl, _, rfl, ?_⟩
    refine ite2 (fun h => ?_) (fun h => ?_)
    · refine ⟨_, rfl, p, _, 1, _, rfl, rfl, SqL.of h1, rfl, .inl ⟨_, rfl, _, rfl, _, _, rfl, ⟨hm0, hm1⟩, fun t ht => ?_⟩⟩
      have ntp : t ≠ p := fun e => by rw [e] at ht; exact absurd (h1.symm.trans ht) (by simp)
      refine ⟨t, _, rfl, SqT.of upd_same, rfl, _, _, rfl, _, rfl, p, _, 1, 1, rfl, rfl, ((upd_ne ntp.symm).trans h1), rfl, ?_⟩
      refine ⟨_, _, rfl, rfl, _, rfl, ?_⟩
      exact q _ _ (((stir_upd H p _ _ _).same (same_upd ht)).trans (stir_upd _ p _ _ _)) (Int.emod_nonneg _ (by omega)) (Int.emod_lt_of_pos _ hm0)
    · refine ⟨_, rfl, p, _, 0, _, rfl, rfl, SqL.of h1, rfl, _, _, rfl, rfl, .inr ⟨by decide, by decide⟩, _, rfl, p, _, 0, _, rfl, rfl, SqL.of h1, rfl, _, _, rfl, rfl, ⟨by decide, by decide⟩, _, _, rfl, rfl, .inr ⟨by decide, by decide⟩, _, _, rfl, rfl, _, rfl, p, _, 2, _, rfl, rfl, SqL.of h1, rfl, _, _, rfl, rfl, .inr ⟨by decide, by decide⟩, _, _, rfl, rfl, .inl ⟨_, rfl, _, _, rfl, rfl, pos1, _, rfl, p, _, 0, 0, rfl, rfl, h1, rfl, _, rfl, p, _, 0, _, rfl, rfl, SqL.of upd_same, rfl, _, _, rfl, rfl, ⟨by decide, by decide⟩, .inl ⟨_, rfl, _, rfl, _, _, rfl, rfl, hm0, ?_⟩⟩⟩
      exact q _ _ ((stir_upd H p _ _ _).trans (stir_upd _ p _ _ _)) (Int.emod_nonneg _ (by omega)) (Int.emod_lt_of_pos _ hm0)
end
end Gm

namespace Gm
open PySem L2



abbrev sStr : Stmt := inClass (top 32) 4



/-! ### mathematics -/

def low : List Nat := lowTxt.cps.toList
def pick (s : Str) : List Nat := low.filter fun c => decide (c ∈ s.cps.toList)
def Alph (s : Str) : Prop := 2 ≤ s.length ∧ s.length ≤ 26 ∧ s.cps.toList = pick s
instance (s : Str) : Decidable (Alph s) := by unfold Alph; infer_instance
theorem join_one (cs : List Nat) : Txt.join (Str.ofString "") (cs.map fun c => (⟨#[c]⟩ : Str)) = ⟨cs.toArray⟩ := by
  have h : (cs.map fun c => (⟨#[c]⟩ : Str)) = (cs.map fun c => [c]).map SX.S := by rw [List.map_map]; rfl
  have e : (Str.ofString "" : Str) = SX.S [] := rfl
  rw [h, e, SX.join_S]
  have j : ∀ l : List Nat, TL.joinL [] (l.map fun c => [c]) = l := by
    intro l
    induction l with
    | nil => rfl
    | cons a l ih =>
      cases l with
      | nil => rfl
      | cons b l =>
        show [a] ++ ([] ++ TL.joinL [] ((b :: l).map fun c => [c])) = a :: b :: l
        rw [ih]
        rfl
  rw [j]
theorem str_len (s : Str) : s.cps.toList.length = s.length := by simp [Str.length]
theorem take_filter {p : Nat → Bool} (l : List Nat) (i : Nat) (h : i < l.length) : (l.take (i + 1)).filter p = (l.take i).filter p ++ (if p l[i] = true then [l[i]] else []) := by
  rw [List.take_succ_eq_append_getElem h, List.filter_append]
  congr 1
  by_cases c : p l[i] = true
  · rw [if_pos c]; simp [c]
  · rw [if_neg c]; simp [c]

theorem low_len : low.length = 26 := by decide +kernel
theorem sum_one (cs : List Nat) : ((cs.map fun c => (⟨#[c]⟩ : Str)).map (·.length)).sum = cs.length := by
  induction cs with
  | nil => rfl
  | cons c cs ih =>
    rw [List.map_cons, List.map_cons, List.sum_cons, ih, List.length_cons]
    show 1 + cs.length = cs.length + 1
    omega
/-! ### promises -/
def NoInt (K : PySem.W.Frag) (t : Value) : Prop := PySem.W.kitOne K t (.type "bool") = some true ∨ (PySem.W.kitOne K t (.type "bool") = some false ∧ PySem.W.kitOne K t (.type "int") = some false)
def spWithin (K : PySem.W.Frag) : Sp := fun vs H Q _ => ∃ (v : V) (lo hi : Int), vs = [v, .int lo, .int hi] ∧
  ((∃ n, v = .int n ∧ Q (.bl (decide (lo ≤ n ∧ n ≤ hi))) H) ∨ (∃ t, TyX K H v t ∧ NoInt K t ∧ Q (.bl false) H))
def spAlpha (K : PySem.W.Frag) : Sp := fun vs H Q _ => ∃ (v : V), vs = [v] ∧
  ((∃ s, v = .str s ∧ s.length ≤ 1000 ∧ ∀ H', Same H H' → Q (.bl (decide (Alph s))) H') ∨ (∃ t, TyX K H v t ∧ PySem.W.kitOne K t (.type "str") = some false ∧ Q (.bl false) H))
def spCount : Sp := fun vs H Q _ => ∃ (m n : Int), vs = [.int m, .int n] ∧ 0 ≤ m ∧ m ≤ 26 ∧ 0 ≤ n ∧ n ≤ 6 ∧ Q (.int (m ^ n.toNat)) H
def boardF (s : Str) (n : Int) : List (Str × V) := putF "size" (.int ((s.length : Int) ^ n.toNat)) (putF "length" (.int n) (putF "letters" (.str s) []))
def BoardAt (C : Addr) (H : Hp) (p : Addr) (s : Str) (n : Int) : Prop := ∃ dx, H p = some (.ins C dx (boardF s n))
/-- all but p as it stood -/
def But (p : Addr) (H H' : Hp) : Prop := ∀ b o, b ≠ p → H b = some o → H' b = some o
def spInit (C : Addr) : Sp := fun vs H Q _ => ∃ (p dx : Addr) (s : Str) (n : Int), vs = [.ref p, .str s, .int n] ∧ Alph s ∧ 1 ≤ n ∧ n ≤ 6 ∧ H p = some (.ins C dx []) ∧
  ∀ H', But p H H' → BoardAt C H' p s n → Q .non H'
/-- what another object is, beside a board -/
def spEqB (K : PySem.W.Frag) (C : Addr) : Sp := fun vs H Q _ => ∃ (p : Addr) (s : Str) (n : Int) (y : V), vs = [.ref p, y] ∧ BoardAt C H p s n ∧ s.length ≤ 1000 ∧
  ((∃ q s' n', y = .ref q ∧ BoardAt C H q s' n' ∧ s'.length ≤ 1000 ∧ Q (.bl (decide (s = s' ∧ n = n'))) H) ∨ (∃ t, TyX K H y t ∧ PySem.W.kitOne K t (.ref C) = some false ∧ Q (.bl false) H))
def digit (n : Int) : Str := (toString n : String)
def spStr (C : Addr) : Sp := fun vs H Q _ => ∃ (p : Addr) (s : Str) (n : Int), vs = [.ref p] ∧ BoardAt C H p s n ∧ s.length ≤ 26 ∧ 1 ≤ n ∧ n ≤ 6 ∧ Q (.str (s ++ " " ++ digit n)) H
def spRepr (C : Addr) : Sp := fun vs H Q _ => ∃ (p : Addr) (s : Str) (n : Int), vs = [.ref p] ∧ BoardAt C H p s n ∧ s.length ≤ 26 ∧ 1 ≤ n ∧ n ≤ 6 ∧ Q (.str ("Board(" ++ s ++ " " ++ digit n ++ ")")) H

structure TxW (mg : Str → Option Value) : Prop where
  isi : mg "isinstance" = none
  bool : mg "bool" = none
  int : mg "int" = none
  str : mg "str" = none
  len : mg "len" = none
  range : mg "range" = none
  most : ∃ t, mg "MOST_LETTERS" = some (.int 26 t)
  mlen : ∃ t, mg "MOST_LENGTH" = some (.int 6 t)
  low : ∃ t, mg "LOWERCASE" = some (.str lowTxt t)

section
variable {P : Program} {w : World} {K : PySem.W.Frag} {mg : Str → Option Value} {base : Heap}
theorem scW : FnScope ["value", "least", "most"] ["value", "least", "most"] (defScope sWithin) := ⟨rfl, rfl, rfl, by decide +kernel, rfl, by decide +kernel, by decide +kernel⟩
theorem ok_within {f : Addr} {fd : FuncData} (F : Fun K "is_integer_within" "is_integer_within" sWithin f fd) (T : TxW mg) : FnOk P w K mg base CX0 1 f fd ["value", "least", "most"] (spWithin K) := by
  refine F.ok scW (fun vs H Q E h => ?_) (fun cdv A outer s H vs Q E hr h => ?_)
  · obtain ⟨v, lo, hi, rfl, _⟩ := h
    rfl
  · obtain ⟨v, lo, hi, rfl, h⟩ := h
    refine ⟨_, pss_cons (ps_if (PW.pt (pw_or (pt_val (pe_callB call_isi (by rfl) T.isi (by decide +kernel) (pa_cons (pv 0) (pa_cons (pe_bltn (v := .ty "bool") (by rfl) T.bool (by decide +kernel) rfl) pa_nil))))
        (pw_or1 (pt_not (pt_val (pe_callB call_isi (by rfl) T.isi (by decide +kernel) (pa_cons (pv 0) (pa_cons (pe_bltn (v := .ty "int") (by rfl) T.int (by decide +kernel) rfl) pa_nil))))))))
        (pss_one (ps_ret pe_bl)) pss_nil)
      (pss_one (ps_ret (pe_chain op_le op_le (pv 1) (pv 0) (pv 2)))), ?_⟩
    rcases h with ⟨n, rfl, q⟩ | ⟨t, ty, no, q⟩
    · refine ⟨_, rfl, _, _, _, _, _, rfl, .ty "bool", .base (.int n), kit_ty (r := false) (by decide +kernel), _, rfl, iteF ?_⟩
      refine ⟨_, rfl, _, _, _, _, _, rfl, .ty "int", .base (.int n), kit_ty (r := true) (by decide +kernel), _, rfl, ?_⟩
      refine ⟨_, rfl, _, rfl, _, _, rfl, rfl, _, rfl, ?_⟩
      refine ite2 (fun h => ?_) (fun h => ?_)
      · refine ⟨_, rfl, _, _, rfl, rfl, ?_⟩
        have e : decide (lo ≤ n ∧ n ≤ hi) = decide (n ≤ hi) := by
          have := of_decide_eq_true h
          simp [this]
        rw [e] at q
        exact q
      · have e : decide (lo ≤ n ∧ n ≤ hi) = false := by
          simp only [decide_eq_true_eq] at h
          simp [h]
        rw [e] at q
        exact q
    · rcases no with no | ⟨no, no2⟩
      · exact ⟨_, rfl, _, _, _, _, _, rfl, .ty "bool", ty, no, _, rfl, iteT q⟩
      · refine ⟨_, rfl, _, _, _, _, _, rfl, .ty "bool", ty, no, _, rfl, iteF ?_⟩
        exact ⟨_, rfl, _, _, _, _, _, rfl, .ty "int", ty, no2, _, rfl, q⟩
abbrev nA : List Str := ["letters", "letter"]
theorem scAl : FnScope nA ["letters"] (defScope sAlpha) := ⟨rfl, rfl, rfl, by decide +kernel, rfl, by decide +kernel, by decide +kernel⟩
theorem ok_alpha {f : Addr} {fd : FuncData} (F : Fun K "is_alphabet" "is_alphabet" sAlpha f fd) (T : TxW mg) : FnOk P w K mg base CX0 1 f fd ["letters"] (spAlpha K) := by
  refine F.ok scAl (fun vs H Q E h => ?_) (fun cdv A outer s H vs Q E hr h => ?_)
  · obtain ⟨v, rfl, _⟩ := h
    rfl
  · obtain ⟨v, rfl, h⟩ := h
    obtain ⟨t1, mg1⟩ := T.most
    obtain ⟨t2, mg2⟩ := T.low
    refine ⟨_, pss_cons (ps_if (PW.pt (pw_or (pt_not (pt_val (pe_callB call_isi (by rfl) T.isi (by decide +kernel) (pa_cons (pv 0) (pa_cons (pe_bltn (v := .ty "str") (by rfl) T.str (by decide +kernel) rfl) pa_nil)))))
        (pw_or1 (pt_not (pt_chain op_le op_le pe_int (pe_callB call_len_str (by rfl) T.len PySem.boot_len (pa_cons (pv 0) pa_nil)) (pe_glob (v := .int 26) (by rfl) mg1 ⟨_, rfl⟩))))))
        (pss_one (ps_ret pe_bl)) pss_nil)
      (pss_one (ps_ret (pe_cmpR op_eq (pv 0) (pe_join pe_str
        (pe_lc (own := [("letter", 1)]) (g := gName 1) (by rfl) scAl.nd (pi_str (pe_glob (v := .str lowTxt) (by rfl) mg2 ⟨_, rfl⟩)) (blkOk_by (own := [("letter", 1)]) (N := nA) (sc := defScope sAlpha) (by decide +kernel))
          (fun _ _ _ _ _ => pg_name (i := 1) scAl.nd rfl (Or.inl rfl)) (fun _ _ _ _ _ => pts_one (pt_cmpR op_in_sign (pv 1) (pv 0) rfl)) (fun _ _ _ _ _ => pv 1))) (nomark _)))), ?_⟩
    rcases h with ⟨z, rfl, hz, q⟩ | ⟨t, ty, no, q⟩
    · refine ⟨_, rfl, _, _, _, _, _, rfl, .ty "str", .base (.str z), kit_ty (r := true) (by decide +kernel), _, rfl, ?_⟩
      refine ⟨_, rfl, _, rfl, by have : sizeLine = 16777216 := sizeLine_eq; omega, _, _, rfl, rfl, _, rfl, ?_⟩
      have hf : ¬ Alph z → decide (Alph z) = false := decide_eq_false
      refine ite2 (fun h2 => ?_) (fun h2 => ?_)
      · refine ⟨_, _, rfl, rfl, _, rfl, ?_⟩
        have h2 := of_decide_eq_true h2
        refine ite2 (fun h3 => ?_) (fun h3 => ?_)
        · have n : ¬ Alph z := fun a => by
            have := a.2.1
            simp at h3
            omega
          rw [hf n] at q
          exact q _ (Same.refl H)
        · have h3 : (z.length : Int) ≤ 26 := by simpa using h3
          refine ⟨_, rfl, ⟨_, rfl⟩, lowTxt, rfl, fun D hD => ?_⟩
          refine lc_it (walk_str (z := lowTxt)) (fun i H' => Same H H' ∧ H' D = some (.lst (((low.take i).filter fun c => decide (c ∈ z.cps.toList)).map fun c => V.str ⟨#[c]⟩))) ⟨same_upd hD, upd_same⟩ (fun _ _ _ _ => trivial) ?_ ?_
          · rintro i x H1 H2 hi ⟨sm, hD1⟩ ⟨rfl, c, hc, rfl⟩
            have hi' : i < low.length := hi
            have ec : low[i] = c := by
              have : lowTxt.cps[i] = c := (Array.getElem?_eq_some_iff.mp hc).2
              exact this
            have st := take_filter (p := fun c => decide (c ∈ z.cps.toList)) low i hi'
            rw [ec] at st
            refine ⟨rfl, _, rfl, _, rfl, c, z, rfl, rfl, _, rfl, ?_⟩
            refine ite2 (fun hm => ?_) (fun hm => ?_)
            · rw [if_pos hm] at st
              refine ⟨_, rfl, _, hD1, ?_, fun b o e => ?_, ?_⟩
              · have h1 := List.length_filter_le (fun c => decide (c ∈ z.cps.toList)) (low.take i)
                have h2 : (low.take i).length ≤ i := by rw [List.length_take]; omega
                have h3 : sizeLine = 16777216 := sizeLine_eq
                rw [low_len] at hi'
                rw [List.length_map]
                omega
              · rw [upd_ne (ne_of_none e hD)]
                exact sm b o e
              · rw [upd_same, st, List.map_append]
                rfl
            · rw [if_neg hm, List.append_nil] at st
              exact ⟨sm, by rw [st]; exact hD1⟩
          · rintro H1 ⟨sm, hD1⟩
            have el : low.take lowTxt.cps.size = low := List.take_of_length_le (Nat.le_of_eq (by simp [low]))
            rw [el] at hD1
            refine ⟨_, D, (pick z).map (fun c => (⟨#[c]⟩ : Str)), rfl, rfl, .inl (SqL.of ?_), ?_, rfl, ?_⟩
            · rw [List.map_map]
              exact hD1
            · have h1 := List.length_filter_le (fun c => decide (c ∈ z.cps.toList)) low
              have h2 : (pick z).length ≤ 26 := h1
              rw [sum_one, List.length_map]
              show (pick z).length + (pick z).length * 0 ≤ 16777216
              omega
            · have e : decide (V.str z = V.str (Txt.join (Str.ofString "") ((pick z).map fun c => (⟨#[c]⟩ : Str)))) = decide (Alph z) := by
                rw [join_one]
                refine decide_eq_decide.mpr ⟨fun e => ⟨by omega, by omega, ?_⟩, fun a => ?_⟩
                · have e := V.str.inj e
                  have := congrArg (fun s : Str => s.cps.toList) e
                  simpa using this
                · have := a.2.2
                  rw [← this]
              rw [← e] at q
              exact q _ sm
      · have n : ¬ Alph z := fun a => by
          have := a.1
          simp at h2
          omega
        rw [hf n] at q
        exact ⟨_, rfl, q _ (Same.refl H)⟩
    · exact ⟨_, rfl, _, _, _, _, _, rfl, .ty "str", ty, no, _, rfl, iteT q⟩

theorem scC : FnScope ["many", "length", "total", "place"] ["many", "length"] (defScope sCount) := ⟨rfl, rfl, rfl, by decide +kernel, rfl, by decide +kernel, by decide +kernel⟩
theorem ok_count {f : Addr} {fd : FuncData} (F : Fun K "count_words" "count_words" sCount f fd) (T : TxW mg) : FnOk P w K mg base CX0 1 f fd ["many", "length"] spCount := by
  refine F.ok scC (fun vs H Q E h => ?_) (fun cdv A outer s H vs Q E hr h => ?_)
  · obtain ⟨m, n, rfl, _⟩ := h
    rfl
  · obtain ⟨m, n, rfl, m0, m1, n0, n1, q⟩ := h
    refine ⟨_, pss_cons (ps_set (i := 2) scC.nd rfl (Or.inl rfl) pe_int)
      (pss_cons (ps_for PassesOwn.never rfl (pi_range1 (by rfl) T.range (pa_cons (pv 1) pa_nil)) (pg_name (i := 3) scC.nd rfl (Or.inl rfl)) (pss_one (ps_aug (i := 2) scC.nd rfl (Or.inl rfl) (pv 0) iop_mul)))
      (pss_one (ps_ret (pv 2)))), ?_⟩
    refine ⟨_, rfl, n, rfl, by omega, by omega, for_range (n := n.toNat) (fun i σ H' => H' = H ∧ ∃ v, σ = [some (.int m), some (.int n), some (.int (m ^ i)), v]) ⟨rfl, none, by rw [Int.pow_zero]; rfl⟩ ?_ ?_⟩
    · rintro i σ H' hi ⟨rfl, v, rfl⟩
      exact ⟨_, rfl, _, rfl, _, _, rfl, rfl, .inr ⟨by omega, by omega⟩, rfl, _, by rw [Int.pow_succ]; rfl⟩
    · rintro σ H' ⟨rfl, v, rfl⟩
      exact ⟨_, rfl, q⟩
/-- a def of the top, as it is called -/
structure Df (K : PySem.W.Frag) (mg : Str → Option Value) (x : Str) (f : Addr) (fd : FuncData) (ps : List Str) : Prop where
  mg : mg x = some (.ref f)
  kp : PySem.W.keepIn K (.ref f) = true
  b : Binds K fd ps []
/-- the class Board -/
structure TxC (K : PySem.W.Frag) (mg : Str → Option Value) (C : Addr) : Prop where
  cl : Cls K C
  mgC : mg "Board" = some (.ref C)
  nL : NoAttr K C "letters"
  nN : NoAttr K C "length"
  nS : NoAttr K C "size"
  ac : PySem.W.findIn K (.ref C) "__class__" = some (some (.builtin "object.__class__"))
  gt : PySem.W.specialIn K (.builtin "object.__class__") "__get__" = some (some (.builtin "getset_descriptor.__get__"))
  tk : PySem.W.takesIn K (.builtin "object.__class__") = some true
  ob : PySem.W.mroIn K C (.type "object") = some true
  own : PySem.W.kitOne K (.ref C) (.ref C) = some true
theorem bf_eq (s : Str) (n : Int) : boardF s n = ([("letters", V.str s), ("length", V.int n), ("size", V.int ((s.length : Int) ^ n.toNat))] : List (Str × V)) := by
  have h1 : ¬ (("letters" : Str) = "length") := by decide +kernel
  have h2 : ¬ (("letters" : Str) = "size") := by decide +kernel
  have h3 : ¬ (("length" : Str) = "size") := by decide +kernel
  show putF "size" _ (if ("letters" : Str) = "length" then _ else (("letters" : Str), V.str s) :: putF "length" (V.int n) []) = _
  rw [if_neg h1]
  show (if ("letters" : Str) = "size" then _ else (("letters" : Str), V.str s) :: (if ("length" : Str) = "size" then _ else (("length" : Str), V.int n) :: putF "size" _ [])) = _
  rw [if_neg h2, if_neg h3]
  rfl
theorem pf2_eq (s : Str) (n : Int) : putF "length" (.int n) (putF "letters" (.str s) []) = ([("letters", V.str s), ("length", V.int n)] : List (Str × V)) := by
  have h1 : ¬ (("letters" : Str) = "length") := by decide +kernel
  show (if ("letters" : Str) = "length" then _ else (("letters" : Str), V.str s) :: putF "length" (V.int n) []) = _
  rw [if_neg h1]
  rfl
theorem bf_letters (s : Str) (n : Int) : (boardF s n).lookup ("letters" : Str) = some (.str s) := by rw [bf_eq]; rfl
theorem bf_length (s : Str) (n : Int) : (boardF s n).lookup ("length" : Str) = some (.int n) := by
  have h1 : (("length" : Str) == "letters") = false := by decide +kernel
  rw [bf_eq, List.lookup_cons, h1]
  rfl
theorem bf_size (s : Str) (n : Int) : (boardF s n).lookup ("size" : Str) = some (.int ((s.length : Int) ^ n.toNat)) := by
  have h1 : (("size" : Str) == "letters") = false := by decide +kernel
  have h2 : (("size" : Str) == "length") = false := by decide +kernel
  rw [bf_eq, List.lookup_cons, h1, List.lookup_cons, h2]
  rfl
theorem But.upd {p : Addr} {H : Hp} {o : HO} : But p H (L2.upd H p o) := fun b u n e => by rw [upd_ne n]; exact e
theorem But.trans {p : Addr} {H H1 H2 : Hp} (a : But p H H1) (b : But p H1 H2) : But p H H2 := fun c o n h => b c o n (a c o n h)
theorem But.of {p : Addr} {H H1 : Hp} (a : Same H H1) : But p H H1 := fun c o n h => a c o h
theorem scI : FnScope ["self", "letters", "length"] ["self", "letters", "length"] (defScope sInit) := ⟨rfl, rfl, rfl, by decide +kernel, rfl, by decide +kernel, by decide +kernel⟩
theorem ok_init {f C fA fW fC : Addr} {fd fdA fdW fdC : FuncData} (F : Fun K "__init__" "Board.__init__" sInit f fd) (T : TxW mg) (TC : TxC K mg C)
    (GA : FnOk P w K mg base CX0 1 fA fdA ["letters"] (spAlpha K)) (DA : Df K mg "is_alphabet" fA fdA ["letters"]) (GW : FnOk P w K mg base CX0 1 fW fdW ["value", "least", "most"] (spWithin K)) (DW : Df K mg "is_integer_within" fW fdW ["value", "least", "most"])
    (GC : FnOk P w K mg base CX0 1 fC fdC ["many", "length"] spCount) (DC : Df K mg "count_words" fC fdC ["many", "length"]) : FnOk P w K mg base CX0 2 f fd ["self", "letters", "length"] (spInit C) := by
  refine F.ok scI (fun vs H Q E h => ?_) (fun cdv A outer s H vs Q E hr h => ?_)
  · obtain ⟨p, dx, s, n, rfl, _⟩ := h
    rfl
  · obtain ⟨p, dx, z, n, rfl, hz, n0, n1, hp, q⟩ := h
    obtain ⟨t1, mg1⟩ := T.mlen
    refine ⟨_, pss_cons (ps_if (pt_not (pt_val (pe_call GA hr (by rfl) DA.mg DA.kp DA.b .nil pass0 (pa_cons (pv 1) pa_nil)))) (pss_one ps_never) pss_nil)
      (pss_cons (ps_if (pt_not (pt_val (pe_call GW hr (by rfl) DW.mg DW.kp DW.b .nil pass0 (pa_cons (pv 2) (pa_cons pe_int (pa_cons (pe_glob (v := .int 6) (by rfl) mg1 ⟨_, rfl⟩) pa_nil)))))) (pss_one ps_never) pss_nil)
      (pss_cons (ps_fld (pv 0) (pv 1) rfl) (pss_cons (ps_fld (pv 0) (pv 2) rfl)
      (pss_one (ps_fld (pv 0) (pe_call GC hr (by rfl) DC.mg DC.kp DC.b .nil pass0 (pa_cons (pe_callB call_len_str (by rfl) T.len PySem.boot_len (pa_cons (pv 1) pa_nil)) (pa_cons (pv 2) pa_nil))) rfl))))), ?_⟩
    have hl : z.length ≤ 26 := hz.2.1
    have hline : sizeLine = 16777216 := sizeLine_eq
    refine ⟨_, rfl, _, rfl, .inl ⟨z, rfl, by omega, fun H1 s1 => ⟨_, rfl, ?_⟩⟩⟩
    rw [decide_eq_true hz]
    refine iteF ?_
    refine ⟨_, rfl, _, _, _, rfl, .inl ⟨n, rfl, _, rfl, ?_⟩⟩
    rw [decide_eq_true (show 1 ≤ n ∧ n ≤ 6 from ⟨n0, n1⟩)]
    refine iteF ?_
    have hp1 := s1 _ _ hp
    refine ⟨_, rfl, _, rfl, p, C, dx, _, rfl, hp1, TC.cl, TC.nL, by show 0 < 1000; decide, ?_⟩
    refine ⟨_, rfl, _, rfl, p, C, dx, _, rfl, upd_same, TC.cl, TC.nN, by show 1 < 1000; decide, ?_⟩
    refine ⟨_, rfl, _, rfl, by omega, _, rfl, _, _, rfl, by omega, by omega, by omega, n1, ?_⟩
    refine ⟨_, rfl, p, C, dx, _, rfl, upd_same, TC.cl, TC.nS, (by rw [pf2_eq]; show 2 < 1000; decide), ?_⟩
    refine q _ ?_ ⟨dx, upd_same⟩
    exact (But.of s1).trans (But.upd.trans (But.upd.trans But.upd))
theorem digit_len {n : Int} (h0 : 1 ≤ n) (h1 : n ≤ 6) : (digit n).length = 1 := by
  have : n = 1 ∨ n = 2 ∨ n = 3 ∨ n = 4 ∨ n = 5 ∨ n = 6 := by omega
  rcases this with rfl | rfl | rfl | rfl | rfl | rfl <;> decide +kernel
theorem digit_log {n : Int} (h0 : 1 ≤ n) (h1 : n ≤ 6) : n.natAbs.log2 < 1920 := by
  have : n = 1 ∨ n = 2 ∨ n = 3 ∨ n = 4 ∨ n = 5 ∨ n = 6 := by omega
  rcases this with rfl | rfl | rfl | rfl | rfl | rfl <;> decide +kernel
theorem app_len (a b : Str) : (a ++ b).length = a.length + b.length := by
  rw [← str_len, ← str_len, ← str_len, ← List.length_append]
  exact congrArg List.length (TL.tl_append a b)
theorem empty_app (a : Str) : Str.empty ++ a = a := TL.ext_tl (by rw [TL.tl_append]; rfl)
theorem ty_board {C p dx : Addr} {H : Hp} {fs : List (Str × V)} (T : TxC K mg C) (h : H p = some (.ins C dx fs)) : TyX K H (.ref p) (.ref C) := .base (.ins h T.cl T.ac T.gt T.tk T.ob)
theorem scE : FnScope ["self", "other"] ["self", "other"] (defScope sEq) := ⟨rfl, rfl, rfl, by decide +kernel, rfl, by decide +kernel, by decide +kernel⟩
theorem ok_eq {f C : Addr} {fd : FuncData} (F : Fun K "__eq__" "Board.__eq__" sEq f fd) (T : TxW mg) (TC : TxC K mg C) : FnOk P w K mg base CX0 1 f fd ["self", "other"] (spEqB K C) := by
  refine F.ok scE (fun vs H Q E h => ?_) (fun cdv A outer s H vs Q E hr h => ?_)
  · obtain ⟨p, s, n, y, rfl, _⟩ := h
    rfl
  · obtain ⟨p, z, n, y, rfl, ⟨dx, hp⟩, hz, h⟩ := h
    refine ⟨_, pss_one (ps_ret (pe_and (pe_callB call_isi (by rfl) T.isi (by decide +kernel) (pa_cons (pv 1) (pa_cons (pe_glob (v := .ref C) (by rfl) TC.mgC rfl) pa_nil)))
      (pe_and (pe_cmpR op_eq (pe_fld (pv 0) rfl) (pe_fld (pv 1) rfl) (nomark _)) (pe_one (pe_cmpR op_eq (pe_fld (pv 0) rfl) (pe_fld (pv 1) rfl) (nomark _)))))), ?_⟩
    rcases h with ⟨q, z', n', rfl, ⟨dy, hq⟩, hz', k⟩ | ⟨t, ty, no, k⟩
    · refine ⟨_, rfl, _, _, _, _, _, rfl, .own C, ty_board TC hq, TC.own, _, rfl, ?_⟩
      refine iteT ⟨_, rfl, p, C, dx, _, _, rfl, hp, TC.cl, TC.nL, bf_letters z n, _, rfl, q, C, dy, _, _, rfl, hq, TC.cl, TC.nL, bf_letters z' n', rfl, _, rfl, ?_⟩
      refine ite2 (fun e => ?_) (fun e => ?_)
      · refine ⟨_, rfl, p, C, dx, _, _, rfl, hp, TC.cl, TC.nN, bf_length z n, _, rfl, q, C, dy, _, _, rfl, hq, TC.cl, TC.nN, bf_length z' n', rfl, ?_⟩
        have e := V.str.inj (of_decide_eq_true e)
        have e2 : decide (z = z' ∧ n = n') = decide (V.int n = V.int n') := decide_eq_decide.mpr ⟨fun x => by rw [x.2], fun x => ⟨e, V.int.inj x⟩⟩
        rw [e2] at k
        exact k
      · have e2 : decide (z = z' ∧ n = n') = false := decide_eq_false fun x => e (decide_eq_true (by rw [x.1]))
        rw [e2] at k
        exact k
    · exact ⟨_, rfl, _, _, _, _, _, rfl, .own C, ty, no, _, rfl, iteF k⟩
theorem scS : FnScope ["self"] ["self"] (defScope sStr) := ⟨rfl, rfl, rfl, by decide +kernel, rfl, by decide +kernel, by decide +kernel⟩
theorem ok_str {f C : Addr} {fd : FuncData} (F : Fun K "__str__" "Board.__str__" sStr f fd) (TC : TxC K mg C) : FnOk P w K mg base CX0 1 f fd ["self"] (spStr C) := by
  refine F.ok scS (fun vs H Q E h => ?_) (fun cdv A outer s H vs Q E hr h => ?_)
  · obtain ⟨p, s, n, rfl, _⟩ := h
    rfl
  · obtain ⟨p, z, n, rfl, ⟨dx, hp⟩, hz, n0, n1, q⟩ := h
    refine ⟨_, pss_one (ps_ret (pe_joined (.cons (pe_fmt (pe_fld (pv 0) rfl)) (.cons pe_str (.cons (pe_fmt (pe_fld (pv 0) rfl)) .nil))))), ?_⟩
    have hline : sizeLine = 16777216 := sizeLine_eq
    have d := digit_len n0 n1
    refine ⟨_, rfl, p, C, dx, _, _, rfl, hp, TC.cl, TC.nL, bf_letters z n, .inl ⟨z, rfl, by omega, z, rfl, by rw [empty_app]; omega, ?_⟩⟩
    refine ⟨_, rfl, by rw [empty_app, app_len]; have : (Str.ofString " ").length = 1 := rfl; omega, ?_⟩
    refine ⟨_, rfl, p, C, dx, _, _, rfl, hp, TC.cl, TC.nN, bf_length z n, .inr ⟨n, rfl, digit_log n0 n1, digit n, rfl, ?_, ?_⟩⟩
    · rw [empty_app, app_len, app_len]; have : (Str.ofString " ").length = 1 := rfl; omega
    · show Q (.str (Str.empty ++ z ++ Str.ofString " " ++ digit n)) H
      rw [empty_app]
      exact q
theorem scR : FnScope ["self"] ["self"] (defScope sRepr) := ⟨rfl, rfl, rfl, by decide +kernel, rfl, by decide +kernel, by decide +kernel⟩
theorem ok_repr {f C : Addr} {fd : FuncData} (F : Fun K "__repr__" "Board.__repr__" sRepr f fd) (TC : TxC K mg C) : FnOk P w K mg base CX0 1 f fd ["self"] (spRepr C) := by
  refine F.ok scR (fun vs H Q E h => ?_) (fun cdv A outer s H vs Q E hr h => ?_)
  · obtain ⟨p, s, n, rfl, _⟩ := h
    rfl
  · obtain ⟨p, z, n, rfl, ⟨dx, hp⟩, hz, n0, n1, q⟩ := h
    refine ⟨_, pss_one (ps_ret (pe_joined (.cons pe_str (.cons (pe_fmt (pe_fld (pv 0) rfl)) (.cons pe_str (.cons (pe_fmt (pe_fld (pv 0) rfl)) (.cons pe_str .nil))))))), ?_⟩
    have hline : sizeLine = 16777216 := sizeLine_eq
    have d := digit_len n0 n1
    have l1 : (Str.ofString " ").length = 1 := rfl
    have l2 : (Str.ofString "Board(").length = 6 := rfl
    have l3 : (Str.ofString ")").length = 1 := rfl
    refine ⟨_, rfl, by rw [empty_app, l2]; omega, ?_⟩
    refine ⟨_, rfl, p, C, dx, _, _, rfl, hp, TC.cl, TC.nL, bf_letters z n, .inl ⟨z, rfl, by omega, z, rfl, by rw [empty_app, app_len, l2]; omega, ?_⟩⟩
    refine ⟨_, rfl, by rw [empty_app, app_len, app_len, l1, l2]; omega, ?_⟩
    refine ⟨_, rfl, p, C, dx, _, _, rfl, hp, TC.cl, TC.nN, bf_length z n, .inr ⟨n, rfl, digit_log n0 n1, digit n, rfl, by rw [empty_app, app_len, app_len, app_len, l1, l2]; omega, ?_⟩⟩
    refine ⟨_, rfl, by rw [empty_app, app_len, app_len, app_len, app_len, l1, l2, l3]; omega, ?_⟩
    show Q (.str (Str.empty ++ Str.ofString "Board(" ++ z ++ Str.ofString " " ++ digit n ++ Str.ofString ")")) H
    rw [empty_app]
    exact q
end
end Gm

namespace Gm
open PySem L2
/-- the text of these codes -/
abbrev tx (l : List Nat) : Str := ⟨l.toArray⟩
theorem tx_len (l : List Nat) : (tx l).length = l.length := by simp [Str.length]
theorem cut_pre (z : Str) (i : Nat) (h : i ≤ z.length) : cutS z none (some (i : Int)) = tx (z.cps.toList.take i) := by
  unfold cutS
  rw [HT.sIx_none, HT.sIx_nat, Nat.min_eq_left h]
  rfl
theorem cut_suf (z : Str) (i : Nat) (h : i ≤ z.length) : cutS z (some (i : Int)) none = tx (z.cps.toList.drop i) := by
  unfold cutS
  rw [HT.sIx_none, HT.sIx_nat, Nat.min_eq_left h]
  have e : (z.cps.toList.drop i).length = z.length - i := by rw [List.length_drop, str_len]
  rw [← e, List.take_length]
theorem alph_take : ∀ m : Fin 27, 2 ≤ m.val → Alph (tx (low.take m.val)) := by decide +kernel
theorem low_sorted : low.Pairwise (· < ·) := by decide +kernel
theorem sorted_eq : ∀ (l1 l2 : List Nat), l1.Pairwise (· < ·) → l2.Pairwise (· < ·) → (∀ x, x ∈ l1 ↔ x ∈ l2) → l1 = l2
  | [], [], _, _, _ => rfl
  | [], b :: l2, _, _, h => by have := (h b).mpr List.mem_cons_self; cases this
  | a :: l1, [], _, _, h => by have := (h a).mp List.mem_cons_self; cases this
  | a :: l1, b :: l2, h1, h2, h => by
    have p1 := List.pairwise_cons.mp h1
    have p2 := List.pairwise_cons.mp h2
    have e : a = b := by
      have ha := (h a).mp List.mem_cons_self
      have hb := (h b).mpr List.mem_cons_self
      rcases List.mem_cons.mp ha with e | ha
      · exact e
      · rcases List.mem_cons.mp hb with e | hb
        · exact e.symm
        · have := p1.1 b hb
          have := p2.1 a ha
          omega
    subst e
    rw [sorted_eq l1 l2 p1.2 p2.2 fun x => ⟨fun m => ?_, fun m => ?_⟩]
    · rcases List.mem_cons.mp ((h x).mp (List.mem_cons_of_mem _ m)) with e | q
      · have := p1.1 x m
        omega
      · exact q
    · rcases List.mem_cons.mp ((h x).mpr (List.mem_cons_of_mem _ m)) with e | q
      · have := p2.1 x m
        omega
      · exact q
/-- letters that ascend are an alphabet -/
theorem alph_of {zs : List Nat} (hs : zs.Pairwise (· < ·)) (hl : ∀ c ∈ zs, c ∈ low) (h0 : 2 ≤ zs.length) (h1 : zs.length ≤ 26) : Alph (tx zs) := by
  refine ⟨by rw [tx_len]; exact h0, by rw [tx_len]; exact h1, ?_⟩
  show zs = low.filter fun c => decide (c ∈ (tx zs).cps.toList)
  refine sorted_eq _ _ hs (low_sorted.sublist List.filter_sublist) fun x => ?_
  rw [List.mem_filter]
  show x ∈ zs ↔ x ∈ low ∧ decide (x ∈ zs) = true
  exact ⟨fun h => ⟨hl x h, decide_eq_true h⟩, fun h => of_decide_eq_true h.2⟩
abbrev one (c : Nat) : Str := ⟨#[c]⟩
def codeOf (s : Str) : Nat := s.cps.toList.headD 0
/-- what sorted leaves of signs -/
theorem sorted_one {fs : List Nat} {ys : List Str} (hp : ys.Perm (fs.map one)) : ∃ zs : List Nat, zs.Perm fs ∧ ys = zs.map one := by
  refine ⟨ys.map codeOf, ?_, ?_⟩
  · have := hp.map codeOf
    rw [List.map_map] at this
    have e : fs.map (codeOf ∘ one) = fs := by
      have : (codeOf ∘ one) = id := by funext c; rfl
      rw [this, List.map_id]
    rw [e] at this
    exact this
  · rw [List.map_map]
    have : ∀ y ∈ ys, (one ∘ codeOf) y = y := fun y hy => by
      obtain ⟨c, _, rfl⟩ := List.mem_map.mp (hp.mem_iff.mp hy)
      rfl
    exact (List.map_congr_left this |>.trans (List.map_id' ys)).symm
open PyProof.Rows in
theorem rising_le : ∀ (zs : List Nat) (a : Nat), risingS (one a) (zs.map one) = true → (a :: zs).Pairwise (· ≤ ·)
  | [], a, _ => List.pairwise_singleton _ _
  | b :: zs, a, h => by
    have h' : (!Spec.ltCps [b] [a] && risingS (one b) (zs.map one)) = true := h
    rw [Bool.and_eq_true] at h'
    have ih := rising_le zs b h'.2
    have e : a ≤ b := by
      refine Nat.le_of_not_lt fun q => ?_
      have : Spec.ltCps [b] [a] = true := by simp [Spec.ltCps, q]
      rw [this] at h'
      exact absurd h'.1 (by decide)
    refine List.pairwise_cons.mpr ⟨fun c hc => ?_, ih⟩
    rcases List.mem_cons.mp hc with rfl | hc
    · exact e
    · exact Nat.le_trans e ((List.pairwise_cons.mp ih).1 c hc)
open PyProof.Rows in
theorem sorted_le {zs : List Nat} (h : sortedS (zs.map one) = true) : zs.Pairwise (· ≤ ·) := by
  cases zs with
  | nil => exact List.Pairwise.nil
  | cons a zs => exact rising_le zs a h
theorem strict {zs : List Nat} (h : zs.Pairwise (· ≤ ·)) (n : zs.Nodup) : zs.Pairwise (· < ·) := by
  refine (h.and n).imp fun ⟨a, b⟩ => ?_
  omega
theorem low_nodup : low.Nodup := by decide +kernel
theorem drawn_perm {fs l : List Nat} {i : Nat} {c : Nat} (h : (fs ++ l).Perm low) (hc : l[i]? = some c) : (fs ++ [c] ++ (l.take i ++ l.drop (i + 1))).Perm low := by
  refine List.Perm.trans ?_ h
  rw [List.append_assoc]
  refine List.Perm.append_left fs ?_
  have hi := (List.getElem?_eq_some_iff.mp hc).1
  have e : l = l.take i ++ c :: l.drop (i + 1) := by
    have := (List.getElem?_eq_some_iff.mp hc).2
    rw [← this, List.getElem_cons_drop, List.take_append_drop]
  have q : (c :: (l.take i ++ l.drop (i + 1))).Perm (l.take i ++ c :: l.drop (i + 1)) := List.perm_middle.symm
  rw [← e] at q
  exact q
theorem drawn_alph {fs lf : List Nat} {ys : List Str} (h : (fs ++ lf).Perm low) (h0 : 2 ≤ fs.length) (hp : ys.Perm (fs.map one)) (hs : PyProof.Rows.sortedS ys = true) : ∃ zs : List Nat, ys = zs.map one ∧ Alph (tx zs) ∧ zs.length = fs.length := by
  obtain ⟨zs, q, rfl⟩ := sorted_one hp
  have nd : fs.Nodup := (List.nodup_append.mp (h.nodup_iff.mpr low_nodup)).1
  have hl := h.length_eq
  rw [List.length_append, low_len] at hl
  refine ⟨zs, rfl, alph_of (strict (sorted_le hs) (q.nodup_iff.mpr nd)) (fun c hc => h.mem_iff.mp (List.mem_append_left _ (q.mem_iff.mp hc))) (by rw [q.length_eq]; exact h0) (by rw [q.length_eq]; omega), q.length_eq⟩
end Gm

/-! marks as lists of codes: the mirror of marks_of -/
namespace Gm
def un (g w : List Nat) : List Nat := ((g.zip w).filter fun p => !decide (p.1 = p.2)).map (·.2)
def go : List (Nat × Nat) → List Nat → List Nat
  | [], _ => []
  | (a, b) :: r, u => if a = b then 50 :: go r u else if a ∈ u then 49 :: go r (u.erase a) else 48 :: go r u
def mk (g w : List Nat) : List Nat := go (g.zip w) (un g w)
theorem drop_at {α : Type} {l : List α} {i : Nat} {x : α} (h : l[i]? = some x) : l.drop i = x :: l.drop (i + 1) := by
  have hi := (List.getElem?_eq_some_iff.mp h).1
  have e := (List.getElem?_eq_some_iff.mp h).2
  rw [← e, List.getElem_cons_drop]
theorem zip_at {g w : List Nat} {i c e : Nat} (h1 : g[i]? = some c) (h2 : w[i]? = some e) : (g.zip w)[i]? = some (c, e) := by
  rw [List.getElem?_zip_eq_some]
  exact ⟨h1, h2⟩
theorem take_map_filter {l : List (Nat × Nat)} {i : Nat} {x : Nat × Nat} (p : Nat × Nat → Bool) (f : Nat × Nat → Nat) (h : l[i]? = some x) :
    ((l.take (i + 1)).filter p).map f = ((l.take i).filter p).map f ++ (if p x = true then [f x] else []) := by
  have hi := (List.getElem?_eq_some_iff.mp h).1
  have e := (List.getElem?_eq_some_iff.mp h).2
  rw [List.take_succ_eq_append_getElem hi, e, List.filter_append, List.map_append]
  congr 1
  by_cases c : p x = true
  · rw [if_pos c]; simp [c]
  · rw [if_neg c]; simp [c]
theorem go_length : ∀ (l : List (Nat × Nat)) (u : List Nat), (go l u).length = l.length
  | [], _ => rfl
  | (a, b) :: r, u => by
    unfold go
    split
    · rw [List.length_cons, go_length r u, List.length_cons]
    · split <;> rw [List.length_cons, go_length r _, List.length_cons]
end Gm

namespace L2
open PySem PySem.Spec PyProof.Rows
/-- two texts, sign by sign, in new pairs -/
def Itzs (x y : Str) : It :=
  ⟨fun i _ => i < x.cps.size ∧ i < y.cps.size,
    fun i H v H' => ∃ (T : Addr) (c e : Nat), v = .ref T ∧ H T = none ∧ H' = upd H T (.tup [.str ⟨#[c]⟩, .str ⟨#[e]⟩]) ∧ x.cps[i]? = some c ∧ y.cps[i]? = some e,
    fun i _ => i = x.cps.size ∧ i = y.cps.size⟩
theorem zs_sep (n : Nat) : ZipSep2 (n + 4) (n + 2) (n + 3) n (n + 1) [n] [n + 1] := by
  constructor <;> first | (simp; done) | (refine PySem.W.neN ?_; omega) | (simp; omega)
theorem turn_zips {P : Program} {w : World} {K : PySem.W.Frag} {elts : List Expr} {kk : Nat} {tpos : Pos} {z TI TO i1 i2 : Addr} {x y : Str} {t1 t2 : Tok} (D : ZipSep2 z TI TO i1 i2 [i1] [i2]) :
    Turn P w K (.Tuple elts kk tpos) (Itzs x y) [z, TI, TO, i1, i2] z (fun i h => IsZip h z TI TO .none ∧ IsTupOf2 h TI (.ref i1) (.ref i2) ∧ (∃ a b, IsTupOf2 h TO a b) ∧ h.IsStrIter i1 (strIterType x) x t1 i ∧ h.IsStrIter i2 (strIterType y) y t2 i) where
  mem := by simp
  obj := fun i h st c hc => by
    obtain ⟨hz, hTI, ⟨a, b, hTO⟩, ⟨o1, e1, _, d1⟩, ⟨o2, e2, _, d2⟩⟩ := st
    have q : c = z ∨ c = TI ∨ c = TO ∨ c = i1 ∨ c = i2 := by simpa using hc
    rcases q with rfl | rfl | rfl | rfl | rfl
    · exact ⟨_, hz, fun v q => nomatch q⟩
    · exact ⟨_, hTI, fun v q => nomatch q⟩
    · exact ⟨_, hTO, fun v q => nomatch q⟩
    · exact ⟨o1, e1, fun v q => by rw [d1] at q; cases q⟩
    · exact ⟨o2, e2, fun v q => by rw [d2] at q; cases q⟩
  keep := fun i h h' st k => by
    obtain ⟨hz, hTI, ⟨a, b, hTO⟩, ⟨o1, e1, r1⟩, ⟨o2, e2, r2⟩⟩ := st
    exact ⟨k z (by simp) _ hz, k TI (by simp) _ hTI, ⟨a, b, k TO (by simp) _ hTO⟩, ⟨o1, k i1 (by simp) _ e1, r1⟩, ⟨o2, k i2 (by simp) _ e2, r2⟩⟩
  item := by
    intro X hP hw hK hc i pins s σ H E I hf st hg
    subst hP hw hK
    obtain ⟨hz, hTI, ⟨a0, b0, hTO⟩, h1, h2⟩ := st
    have lz : z < s.heap.objs.size := Heap.lt_size hz
    refine wpAny_pyNext_zipD2_item (St1 := fun i h => h.IsStrIter i1 (strIterType x) x t1 i) (St2 := fun i h => h.IsStrIter i2 (strIterType y) y t2 i) D (Draws.text (A := X.A.in1) (show X.A.in1.handled = none from I.ok.hd hc) i1 x t1) (Draws.text (A := X.A.in1) (show X.A.in1.handled = none from I.ok.hd hc) i2 y t2) hz hTI hTO h1 h2 hg.1 hg.2 fun u u2 h' tk p1 p2 z' TO' h1' h2' hT hsz hk => ?_
    obtain ⟨c, v1, hcx, rfl⟩ := p1
    obtain ⟨e, v2, hey, rfl⟩ := p2
    refine ⟨_, rfl, wpAny_letOwnedTupleGo_zip (s := { s with heap := h', toks := tk }) z' fun g z'' sb => ?_⟩
    have hT2 := (sb.2 _ (Nat.ne_of_gt lz)).trans hT
    have fresh : ObjOk X.prog X.w (upd H s.heap.objs.size (.tup [.str ⟨#[c]⟩, .str ⟨#[e]⟩])) g s.heap.objs.size (.tup [.str ⟨#[c]⟩, .str ⟨#[e]⟩]) :=
      ⟨by show 2 ≤ sizeLine; decide, _, .cons ⟨v1, rfl⟩ (.cons ⟨v2, rfl⟩ .nil), ⟨_, hT2, rfl, _, rfl⟩⟩
    have J : Inv X pins σ (upd H s.heap.objs.size (.tup [.str ⟨#[c]⟩, .str ⟨#[e]⟩])) { s with heap := g, toks := tk } := by
      refine I.turnedNew (ch := [z, TI, TO, i1, i2]) (fun b o hb q => ?_) hf (Nat.le_refl _) fresh
      have nb : b ≠ z ∧ b ≠ TI ∧ b ≠ TO ∧ b ≠ i1 ∧ b ≠ i2 := by simpa using hb
      exact (sb.2 b nb.1).trans (hk b o nb.1 nb.2.2.1 nb.2.2.2.1 nb.2.2.2.2 q)
    refine ⟨.ref s.heap.objs.size, _, J, rfl, ⟨_, c, e, rfl, I.hok.fresh (Nat.le_refl _), rfl, hcx, hey⟩, ⟨z'', ?_, ⟨_, _, (sb.2 _ D.TOz).trans TO'⟩, ?_, ?_⟩, fun b hb => ?_⟩
    · exact (sb.2 _ D.TIz).trans (hk _ _ D.TIz D.TITO D.TIi1 D.TIi2 hTI)
    · obtain ⟨o1, e1, r1⟩ := h1'
      exact ⟨o1, (sb.2 _ D.zi1.symm).trans e1, r1⟩
    · obtain ⟨o2, e2, r2⟩ := h2'
      exact ⟨o2, (sb.2 _ D.zi2.symm).trans e2, r2⟩
    · have hlt : b < s.heap.objs.size := by
        have q : b = z ∨ b = TI ∨ b = TO ∨ b = i1 ∨ b = i2 := by simpa using hb
        obtain ⟨o1, e1, _⟩ := h1
        obtain ⟨o2, e2, _⟩ := h2
        rcases q with rfl | rfl | rfl | rfl | rfl
        · exact lz
        · exact Heap.lt_size hTI
        · exact Heap.lt_size hTO
        · exact Heap.lt_size e1
        · exact Heap.lt_size e2
      rw [upd_ne (Nat.ne_of_lt hlt)]
      exact (hf b hb).1
  done := by
    intro X hP hw hK hc i pins s σ H E I hf st hg
    subst hP hw hK
    obtain ⟨hz, hTI, ⟨a0, b0, hTO⟩, h1, h2⟩ := st
    refine wpAny_pyNext_zipD2_end (St1 := fun i h => h.IsStrIter i1 (strIterType x) x t1 i) (St2 := fun i h => h.IsStrIter i2 (strIterType y) y t2 i) D (Draws.text (A := X.A.in1) (show X.A.in1.handled = none from I.ok.hd hc) i1 x t1) (Draws.text (A := X.A.in1) (show X.A.in1.handled = none from I.ok.hd hc) i2 y t2) hz hTI hTO h1 h2 (Nat.le_of_eq hg.1) (Nat.le_of_eq hg.2) (.inl hg.1) fun h' tk hk => ⟨rfl, I.turnedL (ch := [z, TI, TO, i1, i2]) (fun b o hb q => ?_) hf⟩
    have nb : b ≠ z ∧ b ≠ TI ∧ b ≠ TO ∧ b ≠ i1 ∧ b ≠ i2 := by simpa using hb
    exact hk b o nb.1 nb.2.2.1 nb.2.2.2.1 nb.2.2.2.2 q
  self := fun A i s Q E st h => wpAny_pyIter_zip st.1 h
def iZips (ta : TA) : TI := fun σ H R => ta σ H fun vs H1 => ∃ x y, vs = [.str x, .str y] ∧ x.cps.size = y.cps.size ∧ R (Itzs x y) H1
theorem pi_zips {X : Cx} {e e2 : Expr} {ta : TA} {p pos tpos : Pos} {elts : List Expr} {kk : Nat} (hg : Gl X "zip") (hm : X.mg "zip" = none) (ha : PA X [e, e2] ta)
    (hs : starEach [e, e2] X.env = (false, eval e X.env) :: starEach [e2] X.env := by rfl) (hpl : (backTo pos (starEach [e2] X.env)).any (·.1) = false := by rfl) :
    PI X (.Tuple elts kk tpos) (.Call (.Name "zip" p) [e, e2] [] pos) (iZips ta) := by
  refine ⟨fun pins s σ H R I h => ?_⟩
  refine Call_ (ld_blt I hg hm PyProof.Rows.boot_zip (PyProof.Rows.callWith_type1 (thn (ha.run pos pins s σ H _ I h) fun us s1 hh => ?_) hs hpl))
  obtain ⟨vs, H1, I1, r1, x, y, rfl, hxy, q⟩ := hh
  cases r1 with
  | cons r rr =>
    cases rr with
    | cons r' rr =>
      cases rr
      obtain ⟨t1, rfl⟩ := r
      obtain ⟨t2, rfl⟩ := r'
      refine zip_begins2 (begins_text x t1) (begins_text y t2) trivial trivial fun h' hz hTI hTO h1 h2 hsz hk => wpAny_pyIter_zip hz ?_
      have J : Inv X pins σ H1 { s1 with heap := h' } := I1.kept (t' := s1.toks) hk
      refine ⟨s1.heap.objs.size + 4, [s1.heap.objs.size + 4, s1.heap.objs.size + 2, s1.heap.objs.size + 3, s1.heap.objs.size, s1.heap.objs.size + 1], _, _, H1, rfl, J, turn_zips (t1 := t1) (t2 := t2) (zs_sep s1.heap.objs.size), ⟨hz, hTI, ⟨_, _, hTO⟩, ⟨_, h1, rfl, rfl⟩, ⟨_, h2, rfl, rfl⟩⟩, fun b hb => ?_, q⟩
      have hle : s1.heap.objs.size ≤ b := by
        have q : b = s1.heap.objs.size + 4 ∨ b = s1.heap.objs.size + 2 ∨ b = s1.heap.objs.size + 3 ∨ b = s1.heap.objs.size ∨ b = s1.heap.objs.size + 1 := by simpa using hb
        rcases q with rfl | rfl | rfl | rfl | rfl
        · exact Nat.le_add_right _ _
        · exact Nat.le_add_right _ _
        · exact Nat.le_add_right _ _
        · exact Nat.le_refl _
        · exact Nat.le_add_right _ _
      exact I1.fpOk hle (I1.hok.fresh hle)
theorem walk_zips {x y : Str} (hxy : x.cps.size = y.cps.size) : Walk (Itzs x y) x.cps.size (fun _ => True) (fun i H v H' => ∃ (T : Addr) (c e : Nat), v = .ref T ∧ H T = none ∧ H' = upd H T (.tup [.str ⟨#[c]⟩, .str ⟨#[e]⟩]) ∧ x.cps[i]? = some c ∧ y.cps[i]? = some e) :=
  ⟨fun i _ hi _ => ⟨hi, hxy ▸ hi⟩, fun _ _ => ⟨rfl, hxy⟩, fun _ _ _ _ _ _ y => y⟩
end L2

namespace L2
open PySem PySem.Spec PyProof.Rows
section
variable {X : Cx} {CX : CXT} {k : Nat} {f : Addr} {fd : FuncData} {ps ks : List Str} {sp : Sp} {E : XK} {x : Str} {p pos : Pos} {kws : List Keyword} {tk : TA} {g : List Value → List Value → List Value} {gV : List V → List V → List V}
/-- f(k = v, ..), keywords alone -/
theorem pe_callK0 (F : FnOk X.prog X.w X.K X.mg X.base CX k f fd ps sp) (hr : Room k X.A) (hg : Gl X x) (hm : X.mg x = some (.ref f)) (hk : PySem.W.keepIn X.K (.ref f) = true) (hb : KBinds X.K fd ps ks g gV) (hx : Passes CX X E) (hkw : PK X kws tk)
    (hall : (backToKw pos (keywordEach kws X.env)).all (·.1.isSome) = true := by rfl) (hks : (backToKw pos (keywordEach kws X.env)).filterMap (·.1) = ks := by rfl) (hdb : (x == ("__debug__" : Str)) = false := by decide)
    (hpl : ((backTo pos (starEach [] X.env)).any (·.1) || (backToKw pos (keywordEach kws X.env)).any (·.1.isNone)) = false := by rfl) : PE X (.Call (.Name x p) [] kws pos) (tCallK sp gV E tNil tk) := by
  refine ⟨fun pins s σ H Q I h => wpAny_Call_Name_kw (ld_glob I hg hm ?_ hdb)⟩
  refine PySem.W.callWith_KW0 (h₀ := X.base) I.ok.mod.kin hk hall (thn (hkw.run pos pins s σ H _ I h) fun ws s2 hh => ?_) hpl
  obtain ⟨zs, H2, I2, rz, q2⟩ := hh
  refine ⟨I2.kIn, ?_⟩
  rw [hks]
  exact run_fnk (us := []) (vs := []) F hr hb hx I2 .nil rz q2
end
/-- list.remove of a text that is there -/
def rRemS : V → List V → Hp → VK → Prop := fun x xs H Q => ∃ (l : Addr) (ss : List Str) (k : Str) (j : Nat), x = .ref l ∧ xs = [.str k] ∧ H l = some (.lst (ss.map V.str)) ∧ ss[j]? = some k ∧ (∀ m : Nat, m < j → ss[m]? ≠ some k) ∧ Q .non (upd H l (.lst ((ss.eraseIdx j).map V.str)))
def eqs (k : Str) (v : Value) : Bool := match v with
  | .str n _ => n.cps.toList == k.cps.toList
  | _ => false
theorem erase_mapS : ∀ (l : List Str) (j : Nat), (l.map V.str).eraseIdx j = (l.eraseIdx j).map V.str
  | [], j => by simp
  | a :: r, 0 => by simp
  | a :: r, j + 1 => by simp [erase_mapS r j]
theorem eqs_gives {k : Str} {t : Tok} : ∀ {us : List Value} {ss : List Str}, Vals (ss.map V.str) us → ∀ y ∈ us, MeetsSeq.EqGives y (.str k t) (eqs k y)
  | _, [], .nil => fun y hy => by cases hy
  | _, n :: ss, .cons ⟨t', e⟩ h => fun y hy => by
    rcases List.mem_cons.mp hy with q | q
    · rw [q, e]
      exact SeqRoads2.EqGives.str n k t' t
    · exact eqs_gives h y q
theorem mt_removeS {X : Cx} : MtM X "list.remove" rRemS := by
  intro pins s σ H x xs v us Q I rx rxs h
  obtain ⟨l, ss, k, j, rfl, rfl, hH, hj, hno, q⟩ := h
  cases rx
  obtain ⟨u, rfl, t, rfl⟩ := rxs.one
  obtain ⟨z, its, n, r, hl, e⟩ := I.lstM hH
  have len := r.length
  rw [List.length_map] at hl z len
  have hjn : j < ss.length := (List.getElem?_eq_some_iff.mp hj).1
  have item : ∀ m (hm : m < ss.length) (hm' : m < its.toArray.size), ∃ tm, its.toArray[m] = .str ss[m] tm := fun m hm hm' => by
    obtain ⟨u, hu, ru⟩ := r.get (i := m) (x := V.str ss[m]) (by rw [List.getElem?_map, List.getElem?_eq_getElem hm]; rfl)
    obtain ⟨tm, rfl⟩ := ru
    exact ⟨tm, by simpa using (List.getElem?_eq_some_iff.mp hu).2⟩
  have sz : its.toArray.size = its.length := by simp
  have hjl : j < its.toArray.size := by omega
  refine call_meets PySem.F.slot_list_remove ⟨_, e, rfl⟩ PySem.F.entry_list_remove (PySem.F.args_list_remove_2 _ _)
    (MeetsSeq.list_remove l its.toArray n (.str k t) (eqs k) (fun y hy => eqs_gives r y (by simpa using hy)) j hjl ?_ ?_ (by omega)) ⟨e, ?_⟩
  · obtain ⟨tj, e1⟩ := item j hjn hjl
    have e2 : ss[j] = k := (List.getElem?_eq_some_iff.mp hj).2
    rw [e1, e2]
    exact beq_self_eq_true _
  · intro m hm hmj
    have hmn : m < ss.length := by omega
    obtain ⟨tm, e1⟩ := item m hmn hm
    rw [e1]
    refine beq_eq_false_iff_ne.mpr fun e2 => hno m hmj ?_
    rw [List.getElem?_eq_getElem hmn]
    exact congrArg some (TL.ext_tl e2)
  · have rr := r.eraseIdx j
    rw [erase_mapS] at rr
    refine ⟨.non, _, I.lset (its' := its.eraseIdx j) (t' := s.toks) hH e ?_ rr ?_, rfl, q⟩
    · show its.toArray.eraseIdxIfInBounds j = (its.eraseIdx j).toArray
      rw [List.eraseIdxIfInBounds_toArray]
    · have := List.length_eraseIdx_le ss j
      rw [List.length_map]
      omega
end L2

namespace Gm
open PySem L2

def spMarksOf : Sp := fun vs H Q _ => ∃ (g w : List Nat), vs = [.str (tx g), .str (tx w)] ∧ g.length = w.length ∧ g.length ≤ 6 ∧ ∀ H', Same H H' → Q (.str (tx (mk g w))) H'
theorem tx_app (a b : List Nat) : tx a ++ tx b = tx (a ++ b) := TL.ext_tl (TL.tl_append _ _)
theorem tx_at {g : List Nat} {i c : Nat} (h : (tx g).cps[i]? = some c) : g[i]? = some c := by simpa using h
theorem tx_size (g : List Nat) : (tx g).cps.size = g.length := by simp
theorem in_ones (a : Nat) (u : List Nat) : inV (.str (one a)) (u.map fun c => V.str (one c)) = decide (a ∈ u) := by
  induction u with
  | nil => rfl
  | cons b u ih =>
    have e : eqV (.str (one b)) (.str (one a)) = decide (a = b) := by
      show (one b == one a) = _
      by_cases h : a = b
      · subst h; simp
      · rw [decide_eq_false h]
        refine beq_eq_false_iff_ne.mpr fun q => h ?_
        have := congrArg (fun s : Str => s.cps.toList) q
        simpa using this.symm
    show (eqV (.str (one b)) (.str (one a)) || inV (.str (one a)) (u.map fun c => V.str (one c))) = _
    rw [ih, e]
    by_cases h : a = b <;> simp [h]
theorem flat_ones (u : List Nat) : (u.map fun c => V.str (one c)).all flatV = true := by
  rw [List.all_map, List.all_eq_true]
  exact fun c _ => rfl
theorem ones_inj {a b : Nat} (h : one a = one b) : a = b := by
  have := congrArg (fun s : Str => s.cps.toList) h
  simpa using this
/-- the first place of a in u -/
theorem first_at {u : List Nat} {a : Nat} (h : a ∈ u) : ∃ j, u[j]? = some a ∧ (∀ m : Nat, m < j → u[m]? ≠ some a) ∧ u.eraseIdx j = u.erase a := by
  induction u with
  | nil => cases h
  | cons b u ih =>
    by_cases hb : b = a
    · subst hb
      exact ⟨0, rfl, fun m hm => by omega, by simp⟩
    · have h' : a ∈ u := by
        rcases List.mem_cons.mp h with q | q
        · exact absurd q.symm hb
        · exact q
      obtain ⟨j, h1, h2, h3⟩ := ih h'
      refine ⟨j + 1, by simpa using h1, fun m hm => ?_, ?_⟩
      · cases m with
        | zero => simpa using hb
        | succ m => simpa using h2 m (by omega)
      · rw [List.erase_cons_tail (by simpa using hb)]
        simp [h3]
section
variable {P : Program} {w : World} {K : PySem.W.Frag} {mg : Str → Option Value} {base : Heap}
abbrev nM : List Str := ["guess", "word", "letter", "hidden", "unmatched", "told"]
theorem scMo : FnScope nM ["guess", "word"] (defScope sMarksOf) := ⟨rfl, rfl, rfl, by decide +kernel, rfl, by decide +kernel, by decide +kernel⟩
theorem ok_marksOf {f : Addr} {fd : FuncData} (F : Fun K "marks_of" "marks_of" sMarksOf f fd) (zip : mg "zip" = none) : FnOk P w K mg base CX0 1 f fd ["guess", "word"] spMarksOf := by
  refine F.ok scMo (fun vs H Q E h => ?_) (fun cdv A outer s H vs Q E hr h => ?_)
  · obtain ⟨g, w, rfl, _⟩ := h
    rfl
  · obtain ⟨g, w', rfl, hl, h6, q⟩ := h
    have nd := scMo.nd
    have hline : sizeLine = 16777216 := sizeLine_eq
    refine ⟨_, pss_cons (ps_setLc (i := 4) (own := [("letter", 2), ("hidden", 3)]) (g := gTup K 2 (gCons (gName 2) (gCons (gName 3) gNil))) (by rfl) nd rfl rfl (sw_true rfl rfl rfl (by decide +kernel))
        (pi_zips (by rfl) zip (pa_cons (pv 0) (pa_cons (pv 1) pa_nil))) (blkOk_by (own := [("letter", 2), ("hidden", 3)]) (N := nM) (sc := defScope sMarksOf) (by decide +kernel))
        (fun _ _ _ _ _ => by exact pg_tup (by rfl) (pgs_cons (pg_name (i := 2) nd rfl (Or.inl rfl)) (pgs_cons (pg_name (i := 3) nd rfl (Or.inl rfl)) pgs_nil)))
        (fun _ _ _ _ _ => pts_one (pt_cmpR op_ne (pv 2) (pv 3) (nomark _))) (fun _ _ _ _ _ => pv 3))
      (pss_cons (ps_set (i := 5) nd rfl (Or.inl rfl) pe_str)
      (pss_cons (ps_for PassesOwn.never rfl (pi_zips (by rfl) zip (pa_cons (pv 0) (pa_cons (pv 1) pa_nil))) (pg_tup (by rfl) (pgs_cons (pg_name (i := 2) nd rfl (Or.inl rfl)) (pgs_cons (pg_name (i := 3) nd rfl (Or.inl rfl)) pgs_nil)))
        (pss_one (ps_if (pt_cmpR op_eq (pv 2) (pv 3) (nomark _)) (pss_one (ps_aug (i := 5) nd rfl (Or.inl rfl) pe_str iop_add_str))
          (pss_one (ps_if (pt_cmpR op_in_seq (pv 2) (pv 4) rfl)
            (pss_cons (ps_expr (pe_bm PySem.F.plainAttrs_list PySem.F.slot_list_remove PySem.F.type_list_remove mt_removeS (pv 4) (pa_cons (pv 2) pa_nil))) (pss_one (ps_aug (i := 5) nd rfl (Or.inl rfl) pe_str iop_add_str)))
            (pss_one (ps_aug (i := 5) nd rfl (Or.inl rfl) pe_str iop_add_str)))))))
      (pss_one (ps_ret (pv 5))))), ?_⟩
    have sz : (tx g).cps.size = (tx w').cps.size := by rw [tx_size, tx_size, hl]
    refine ⟨_, rfl, _, rfl, tx g, tx w', rfl, sz, fun D hD => ?_⟩
    refine lc_it (walk_zips sz) (fun i H' => Same H H' ∧ H' D = some (.lst ((((g.zip w').take i).filter fun p => !decide (p.1 = p.2)).map fun p => V.str (one p.2)))) ⟨same_upd hD, upd_same⟩ (fun _ _ _ _ => trivial) ?_ ?_
    · rintro i x H1 H2 hi ⟨sm, hDi⟩ ⟨T, c, e, rfl, hT, rfl, hx, hy⟩
      have hz := zip_at (tx_at hx) (tx_at hy)
      have nDT : D ≠ T := ne_of_none hDi hT
      refine ⟨T, _, rfl, SqT.of upd_same, rfl, _, _, rfl, _, _, rfl, rfl, rfl, ?_⟩
      have ne_iff : decide (V.str (one c) = V.str (one e)) = decide (c = e) := decide_eq_decide.mpr ⟨fun q => ones_inj (V.str.inj q), fun q => by rw [q]⟩
      have st := take_map_filter (fun p => !decide (p.1 = p.2)) (fun p => p.2) hz
      have st' : (((g.zip w').take (i + 1)).filter fun p => !decide (p.1 = p.2)).map (fun p => V.str (one p.2)) = (((g.zip w').take i).filter fun p => !decide (p.1 = p.2)).map (fun p => V.str (one p.2)) ++ (if (!decide (c = e)) = true then [V.str (one e)] else []) := by
        have := congrArg (List.map fun a => V.str (one a)) st
        rw [List.map_append, List.map_map, List.map_map] at this
        refine this.trans (congrArg _ ?_)
        split <;> rfl
      have hD2 : upd H1 T (.tup [.str (one c), .str (one e)]) D = _ := (upd_ne nDT).trans hDi
      have sm2 : Same H (upd H1 T (.tup [.str (one c), .str (one e)])) := sm.trans (same_upd hT)
      refine ⟨_, rfl, _, rfl, rfl, _, rfl, ?_⟩
      rw [ne_iff]
      refine ite2 (fun hm => ?_) (fun hm => ?_)
      · rw [if_pos hm] at st'
        refine ⟨_, rfl, _, hD2, ?_, fun b o q => ?_, ?_⟩
        · have h1 := List.length_filter_le (fun p : Nat × Nat => !decide (p.1 = p.2)) ((g.zip w').take i)
          have h2 : ((g.zip w').take i).length ≤ 6 := by rw [List.length_take, List.length_zip]; omega
          rw [List.length_map]
          omega
        · rw [upd_ne (ne_of_none q hD)]
          exact sm2 b o q
        · rw [upd_same, st']
      · rw [if_neg hm, List.append_nil] at st'
        exact ⟨sm2, by rw [st']; exact hD2⟩
    rintro H1 ⟨sm, hD1⟩
    have eu : (((g.zip w').take (tx g).cps.size).filter fun p => !decide (p.1 = p.2)).map (fun p => V.str (one p.2)) = (un g w').map fun c => V.str (one c) := by
      rw [tx_size, List.take_of_length_le (by rw [List.length_zip]; omega)]
      unfold un
      rw [List.map_map]
      rfl
    rw [eu] at hD1
    refine ⟨_, rfl, _, rfl, tx g, tx w', rfl, sz, for_it (walk_zips sz) (fun i σ H' => ∃ (u t : List Nat) (v2 v3 : Option V), σ = [some (.str (tx g)), some (.str (tx w')), v2, v3, some (.ref D), some (.str (tx t))] ∧ Same H H' ∧
      H' D = some (.lst (u.map fun c => V.str (one c))) ∧ t ++ go ((g.zip w').drop i) u = mk g w' ∧ t.length = i ∧ u.length ≤ 6) ?_ (fun _ _ _ _ _ => trivial) ?_ ?_⟩
    · refine ⟨un g w', [], _, _, rfl, sm, hD1, rfl, rfl, ?_⟩
      have h1 := List.length_filter_le (fun p : Nat × Nat => !decide (p.1 = p.2)) (g.zip w')
      have h2 : (g.zip w').length ≤ 6 := by rw [List.length_zip]; omega
      unfold un
      rw [List.length_map]
      omega
    · rintro i x σ H2 H3 hi ⟨u, t, v2, v3, rfl, sm2, hD2, hgo, ht, hu⟩ ⟨T, c, e, rfl, hT, rfl, hx, hy⟩
      have hz := zip_at (tx_at hx) (tx_at hy)
      have nDT : D ≠ T := ne_of_none hD2 hT
      rw [drop_at hz] at hgo
      have eq_iff : decide (V.str (one c) = V.str (one e)) = decide (c = e) := decide_eq_decide.mpr ⟨fun q => ones_inj (V.str.inj q), fun q => by rw [q]⟩
      have hD3 : upd H2 T (.tup [.str (one c), .str (one e)]) D = _ := (upd_ne nDT).trans hD2
      have sm3 : Same H (upd H2 T (.tup [.str (one c), .str (one e)])) := sm2.trans (same_upd hT)
      have hi6 : i < g.length := by rw [tx_size] at hi; exact hi
      have tl : (tx t).length = i := by rw [tx_len, ht]
      have grow : ∀ (m : Nat) {r : List Nat}, t ++ m :: r = mk g w' → (t ++ [m]) ++ r = mk g w' := fun m r h => by rw [List.append_assoc]; exact h
      refine ⟨T, _, rfl, SqT.of upd_same, rfl, _, _, rfl, _, _, rfl, rfl, ?_⟩
      refine ⟨_, rfl, _, rfl, rfl, _, rfl, ?_⟩
      rw [eq_iff]
      refine ite2 (fun hm => ?_) (fun hm => ?_)
      · have hm := of_decide_eq_true hm
        refine ⟨_, rfl, _, _, rfl, rfl, by show (tx t).length + 1 ≤ sizeLine; omega, u, t ++ [50], some (.str (one c)), some (.str (one e)), ?_, sm3, hD3, ?_, by rw [List.length_append, ht]; rfl, hu⟩
        · rw [← tx_app]
          rfl
        · refine grow 50 ?_
          rw [go, if_pos hm] at hgo
          exact hgo
      · have hm : ¬ c = e := fun q => hm (decide_eq_true q)
        rw [go, if_neg hm] at hgo
        refine ⟨_, rfl, _, rfl, D, _, rfl, .inl (SqL.of hD3), rfl, flat_ones u, _, rfl, ?_⟩
        refine ite2 (fun hc => ?_) (fun hc => ?_)
        · have hc : c ∈ u := by
            have := (in_ones c u).symm.trans hc
            exact of_decide_eq_true this
          rw [if_pos hc] at hgo
          obtain ⟨j, j1, j2, j3⟩ := first_at hc
          have em : (u.map one).map V.str = u.map fun c => V.str (one c) := by rw [List.map_map]; rfl
          refine ⟨_, rfl, .inl ⟨rfl, _, SqL.of hD3⟩, _, rfl, D, u.map one, one c, j, rfl, rfl, by rw [em]; exact hD3, by rw [List.getElem?_map, j1]; rfl, fun m hm q => j2 m hm ?_, ?_⟩
          · rw [List.getElem?_map] at q
            cases e' : u[m]? with
            | none => rw [e'] at q; cases q
            | some b => rw [e'] at q; exact congrArg some (ones_inj (Option.some.inj q))
          have ee : (((u.map one).eraseIdx j).map V.str) = (u.erase c).map fun c => V.str (one c) := by
            rw [← j3]
            have : ∀ (l : List Nat) (j : Nat), (l.map one).eraseIdx j = (l.eraseIdx j).map one := by
              intro l
              induction l with
              | nil => intro j; simp
              | cons a l ih => intro j; cases j <;> simp [ih]
            rw [this, List.map_map]
            rfl
          refine ⟨_, rfl, _, _, rfl, rfl, by show (tx t).length + 1 ≤ sizeLine; omega, u.erase c, t ++ [49], some (.str (one c)), some (.str (one e)), ?_, fun b o q => ?_, ?_, grow 49 hgo, by rw [List.length_append, ht]; rfl, ?_⟩
          · rw [← tx_app]
            rfl
          · rw [upd_ne (ne_of_none q hD)]
            exact sm3 b o q
          · rw [upd_same, ee]
          · have := List.length_erase_le (a := c) (l := u)
            omega
        · have hc : ¬ c ∈ u := fun q => hc ((in_ones c u).trans (decide_eq_true q))
          rw [if_neg hc] at hgo
          refine ⟨_, rfl, _, _, rfl, rfl, by show (tx t).length + 1 ≤ sizeLine; omega, u, t ++ [48], some (.str (one c)), some (.str (one e)), ?_, sm3, hD3, grow 48 hgo, by rw [List.length_append, ht]; rfl, hu⟩
          rw [← tx_app]
          rfl
    · rintro σ H2 ⟨u, t, v2, v3, rfl, sm2, hD2, hgo, ht, hu⟩
      rw [tx_size, List.drop_of_length_le (by rw [List.length_zip]; omega)] at hgo
      have e : t = mk g w' := by
        rw [go, List.append_nil] at hgo
        exact hgo
      rw [e]
      exact ⟨_, rfl, q H2 sm2⟩
end
end Gm

/-! enumerate of a tuple, of a text -/
namespace PySem
open Builtin
set_option maxHeartbeats 1000000 in
theorem enum1_new {v : Value} {o : Obj} {H : Heap → Prop} (B : Begins v o H) :
    Meets (Builtin.«enumerate.__new__» ⟨[.type "enumerate", v], []⟩) (fun _ R s => H s.heap ∧
      R (.ok (.ret (.ref (s.heap.push o).objs.size))) { s with heap := (s.heap.push o).push { cls := .type "enumerate", data := .fields #[.none, .bool false, .ref s.heap.objs.size, rawInt 0, .none, .none] } }) :=
  .of_wp fun prog w A R s h => by
    obtain ⟨hp, g, d, tk, os⟩ := s
    obtain ⟨h1, hR⟩ := h
    have isS := sub_enumerate
    have go : ∀ {A' : Around} {E : Value → Shared → Prop} {Q : Value → Shared → Prop}, Q (.ref hp.objs.size) ⟨hp.push o, g, d, tk, os⟩ → wpAny (model prog w) A' (pyIter v) Q E ⟨hp, g, d, tk, os⟩ := fun q => B.iter prog w _ _ ⟨hp, g, d, tk, os⟩ _ h1 q
    wp_walk using go
    refine wpAny_stack_any fun st => wpAny_pure ?_
    split
    · rename_i c _ _ _ _ _
      cases (c == Value.type "enumerate") <;> (wp_walk using go; exact ⟨_, rfl, hR⟩)
    · wp_walk using go; exact ⟨_, rfl, hR⟩
theorem enum1_begins {prog : Program} {w : World} {A : Around} {E : Value → Shared → Prop} {s : Shared} {v : Value} {o : Obj} {H : Heap → Prop} {Q : Value → Shared → Prop} (B : Begins v o H) (h1 : H s.heap)
    (h : ∀ h', IsEnum h' (s.heap.objs.size + 1) s.heap.objs.size 0 .none → h'.get? s.heap.objs.size = some o → (∀ b o, s.heap.get? b = some o → h'.get? b = some o) → Q (.ref (s.heap.objs.size + 1)) { s with heap := h' }) :
    wpAny (model prog w) A (call (.type "enumerate") [v]) Q E s := by
  refine callType_new F.called_enumerate (by decide) (F.typeCall_enumerate_1 _) (F.newCall_enumerate_1 _) (fun obj => F.args_object_init_2 obj _) F.entry_enumerate_new (enum1_new B) ⟨h1, ?_⟩
  have sz : (s.heap.push o).objs.size = s.heap.objs.size + 1 := Heap.size_push ..
  show _ ∧ _
  rw [sz]
  have e : IsEnum ((s.heap.push o).push { cls := .type "enumerate", data := .fields #[.none, .bool false, .ref s.heap.objs.size, rawInt 0, .none, .none] }) (s.heap.objs.size + 1) s.heap.objs.size 0 .none := by
    rw [← sz]
    exact Heap.get?_push_size _ rfl
  exact ⟨⟨_, e, rfl⟩, h _ e (Heap.get?_push_of_some _ (Heap.get?_push_size _ B.free)) fun b u x => Heap.get?_push_of_some _ (Heap.get?_push_of_some _ x)⟩
end PySem
namespace L2
open PySem PySem.Spec PyProof.Rows
/-- pairs of a number and what Y tells of it; G stands, n turns -/
def Iten (n : Nat) (G : Hp → Prop) (Y : Nat → V → Prop) : It :=
  ⟨fun i H => i < n ∧ G H, fun i H v H' => ∃ T x, v = .ref T ∧ H T = none ∧ H' = upd H T (.tup [.int (i : Nat), x]) ∧ Y i x, fun i H => i = n ∧ G H⟩
theorem turn_enumD {P : Program} {w : World} {K : PySem.W.Frag} {elts : List Expr} {kk : Nat} {tpos : Pos} {n : Nat} {G : Hp → Prop} {Y : Nat → V → Prop} {e it : Addr} (ne : e ≠ it) (S : Nat → Heap → Prop) (sat : ∀ i h, S i h → ∃ o, h.get? it = some o ∧ ∀ v, o.data ≠ .cell v)
    (sk : ∀ i h h', S i h → (∀ o, h.get? it = some o → h'.get? it = some o) → S i h')
    (draws : ∀ (X : Cx) (pins : List (Addr × Obj)) (σ : St) (H : Hp) (s : Shared), X.prog = P → X.w = w → X.K = K → X.A.handled = none → Inv X pins σ H s → G H →
      ∃ (fp : List Addr) (V : Nat → Value → Prop) (St : Nat → Heap → Prop), Draws X.prog X.w X.A.in1 it fp n V St ∧ e ∉ fp ∧ (∀ i, S i s.heap → St i s.heap) ∧ (∀ i h', St i h' → S i h') ∧ ∀ i u, V i u → ∃ x, RelV x u ∧ Y i x) :
    Turn P w K (.Tuple elts kk tpos) (Iten n G Y) [e, it] e (fun i h => (∃ old, IsEnum h e it ((i : Nat) : Int) old) ∧ S i h) where
  mem := by simp
  obj := fun i h st b hb => by
    obtain ⟨⟨old, he⟩, hs⟩ := st
    have q : b = e ∨ b = it := by simpa using hb
    rcases q with rfl | rfl
    · exact ⟨_, he, fun v q => nomatch q⟩
    · exact sat i h hs
  keep := fun i h h' st k => by
    obtain ⟨⟨old, he⟩, hs⟩ := st
    exact ⟨⟨old, k e (by simp) _ he⟩, sk i h h' hs fun o q => k it (by simp) o q⟩
  item := by
    intro X hP hw hK hc i pins s σ H E I hf st hg
    obtain ⟨⟨old, he⟩, hs⟩ := st
    obtain ⟨hi, gg⟩ := hg
    obtain ⟨fp, Vp, St, D, nf, to, back, rel⟩ := draws X pins σ H s hP hw hK (I.ok.hd hc) I gg
    subst hP hw hK
    have hel : e < s.heap.objs.size := Heap.lt_size he
    have hil : it < s.heap.objs.size := let ⟨_, q, _⟩ := sat i _ hs; Heap.lt_size q
    refine wpAny_pyNext_enum_itemD D he (to i hs) hi ne nf fun u h' tk pu ho hs' hT hsz hk => ?_
    obtain ⟨x, rx, yx⟩ := rel i u pu
    refine ⟨_, rfl, wpAny_letOwnedTupleGo_enum (s := { s with heap := h', toks := tk + 1 }) ho fun g he' sb => ?_⟩
    have hT2 := (sb.2 _ (Nat.ne_of_gt hel)).trans hT
    have fresh : ObjOk X.prog X.w (upd H s.heap.objs.size (.tup [.int (i : Nat), x])) g s.heap.objs.size (.tup [.int (i : Nat), x]) :=
      ⟨by show 2 ≤ sizeLine; decide, _, .cons ⟨tk, rfl⟩ (.cons rx .nil), ⟨_, hT2, rfl, _, rfl⟩⟩
    have J : Inv X pins σ (upd H s.heap.objs.size (.tup [.int (i : Nat), x])) { s with heap := g, toks := tk + 1 } := by
      refine I.turnedNew (ch := [e, it]) (fun b o hb q => ?_) hf (Nat.le_refl _) fresh
      have nb : b ≠ e ∧ b ≠ it := by simpa using hb
      exact (sb.2 b nb.1).trans (hk b o nb.1 nb.2 q)
    refine ⟨.ref s.heap.objs.size, _, J, rfl, ⟨_, x, rfl, I.hok.fresh (Nat.le_refl _), rfl, yx⟩, ⟨⟨u, ?_⟩, sk _ _ _ (back _ _ hs') fun o q => (sb.2 it ne.symm).trans q⟩, fun b hb => ?_⟩
    · have c : ((i + 1 : Nat) : Int) = (i : Int) + 1 := by omega
      rw [c]
      exact he'
    · have q : b = e ∨ b = it := by simpa using hb
      have hlt : b < s.heap.objs.size := by
        rcases q with rfl | rfl
        · exact hel
        · exact hil
      rw [upd_ne (Nat.ne_of_lt hlt)]
      exact (hf b hb).1
  done := by
    intro X hP hw hK hc i pins s σ H E I hf st hg
    obtain ⟨⟨old, he⟩, hs⟩ := st
    obtain ⟨rfl, gg⟩ := hg
    obtain ⟨fp, Vp, St, D, nf, to, back, rel⟩ := draws X pins σ H s hP hw hK (I.ok.hd hc) I gg
    subst hP hw hK
    obtain ⟨f0, f1, f2, f3, f4, f5⟩ := hf it (by simp)
    exact wpAny_pyNext_enum_endD D he (to _ hs) fun h' eb => ⟨rfl, I.turned (t' := s.toks) (fun b o hb q => eb b o hb q) f0 f1 f3 f4 f5⟩
  self := fun A i s Q E st h => let ⟨⟨_, he⟩, _⟩ := st; wpAny_pyIter_enum he h
/-- enumerate(t), t a tuple -/
def iEnumT (K : PySem.W.Frag) (ta : TA) : TI := fun σ H R => ta σ H fun vs H1 => ∃ a xs, vs = [.ref a] ∧ SqT K H1 a xs ∧ R (Iten xs.length (fun H => SqT K H a xs) fun i x => xs[i]? = some x) H1
/-- enumerate(z), z a text -/
def iEnumS (ta : TA) : TI := fun σ H R => ta σ H fun vs H1 => ∃ z : Str, vs = [.str z] ∧ R (Iten z.cps.size (fun _ => True) fun i x => ∃ c, z.cps[i]? = some c ∧ x = .str ⟨#[c]⟩) H1
section
variable {X : Cx} {e : Expr} {ta : TA} {p pos tpos : Pos} {elts : List Expr} {kk : Nat}
theorem pi_enumT (hg : Gl X "enumerate") (hm : X.mg "enumerate" = none) (ha : PA X [e] ta) (hs : starEach [e] X.env = [(false, eval e X.env)] := by rfl) : PI X (.Tuple elts kk tpos) (.Call (.Name "enumerate" p) [e] [] pos) (iEnumT X.K ta) := by
  refine ⟨fun pins s σ H R I h => ?_⟩
  refine Call_ (ld_blt I hg hm boot_enumerate (PyProof.Rows.callWith_type1 (thn (ha.run pos pins s σ H _ I h) fun us s1 hh => ?_) hs rfl))
  obtain ⟨vs, H1, I1, r1, a, xs, rfl, hq, q⟩ := hh
  cases r1 with
  | cons r rr =>
    cases rr
    cases r
    obtain ⟨its, rv, pt, _⟩ := I1.tuple hq
    refine enum1_begins (begins_tuple a its.toArray) pt fun h' he hit hk => wpAny_pyIter_enum he ?_
    have J : Inv X pins σ H1 { s1 with heap := h' } := I1.kept (t' := s1.toks) hk
    have la : a < s1.heap.objs.size := let ⟨o, ho, _⟩ := pt; Heap.lt_size ho
    have na : s1.heap.objs.size + 1 ≠ a := Nat.ne_of_gt (Nat.lt_succ_of_lt la)
    have ni : a ≠ s1.heap.objs.size := Nat.ne_of_lt la
    have lx : xs.length = its.toArray.size := by rw [rv.length]; simp
    refine ⟨s1.heap.objs.size + 1, [s1.heap.objs.size + 1, s1.heap.objs.size], _, _, H1, rfl, J, turn_enumD (Nat.succ_ne_self _) (fun i h => h.IsTupleIter s1.heap.objs.size a i) (fun i h ⟨o, ho, _, hd⟩ => ⟨o, ho, fun v z => by rw [hd] at z; cases z⟩) (fun i h h' st k => st.at k) ?_, ⟨⟨.none, he⟩, ⟨_, hit, rfl, rfl⟩⟩, fun b hb => ?_, q⟩
    · intro X' pins' σ' H' s' hP hw hK hh I' g
      rw [← hK] at g
      obtain ⟨its', rv', pt', _⟩ := I'.tuple g
      have D := Draws.tuple (prog := X'.prog) (w := X'.w) (A := X'.A.in1) (show X'.A.in1.handled = none from hh) s1.heap.objs.size a ni its'.toArray
      have e' : its'.toArray.size = xs.length := by rw [rv'.length]; simp
      refine ⟨[s1.heap.objs.size, a], _, _, e' ▸ D, by simp [na], fun i st => ⟨st, pt'⟩, fun i h' st => st.1, fun i u hu => ?_⟩
      have hu' : its'[i]? = some u := by simpa using hu
      have hi : i < xs.length := by
        rw [rv'.length]
        exact (List.getElem?_eq_some_iff.mp hu').1
      obtain ⟨u2, h2, r2⟩ := rv'.get (List.getElem?_eq_getElem hi)
      rw [hu'] at h2
      cases h2
      exact ⟨_, r2, List.getElem?_eq_getElem hi⟩
    · have e' : b = s1.heap.objs.size + 1 ∨ b = s1.heap.objs.size := by simpa using hb
      have hle : s1.heap.objs.size ≤ b := e'.elim (fun z => z ▸ Nat.le_succ _) fun z => z ▸ Nat.le_refl _
      exact I1.fpOk hle (I1.hok.fresh hle)
theorem pi_enumS (hg : Gl X "enumerate") (hm : X.mg "enumerate" = none) (ha : PA X [e] ta) (hs : starEach [e] X.env = [(false, eval e X.env)] := by rfl) : PI X (.Tuple elts kk tpos) (.Call (.Name "enumerate" p) [e] [] pos) (iEnumS ta) := by
  refine ⟨fun pins s σ H R I h => ?_⟩
  refine Call_ (ld_blt I hg hm boot_enumerate (PyProof.Rows.callWith_type1 (thn (ha.run pos pins s σ H _ I h) fun us s1 hh => ?_) hs rfl))
  obtain ⟨vs, H1, I1, r1, z, rfl, q⟩ := hh
  cases r1 with
  | cons r rr =>
    cases rr
    obtain ⟨t, rfl⟩ := r
    refine enum1_begins (begins_text z t) trivial fun h' he hit hk => wpAny_pyIter_enum he ?_
    have J : Inv X pins σ H1 { s1 with heap := h' } := I1.kept (t' := s1.toks) hk
    refine ⟨s1.heap.objs.size + 1, [s1.heap.objs.size + 1, s1.heap.objs.size], _, _, H1, rfl, J, turn_enumD (Nat.succ_ne_self _) (fun i h => h.IsStrIter s1.heap.objs.size (strIterType z) z t i) (fun i h ⟨o, ho, _, hd⟩ => ⟨o, ho, fun v z => by rw [hd] at z; cases z⟩) (fun i h h' ⟨o, ho, st⟩ k => ⟨o, k o ho, st⟩) ?_, ⟨⟨.none, he⟩, ⟨_, hit, rfl, rfl⟩⟩, fun b hb => ?_, q⟩
    · intro X' pins' σ' H' s' hP hw hK hh I' g
      refine ⟨[s1.heap.objs.size], _, _, Draws.text (show X'.A.in1.handled = none from hh) s1.heap.objs.size z t, by simp, fun i st => st, fun i h' st => st, fun i u hu => ?_⟩
      obtain ⟨c, k, hc, rfl⟩ := hu
      exact ⟨.str ⟨#[c]⟩, ⟨k, rfl⟩, c, hc, rfl⟩
    · have e' : b = s1.heap.objs.size + 1 ∨ b = s1.heap.objs.size := by simpa using hb
      have hle : s1.heap.objs.size ≤ b := e'.elim (fun z => z ▸ Nat.le_succ _) fun z => z ▸ Nat.le_refl _
      exact I1.fpOk hle (I1.hok.fresh hle)
theorem walk_iten {n : Nat} {G : Hp → Prop} {Y : Nat → V → Prop} : Walk (Iten n G Y) n G (fun i H v H' => ∃ T x, v = .ref T ∧ H T = none ∧ H' = upd H T (.tup [.int (i : Nat), x]) ∧ Y i x) :=
  ⟨fun i _ hi g => ⟨hi, g⟩, fun _ g => ⟨rfl, g⟩, fun _ _ _ _ _ _ y => y⟩
end
end L2

/-! o.m(k = v, ..); C(e, .., *y) -/
namespace L2
open PySem PySem.Spec PyProof.Rows
section
variable {X : Cx} {CX : CXT} {k : Nat} {f C : Addr} {fd : FuncData} {ps ks : List Str} {sp : Sp} {E : XK} {x m : Str} {o e : Expr} {es : List Expr} {kws : List Keyword} {ta : TE} {t tk : TA} {p pos apos : Pos} {g : List Value → List Value → List Value} {gV : List V → List V → List V}
def tMethK (C : Addr) (m : Str) (n : Nat) (sp : Sp) (gV : List V → List V → List V) (E : XK) (ta : TE) (tk : TA) : TE := fun σ H Q => ta σ H fun x H1 => ∃ a dx fs, x = .ref a ∧ H1 a = some (.ins C dx fs) ∧ fs.lookup m = none ∧
  tk σ H1 fun zs H2 => zs.length = n ∧ sp (gV [x] zs) H2 Q E
/-- o.m(k = v, ..), keywords alone -/
theorem pe_methK0 {pl : Sem Bool} (he : PE X o ta) (c : Cls X.K C) (hm : Meth X.K C m f) (F : FnOk X.prog X.w X.K X.mg X.base CX k f fd ps sp) (hr : Room k X.A) (hb : KBn X.K fd ps 1 ks g gV) (hx : Passes CX X E) (hkw : PK X kws tk)
    (hall : (backToKw pos (keywordEach kws X.env)).all (·.1.isSome) = true := by rfl) (hks : (backToKw pos (keywordEach kws X.env)).filterMap (·.1) = ks := by rfl)
    (hpl : ((backTo pos (starEach [] X.env)).any (·.1) || (backToKw pos (keywordEach kws X.env)).any (·.1.isNone)) = false := by rfl)
    (ht : eval (.Call (.Attribute o m apos) [] kws pos) X.env = (do
      let ov ← eval o X.env
      standAt apos.atName
      let (f, first) ← holding [ov] (getMethod ov m pl)
      callWith pos f first (backTo pos (starEach [] X.env)) (backToKw pos (keywordEach kws X.env))) := by rfl) :
    PE X (.Call (.Attribute o m apos) [] kws pos) (tMethK C m ks.length sp gV E ta tk) := by
  constructor
  intro pins s σ H Q I h
  refine PySem.W.methodCall_KW (pl := pl) (thn (he.run pins s σ H _ I h) fun u s1 hh => ?_) ht
  obtain ⟨y, H1, I1, ry, a, dx, fs, rfl, ea, l, q⟩ := hh
  obtain rfl : u = Value.ref a := ry
  refine getmeth_ok I1 ea c hm l ?_
  refine PySem.W.callWith_KW0 (first := [.ref a]) (h₀ := X.base) I.ok.mod.kin hm.kp hall (thn (hkw.run pos pins s1 σ H1 _ I1 q) fun ws s2 h2 => ?_) hpl
  obtain ⟨zs, H2, I2, rz, lz, q2⟩ := h2
  refine ⟨I2.kIn, ?_⟩
  rw [hks]
  exact run_fnN (us := [.ref a]) (vs := [.ref a]) F hr hb hx I2 (.cons rfl .nil) rz rfl lz q2
/-- C(e, .., *y, ..) -/
theorem pe_makeS2 (M : Mk X.K C f) (F : FnR X.prog X.w X.K X.mg X.base CX k f sp) (hr : Room (k + 1) X.A) (hg : Gl X x) (hm : X.mg x = some (.ref C)) (hx : Passes CX X E) (ha : PA X (e :: es) t) (hdb : (x == ("__debug__" : Str)) = false := by decide)
    (he : starEach (e :: es) X.env = (false, eval e X.env) :: starEach es X.env := by rfl) (hst : (backTo pos (starEach es X.env)).any (·.1) = true := by rfl) : PE X (.Call (.Name x p) (e :: es) [] pos) (StX.tMakeR C sp E t) := by
  constructor
  intro pins s σ H Q I h
  refine wpAny_Call_Name_kw (ld_glob I hg hm ?_ hdb)
  refine PySem.W.callWith_S2 (h₀ := X.base) I.ok.mod.kin M.kp (thn (ha.run pos pins s σ H _ I h) fun us s1 hh => ?_) he hst
  obtain ⟨vs, H1, I1, r, q⟩ := hh
  exact ⟨I1.kIn, StX.run_makeR M F hr hx I1 r q⟩
end
end L2

namespace Gm
open PySem L2







def spOver (K : PySem.W.Frag) : Sp := fun vs H Q _ => ∃ (v : V) (ch : List Nat) (n : Int), vs = [v, .str (tx ch), .int n] ∧
  ((∃ s : List Nat, v = .str (tx s) ∧ s.length ≤ 1000 ∧ ∀ H', Same H H' → Q (.bl (decide ((s.length : Int) = n ∧ ∀ c ∈ s, c ∈ ch))) H') ∨ (∃ t, TyX K H v t ∧ PySem.W.kitOne K t (.type "str") = some false ∧ Q (.bl false) H))
/-- words of the board of l and n -/
def Wd (l : List Nat) (n : Int) (s : List Nat) : Prop := (s.length : Int) = n ∧ ∀ c ∈ s, c ∈ l
def Bd (C : Addr) (H : Hp) (p : Addr) (l : List Nat) (n : Int) : Prop := BoardAt C H p (tx l) n ∧ l.length ≤ 26 ∧ 1 ≤ n ∧ n ≤ 6
theorem Bd.same {C p : Addr} {H H' : Hp} {l : List Nat} {n : Int} (h : Bd C H p l n) (e : Same H H') : Bd C H' p l n := ⟨let ⟨dx, h⟩ := h.1; ⟨dx, e _ _ h⟩, h.2⟩
def spChkW (C : Addr) : Sp := fun vs H Q _ => ∃ (p : Addr) (l s : List Nat) (n : Int), vs = [.ref p, .str (tx s)] ∧ Bd C H p l n ∧ Wd l n s ∧ ∀ H', Same H H' → Q .non H'
def spChkM (C : Addr) : Sp := fun vs H Q _ => ∃ (p : Addr) (l s : List Nat) (n : Int), vs = [.ref p, .str (tx s)] ∧ Bd C H p l n ∧ Wd [48, 49, 50] n s ∧ ∀ H', Same H H' → Q .non H'
def spChkB (C : Addr) : Sp := fun vs H Q _ => ∃ (p : Addr) (l : List Nat) (n : Int), vs = [.ref p] ∧ Bd C H p l n ∧ Q .non H
instance {l : List Nat} {n : Int} {s : List Nat} : Decidable (Wd l n s) := by unfold Wd; infer_instance
/-- is_word, are_marks: ch = none: the board's letters -/
def spIsW (K : PySem.W.Frag) (C : Addr) (ch : Option (List Nat)) : Sp := fun vs H Q _ => ∃ (p : Addr) (l : List Nat) (n : Int) (v : V), vs = [.ref p, v] ∧ Bd C H p l n ∧
  ((∃ s : List Nat, v = .str (tx s) ∧ s.length ≤ 1000 ∧ ∀ H', Same H H' → Q (.bl (decide (Wd (ch.getD l) n s))) H') ∨ (∃ t, TyX K H v t ∧ PySem.W.kitOne K t (.type "str") = some false ∧ Q (.bl false) H))
/-- a row stands at a -/
def RowAt (H : Hp) (a : Addr) (r : List Nat × List Nat) : Prop := H a = some (.tup [.str (tx r.1), .str (tx r.2)])
def RowOk (l : List Nat) (n : Int) (r : List Nat × List Nat) : Prop := Wd l n r.1 ∧ Wd [48, 49, 50] n r.2
def spIsRow (C : Addr) : Sp := fun vs H Q _ => ∃ (p a : Addr) (l : List Nat) (n : Int) (r : List Nat × List Nat), vs = [.ref p, .ref a] ∧ Bd C H p l n ∧ RowAt H a r ∧ RowOk l n r ∧ ∀ H', Same H H' → Q (.bl true) H'
theorem in_tx {c : Nat} {l : List Nat} : decide (c ∈ (tx l).cps.toList) = decide (c ∈ l) := by simp
section
variable {P : Program} {w : World} {K : PySem.W.Frag} {mg : Str → Option Value} {base : Heap}
abbrev nO : List Str := ["value", "characters", "length", "character"]
theorem scOv : FnScope nO ["value", "characters", "length"] (defScope sOver) := ⟨rfl, rfl, rfl, by decide +kernel, rfl, by decide +kernel, by decide +kernel⟩
theorem ok_over {f : Addr} {fd : FuncData} (F : Fun K "is_text_over" "is_text_over" sOver f fd) (T : TxW mg) (mall : mg "all" = none) : FnOk P w K mg base CX0 1 f fd ["value", "characters", "length"] (spOver K) := by
  refine F.ok scOv (fun vs H Q E h => ?_) (fun cdv A outer s H vs Q E hr h => ?_)
  · obtain ⟨v, ch, n, rfl, _⟩ := h
    rfl
  · obtain ⟨v, ch, n, rfl, h⟩ := h
    have nd := scOv.nd
    have hline : sizeLine = 16777216 := sizeLine_eq
    refine ⟨_, pss_cons (ps_if (PW.pt (pw_or (pt_not (pt_val (pe_callB call_isi (by rfl) T.isi (by decide +kernel) (pa_cons (pv 0) (pa_cons (pe_bltn (v := .ty "str") (by rfl) T.str (by decide +kernel) rfl) pa_nil)))))
        (pw_or1 (pt_cmpR op_ne (pe_callB call_len_str (by rfl) T.len PySem.boot_len (pa_cons (pv 0) pa_nil)) (pv 2) (nomark _)))))
        (pss_one (ps_ret pe_bl)) pss_nil)
      (pss_one (ps_ret (pe_callB (cr_all rfl) (by rfl) mall (by decide +kernel) (pa_cons
        (pe_lc (own := [("character", 3)]) (g := gName 3) (by rfl) nd (pi_str (pv 0)) (blkOk_by (own := [("character", 3)]) (N := nO) (sc := defScope sOver) (by decide +kernel))
          (fun _ _ _ _ _ => pg_name (i := 3) nd rfl (Or.inl rfl)) (fun _ _ _ _ _ => pts_nil) (fun _ _ _ _ _ => pe_cmpR op_in_sign (pv 3) (pv 1) rfl)) pa_nil)))), ?_⟩
    rcases h with ⟨z, rfl, hz, q⟩ | ⟨t, ty, no, q⟩
    · have zl : (tx z).length = z.length := tx_len z
      refine ⟨_, rfl, _, _, _, _, _, rfl, .ty "str", .base (.str _), kit_ty (r := true) (by decide +kernel), _, rfl, iteF ?_⟩
      refine ⟨_, rfl, _, rfl, by omega, _, rfl, rfl, _, rfl, ?_⟩
      have ei : decide (V.int ((tx z).length : Nat) = V.int n) = decide ((z.length : Int) = n) := decide_eq_decide.mpr ⟨fun e => by rw [← zl]; exact V.int.inj e, fun e => by rw [zl, e]⟩
      rw [ei]
      refine ite2 (fun h => ?_) (fun h => ?_)
      · have e : decide ((z.length : Int) = n ∧ ∀ c ∈ z, c ∈ ch) = false := decide_eq_false fun a => by rw [decide_eq_true a.1] at h; cases h
        rw [e] at q
        exact q _ (Same.refl H)
      · have hn : (z.length : Int) = n := by
          refine Decidable.byContradiction fun c => h ?_
          rw [decide_eq_false c]
          rfl
        refine ⟨_, rfl, tx z, rfl, fun D hD => ?_⟩
        refine lc_it (walk_str (z := tx z)) (fun i H' => Same H H' ∧ H' D = some (.lst (((z.take i).map fun c => decide (c ∈ ch)).map V.bl))) ⟨same_upd hD, upd_same⟩ (fun _ _ _ _ => trivial) ?_ ?_
        · rintro i x H1 H2 hi ⟨sm, hDi⟩ ⟨rfl, c, hc, rfl⟩
          have hc' := tx_at hc
          have hi' : i < z.length := (List.getElem?_eq_some_iff.mp hc').1
          refine ⟨rfl, ⟨_, rfl, _, rfl, c, tx ch, rfl, rfl, _, hDi, ?_, fun b o q => ?_, ?_⟩⟩
          · rw [List.length_map, List.length_map, List.length_take]
            omega
          · rw [upd_ne (ne_of_none q hD)]
            exact sm b o q
          · have e2 : z.take (i + 1) = z.take i ++ [c] := by rw [List.take_succ_eq_append_getElem hi', (List.getElem?_eq_some_iff.mp hc').2]
            rw [upd_same, e2, List.map_append, List.map_append, in_tx]
            rfl
        · rintro H1 ⟨sm, hD1⟩
          refine ⟨D, _, rfl, SqL.of hD1, ?_⟩
          have e : decide ((z.length : Int) = n ∧ ∀ c ∈ z, c ∈ ch) = ((z.take (tx z).cps.size).map fun c => decide (c ∈ ch)).all id := by
            rw [tx_size, List.take_length, List.all_map]
            have : (List.all z (id ∘ fun c => decide (c ∈ ch))) = decide (∀ c ∈ z, c ∈ ch) := by
              rw [Bool.eq_iff_iff, List.all_eq_true, decide_eq_true_iff]
              exact ⟨fun h c hc => of_decide_eq_true (h c hc), fun h c hc => decide_eq_true (h c hc)⟩
            rw [this]
            exact decide_eq_decide.mpr ⟨fun a => a.2, fun a => ⟨hn, a⟩⟩
          rw [e] at q
          exact q _ sm
    · exact ⟨_, rfl, _, _, _, _, _, rfl, .ty "str", ty, no, _, rfl, iteT q⟩
theorem scIW : FnScope ["board", "value"] ["board", "value"] (defScope sIsW) := ⟨rfl, rfl, rfl, by decide +kernel, rfl, by decide +kernel, by decide +kernel⟩
theorem ok_isW {f C fO : Addr} {fd fdO : FuncData} (F : Fun K "is_word" "is_word" sIsW f fd) (TC : TxC K mg C) (GO : FnOk P w K mg base CX0 1 fO fdO ["value", "characters", "length"] (spOver K)) (DO : Df K mg "is_text_over" fO fdO ["value", "characters", "length"]) :
    FnOk P w K mg base CX0 2 f fd ["board", "value"] (spIsW K C none) := by
  refine F.ok scIW (fun vs H Q E h => ?_) (fun cdv A outer s H vs Q E hr h => ?_)
  · obtain ⟨p, l, n, v, rfl, _⟩ := h
    rfl
  · obtain ⟨p, l, n, v, rfl, ⟨⟨dx, hp⟩, l26, n1, n6⟩, h⟩ := h
    refine ⟨_, pss_one (ps_ret (pe_call GO hr (by rfl) DO.mg DO.kp DO.b .nil pass0 (pa_cons (pv 1) (pa_cons (pe_fld (pv 0) rfl) (pa_cons (pe_fld (pv 0) rfl) pa_nil))))), ?_⟩
    refine ⟨_, rfl, _, rfl, p, C, dx, _, _, rfl, hp, TC.cl, TC.nL, bf_letters _ _, _, rfl, p, C, dx, _, _, rfl, hp, TC.cl, TC.nN, bf_length _ _, _, _, _, rfl, ?_⟩
    exact h
theorem scAM : FnScope ["board", "value"] ["board", "value"] (defScope sAreM) := ⟨rfl, rfl, rfl, by decide +kernel, rfl, by decide +kernel, by decide +kernel⟩
theorem ok_areM {f C fO : Addr} {fd fdO : FuncData} (F : Fun K "are_marks" "are_marks" sAreM f fd) (TC : TxC K mg C) (tM : ∃ t, mg "MARKS" = some (.str (tx [48, 49, 50]) t)) (GO : FnOk P w K mg base CX0 1 fO fdO ["value", "characters", "length"] (spOver K)) (DO : Df K mg "is_text_over" fO fdO ["value", "characters", "length"]) :
    FnOk P w K mg base CX0 2 f fd ["board", "value"] (spIsW K C (some [48, 49, 50])) := by
  refine F.ok scAM (fun vs H Q E h => ?_) (fun cdv A outer s H vs Q E hr h => ?_)
  · obtain ⟨p, l, n, v, rfl, _⟩ := h
    rfl
  · obtain ⟨p, l, n, v, rfl, ⟨⟨dx, hp⟩, l26, n1, n6⟩, h⟩ := h
    obtain ⟨tm, mgM⟩ := tM
    refine ⟨_, pss_one (ps_ret (pe_call GO hr (by rfl) DO.mg DO.kp DO.b .nil pass0 (pa_cons (pv 1) (pa_cons (pe_glob (v := .str (tx [48, 49, 50])) (by rfl) mgM ⟨_, rfl⟩) (pa_cons (pe_fld (pv 0) rfl) pa_nil))))), ?_⟩
    refine ⟨_, rfl, _, rfl, p, C, dx, _, _, rfl, hp, TC.cl, TC.nN, bf_length _ _, _, _, _, rfl, ?_⟩
    exact h
theorem scIR : FnScope ["board", "value"] ["board", "value"] (defScope sIsRow) := ⟨rfl, rfl, rfl, by decide +kernel, rfl, by decide +kernel, by decide +kernel⟩
theorem ok_isRow {f C fW fM : Addr} {fd fdW fdM : FuncData} (F : Fun K "is_row" "is_row" sIsRow f fd) (T : TxW mg) (tt : mg "tuple" = none) (GW : FnOk P w K mg base CX0 2 fW fdW ["board", "value"] (spIsW K C none)) (DW : Df K mg "is_word" fW fdW ["board", "value"])
    (GM : FnOk P w K mg base CX0 2 fM fdM ["board", "value"] (spIsW K C (some [48, 49, 50]))) (DM : Df K mg "are_marks" fM fdM ["board", "value"]) : FnOk P w K mg base CX0 3 f fd ["board", "value"] (spIsRow C) := by
  refine F.ok scIR (fun vs H Q E h => ?_) (fun cdv A outer s H vs Q E hr h => ?_)
  · obtain ⟨p, a, l, n, r, rfl, _⟩ := h
    rfl
  · obtain ⟨p, a, l, n, r, rfl, hb, ha, ok, q⟩ := h
    have n6 := hb.2.2.2
    have l1 := ok.1.1
    have l2 := ok.2.1
    refine ⟨_, pss_cons (ps_if (PW.pt (pw_or (pt_not (pt_val (pe_callB call_isi (by rfl) T.isi (by decide +kernel) (pa_cons (pv 1) (pa_cons (pe_bltn (v := .ty "tuple") (by rfl) tt (by decide +kernel) rfl) pa_nil)))))
        (pw_or1 (pt_cmpR op_ne (pe_callB call_len_seq (by rfl) T.len PySem.boot_len (pa_cons (pv 1) pa_nil)) pe_int (nomark _))))) (pss_one (ps_ret pe_bl)) pss_nil)
      (pss_one (ps_ret (pe_and (pe_call GW hr (by rfl) DW.mg DW.kp DW.b .nil pass0 (pa_cons (pv 0) (pa_cons (pe_ix ix_tup (pv 1) pe_int (fun _ _ => rfl)) pa_nil)))
        (pe_one (pe_call GM hr (by rfl) DM.mg DM.kp DM.b .nil pass0 (pa_cons (pv 0) (pa_cons (pe_ix ix_tup (pv 1) pe_int (fun _ _ => rfl)) pa_nil))))))), ?_⟩
    refine ⟨_, rfl, _, _, _, _, _, rfl, .ty "tuple", .base (.tup ha), kit_ty (r := true) (by decide +kernel), _, rfl, iteF ?_⟩
    refine ⟨_, rfl, a, _, rfl, .inr (SqT.of ha), rfl, _, rfl, iteF ?_⟩
    refine ⟨_, rfl, _, rfl, a, _, _, _, rfl, rfl, SqT.of ha, rfl, p, l, n, _, rfl, hb, .inl ⟨r.1, rfl, by omega, fun H1 s1 => ⟨_, rfl, ?_⟩⟩⟩
    rw [decide_eq_true (show Wd ((none : Option (List Nat)).getD l) n r.1 from ok.1)]
    refine iteT ⟨_, rfl, _, rfl, a, _, _, _, rfl, rfl, SqT.of (s1 _ _ ha), rfl, p, l, n, _, rfl, hb.same s1, .inl ⟨r.2, rfl, by omega, fun H2 s2 => ?_⟩⟩
    rw [decide_eq_true (show Wd ((some [48, 49, 50] : Option (List Nat)).getD l) n r.2 from ok.2)]
    exact q H2 fun b o e => s2 _ _ (s1 _ _ e)
theorem scCW : FnScope ["board", "word"] ["board", "word"] (defScope sChkW) := ⟨rfl, rfl, rfl, by decide +kernel, rfl, by decide +kernel, by decide +kernel⟩
theorem ok_chkW {f C fO : Addr} {fd fdO : FuncData} (F : Fun K "check_word" "check_word" sChkW f fd) (GO : FnOk P w K mg base CX0 2 fO fdO ["board", "value"] (spIsW K C none)) (DO : Df K mg "is_word" fO fdO ["board", "value"]) :
    FnOk P w K mg base CX0 3 f fd ["board", "word"] (spChkW C) := by
  refine F.ok scCW (fun vs H Q E h => ?_) (fun cdv A outer s H vs Q E hr h => ?_)
  · obtain ⟨p, l, s, n, rfl, _⟩ := h
    rfl
  · obtain ⟨p, l, z, n, rfl, hb, hw, q⟩ := h
    have n6 := hb.2.2.2
    refine ⟨_, pss_one (ps_if (pt_not (pt_val (pe_call GO hr (by rfl) DO.mg DO.kp DO.b .nil pass0 (pa_cons (pv 0) (pa_cons (pv 1) pa_nil))))) (pss_one ps_never) pss_nil), ?_⟩
    refine ⟨_, rfl, _, rfl, p, l, n, _, rfl, hb, .inl ⟨z, rfl, by have := hw.1; omega, fun H1 s1 => ⟨_, rfl, ?_⟩⟩⟩
    rw [decide_eq_true (show Wd ((none : Option (List Nat)).getD l) n z from hw)]
    exact iteF (q H1 s1)
theorem scCM : FnScope ["board", "told"] ["board", "told"] (defScope sChkM) := ⟨rfl, rfl, rfl, by decide +kernel, rfl, by decide +kernel, by decide +kernel⟩
theorem ok_chkM {f C fO : Addr} {fd fdO : FuncData} (F : Fun K "check_marks" "check_marks" sChkM f fd) (GO : FnOk P w K mg base CX0 2 fO fdO ["board", "value"] (spIsW K C (some [48, 49, 50]))) (DO : Df K mg "are_marks" fO fdO ["board", "value"]) :
    FnOk P w K mg base CX0 3 f fd ["board", "told"] (spChkM C) := by
  refine F.ok scCM (fun vs H Q E h => ?_) (fun cdv A outer s H vs Q E hr h => ?_)
  · obtain ⟨p, l, s, n, rfl, _⟩ := h
    rfl
  · obtain ⟨p, l, z, n, rfl, hb, hw, q⟩ := h
    have n6 := hb.2.2.2
    refine ⟨_, pss_one (ps_if (pt_not (pt_val (pe_call GO hr (by rfl) DO.mg DO.kp DO.b .nil pass0 (pa_cons (pv 0) (pa_cons (pv 1) pa_nil))))) (pss_one ps_never) pss_nil), ?_⟩
    refine ⟨_, rfl, _, rfl, p, l, n, _, rfl, hb, .inl ⟨z, rfl, by have := hw.1; omega, fun H1 s1 => ⟨_, rfl, ?_⟩⟩⟩
    rw [decide_eq_true (show Wd ((some [48, 49, 50] : Option (List Nat)).getD l) n z from hw)]
    exact iteF (q H1 s1)
theorem scCB : FnScope ["board"] ["board"] (defScope sChkB) := ⟨rfl, rfl, rfl, by decide +kernel, rfl, by decide +kernel, by decide +kernel⟩
theorem ok_chkB {f C : Addr} {fd : FuncData} (F : Fun K "check_board" "check_board" sChkB f fd) (T : TxW mg) (TC : TxC K mg C) : FnOk P w K mg base CX0 1 f fd ["board"] (spChkB C) := by
  refine F.ok scCB (fun vs H Q E h => ?_) (fun cdv A outer s H vs Q E hr h => ?_)
  · obtain ⟨p, l, n, rfl, _⟩ := h
    rfl
  · obtain ⟨p, l, n, rfl, ⟨⟨dx, hp⟩, l26, n1, n6⟩, q⟩ := h
    refine ⟨_, pss_one (ps_if (pt_not (pt_val (pe_callB call_isi (by rfl) T.isi (by decide +kernel) (pa_cons (pv 0) (pa_cons (pe_glob (v := .ref C) (by rfl) TC.mgC rfl) pa_nil))))) (pss_one ps_never) pss_nil), ?_⟩
    exact ⟨_, rfl, _, _, _, _, _, rfl, .own C, ty_board TC hp, TC.own, _, rfl, iteF q⟩
end
end Gm

namespace Gm
open PySem L2




abbrev Row := List Nat × List Nat
inductive Rws (H : Hp) : List V → List Row → Prop
  | nil : Rws H [] []
  | cons {a : Addr} {r : Row} {vs : List V} {rs : List Row} : RowAt H a r → Rws H vs rs → Rws H (.ref a :: vs) (r :: rs)
theorem Rws.same {H H' : Hp} {vs : List V} {rs : List Row} (h : Rws H vs rs) (s : Same H H') : Rws H' vs rs := by
  induction h with
  | nil => exact .nil
  | cons a _ ih => exact .cons (s _ _ a) ih
theorem Rws.len {H : Hp} {vs : List V} {rs : List Row} (h : Rws H vs rs) : vs.length = rs.length := by
  induction h with
  | nil => rfl
  | cons _ _ ih => rw [List.length_cons, List.length_cons, ih]
theorem Rws.get {H : Hp} {vs : List V} {rs : List Row} (h : Rws H vs rs) : ∀ {i : Nat} {x : V}, vs[i]? = some x → ∃ a r, x = .ref a ∧ rs[i]? = some r ∧ RowAt H a r := by
  induction h with
  | nil =>
    intro i x e
    cases e
  | @cons a r vs rs ha _ ih =>
    intro i x e
    cases i with
    | zero =>
      cases e
      exact ⟨a, r, rfl, rfl, ha⟩
    | succ i => exact ih (by simpa using e)
theorem Rws.app {H : Hp} {vs ws : List V} {rs qs : List Row} (h : Rws H vs rs) (k : Rws H ws qs) : Rws H (vs ++ ws) (rs ++ qs) := by
  induction h with
  | nil => exact k
  | cons a _ ih => exact .cons a ih
def RowsAt (H : Hp) (r : Addr) (rows : List Row) : Prop := ∃ vs, H r = some (.tup vs) ∧ Rws H vs rows
theorem RowsAt.same {H H' : Hp} {r : Addr} {rows : List Row} (h : RowsAt H r rows) (s : Same H H') : RowsAt H' r rows := let ⟨vs, e, k⟩ := h; ⟨vs, s _ _ e, k.same s⟩
def RowsOk (l : List Nat) (n : Int) (rows : List Row) : Prop := (∀ r ∈ rows, RowOk l n r) ∧ rows.length ≤ 20
def histF (b r : Addr) : List (Str × V) := putF "rows" (.ref r) (putF "board" (.ref b) [])
theorem hf_eq (b r : Addr) : histF b r = ([("board", V.ref b), ("rows", V.ref r)] : List (Str × V)) := by
  have h1 : ¬ (("board" : Str) = "rows") := by decide +kernel
  unfold histF
  simp only [putF]
  rw [if_neg h1]
theorem hf_board (b r : Addr) : (histF b r).lookup ("board" : Str) = some (.ref b) := by rw [hf_eq]; rfl
theorem hf_rows (b r : Addr) : (histF b r).lookup ("rows" : Str) = some (.ref r) := by
  have h1 : (("rows" : Str) == "board") = false := by decide +kernel
  rw [hf_eq, List.lookup_cons, h1]
  rfl
theorem hf_none (b r : Addr) {x : Str} (h1 : (x == ("board" : Str)) = false) (h2 : (x == ("rows" : Str)) = false) : (histF b r).lookup x = none := by
  rw [hf_eq, List.lookup_cons, h1, List.lookup_cons, h2]
  rfl
/-- a history stands at p -/
def HistAt (C CH : Addr) (H : Hp) (p : Addr) (l : List Nat) (n : Int) (rows : List Row) : Prop := ∃ dx b r, H p = some (.ins CH dx (histF b r)) ∧ Bd C H b l n ∧ RowsAt H r rows ∧ RowsOk l n rows
theorem HistAt.same {C CH p : Addr} {H H' : Hp} {l : List Nat} {n : Int} {rows : List Row} (h : HistAt C CH H p l n rows) (s : Same H H') : HistAt C CH H' p l n rows := by
  obtain ⟨dx, b, r, e, hb, hr, ok⟩ := h
  exact ⟨dx, b, r, s _ _ e, hb.same s, hr.same s, ok⟩
structure TxH (K : PySem.W.Frag) (mg : Str → Option Value) (CH : Addr) : Prop where
  cl : Cls K CH
  mgC : mg "History" = some (.ref CH)
  nB : NoAttr K CH "board"
  nR : NoAttr K CH "rows"
def spChkR (C : Addr) : Sp := fun vs H Q _ => ∃ (p r : Addr) (l : List Nat) (n : Int) (rows : List Row), vs = [.ref p, .ref r] ∧ Bd C H p l n ∧ RowsAt H r rows ∧ RowsOk l n rows ∧ ∀ H', Same H H' → Q .non H'
def spHInit (C CH : Addr) : Sp := fun vs H Q _ => ∃ (p dx b r : Addr) (l : List Nat) (n : Int) (rows : List Row), vs = [.ref p, .ref b, .ref r] ∧ H p = some (.ins CH dx []) ∧ Bd C H b l n ∧ RowsAt H r rows ∧ RowsOk l n rows ∧
  ∀ H' dx', But p H H' → H' p = some (.ins CH dx' (histF b r)) → Q .non H'
def spHInitR (C CH : Addr) : Sp := fun vs H Q E => ∃ ws rest, vs = ws ++ rest ∧ ws.length = (["self", "board"] : List Str).length ∧ rest.length ≤ sizeLine ∧ ∀ p, H p = none → spHInit C CH (ws ++ [V.ref p]) (upd H p (.tup rest)) Q E
def spThen (C CH : Addr) : Sp := fun vs H Q _ => ∃ (p : Addr) (l g t : List Nat) (n : Int) (rows : List Row), vs = [.ref p, .str (tx g), .str (tx t)] ∧ HistAt C CH H p l n rows ∧ RowOk l n (g, t) ∧ rows.length < 20 ∧
  ∀ H' q, Same H H' → H q = none → HistAt C CH H' q l n (rows ++ [(g, t)]) → Q (.ref q) H'
def fitsB (rows : List Row) (w : List Nat) : Bool := rows.all fun r => decide (mk r.1 w = r.2)
def spFits (C CH : Addr) : Sp := fun vs H Q _ => ∃ (p : Addr) (l w : List Nat) (n : Int) (rows : List Row), vs = [.ref p, .str (tx w)] ∧ HistAt C CH H p l n rows ∧ Wd l n w ∧ ∀ H', Same H H' → Q (.bl (fitsB rows w)) H'
theorem sm_tr {A B D : Hp} (x : Same A B) (y : Same B D) : Same A D := fun b o e => y _ _ (x _ _ e)
section
variable {P : Program} {w : World} {K : PySem.W.Frag} {mg : Str → Option Value} {base : Heap}
abbrev nCR : List Str := ["board", "rows", "index", "row"]
theorem scCR : FnScope nCR ["board", "rows"] (defScope sChkR) := ⟨rfl, rfl, rfl, by decide +kernel, rfl, by decide +kernel, by decide +kernel⟩
theorem ok_chkR {f C fR : Addr} {fd fdR : FuncData} (F : Fun K "check_rows" "check_rows" sChkR f fd) (tl : mg "len" = none) (te : mg "enumerate" = none) (tm : ∃ t, mg "MOST_ROWS" = some (.int 20 t)) (GR : FnOk P w K mg base CX0 3 fR fdR ["board", "value"] (spIsRow C)) (DR : Df K mg "is_row" fR fdR ["board", "value"]) :
    FnOk P w K mg base CX0 4 f fd ["board", "rows"] (spChkR C) := by
  refine F.ok scCR (fun vs H Q E h => ?_) (fun cdv A outer s H vs Q E hr h => ?_)
  · obtain ⟨p, r, l, n, rows, rfl, _⟩ := h
    rfl
  · obtain ⟨p, r, l, n, rows, rfl, hb, ⟨vs, hv, hw⟩, ok, q⟩ := h
    have nd := scCR.nd
    obtain ⟨t20, m20⟩ := tm
    refine ⟨_, pss_cons (ps_if (pt_cmpR op_gt (pe_callB call_len_seq (by rfl) tl PySem.boot_len (pa_cons (pv 1) pa_nil)) (pe_glob (v := .int 20) (by rfl) m20 ⟨_, rfl⟩) (nomark _)) (pss_one ps_never) pss_nil)
      (pss_one (ps_for PassesOwn.never rfl (pi_enumT (by rfl) te (pa_cons (pv 1) pa_nil)) (pg_tup (by rfl) (pgs_cons (pg_name (i := 2) nd rfl (Or.inl rfl)) (pgs_cons (pg_name (i := 3) nd rfl (Or.inl rfl)) pgs_nil)))
        (pss_one (ps_if (pt_not (pt_val (pe_call GR hr (by rfl) DR.mg DR.kp DR.b .nil pass0 (pa_cons (pv 0) (pa_cons (pv 3) pa_nil))))) (pss_one ps_never) pss_nil)))), ?_⟩
    have hl := hw.len
    refine ⟨_, rfl, r, _, rfl, .inr (SqT.of hv), _, _, rfl, rfl, _, rfl, ?_⟩
    rw [decide_eq_false (show ¬ ((vs.length : Nat) : Int) > 20 from by have := ok.2; omega)]
    refine iteF ⟨_, rfl, r, vs, rfl, SqT.of hv, for_it walk_iten (fun i σ H' => (∃ v2 v3 : Option V, σ = [some (.ref p), some (.ref r), v2, v3]) ∧ Same H H') ⟨⟨_, _, rfl⟩, Same.refl H⟩ (fun i σ H' _ ⟨_, sm⟩ => SqT.of (sm _ _ hv)) ?_ ?_⟩
    · rintro i x σ H1 H2 hi ⟨⟨v2, v3, rfl⟩, sm⟩ ⟨T, y, rfl, hT, rfl, hy⟩
      obtain ⟨a, rw_, rfl, hrow, ha⟩ := hw.get hy
      have sm2 : Same H (upd H1 T (.tup [.int (i : Nat), .ref a])) := sm_tr sm (same_upd hT)
      refine ⟨T, _, rfl, SqT.of upd_same, rfl, _, _, rfl, _, _, rfl, rfl, ?_⟩
      refine ⟨_, rfl, _, rfl, p, a, l, n, rw_, rfl, hb.same sm2, sm2 _ _ ha, ok.1 _ (List.mem_of_getElem? hrow), fun H3 s3 => ⟨_, rfl, iteF ⟨⟨_, _, rfl⟩, sm_tr sm2 s3⟩⟩⟩
    · rintro σ H1 ⟨_, sm⟩
      exact q _ sm
abbrev nHI : List Str := ["self", "board", "rows"]
theorem scHI : FnScope nHI ((["self", "board"] : List Str) ++ (["rows"] : List Str)) (defScope sHInit) := ⟨rfl, rfl, rfl, by decide +kernel, rfl, by decide +kernel, by decide +kernel⟩
theorem ok_hinit {f C CH fB fR : Addr} {fd fdB fdR : FuncData} (F : Fun K "__init__" "History.__init__" sHInit f fd) (TH : TxH K mg CH) (GB : FnOk P w K mg base CX0 1 fB fdB ["board"] (spChkB C)) (DB : Df K mg "check_board" fB fdB ["board"])
    (GR : FnOk P w K mg base CX0 4 fR fdR ["board", "rows"] (spChkR C)) (DR : Df K mg "check_rows" fR fdR ["board", "rows"]) : FnR P w K mg base CX0 5 f (spHInitR C CH) := by
  obtain ⟨oc, od, kV, doc, pm, an, cdv, ct, osl, rfl, lk, hcd⟩ := F.ex
  refine StX.fn_star (ps := ["self", "board"]) (pv := "rows") (k := 4) lk hcd scHI StX.cxUp_none (StX.bind_star2 (B := fun us => bindArgs (PySem.W.fnOf "__init__" "History.__init__" (defArgs sHInit) (defBody sHInit) (defScope sHInit) .none kV doc pm an cdv ct) ⟨us, []⟩) (p1 := "self") (p2 := "board") (pv := "rows") (fun a b => rfl) (fun a b r rs => rfl)) fun A outer s H vs Q E hr h => ?_
  obtain ⟨p, dx, b, r, l, n, rows, rfl, hp, hb, hrw, ok, q⟩ := h
  have hr1 : Room 1 _ := hr.mono (by decide)
  have body : ∃ t, PSs (cxOf CX0 P w K mg base nHI "History.__init__" (defScope sHInit) f cdv A outer s H E).nox (defBody sHInit) t ∧ t { nx := fun _ H' => Q .non H', rt := Q } (L2.start nHI [V.ref p, V.ref b, V.ref r]) H := by
    refine ⟨_, pss_cons (ps_expr (pe_call GB hr1 (by rfl) DB.mg DB.kp DB.b .nil pass0 (pa_cons (pv 1) pa_nil))) (pss_cons (ps_expr (pe_call GR hr (by rfl) DR.mg DR.kp DR.b .nil pass0 (pa_cons (pv 1) (pa_cons (pv 2) pa_nil))))
      (pss_cons (ps_fld (pv 0) (pv 1) rfl) (pss_one (ps_fld (pv 0) (pv 2) rfl)))), ?_⟩
    refine ⟨_, rfl, b, l, n, rfl, hb, _, rfl, _, rfl, b, r, l, n, rows, rfl, hb, hrw, ok, fun H1 s1 => ?_⟩
    refine ⟨_, rfl, _, rfl, p, CH, dx, _, rfl, s1 _ _ hp, TH.cl, TH.nB, by show 0 < 1000; decide, ?_⟩
    refine ⟨_, rfl, _, rfl, p, CH, dx, _, rfl, upd_same, TH.cl, TH.nR, by show 1 < 1000; decide, ?_⟩
    exact q _ dx ((But.of s1).trans (But.upd.trans But.upd)) upd_same
  obtain ⟨t, ht, hq⟩ := body
  exact ⟨t, ht.nox, hq⟩
end
end Gm

namespace Gm
open PySem L2
theorem made_same2 {H H' : Hp} {x dx C : Addr} (hx : H x = none) (hd : H dx = none) (b : But x (upd (upd H dx (.own x)) x (.ins C dx [])) H') : Same H H' := fun a o e => by
  have n1 : a ≠ x := ne_of_none e hx
  exact b a o n1 (by rw [upd_ne n1, upd_ne (ne_of_none e hd)]; exact e)
/-- History(..) of a board and rows that stand -/
theorem hist_made {C CH b : Addr} {H : Hp} {l : List Nat} {n : Int} {vs : List V} {rows : List Row} {Q : Addr → Hp → Prop} (hb : Bd C H b l n) (hv : Rws H vs rows) (ok : RowsOk l n rows) (k : ∀ H' x, Same H H' → H x = none → HistAt C CH H' x l n rows → Q x H') :
    ∀ x dx, H x = none → H dx = none → dx ≠ x → spHInitR C CH (.ref x :: .ref b :: vs) (upd (upd H dx (.own x)) x (.ins CH dx [])) (fun v H2 => v = .non ∧ Q x H2) E0 := by
  intro x dx nx nd ne
  have sm : Same H (upd (upd H dx (.own x)) x (.ins CH dx [])) := fun c o e => by rw [upd_ne (ne_of_none e nx), upd_ne (ne_of_none e nd)]; exact e
  refine ⟨[.ref x, .ref b], vs, rfl, rfl, ?_, fun r zr => ?_⟩
  · rw [hv.len, sizeLine_eq]
    have := ok.2
    omega
  · have nrx : x ≠ r := ne_of_none upd_same zr
    have sr := same_upd (o := .tup vs) zr
    refine ⟨x, dx, b, r, l, n, rows, rfl, (upd_ne nrx).trans upd_same, (hb.same sm).same sr, ⟨vs, upd_same, (hv.same sm).same sr⟩, ok, fun H' dx' bt e => ⟨rfl, ?_⟩⟩
    have keep : ∀ c o, c ≠ x → upd (upd (upd H dx (.own x)) x (.ins CH dx [])) r (.tup vs) c = some o → H' c = some o := fun c o n e => bt c o n e
    have sm' : Same H H' := fun c o e => keep c o (ne_of_none e nx) (sr _ _ (sm _ _ e))
    exact k H' x sm' nx ⟨dx', b, r, e, hb.same sm', ⟨vs, keep r _ nrx.symm upd_same, hv.same sm'⟩, ok⟩
section
variable {P : Program} {w : World} {K : PySem.W.Frag} {mg : Str → Option Value} {base : Heap}
abbrev nTh : List Str := ["self", "guess", "told"]
theorem scTh : FnScope nTh ["self", "guess", "told"] (defScope sThen) := ⟨rfl, rfl, rfl, by decide +kernel, rfl, by decide +kernel, by decide +kernel⟩
theorem ok_then {f C CH fW fM fI : Addr} {fd fdW fdM : FuncData} (F : Fun K "then" "History.then" sThen f fd) (TH : TxH K mg CH) (tl : mg "len" = none) (tm : ∃ t, mg "MOST_ROWS" = some (.int 20 t))
    (GW : FnOk P w K mg base CX0 3 fW fdW ["board", "word"] (spChkW C)) (DW : Df K mg "check_word" fW fdW ["board", "word"]) (GM : FnOk P w K mg base CX0 3 fM fdM ["board", "told"] (spChkM C)) (DM : Df K mg "check_marks" fM fdM ["board", "told"])
    (GI : FnR P w K mg base CX0 5 fI (spHInitR C CH)) (M : Mk K CH fI) : FnOk P w K mg base CX0 7 f fd ["self", "guess", "told"] (spThen C CH) := by
  refine F.ok scTh (fun vs H Q E h => ?_) (fun cdv A outer s H vs Q E hr h => ?_)
  · obtain ⟨p, l, g, t, n, rows, rfl, _⟩ := h
    rfl
  · obtain ⟨p, l, g, t, n, rows, rfl, ⟨dx, b, r, hp, hb, ⟨vs, hv, hw⟩, ok⟩, rok, lt, q⟩ := h
    have nd := scTh.nd
    obtain ⟨t20, m20⟩ := tm
    have hr3 : Room 3 _ := hr.mono (by decide)
    refine ⟨_, pss_cons (ps_expr (pe_call GW hr3 (by rfl) DW.mg DW.kp DW.b .nil pass0 (pa_cons (pe_fld (pv 0) rfl) (pa_cons (pv 1) pa_nil))))
      (pss_cons (ps_expr (pe_call GM hr3 (by rfl) DM.mg DM.kp DM.b .nil pass0 (pa_cons (pe_fld (pv 0) rfl) (pa_cons (pv 2) pa_nil))))
      (pss_cons (ps_if (pt_cmpR op_eq (pe_callB call_len_seq (by rfl) tl PySem.boot_len (pa_cons (pe_fld (pv 0) rfl) pa_nil)) (pe_glob (v := .int 20) (by rfl) m20 ⟨_, rfl⟩) (nomark _)) (pss_one ps_never) pss_nil)
      (pss_one (ps_ret (pe_makeS2 M GI hr (by rfl) TH.mgC pass0 (pa_cons (pe_fld (pv 0) rfl) (StX.pa_star (pe_fld (pv 0) rfl) (pa_cons (pe_tup (pa_cons (pv 1) (pa_cons (pv 2) pa_nil))) pa_nil)))))))), ?_⟩
    have hl := hw.len
    refine ⟨_, rfl, p, CH, dx, _, _, rfl, hp, TH.cl, TH.nB, hf_board b r, _, rfl, b, l, g, n, rfl, hb, rok.1, fun H1 s1 => ?_⟩
    have hp1 := s1 _ _ hp
    refine ⟨_, rfl, p, CH, dx, _, _, rfl, hp1, TH.cl, TH.nB, hf_board b r, _, rfl, b, l, t, n, rfl, hb.same s1, rok.2, fun H2 s2 => ?_⟩
    have hp2 := s2 _ _ hp1
    have s02 := sm_tr s1 s2
    have hv2 := s02 _ _ hv
    refine ⟨_, rfl, p, CH, dx, _, _, rfl, hp2, TH.cl, TH.nR, hf_rows b r, r, _, rfl, .inr (SqT.of hv2), rfl, _, rfl, ?_⟩
    rw [decide_eq_false (show ¬ V.int ((vs.length : Nat) : Int) = V.int 20 from fun e => by have := V.int.inj e; omega)]
    refine iteF ?_
    refine ⟨_, rfl, p, CH, dx, _, _, rfl, hp2, TH.cl, TH.nB, hf_board b r, ?_⟩
    refine ⟨_, rfl, p, CH, dx, _, _, rfl, hp2, TH.cl, TH.nR, hf_rows b r, r, vs, rfl, .inl (SqT.of hv2), ?_⟩
    refine ⟨_, rfl, _, rfl, by show 2 ≤ sizeLine; decide, fun T zT => ?_⟩
    have s3 := sm_tr s02 (same_upd (o := .tup [.str (tx g), .str (tx t)]) zT)
    refine hist_made (hb.same s3) ((hw.same s3).app (.cons (r := (g, t)) upd_same .nil)) ⟨fun x hx => ?_, by rw [List.length_append]; show rows.length + 1 ≤ 20; omega⟩ fun H' x s4 nx hh => q H' x (sm_tr s3 s4) (s3.free nx) hh
    rcases List.mem_append.mp hx with hx | hx
    · exact ok.1 x hx
    · rw [List.mem_singleton.mp hx]
      exact rok
abbrev nFt : List Str := ["self", "word", "guess", "told"]
theorem scFt : FnScope nFt ["self", "word"] (defScope sFits) := ⟨rfl, rfl, rfl, by decide +kernel, rfl, by decide +kernel, by decide +kernel⟩
theorem ok_fits {f C CH fW fM : Addr} {fd fdW fdM : FuncData} (F : Fun K "fits" "History.fits" sFits f fd) (TH : TxH K mg CH) (ta : mg "all" = none)
    (GW : FnOk P w K mg base CX0 3 fW fdW ["board", "word"] (spChkW C)) (DW : Df K mg "check_word" fW fdW ["board", "word"]) (GM : FnOk P w K mg base CX0 1 fM fdM ["guess", "word"] spMarksOf) (DM : Df K mg "marks_of" fM fdM ["guess", "word"]) :
    FnOk P w K mg base CX0 4 f fd ["self", "word"] (spFits C CH) := by
  refine F.ok scFt (fun vs H Q E h => ?_) (fun cdv A outer s H vs Q E hr h => ?_)
  · obtain ⟨p, l, z, n, rows, rfl, _⟩ := h
    rfl
  · obtain ⟨p, l, z, n, rows, rfl, ⟨dx, b, r, hp, hb, ⟨vs, hv, hw⟩, ok⟩, hz, q⟩ := h
    have nd := scFt.nd
    have hr1 : Room 1 _ := hr.mono (by decide)
    have hline : sizeLine = 16777216 := sizeLine_eq
    refine ⟨_, pss_cons (ps_expr (pe_call GW hr (by rfl) DW.mg DW.kp DW.b .nil pass0 (pa_cons (pe_fld (pv 0) rfl) (pa_cons (pv 1) pa_nil))))
      (pss_one (ps_ret (pe_callB (cr_all rfl) (by rfl) ta (by decide +kernel) (pa_cons
        (pe_lc (own := [("guess", 2), ("told", 3)]) (g := gTup K 2 (gCons (gName 2) (gCons (gName 3) gNil))) (by rfl) nd (pi_tup (pe_fld (pv 0) rfl)) (blkOk_by (own := [("guess", 2), ("told", 3)]) (N := nFt) (sc := defScope sFits) (by decide +kernel))
          (fun _ _ _ _ _ => by exact pg_tup (by rfl) (pgs_cons (pg_name (i := 2) nd rfl (Or.inl rfl)) (pgs_cons (pg_name (i := 3) nd rfl (Or.inl rfl)) pgs_nil))) (fun _ _ _ _ _ => pts_nil)
          (fun _ _ _ _ _ => pe_cmpR op_eq (pe_call GM hr1 (by rfl) DM.mg DM.kp DM.b .nil pass0 (pa_cons (pv 2) (pa_cons (pv 1) pa_nil))) (pv 3) (nomark _))) pa_nil)))), ?_⟩
    have hl := hw.len
    have h20 := ok.2
    refine ⟨_, rfl, p, CH, dx, _, _, rfl, hp, TH.cl, TH.nB, hf_board b r, _, rfl, b, l, z, n, rfl, hb, hz, fun H1 s1 => ?_⟩
    refine ⟨_, rfl, p, CH, dx, _, _, rfl, s1 _ _ hp, TH.cl, TH.nR, hf_rows b r, r, rfl, ⟨_, SqT.of (s1 _ _ hv)⟩, fun D hD => ?_⟩
    refine lc_it walk_tup (fun i H' => Same H1 H' ∧ H' D = some (.lst (((rows.take i).map fun r => decide (mk r.1 z = r.2)).map V.bl))) ⟨same_upd hD, upd_same⟩ (fun i H' _ hh => SqT.of (hh.1 _ _ (s1 _ _ hv))) ?_ ?_
    · rintro i x H2 H3 hi ⟨sm, hDi⟩ ⟨rfl, hx⟩
      obtain ⟨a, rw_, rfl, hrow, ha⟩ := hw.get hx
      have ha2 := sm _ _ (s1 _ _ ha)
      have rk := ok.1 _ (List.mem_of_getElem? hrow)
      have g1 := rk.1.1
      have n6 := hb.2.2.2
      have z1 := hz.1
      refine ⟨a, _, rfl, SqT.of ha2, rfl, _, _, rfl, _, _, rfl, rfl, rfl, ?_⟩
      refine ⟨_, rfl, _, rfl, rw_.1, z, rfl, by omega, by omega, fun H4 s4 => ⟨_, rfl, rfl, ?_⟩⟩
      have hD4 := s4 _ _ hDi
      refine ⟨_, hD4, ?_, fun c o e => ?_, ?_⟩
      · rw [List.length_map, List.length_map, List.length_take]
        omega
      · rw [upd_ne (ne_of_none e hD)]
        exact s4 _ _ (sm _ _ e)
      · have e1 : rows.take (i + 1) = rows.take i ++ [rw_] := by
          rw [List.take_succ_eq_append_getElem (List.getElem?_eq_some_iff.mp hrow).1, (List.getElem?_eq_some_iff.mp hrow).2]
        have e2 : decide (V.str (tx (mk rw_.1 z)) = V.str (tx rw_.2)) = decide (mk rw_.1 z = rw_.2) := decide_eq_decide.mpr ⟨fun e => by
          have := congrArg (fun s : Str => s.cps.toList) (V.str.inj e)
          simpa using this, fun e => by rw [e]⟩
        rw [upd_same, e1, List.map_append, List.map_append]
        show some (HO.lst (_ ++ [V.bl _])) = some (HO.lst (_ ++ [V.bl _]))
        rw [e2]
    · rintro H2 ⟨sm, hD2⟩
      refine ⟨D, _, rfl, SqL.of hD2, ?_⟩
      have e : ((rows.take vs.length).map fun r => decide (mk r.1 z = r.2)).all id = fitsB rows z := by
        rw [hl, List.take_length, List.all_map]
        rfl
      rw [e]
      exact q _ (sm_tr s1 sm)
end
end Gm

/-! several except clauses, each with a name -/
namespace L2
open PySem PySem.Spec PyProof.Rows
abbrev Clause := Value × Nat × (Addr → Value → Option Addr → TS)
/-- ends behind a suite: the clause's name is gone -/
def endsGone (D : Ends) (i : Nat) : Ends := { nx := fun σ H => D.nx (σ.set i none) H, rt := D.rt, bk := fun σ H => D.bk (σ.set i none) H, ct := fun σ H => D.ct (σ.set i none) H }
def wNamed (K : PySem.W.Frag) (Wo : WX) (D : Ends) : List Clause → WX
  | [] => Wo
  | k :: r => fun cl d σ H => ∃ b, PySem.W.exmOne K cl k.1 = some b ∧ (b = true → ∀ a, H a = none → k.2.2 a cl d (endsGone D k.2.1) (σ.set k.2.1 (some (.ref a))) H) ∧ (b = false → wNamed K Wo D r cl d σ H)
def wLen (n : Nat) (W : WX) : WX := fun cl d σ H => σ.length = n → W cl d σ H
structure ClauseOk (X : Cx) (x n : Str) (suite : List Stmt) (k : Clause) : Prop where
  names : Names X x k.1
  at_ : X.N[k.2.1]? = some n
  loc : X.env.kindOf n = some .local
  run : ∀ (a : Addr) (o : Obj) (cl : Value) (d : Option Addr) (pn : List (Addr × Obj)), Zc cl d o → (∃ vs, o.data = .fields vs) → PSs (X.suite a ((a, o) :: pn)) suite (k.2.2 a cl d)
inductive NamedOk (X : Cx) : List ExceptHandler → List Clause → Prop
  | nil : NamedOk X [] []
  | cons {x n : Str} {k : Clause} {b : Stmt} {su : List Stmt} {p1 p2 : Pos} {hd : List ExceptHandler} {l : List Clause} (ok : ClauseOk X x n (b :: su) k) (r : NamedOk X hd l) : NamedOk X (.ExceptHandler (some (.Name x p1)) (some n) (b :: su) p2 :: hd) (k :: l)
section
variable {X : Cx} {hd0 : ExceptHandler} {hds : List ExceptHandler} {l : List Clause} {pos : Pos} {body : List Stmt} {tb : WX → TS} {Wo : WX} {pins : List (Addr × Obj)} {σ : L2.St} {H : Hp} {D : Ends}
/-- try: body, then except C as n: .. clauses, each by a name of its own -/
theorem ps_try_named (st : X.stack = X.env :: X.outer) (fr : X.env.frame = some X.env.locals) (nd : X.N.Nodup) (take : Takes X Wo)
    (run : ∀ (W : WX) (pn : List (Addr × Obj)) (xe : Value → Shared → Prop), Takes (X.tr pn xe) W → PassesOwn (model X.prog X.w) X.A X.env xe → PSs (X.tr pn xe) body (tb W)) (all : NamedOk X (hd0 :: hds) l) :
    PS X (.Try body (hd0 :: hds) [] [] pos) (fun D σ H => tb (wLen X.N.length (wNamed X.K Wo D l)) D σ H) := by
  constructor
  intro pins s σ H D I h
  have okX := I.ok
  have frs_eq : X.A.frames = some (X.env :: X.outer) := okX.frames.trans (congrArg some st)
  apply wpAny_Try_except
  refine wpAny_mono ((run (wLen X.N.length (wNamed X.K Wo D l)) (X.pn ++ pins) (fun e r1 => wpAny (model X.prog X.w) X.A (noteFrame e X.env) (fun _ r2 => wpAny (model X.prog X.w) X.A (setFlight e none) (fun _ r3 => wpAny (model X.prog X.w) X.A (handleBy e X.env (hd0 :: hds)) (SP X pins D) X.xe r3) X.xe r2) X.xe r1) (fun u s' x => ?_) PassesOwn.looking).run [] s σ H D (I.toTry _) h) (fun f s1 e => ?_) (fun _ _ z => z)
  · obtain ⟨a, B, sI, ps', τ, G, cl, d, rfl, J0, nb, up, sk, ga, eo, ag, wish⟩ := x
    have J : Inv X pins τ G sI := J0.ofTry okX
    rw [st] at sk
    show wpAny (model X.prog X.w) X.A (noteFrame (.ref a) X.env) _ _ _
    refine Sky.land Zc.steady frs_eq fr sk fun g3 dn up3 => ?_
    have J3 : Inv X pins τ G { s' with heap := g3 } := J.landed nb dn.1 (up.trans up3) eo ag
    obtain ⟨o3, v3, ho, zo, fo⟩ := dn.there
    have off : a ∉ frs (X.env :: X.outer) := fun m => by
      obtain ⟨_, o', ho', no⟩ := dn.2.2.1.mem m
      exact no _ ((Option.some.inj (ho.symm.trans ho')) ▸ fo)
    have aL : a ≠ X.env.locals := fun z => off (List.mem_filterMap.mpr ⟨X.env, List.mem_cons_self, z ▸ fr⟩)
    have aF : a ∉ X.fs := fun m => by
      obtain ⟨e, i, q⟩ := List.mem_filterMap.mp m
      exact off (List.mem_filterMap.mpr ⟨e, List.mem_cons_of_mem _ i, q⟩)
    have S3 := J3.suite ho fo ga aL aF
    have each : ∀ {hd : List ExceptHandler} {l : List Clause}, NamedOk X hd l → wNamed X.K Wo D l cl d τ G → wpAny (model X.prog X.w) X.A (handleBy (.ref a) X.env hd) (SP X pins D) X.xe { s' with heap := g3 } := by
      intro hd l m
      induction m with
      | nil =>
        intro wish
        apply wpAny_handleBy_nil
        obtain ⟨k1, k2, k3, oe, vs, T, oT, t', e1, e2, e3, e4, e5⟩ := id dn
        unfold PySem.passOn
        refine wpAny_bind (wpAny_field e1 e3 e4 ?_)
        rw [if_neg (show ¬ ((Value.ref T == Value.none) = true) from by simp)]
        have out : wpAny (model X.prog X.w) X.A (setFlight (.ref a) X.env.frame) (fun _ r => wpAny (model X.prog X.w) X.A (throw (.ref a) : Sem Flow) (SP X pins D) X.xe r) X.xe { s' with heap := g3 } := by
          rw [fr]
          exact HandSPX.setFlight_upZ dn fun g4 k4 up4 => wpAny_throw (take _ _ ⟨a, B, sI, pins, τ, G, cl, d, rfl, J, nb, (up.trans up3).trans up4, .inr (.inr (st ▸ k4)), ga, eo, ag, wish⟩)
        first | exact wpAny_bind (wpAny_pure (wpAny_bind out)) | exact wpAny_bind out
      | @cons x n k b su p1 p2 hd2 l2 C m2 ih =>
        intro wish
        obtain ⟨v, isK, yes, no⟩ := wish
        refine wpAny_handleBy_cons (codeAny_handlers_test ?_) nofun
        have tyA : PySem.W.Looks (model X.prog X.w) g3 (typeOf (.ref a)) cl := fun A Q E r k q => wpAny_typeOf_ref (k _ _ ho) (zo.1.symm ▸ q)
        have ans := PySem.W.exm_one (M := model X.prog X.w) (J3.kIn) tyA isK
        have reads : ∀ {Q E : Value → Shared → Prop}, Q k.1 { s' with heap := g3 } → wpAny (model X.prog X.w) (X.A.mark (some (.ref a))) (eval (.Name x p1) X.env) Q E { s' with heap := g3 } := fun {Q E} q => by
          rcases C.names with ⟨n1, n2, n3 | ⟨n3, n4, n5⟩⟩
          · exact ld_glob (X := X.suite a ((a, o3) :: (X.pn ++ pins))) S3 n1 n3 q n2
          · exact ld_blt (X := X.suite a ((a, o3) :: (X.pn ++ pins))) S3 n1 n3 n4 q n5 n2
        refine reads (ans.here ?_)
        cases v with
        | false => exact ih (no rfl)
        | true =>
          apply codeAny_handlers_suite_as
          refine HandSPX.lands_againZ dn fun g4 dn4 up4 => ?_
          have J4 : Inv X pins τ G { s' with heap := g4 } := J.landed nb dn4.1 ((up.trans up3).trans up4) eo ag
          obtain ⟨o4, v4, h4, z4, f4⟩ := dn4.there
          refine store_ok (X := X.suite a ((a, o4) :: (X.pn ++ pins))) (v := .ref a) (J4.suite h4 f4 ga aL aF) nd C.at_ (.inl C.loc) rfl (fun s5 S5 => ?_) (.inr C.loc)
          refine wpAny_mono ((C.run a o4 cl d (X.pn ++ pins) z4 ⟨_, f4⟩).run [] s5 _ G _ S5 (yes rfl a ga)) (fun f s6 e => ?_) (fun _ _ z => z.elim)
          have bye : ∀ {σ6 : L2.St} {H6 : Hp} {Q : Shared → Prop}, Inv (X.suite a ((a, o4) :: (X.pn ++ pins))) [] σ6 H6 s6 → (∀ s7, Inv X pins (σ6.set k.2.1 none) H6 s7 → Q s7) →
              wpAny (model X.prog X.w) X.A (do bindName X.env n .none; unbindBehindTheSuite X.env n p2) (fun _ s7 => Q s7) X.xe s6 := fun S6 q => gone_ok (S6.unsuite okX) nd C.at_ C.loc q
          cases f with
          | ret u =>
            obtain ⟨v6, σ6, H6, S6, r6, q6⟩ := e
            exact bye S6 fun s7 J7 => ⟨_, _, _, J7, r6, q6⟩
          | _ =>
            obtain ⟨σ6, H6, S6, q6⟩ := e
            exact bye S6 fun s7 J7 => ⟨_, _, J7, q6⟩
    exact each all (wish J.len)
  · cases f with
    | next =>
      obtain ⟨τ, G, J, q⟩ := e
      exact wpAny_execs_nil ⟨τ, G, J.ofTry okX, q⟩
    | ret u =>
      obtain ⟨v, τ, G, J, r, q⟩ := e
      exact ⟨v, τ, G, J.ofTry okX, r, q⟩
    | _ =>
      obtain ⟨τ, G, J, q⟩ := e
      exact ⟨τ, G, J.ofTry okX, q⟩
end
end L2

/-! error classes of the program that keep their argument: made, raised, caught, asked for their class -/
namespace L2
open PySem PySem.Spec PyProof.Rows
/-- what stands of an error class C with the field f; its __init__ at fI -/
structure ErrC (K : PySem.W.Frag) (mg : Str → Option Value) (x f : Str) (C fI : Addr) : Prop where
  gC : mg x = some (.ref C)
  ox : OexC K C
  no : PySem.W.findIn K (.ref C) f = some none
  iC : PySem.W.findIn K (.ref C) "__init__" = some (some (.ref fI))
  tI : PySem.W.typeIn K (.ref fI) = some (.type "function")
  ga : PySem.W.findIn K (.ref C) "__getattribute__" = some (some (.builtin "BaseException.__getattribute__"))
  gg : PySem.W.findIn K (.ref C) "__getattr__" = some none
  hd : PySem.W.hasDictIn K C = true
  ac : PySem.W.findIn K (.ref C) "__class__" = some (some (.builtin "object.__class__"))
  gt : PySem.W.specialIn K (.builtin "object.__class__") "__get__" = some (some (.builtin "getset_descriptor.__get__"))
  tk : PySem.W.takesIn K (.builtin "object.__class__") = some true
  ob : PySem.W.mroIn K C (.type "object") = some true
theorem ErrC.xf {K : PySem.W.Frag} {mg : Str → Option Value} {x f : Str} {C fI : Addr} (T : ErrC K mg x f C fI) : XfC K C := ⟨T.ga, T.gg, T.ox.exC, T.hd⟩
theorem ErrC.cl {K : PySem.W.Frag} {mg : Str → Option Value} {x f : Str} {C fI : Addr} (T : ErrC K mg x f C fI) : (PySem.W.clsIn K C).isSome = true := by
  obtain ⟨cd, hc, _⟩ := PySem.W.any_some T.hd
  rw [hc]
  rfl
def spErr (C : Addr) (f : Str) : Sp := fun vs H Q _ => ∃ (a : Addr) (v : V), vs = [.ref a, v] ∧ H a = some (exo a C none) ∧ ∀ dx, H dx = none → dx ≠ a → Q .non (upd (upd H dx (exd dx [(f, v)])) a (exo a C (some dx)))
theorem ok_err {P : Program} {w : World} {K : PySem.W.Frag} {mg : Str → Option Value} {base : Heap} {qual f x par : Str} {st : Stmt} {fI C : Addr} {fd : FuncData} {p1 p2 p3 p4 : Pos} (F : Fun K "__init__" qual st fI fd) (T : ErrC K mg x f C fI)
    (hB : defBody st = [.Assign [.Attribute (.Name "self" p1) f p2] (.Name par p3) p4]) (S : FnScope ["self", par] ["self", par] (defScope st)) (v0 : Vis (defScope st) "self") (v1 : Vis (defScope st) par)
    (d0 : (par == ("__debug__" : Str)) = false := by decide) (d1 : (par == ("__classdict__" : Str)) = false := by decide) : FnOk P w K mg base CX0 1 fI fd ["self", par] (spErr C f) := by
  refine F.ok S (fun vs H Q E h => ?_) (fun cdv A outer s H vs Q E hr h => ?_)
  · obtain ⟨a, v, rfl, _⟩ := h
    rfl
  · obtain ⟨a, v, rfl, e, q⟩ := h
    rw [hB]
    refine ⟨_, pss_one (ps_ost (pe_var (i := 0) rfl v0 (by decide) (by decide)) (pe_var (i := 1) rfl v1 d0 d1)), ?_⟩
    exact ⟨_, rfl, _, rfl, a, C, rfl, T.ox, T.no, .inl ⟨e, fun dx n ne => q dx n ne⟩⟩
theorem mkErr {C : Addr} {f : Str} {v : V} {H1 : Hp} {Q : XK} (h : ∀ H' d, Same H1 H' → H1 d = none → H' d = some (.xd [(f, v)]) → Q (.ref C) (some d) H') :
    [v].length ≤ 1000 ∧ ∀ a, H1 a = none → spErr C f (.ref a :: ([v] ++ [])) (upd H1 a (exo a C none))
      (fun u H2 => u = .non ∧ ∃ (d : Addr) (fs : List (Str × V)), H2 a = some (exo a C (some d)) ∧ H2 d = some (exd d fs) ∧ H1 d = none ∧ Q (.ref C) (some d) (upd (del H2 a) d (.xd fs))) (fun _ _ _ => False) := by
  refine ⟨(by decide : 1 ≤ 1000), fun a na => ⟨a, v, rfl, upd_same, fun dx nd ne => ⟨rfl, dx, [(f, v)], upd_same, (upd_ne ne).trans upd_same, ?_, ?_⟩⟩⟩
  · rwa [upd_ne ne] at nd
  · rw [upd_ne ne] at nd
    refine h _ dx (fun b o e => ?_) nd upd_same
    have n1 : b ≠ a := ne_of_none e na
    have n2 : b ≠ dx := ne_of_none e nd
    rw [upd_ne n2, del_ne n1, upd_ne n1, upd_ne n2, upd_ne n1]
    exact e
/-- isinstance(e, c) of the caught error with its dict -/
def rIsX (K : PySem.W.Frag) (D a : Addr) (cls : Value) (d : Option Addr) : List V → Hp → VK → Prop := fun xs H Q =>
  ∃ (c : V) (cv : Value) (b : Bool) (dd : Addr) (fs : List (Str × V)), xs = [.ref a, c] ∧ ClsV c cv ∧ cls = .ref D ∧ d = some dd ∧ H dd = some (.xd fs) ∧ PySem.W.kitOne K (.ref D) cv = some b ∧ Q (.bl b) H
theorem call_isX {X : Cx} {a D fI : Addr} {x f : Str} {oe : Obj} {cls : Value} {d : Option Addr} {pn : List (Addr × Obj)} (T : ErrC X.K X.mg x f D fI) (hz : Zc cls d oe) (hf : ∃ vs, oe.data = .fields vs) :
    CallR (X.suite a ((a, oe) :: pn)) (.builtin "isinstance") (rIsX X.K D a cls d) := by
  intro pins s σ H xs us Q I r h
  obtain ⟨c, cv, b, dd, fs, rfl, k, rfl, rfl, hd, e, q⟩ := h
  cases r with
  | cons rx rr =>
    cases rr with
    | cons rt rr =>
      cases rr
      cases rx
      have ec := k.eq rt
      subst ec
      obtain ⟨hget, _⟩ := I.pin (a, oe) (List.mem_append_left _ List.mem_cons_self)
      obtain ⟨vs, hv⟩ := hf
      have hx : ObjOk X.prog X.w H s.heap dd (.xd fs) := I.hok dd _ hd
      obtain ⟨mA, hns, _⟩ := hx
      obtain ⟨od, ho, _⟩ := lookIn_ns hns
      have J : PySem.W.InstAt s.heap a oe D (some od) := ⟨hget, hz.1, by unfold PySem.W.notCls; rw [hv] <;> rfl, by rw [hz.2]; exact ho⟩
      exact PySem.W.kia_one (PySem.W.kitx_exc T.cl T.ga T.gg T.ox.exC T.ac T.gt T.tk T.ob) I.kIn J e (fun z => nomatch z) fun tk => ⟨.bl b, H, I.kept (t' := tk) fun _ _ z => z, rfl, q⟩
theorem TyX.same {K : PySem.W.Frag} {H H' : Hp} {v : V} {t : Value} (ty : TyX K H v t) (s : Same H H') : TyX K H' v t := by
  cases ty with
  | base b =>
    cases b with
    | non => exact .base .non
    | bl y => exact .base (.bl y)
    | int i => exact .base (.int i)
    | str y => exact .base (.str y)
    | flt y => exact .base (.flt y)
    | lst e => exact .base (.lst (s _ _ e))
    | frz e => exact .base (.frz (s _ _ e))
    | tup e => exact .base (.tup (s _ _ e))
    | dK e => exact .base (.dK (s _ _ e))
    | dT e => exact .base (.dT (s _ _ e))
    | ins e cl ha hn htk hm => exact .base (.ins (s _ _ e) cl ha hn htk hm)
  | byt b => exact .byt b
  | set e => exact .set (s _ _ e)
  | kList e c => exact .kList e c
  | kTuple e c => exact .kTuple e c
  | kDict e c => exact .kDict e c
  | fTuple e => exact .fTuple (s _ _ e)
  | fDict e => exact .fDict (s _ _ e)
end L2

/-! things of any kind, as menus hold them -/
namespace L2
open PySem PySem.Spec PyProof.Rows
inductive Flat : V → PyData → Prop
  | non : Flat .non .none
  | bl (b : Bool) : Flat (.bl b) (.bool b)
  | int (i : Int) : Flat (.int i) (.int i)
  | str (x : Str) : Flat (.str x) (.str x)
inductive Flats : List V → List PyData → Prop
  | nil : Flats [] []
  | cons {v : V} {vs : List V} {d : PyData} {ds : List PyData} : Flat v d → Flats vs ds → Flats (v :: vs) (d :: ds)
/-- a thing that is not at p: its value, its data, its kind -/
inductive Thing (p : Addr) (H : Hp) : V → PyData → String → Prop
  | non : Thing p H .non .none "NoneType"
  | bl (b : Bool) : Thing p H (.bl b) (.bool b) "bool"
  | int (i : Int) : Thing p H (.int i) (.int i) "int"
  | str (x : Str) : Thing p H (.str x) (.str x) "str"
  | tup {a : Addr} {xs : List V} {ds : List PyData} : a ≠ p → H a = some (.tup xs) → Flats xs ds → Thing p H (.ref a) (.tuple ds) "tuple"
  | lst {a : Addr} {xs : List V} {ds : List PyData} : a ≠ p → H a = some (.lst xs) → Flats xs ds → Thing p H (.ref a) (.list ds) "list"
  | dic {a : Addr} : a ≠ p → H a = some (.dK []) → Thing p H (.ref a) (.dict []) "dict"
theorem Flat.dq {K : PySem.W.Frag} {H : Hp} {v : V} {d : PyData} (h : Flat v d) : Dq K H v d := by
  cases h with
  | non => exact .non
  | bl b => exact .bl b
  | int i => exact .int i
  | str x => exact .str x
theorem Flats.dq {K : PySem.W.Frag} {H : Hp} {vs : List V} {ds : List PyData} (h : Flats vs ds) : DqAll K H vs ds := by
  induction h with
  | nil => exact .nil
  | cons a _ ih => exact .cons a.dq ih
section
variable {K : PySem.W.Frag} {p : Addr} {H H' : Hp} {v : V} {d : PyData} {t : String}
/-- all but p and the tables of code objects stands as it stood -/
def Kp (p : Addr) (H H' : Hp) : Prop := ∀ b o, b ≠ p → (∀ ps, o ≠ .tbl ps) → H b = some o → H' b = some o
theorem Kp.refl : Kp p H H := fun _ _ _ _ e => e
theorem Kp.trans {H1 H2 H3 : Hp} (a : Kp p H1 H2) (b : Kp p H2 H3) : Kp p H1 H3 := fun c o n t e => b c o n t (a c o n t e)
theorem Kp.of (s : Same H H') : Kp p H H' := fun b o _ _ e => s b o e
theorem Kp.ext (s : LamX.ExtN H H') : Kp p H H' := fun b o _ t e => s b o e t
theorem Kp.but (s : ∀ b o, b ≠ p → H b = some o → H' b = some o) : Kp p H H' := fun b o n _ e => s b o n e
theorem Kp.new {q : Addr} {o : HO} (s : Kp p H H') (n : H q = none) : Kp p H (upd H' q o) := fun b u nb t e => by rw [upd_ne (ne_of_none e n)]; exact s b u nb t e
theorem Thing.keep (h : Thing p H v d t) (k : Kp p H H') : Thing p H' v d t := by
  cases h with
  | non => exact .non
  | bl b => exact .bl b
  | int i => exact .int i
  | str x => exact .str x
  | tup n e f => exact .tup n (k _ _ n (fun _ z => by cases z) e) f
  | lst n e f => exact .lst n (k _ _ n (fun _ z => by cases z) e) f
  | dic n e => exact .dic n (k _ _ n (fun _ z => by cases z) e)
theorem Thing.same (h : Thing p H v d t) (s : Same H H') : Thing p H' v d t := h.keep (.of s)
theorem Thing.ty (h : Thing p H v d t) : TyX K H v (.type t) := by
  cases h with
  | non => exact .base .non
  | bl b => exact .base (.bl b)
  | int i => exact .base (.int i)
  | str x => exact .base (.str x)
  | tup n e f => exact .base (.tup e)
  | lst n e f => exact .base (.lst e)
  | dic n e => exact .base (.dK e)
theorem Thing.dq (h : Thing p H v d t) : Dq K H v d := by
  cases h with
  | non => exact .non
  | bl b => exact .bl b
  | int i => exact .int i
  | str x => exact .str x
  | tup n e f => exact .tup (SqT.of e) f.dq
  | lst n e f => exact .lst (SqL.of e) f.dq
  | dic n e => exact .dic e
end
theorem Thing.free (h : Thing p H v d t) {q : Addr} (n : H q = none) : v ≠ .ref q := fun z => by
  cases h with
  | tup _ e f => cases z; rw [n] at e; cases e
  | lst _ e f => cases z; rw [n] at e; cases e
  | dic _ e => cases z; rw [n] at e; cases e
  | _ => cases z
/-! sizes of what repr shows -/
structure ShAll (ds : List PyData) (n m : Nat) : Prop where
  ok : PyData.showableAll ds = true
  long : ((PyData.shownAll ds).map (·.length)).sum + 2 * ds.length ≤ n
  deep : PyData.depthAll ds ≤ m
theorem ShAll.nil {m : Nat} : ShAll [] 0 m := ⟨by simp [PyData.showableAll], by simp [PyData.shownAll], by simp [PyData.depthAll]⟩
theorem ShAll.cons {d : PyData} {ds : List PyData} {n k m : Nat} (h : Sh d n m) (hs : ShAll ds k m) : ShAll (d :: ds) (n + 2 + k) m := by
  refine ⟨?_, ?_, ?_⟩
  · simp only [PyData.showableAll, h.ok, hs.ok, Bool.and_self]
  · have a := h.long
    have b := hs.long
    simp only [PyData.shownAll, List.map_cons, List.sum_cons, List.length_cons]
    omega
  · have a := h.deep
    have b := hs.deep
    simp only [PyData.depthAll]
    omega
theorem Sh.lst {ds : List PyData} {n m : Nat} (h : ShAll ds n m) : Sh (.list ds) (n + 3) (m + 1) := by
  refine ⟨?_, ?_, ?_⟩
  · simp only [PyData.showable, h.ok]
  · have a := h.long
    have b := listText_len_le (PyData.shownAll ds)
    rw [PyData.shownAll_length] at b
    simp only [PyData.shown]
    omega
  · have a := h.deep
    simp only [PyData.depth]
    omega
theorem Sh.tup {ds : List PyData} {n m : Nat} (h : ShAll ds n m) : Sh (.tuple ds) (n + 3) (m + 1) := by
  refine ⟨?_, ?_, ?_⟩
  · simp only [PyData.showable, h.ok]
  · have a := h.long
    have b := tupleText_len_le (PyData.shownAll ds)
    rw [PyData.shownAll_length] at b
    simp only [PyData.shown]
    omega
  · have a := h.deep
    simp only [PyData.depth]
    omega
theorem Sh.le {d : PyData} {n n' m m' : Nat} (h : Sh d n m) (hn : n ≤ n') (hm : m ≤ m') : Sh d n' m' := ⟨h.ok, Nat.le_trans h.long hn, Nat.le_trans h.deep hm⟩
theorem Sh.bl (b : Bool) {m : Nat} : Sh (.bool b) 5 m := ⟨by simp only [PyData.showable], by cases b <;> (simp only [PyData.shown]; decide), by simp only [PyData.depth]; omega⟩
theorem Sh.non {m : Nat} : Sh .none 4 m := ⟨by simp only [PyData.showable], by simp only [PyData.shown]; decide, by simp only [PyData.depth]; omega⟩
theorem Sh.str (x : Str) {n m : Nat} (h : (reprText x).length ≤ n) : Sh (.str x) n m := ⟨by simp only [PyData.showable], by simp only [PyData.shown]; exact h, by simp only [PyData.depth]; omega⟩
theorem Sh.int (i : Int) {n m : Nat} (h : i.natAbs.log2 < 1920) (h2 : ((toString i : String) : Str).length ≤ n) : Sh (.int i) n m := ⟨by simp only [PyData.showable]; exact decide_eq_true h, by simp only [PyData.shown]; exact h2, by simp only [PyData.depth]; omega⟩
theorem Sh.dic {m : Nat} : Sh (.dict []) 10 (m + 1) := ⟨by simp only [PyData.showable, PyData.showableKv], by simp only [PyData.shown, PyData.shownKv]; decide +kernel, by simp only [PyData.depth, PyData.depthKv]; omega⟩
/-- an item of a menu: a thing that can be shown, of which C holds -/
def Item (p : Addr) (H : Hp) (C : V → Prop) (v : V) : Prop := ∃ d t, Thing p H v d t ∧ Sh d 300 2 ∧ C v
section
variable {p : Addr} {H H' : Hp} {C : V → Prop}
theorem Item.keep {v : V} (h : Item p H C v) (k : Kp p H H') : Item p H' C v := let ⟨d, t, a, b, c⟩ := h; ⟨d, t, a.keep k, b, c⟩
theorem item_non (c : C .non) : Item p H C .non := ⟨_, _, .non, (Sh.non (m := 0)).le (by decide) (by decide), c⟩
theorem item_bl (b : Bool) (c : C (.bl b)) : Item p H C (.bl b) := ⟨_, _, .bl b, (Sh.bl b).le (by decide) (Nat.le_refl _), c⟩
theorem item_int (i : Int) (h : i.natAbs.log2 < 1920) (h2 : ((toString i : String) : Str).length ≤ 300) (c : C (.int i)) : Item p H C (.int i) := ⟨_, _, .int i, .int i h h2, c⟩
theorem item_str (x : Str) (h : (reprText x).length ≤ 300) (c : C (.str x)) : Item p H C (.str x) := ⟨_, _, .str x, .str x h, c⟩
theorem item_dic {a : Addr} (n : a ≠ p) (e : H a = some (.dK [])) (c : C (.ref a)) : Item p H C (.ref a) := ⟨_, _, .dic n e, (Sh.dic (m := 0)).le (by decide) (by decide), c⟩
theorem item_tup {a : Addr} {xs : List V} {ds : List PyData} {k : Nat} (n : a ≠ p) (e : H a = some (.tup xs)) (f : Flats xs ds) (s : ShAll ds k 0) (hk : k + 3 ≤ 300) (c : C (.ref a)) : Item p H C (.ref a) := ⟨_, _, .tup n e f, (Sh.tup s).le hk (by decide), c⟩
theorem item_lst {a : Addr} {xs : List V} {ds : List PyData} {k : Nat} (n : a ≠ p) (e : H a = some (.lst xs)) (f : Flats xs ds) (s : ShAll ds k 0) (hk : k + 3 ≤ 300) (c : C (.ref a)) : Item p H C (.ref a) := ⟨_, _, .lst n e f, (Sh.lst s).le hk (by decide), c⟩
end
end L2

/-! error classes over any built-in error: made, raised, caught, asked for their class (X0 has those over ValueError) -/
namespace PySem.HandSPX
open PySem PySem.W PySem.Calls PyProof.Rows Builtin Builtin.ObjectAttr
theorem passAE (self : Value) : refuseLoop self "__setattr__" [.type "ArithmeticError", .type "Exception", .type "BaseException", .type "object"] = pure () := by kernel_rfl
theorem passLE (self : Value) : refuseLoop self "__setattr__" [.type "LookupError", .type "Exception", .type "BaseException", .type "object"] = pure () := by kernel_rfl
section
variable {prog : Program} {w : World} {A : Around} {R : Result → Shared → Prop} {hp : Heap} {g : Array GenState} {dr : Drawn} {tk0 : Nat} {os : OsState}
/-- the first attribute of an error, whatever built-in error its class is over -/
theorem gm_store {K : W.Frag} {nm : Str} {tk : Tok} {v : Value} {x C : Addr} {fv : Array Value} {cd : ClassData} (X : K.In hp) (hx : hp.get? x = some { cls := .ref C, data := .fields fv }) (hcd : W.clsIn K C = some cd)
    (full : cd.mro.isEmpty = false) (hob : cd.mro.contains (.type "object") = true) (pass : refuseLoop (.ref x) "__setattr__" cd.mro = pure ()) (hh : cd.hasDict = true) (ha : W.findIn K (.ref C) nm = some none)
    (done : ∀ h1 tk1 dx, (∀ b o, b ≠ x → hp.get? b = some o → h1.get? b = some o) → hp.objs.size ≤ dx → dx ≠ x → h1.get? x = some { cls := .ref C, dict := some dx, data := .fields fv } → h1.Ns1 dx (fun y => if y = nm then some v else none) → R (.ok (.ret .none)) ⟨h1, g, dr, tk1, os⟩) :
    codeAny (model prog w) A (.call (.builtin "object.__setattr__") ⟨[.ref x, .str nm tk, v], []⟩) R ⟨hp, g, dr, tk0, os⟩ := by
  have J : W.InstAt hp x { cls := .ref C, data := .fields fv } C none := ⟨hx, rfl, rfl, trivial⟩
  have S := F.store_object
  have off : x ≠ hp.objs.size := Nat.ne_of_lt (Heap.lt_size hx)
  have mroO : W.mroIn K C (.type "object") = some true := by
    unfold W.mroIn
    rw [hcd, Option.bind_some, if_neg (by rw [full]; decide), hob]
  have isO : W.Looks (model prog w) hp (isInstance (.ref x) (.type "object")) true := J.type.andThen (W.looks_mroIn X mroO)
  refine codeAny_call_builtin S.slot.plain S.entry (@W.check_slot (model prog w) _ _ ⟨hp, g, dr, tk0, os⟩ "object.__setattr__" "object" "__setattr__" (.ref x) [.str nm tk, v] [] _ S.kind S.split isO (S.args (.ref x) (.str nm tk) v) ?_)
  have look : W.Looks (model prog w) hp (classData C) cd := W.looks_clsIn X hcd
  have order : W.Looks (model prog w) hp (mroOf (.ref C)) cd.mro := look.andThen .now
  have none3 : W.Looks (model prog w) hp (storeTaker? none) none := .now
  rw [W.osa_eq, refuse_eq]
  refine wpAny_bind <| wpAny_bind <| J.type.at <| wpAny_bind <| order.at ?_
  rw [pass]
  refine wpAny_pure <| wpAny_bind <| J.type.at <| wpAny_bind <| (W.looks_findIn X ha).at <| wpAny_bind <| none3.at ?_
  show wpAny _ _ (storeInOwnDict (.ref x) (.ref C) (.str nm tk) nm v false) _ _ _
  obtain ⟨c1, c2, c3, c4, c5, c6, c7, c8, c9, c10, c11⟩ := cd
  dsimp only at hh
  subst hh
  unfold storeInOwnDict ownDictForStores
  repeat (first | (with_reducible refine store_in_new ?_ ?_) | (with_reducible refine wpAny_loadPart_at hx ?_) | (with_reducible refine look.at ?_) | wp_step)
  · exact ⟨_, #[], _, (Heap.get?_update_ne _ _ _ _ off.symm).trans (Heap.get?_push_at rfl rfl), rfl, (fun e he => absurd he (by simp)), fun _ => rfl⟩
  intro h1 tk1 hn1 same
  have hx1 : (hp.push { cls := .type "dict", data := .dict #[] }).get? x = some { cls := .ref C, data := .fields fv } := Heap.get?_push_of_some _ hx
  refine done h1 tk1 hp.objs.size (fun b o nb e => ?_) (Nat.le_refl _) off.symm ?_ hn1
  · exact (same.2 b (Nat.ne_of_lt (Heap.lt_size e))).trans ((Heap.get?_update_ne _ _ _ _ nb).trans (Heap.get?_push_of_some _ e))
  · exact (same.2 x off).trans (Heap.get?_update_self _ hx1 rfl)
end
end PySem.HandSPX
namespace L2
open PySem PySem.Spec PyProof.Rows
/-- what the written part says of an error class over some built-in error -/
structure OexB (K : PySem.W.Frag) (C : Addr) : Prop where
  cls : ∃ (nm q : Str) (N : Addr) (bs bm sub bmB : List Value) (sn : List Str) (ab : Bool) (col : Option Bool) (dd : Option Addr) (k0 k1 k2 k3 k5 : Option Value) (B newId initId : String),
    K.lookup C = some (excClassObj nm q C N bs bm true sn sub ab col dd k0 k1 k2 k3 k5 newId) ∧ ExcBaseFacts B newId initId bmB ∧ (∀ Y : String, bm.contains (.type Y) = bmB.contains (.type Y)) ∧ (∀ self : Value, refuseLoop self "__setattr__" bm = pure ()) ∧ bmB.contains (.type "object") = true
  sa : PySem.W.findIn K (.ref C) "__setattr__" = some (some (.builtin "object.__setattr__"))
  exC : PySem.W.subIn K (.ref C) (.type "BaseException") = some true
  tyC : PySem.W.typeIn K (.ref C) = some (.type "type")
  kC : PySem.W.keepIn K (.ref C) = true
theorem OexC.toB {K : PySem.W.Frag} {C : Addr} (T : OexC K C) : OexB K C := by
  obtain ⟨nm, q, N, bs, bm, sn, sub, ab, col, dd, k0, k1, k2, k3, k5, hC, hbm⟩ := T.cls
  exact ⟨⟨nm, q, N, bs, bm, sub, _, sn, ab, col, dd, k0, k1, k2, k3, k5, _, _, _, hC, PySem.F.excBase_ValueError, fun Y => PySem.HandSPX.refsVE_contains Y bm hbm, fun self => PySem.HandSPX.refsVE_pass self bm hbm, by decide +kernel⟩, T.sa, T.exC, T.tyC, T.kC⟩
section
variable {X : Cx} {pins : List (Addr × Obj)} {σ : St} {H : Hp} {s : Shared} {a C : Addr} {f : Str} {y : V} {u : Value} {Q : Unit → Shared → Prop} {E : Value → Shared → Prop} {A : Around}
theorem gm_first (T : OexB X.K C) (I : Inv X pins σ H s) (e : H a = some (exo a C none)) (hno : PySem.W.findIn X.K (.ref C) f = some none) (ry : RelV y u)
    (h : ∀ dx s', H dx = none → dx ≠ a → Inv X pins σ (upd (upd H dx (exd dx [(f, y)])) a (exo a C (some dx))) s' → Q () s') : wpAny (model X.prog X.w) A (setAttr (.ref a) f u) Q E s := by
  obtain ⟨nm, q, N, bs, bm, sub, bmB, sn, ab, col, dd, k0, k1, k2, k3, k5, B, n1, n2, hC, FB, has, pass, ob⟩ := T.cls
  have hcl : PySem.W.clsIn X.K C = some { name := nm, bases := bs, mro := .ref C :: bm, ns := N, qualname := q, hasDict := true, slotNames := sn, subclasses := sub, abstract := ab, collection := col, hasDel := false } := by
    unfold PySem.W.clsIn
    rw [hC] <;> rfl
  obtain ⟨t1, ho⟩ := exo_at I.hok e
  obtain ⟨hp, g, d, t, os⟩ := s
  refine PySem.W.set_plain I.kIn (od := none) (ox := { cls := .ref C, dict := none, data := .fields #[.ref t1, .none, .none, .none, .bool false, .none] }) ⟨ho, rfl, rfl, trivial⟩ T.sa ?_
  refine PySem.HandSPX.gm_store I.kIn ho hcl rfl (show (Value.ref C :: bm).contains (.type "object") = true from by rw [List.contains_cons, has, ob, Bool.or_true]) ((PySem.refuseLoop_ref _ _ C bm).trans (pass _)) rfl hno fun h' tk' dx k dn dne hx hn => ?_
  have hnd : H dx = none := I.hok.fresh dn
  have nd : ∀ {b : Addr} {o : Obj}, hp.get? b = some o → b ≠ dx := fun {b o} z => Nat.ne_of_lt (Nat.lt_of_lt_of_le (Heap.lt_size z) dn)
  have na : ∀ {b : Addr}, H b = none → b ≠ a := fun {b} n z => by
    rw [z, e] at n
    cases n
  have U : Un X.fs [] H (upd (upd H dx (exd dx [(f, y)])) a (exo a C (some dx))) hp h' := by
    constructor
    · intro b o z n _ _
      exact k b o (na n) z
    · intro b o z n _ _
      exact ⟨o.slots, k b o (na n) z⟩
    · intro b o z n _
      rw [upd_ne (na n), upd_ne (nd z)]
      exact n
    · intro b o z _
      by_cases hb : b = a
      · rw [hb]
        exact ⟨_, hx⟩
      · exact ⟨o, k b o hb z⟩
    · intro b xs z
      rw [upd_ne (at_ne e z exo_tup), upd_ne (ne_of_none z hnd)]
      exact z
    · intro b o v z
      rw [upd_ne (at_ne e z exo_frz), upd_ne (ne_of_none z hnd)]
      exact z
    · intro b ps z
      refine ⟨#[], ?_⟩
      rw [upd_ne (at_ne e z exo_tbl), upd_ne (ne_of_none z hnd), z]
      simp
  refine h dx _ hnd dne (I.un (t' := tk') U fun b o z => ?_)
  by_cases hb : b = a
  · subst hb
    rw [upd_same] at z
    cases z
    exact exo_ok hx
  rw [upd_ne hb] at z
  by_cases hd : b = dx
  · subst hd
    rw [upd_same] at z
    cases z
    exact exd_ok hn (relO_put (fs := []) ry fun _ => True.intro)
  rw [upd_ne hd] at z
  refine (I.hok b o z).stay (fun c v hc y => k c v ?_ y) (fun c hc => ?_) (fun c xs hc => ?_)
  · rcases hc with hc | hc
    · rw [hc]
      exact hb
    · exact at_ne e hc exo_own
  · rw [upd_ne (at_ne e hc exo_own), upd_ne (ne_of_none hc hnd)]
    exact hc
  · rw [upd_ne (at_ne e hc exo_tup), upd_ne (ne_of_none hc hnd)]
    exact hc
end
/-- self.f = e, the first attribute of an error -/
def tOstB (K : PySem.W.Frag) (f : Str) (to te : TE) : TS := fun D σ H => te σ H fun y H1 => to σ H1 fun x H2 => ∃ a C : Addr, x = .ref a ∧ OexB K C ∧ PySem.W.findIn K (.ref C) f = some none ∧
  H2 a = some (exo a C none) ∧ ∀ dx, H2 dx = none → dx ≠ a → D.nx σ (upd (upd H2 dx (exd dx [(f, y)])) a (exo a C (some dx)))
section
variable {X : Cx} {o e : Expr} {es : List Expr} {to te : TE} {ta : TA} {f : Str} {p p' pos : Pos}
theorem ps_ostB (ho : PE X o to) (he : PE X e te) (hs : swapsWith e (some (.Attribute o f p')) pos.line X.env = pure false := by rfl) : PS X (.Assign [.Attribute o f p'] e pos) (tOstB X.K f to te) := by
  constructor
  intro pins s σ H D I h
  refine plainObj_wpAny_Assign_Attribute (thn (he.run pins s σ H _ I h) fun v s1 h1 => ?_) hs
  obtain ⟨y, H1, I1, r1, q1⟩ := h1
  refine thn (ho.run pins s1 σ H1 _ I1 q1) fun u s2 h2 => ?_
  obtain ⟨x, H2, I2, r2, a, C, rfl, T, hno, ea, q⟩ := h2
  obtain rfl : u = Value.ref a := r2
  exact gm_first T I2 ea hno r1 fun dx s' n ne J => ⟨σ, _, J, q dx n ne⟩
theorem pmk_oexB {CX : CXT} {x : Str} {C fI : Addr} {k : Nat} {fd : FuncData} {ps : List Str} {sp : Sp} (T : OexB X.K C) (iC : PySem.W.findIn X.K (.ref C) "__init__" = some (some (.ref fI))) (tI : PySem.W.typeIn X.K (.ref fI) = some (.type "function"))
    (F1 : FnOk X.prog X.w X.K X.mg X.base CX k fI fd ps sp) (hr : Room (k + 1) X.A) (hb : Binds X.K fd ps []) (hx : Passes CX X (fun _ _ _ => False)) (hg : Gl X x) (hm : X.mg x = some (.ref C)) (ha : PA X (e :: es) ta)
    (hdb : (x == ("__debug__" : Str)) = false := by decide) (he : starEach (e :: es) X.env = (false, eval e X.env) :: starEach es X.env := by rfl) (hpl : (backTo pos (starEach es X.env)).any (·.1) = false := by rfl) :
    PMk X (.Call (.Name x p) (e :: es) [] pos) (tMkO C sp [] ta) := by
  intro pins s σ H Q I h
  obtain ⟨nm, q, N, bs, bm, sub, bmB, sn, ab, col, dd, k0, k1, k2, k3, k5, B, n1, n2, hC, FB, has, pass, ob⟩ := T.cls
  refine wpAny_Call_Name_kw (ld_glob I hg hm ?_ hdb)
  refine PySem.W.callWith_K (h₀ := X.base) I.ok.mod.kin T.kC (thn (ha.run pos pins s σ H _ I h) fun us s1 h1 => ?_) he hpl
  obtain ⟨vs, H1, I1, r1, hz, q1⟩ := h1
  refine ⟨I1.kIn, ?_⟩
  show wpAny _ _ (call (.ref C) us) _ _ _
  obtain ⟨hp, g, dr, tk, os⟩ := s1
  obtain ⟨top, etop⟩ : ∃ z, z = hp.objs.size + 1 := ⟨_, rfl⟩
  have hsz : hp.objs.size ≤ top := etop ▸ Nat.le_succ _
  have hq := q1 top (I1.hok.fresh hsz)
  have kk : ∀ b o, hp.get? b = some o → ((hp.push (PySem.W.kdv_tup us)).push (PySem.HandSPX.excO C hp.objs.size)).get? b = some o := fun b o z => Heap.get?_push_of_some _ (Heap.get?_push_of_some _ z)
  have hget : ((hp.push (PySem.W.kdv_tup us)).push (PySem.HandSPX.excO C hp.objs.size)).get? top = some (PySem.HandSPX.excO C hp.objs.size) := by
    rw [etop]
    heap_get
  have I2 : Inv X pins σ (upd H1 top (exo top C none)) ⟨(hp.push (PySem.W.kdv_tup us)).push (PySem.HandSPX.excO C hp.objs.size), g, dr, tk, os⟩ := I1.laid (t' := tk) kk hsz (exo_ok hget)
  have r2 : Vals (V.ref top :: (vs ++ [])) (Value.ref top :: (us ++ [])) := .cons rfl (r1.append .nil)
  have hl : (Value.ref top :: us ++ []).length = ps.length := by
    have z := r2.length
    rw [F1.len _ _ _ _ hq] at z
    exact z.symm
  have hus : us.length ≤ sizeLine := by
    rw [← Paired.length r1, sizeLine_eq]
    omega
  have bound : BindsTo ⟨(hp.push (PySem.W.kdv_tup us)).push (PySem.HandSPX.excO C hp.objs.size), g, dr, tk, os⟩ fd ⟨Value.ref top :: us, []⟩ (ps.zip (Value.ref top :: us ++ [])) := hb _ (Value.ref top :: us) I2.kIn hl
  have run := F1.run _ X.stack _ _ ⟨Value.ref top :: us, []⟩ (Value.ref top :: us ++ []) _ _ (fun _ _ _ => False) (hr.make C us []) (I2.env0.make C us []) bound r2 hq
  subst etop
  refine wpAny_call (PySem.HandSPX.call_own FB has (I1.kIn _ _ hC) (PySem.W.looks_findIn I1.kIn iC) (fun self => PySem.W.bind_fn I1.kIn self tI) hus (codeAny_mono run fun r s' hq' => ?_))
  match r, hq' with
  | .error er, hq' => exact hx pins σ _ _ er s' I2 hq'
  | .ok (.ret u), hq' =>
    obtain ⟨v, H2, os2, bare2, un2, hok2, rv, ev, d, fs, ea, ed, hd1, q2⟩ := hq'
    subst ev
    obtain ⟨h2, g2, d2, t2, os'⟩ := s'
    exact ⟨rv, mk_end (raises_own T.exC T.tyC) I1 hsz kk un2 hok2 os2 bare2 ea ed hd1 q2⟩
end
/-- an error class with one attribute, over any built-in error -/
structure ErrB (K : PySem.W.Frag) (mg : Str → Option Value) (x f : Str) (C fI : Addr) : Prop where
  gC : mg x = some (.ref C)
  ox : OexB K C
  no : PySem.W.findIn K (.ref C) f = some none
  iC : PySem.W.findIn K (.ref C) "__init__" = some (some (.ref fI))
  tI : PySem.W.typeIn K (.ref fI) = some (.type "function")
  ga : PySem.W.findIn K (.ref C) "__getattribute__" = some (some (.builtin "BaseException.__getattribute__"))
  gg : PySem.W.findIn K (.ref C) "__getattr__" = some none
  hd : PySem.W.hasDictIn K C = true
  ac : PySem.W.findIn K (.ref C) "__class__" = some (some (.builtin "object.__class__"))
  gt : PySem.W.specialIn K (.builtin "object.__class__") "__get__" = some (some (.builtin "getset_descriptor.__get__"))
  tk : PySem.W.takesIn K (.builtin "object.__class__") = some true
  ob : PySem.W.mroIn K C (.type "object") = some true
section
variable {K : PySem.W.Frag} {mg : Str → Option Value} {x f : Str} {C fI : Addr}
theorem ErrC.toB (T : ErrC K mg x f C fI) : ErrB K mg x f C fI := ⟨T.gC, T.ox.toB, T.no, T.iC, T.tI, T.ga, T.gg, T.hd, T.ac, T.gt, T.tk, T.ob⟩
theorem ErrB.xf (T : ErrB K mg x f C fI) : XfC K C := ⟨T.ga, T.gg, T.ox.exC, T.hd⟩
theorem ErrB.cl (T : ErrB K mg x f C fI) : (PySem.W.clsIn K C).isSome = true := by
  obtain ⟨cd, hc, _⟩ := PySem.W.any_some T.hd
  rw [hc]
  rfl
end
theorem ok_errB {P : Program} {w : World} {K : PySem.W.Frag} {mg : Str → Option Value} {base : Heap} {qual f x par : Str} {st : Stmt} {fI C : Addr} {fd : FuncData} {p1 p2 p3 p4 : Pos} (F : Fun K "__init__" qual st fI fd) (T : ErrB K mg x f C fI)
    (hB : defBody st = [.Assign [.Attribute (.Name "self" p1) f p2] (.Name par p3) p4]) (S : FnScope ["self", par] ["self", par] (defScope st)) (v0 : Vis (defScope st) "self") (v1 : Vis (defScope st) par)
    (d0 : (par == ("__debug__" : Str)) = false := by decide) (d1 : (par == ("__classdict__" : Str)) = false := by decide) : FnOk P w K mg base CX0 1 fI fd ["self", par] (spErr C f) := by
  refine F.ok S (fun vs H Q E h => ?_) (fun cdv A outer s H vs Q E hr h => ?_)
  · obtain ⟨a, v, rfl, _⟩ := h
    rfl
  · obtain ⟨a, v, rfl, e, q⟩ := h
    rw [hB]
    refine ⟨_, pss_one (ps_ostB (pe_var (i := 0) rfl v0 (by decide) (by decide)) (pe_var (i := 1) rfl v1 d0 d1)), ?_⟩
    exact ⟨_, rfl, _, rfl, a, C, rfl, T.ox, T.no, e, fun dx n ne => q dx n ne⟩
theorem call_isXB {X : Cx} {a D fI : Addr} {x f : Str} {oe : Obj} {cls : Value} {d : Option Addr} {pn : List (Addr × Obj)} (T : ErrB X.K X.mg x f D fI) (hz : Zc cls d oe) (hf : ∃ vs, oe.data = .fields vs) :
    CallR (X.suite a ((a, oe) :: pn)) (.builtin "isinstance") (rIsX X.K D a cls d) := by
  intro pins s σ H xs us Q I r h
  obtain ⟨c, cv, b, dd, fs, rfl, k, rfl, rfl, hd, e, q⟩ := h
  cases r with
  | cons rx rr =>
    cases rr with
    | cons rt rr =>
      cases rr
      cases rx
      have ec := k.eq rt
      subst ec
      obtain ⟨hget, _⟩ := I.pin (a, oe) (List.mem_append_left _ List.mem_cons_self)
      obtain ⟨vs, hv⟩ := hf
      have hx : ObjOk X.prog X.w H s.heap dd (.xd fs) := I.hok dd _ hd
      obtain ⟨mA, hns, _⟩ := hx
      obtain ⟨od, ho, _⟩ := lookIn_ns hns
      have J : PySem.W.InstAt s.heap a oe D (some od) := ⟨hget, hz.1, by unfold PySem.W.notCls; rw [hv] <;> rfl, by rw [hz.2]; exact ho⟩
      exact PySem.W.kia_one (PySem.W.kitx_exc T.cl T.ga T.gg T.ox.exC T.ac T.gt T.tk T.ob) I.kIn J e (fun z => nomatch z) fun tk => ⟨.bl b, H, I.kept (t' := tk) fun _ _ z => z, rfl, q⟩
end L2

/-! errors as values: made by position and by keyword, asked for their class, read -/
namespace PySem.HandSPX
open PySem PySem.W PySem.Calls PyProof.Rows Builtin Builtin.ObjectAttr
section
variable {M : Model} {A : Around} {E : Value → Shared → Prop} {h : Heap} {g : Array GenState} {d : Drawn} {t : Nat} {os : OsState}
variable {nm q : Str} {C N : Addr} {bs bm bmB : List Value} {hdct : Bool} {sn : List Str} {sub : List Value} {ab : Bool} {col : Option Bool} {dd : Option Addr} {k0 k1 k2 k3 k5 : Option Value} {B newId initId : String}
theorem gm_checkKw (F : ExcBaseFacts B newId initId bmB) (hT : ∀ X : String, bm.contains (.type X) = bmB.contains (.type X)) {kw : List (Str × Value)} {Q : Unit → Shared → Prop}
    (hC : h.get? C = some (excClassObj nm q C N bs bm hdct sn sub ab col dd k0 k1 k2 k3 k5 newId)) (hq : Q () ⟨h, g, d, t, os⟩) : wpAny M A (checkBuiltinCall newId ⟨[.ref C], kw⟩) Q E ⟨h, g, d, t, os⟩ := by
  have inB : (Value.ref C :: bm).contains (.type B) = true := by rw [List.contains_cons, hT, F.hasB, Bool.or_true]
  have st := F.noStar
  simp only [checkBuiltinCall, F.newKind, F.newSplit, F.newRow]
  repeat (first | (refine wpAny_loadPart_at hC ?_) | ((refine wpAny_isSubtype_exc hC ?_); rw [inB]) | (refine wpAny_staticBase_exc hC ?_) | (refine wpAny_madeBy_exc hC ?_) | (simp only [bne_self_eq_false, Bool.false_eq_true, if_false]) | wp_step)
  exact hq
end
section
variable {prog : Program} {w : World} {A : Around} {E : Value → Shared → Prop} {R : Result → Shared → Prop} {h : Heap} {g : Array GenState} {d : Drawn} {t : Nat} {os : OsState}
variable {nm q : Str} {C N : Addr} {bs bm bmB : List Value} {hdct : Bool} {sn : List Str} {sub : List Value} {ab : Bool} {col : Option Bool} {dd : Option Addr} {k0 k1 k2 k3 k5 : Option Value} {B newId initId : String}
theorem gm_newKw (F : ExcBaseFacts B newId initId bmB) (hT : ∀ X : String, bm.contains (.type X) = bmB.contains (.type X)) {kw : List (Str × Value)}
    (hC : h.get? C = some (excClassObj nm q C N bs bm hdct sn sub ab col dd k0 k1 k2 k3 k5 newId))
    (hq : R (.ok (.ret (.ref (h.objs.size + 1)))) ⟨(h.push { cls := .type "tuple", data := .seq ([] : List Value).toArray }).push { cls := .ref C, data := .fields #[.ref h.objs.size, .none, .none, .none, .bool false, .none] }, g, d, t, os⟩) :
    codeAny (model prog w) A (.builtin newId ⟨[.ref C], kw⟩) R ⟨h, g, d, t, os⟩ := by
  have en := F.ends
  have inB : (Value.ref C :: bm).contains (.type B) = true := by rw [List.contains_cons, hT, F.hasB, Bool.or_true]
  have inA : (Value.ref C :: bm).contains (.type "AttributeError") = false := by rw [List.contains_cons, hT, F.noAttr] <;> rfl
  have inN : (Value.ref C :: bm).contains (.type "NameError") = false := by rw [List.contains_cons, hT, F.noName] <;> rfl
  refine codeAny_builtinAt F.entry ?_
  unfold Builtin.«BaseException.__new__»
  refine wpAt_bind ?_
  show wpAt _ _ _ (stack >>= _) _ _ _
  refine wpAt_bind (wpAt_stack fun p below => wpAt_of_wpAny ?_)
  wp_walk
  refine wpAt_of_wpAny ?_
  rw [F.owner]
  have hrest : ([] : List Value).length ≤ sizeLine := Nat.zero_le _
  repeat (first | (with_reducible refine wpAny_madeHere_exc F.canon hC ?_) | (with_reducible refine wpAny_loadPart_at hC ?_) | ((with_reducible refine wpAny_isSubtype_exc hC ?_); first | rw [inB] | rw [inA] | rw [inN]) | wp_step)
  show R _ _
  rw [Heap.size_push]
  exact hq
theorem gm_checkType {M : Model} {kw : List (Str × Value)} {Q : Unit → Shared → Prop} (hC : h.get? C = some (excClassObj nm q C N bs bm hdct sn sub ab col dd k0 k1 k2 k3 k5 newId)) (hq : Q () ⟨h, g, d, t, os⟩) :
    wpAny M A (checkBuiltinCall "type.__call__" ⟨[.ref C], kw⟩) Q E ⟨h, g, d, t, os⟩ := by
  have f3 := tc_sub
  have isT : (⟨h, g, d, t, os⟩ : Shared).TypeIs (.ref C) "type" := ⟨_, hC, rfl⟩
  simp only [checkBuiltinCall, tc_kind, tc_split]
  repeat (any_goals (first | assumption | (with_reducible refine wpAny_loadPart_at hC ?_) | (with_reducible refine wpAny_onRaise ?_) | (with_reducible refine wpAny_map ?_) | wp_step))
theorem gm_typeKw (F : ExcBaseFacts B newId initId bmB) (hT : ∀ X : String, bm.contains (.type X) = bmB.contains (.type X)) {kw : List (Str × Value)} {fI : Addr} {Q : Fin → Shared → Prop}
    (hC : h.get? C = some (excClassObj nm q C N bs bm hdct sn sub ab col dd k0 k1 k2 k3 k5 newId))
    (hi : W.Looks (model prog w) h (typeLookup (.ref C) "__init__") (some (.ref fI))) (hb : ∀ self, W.Looks (model prog w) h (bindSpecial (.ref fI) self) (.ref fI, [self]))
    (hq : codeAny (model prog w) A (.call (.ref fI) ⟨[.ref (h.objs.size + 1)], kw⟩)
      (fun r s' => match r with | .ok (.ret v) => v = .none ∧ Q (.done (.ret (.ref (h.objs.size + 1)))) s' | .ok _ => False | .error e => E e s')
      ⟨(h.push (W.kdv_tup [])).push (excO C h.objs.size), g, d, t, os⟩) :
    wpAny (model prog w) A (Builtin.«type.__call__» ⟨[.ref C], kw⟩) Q E ⟨h, g, d, t, os⟩ := by
  repeat (first | (with_reducible refine wpAny_loadPart_at hC ?_) | (with_reducible refine wpAny_madeBy_exc hC ?_) | wp_step)
  refine codeAny_call_builtin_code (Code.quiet_builtin _ F.quiet) (gm_checkKw F hT hC ?_)
  refine gm_newKw F hT hC ?_
  show wpAny _ _ _ _ _ _
  have k : ∀ b o, h.get? b = some o → ((h.push (W.kdv_tup [])).push (excO C h.objs.size)).get? b = some o := fun b o z => Heap.get?_push_of_some _ (Heap.get?_push_of_some _ z)
  have hC1 := k _ _ hC
  have at1 : ((h.push (W.kdv_tup [])).push (excO C h.objs.size)).get? (h.objs.size + 1) = some (excO C h.objs.size) := by heap_get
  have inC : (Value.ref C :: bm).contains (.ref C) = true := by simp
  have i1 := hi.keeps k
  have b1 := (hb (.ref (h.objs.size + 1))).keeps k
  unfold isInstance
  repeat (first | (with_reducible refine wpAny_loadPart_at at1 ?_) | ((with_reducible refine wpAny_isSubtype_exc hC1 ?_); rw [inC]) | wp_step)
  show wpAny _ _ (typeLookup (.ref C) _) _ _ _
  refine i1.at ?_
  refine wpAny_holding (wpAny_bind (b1.at ?_))
  refine wpAny_bind (wpAny_call (codeAny_mono hq fun r s' z => ?_))
  match r, z with
  | .error e, z => exact z
  | .ok (.ret v), z =>
    obtain ⟨rfl, z⟩ := z
    first
      | exact wpAny_pure (wpAny_pure z)
      | (wp_walk; exact z)
theorem gm_callKw (F : ExcBaseFacts B newId initId bmB) (hT : ∀ X : String, bm.contains (.type X) = bmB.contains (.type X)) {kw : List (Str × Value)} {fI : Addr}
    (hC : h.get? C = some (excClassObj nm q C N bs bm hdct sn sub ab col dd k0 k1 k2 k3 k5 newId))
    (hi : W.Looks (model prog w) h (typeLookup (.ref C) "__init__") (some (.ref fI))) (hb : ∀ self, W.Looks (model prog w) h (bindSpecial (.ref fI) self) (.ref fI, [self]))
    (hq : codeAny (model prog w) (A.under (.builtin "type.__call__" ⟨[.ref C], kw⟩)) (.call (.ref fI) ⟨[.ref (h.objs.size + 1)], kw⟩) (W.InitBack (h.objs.size + 1) R) ⟨(h.push (W.kdv_tup [])).push (excO C h.objs.size), g, d, t, os⟩) :
    codeAny (model prog w) A (.call (.ref C) ⟨[], kw⟩) R ⟨h, g, d, t, os⟩ := by
  have f1 := tc_lookup
  have f2 := tc_bind (.ref C)
  have isT : (⟨h, g, d, t, os⟩ : Shared).TypeIs (.ref C) "type" := ⟨_, hC, rfl⟩
  refine codeAny_of_tree ?_
  show wpAny _ _ (callAny (.ref C) _) _ _ _
  repeat (any_goals (first | assumption | (with_reducible refine wpAny_loadPart_at hC ?_) | wp_step))
  refine ⟨rfl, ?_⟩
  refine codeAny_call_builtin_at (Code.quiet_builtin _ (by decide +kernel)) entry_typeCall (gm_checkType hC (gm_typeKw F hT hC hi hb ?_))
  refine codeAny_mono hq fun r s' z => ?_
  rcases r with e | (v | _ | _ | _) <;> exact z
end
end PySem.HandSPX

/-! errors as values: made by position and by keyword, asked for their class, read -/
namespace L2
open PySem PySem.Spec PyProof.Rows
/-- C(e, ..), as a value -/
def tMkV (C : Addr) (sp : Sp) (ta : TA) : TE := fun σ H Q => ta σ H fun vs H1 => vs.length ≤ 1000 ∧ ∀ a, H1 a = none → sp (.ref a :: (vs ++ [])) (upd H1 a (exo a C none)) (fun v H2 => v = .non ∧ Q (.ref a) H2) (fun _ _ _ => False)
/-- C(k = v), as a value -/
def tMkVK (C : Addr) (m : Nat) (sp : Sp) (gV : List V → List V → List V) (tk : TA) : TE := fun σ H Q => tk σ H fun zs H1 => zs.length = m ∧ ∀ a, H1 a = none → sp (gV [.ref a] zs) (upd H1 a (exo a C none)) (fun v H2 => v = .non ∧ Q (.ref a) H2) (fun _ _ _ => False)
section
variable {X : Cx} {CX : CXT} {x : Str} {C fI : Addr} {k : Nat} {fd : FuncData} {ps ks : List Str} {sp : Sp} {e : Expr} {es : List Expr} {kws : List Keyword} {ta tk : TA} {p pos : Pos} {g : List Value → List Value → List Value} {gV : List V → List V → List V}
theorem pe_mkV (T : OexB X.K C) (iC : PySem.W.findIn X.K (.ref C) "__init__" = some (some (.ref fI))) (tI : PySem.W.typeIn X.K (.ref fI) = some (.type "function"))
    (F1 : FnOk X.prog X.w X.K X.mg X.base CX k fI fd ps sp) (hr : Room (k + 1) X.A) (hb : Binds X.K fd ps []) (hx : Passes CX X (fun _ _ _ => False)) (hg : Gl X x) (hm : X.mg x = some (.ref C)) (ha : PA X (e :: es) ta)
    (hdb : (x == ("__debug__" : Str)) = false := by decide) (he : starEach (e :: es) X.env = (false, eval e X.env) :: starEach es X.env := by rfl) (hpl : (backTo pos (starEach es X.env)).any (·.1) = false := by rfl) :
    PE X (.Call (.Name x p) (e :: es) [] pos) (tMkV C sp ta) := by
  refine ⟨fun pins s σ H Q I h => ?_⟩
  obtain ⟨nm, q, N, bs, bm, sub, bmB, sn, ab, col, dd, k0, k1, k2, k3, k5, B, n1, n2, hC, FB, has, pass, ob⟩ := T.cls
  refine wpAny_Call_Name_kw (ld_glob I hg hm ?_ hdb)
  refine PySem.W.callWith_K (h₀ := X.base) I.ok.mod.kin T.kC (thn (ha.run pos pins s σ H _ I h) fun us s1 h1 => ?_) he hpl
  obtain ⟨vs, H1, I1, r1, hz, q1⟩ := h1
  refine ⟨I1.kIn, ?_⟩
  show wpAny _ _ (call (.ref C) us) _ _ _
  obtain ⟨hp, gg, dr, tk0, os⟩ := s1
  have hsz : hp.objs.size ≤ hp.objs.size + 1 := Nat.le_succ _
  have hq := q1 (hp.objs.size + 1) (I1.hok.fresh hsz)
  have kk : ∀ b o, hp.get? b = some o → ((hp.push (PySem.W.kdv_tup us)).push (PySem.HandSPX.excO C hp.objs.size)).get? b = some o := fun b o z => Heap.get?_push_of_some _ (Heap.get?_push_of_some _ z)
  have hget : ((hp.push (PySem.W.kdv_tup us)).push (PySem.HandSPX.excO C hp.objs.size)).get? (hp.objs.size + 1) = some (PySem.HandSPX.excO C hp.objs.size) := by heap_get
  have I2 : Inv X pins σ (upd H1 (hp.objs.size + 1) (exo (hp.objs.size + 1) C none)) ⟨(hp.push (PySem.W.kdv_tup us)).push (PySem.HandSPX.excO C hp.objs.size), gg, dr, tk0, os⟩ := I1.laid (t' := tk0) kk hsz (exo_ok hget)
  have r2 : Vals (V.ref (hp.objs.size + 1) :: (vs ++ [])) (Value.ref (hp.objs.size + 1) :: (us ++ [])) := .cons rfl (r1.append .nil)
  have hl : (Value.ref (hp.objs.size + 1) :: us ++ []).length = ps.length := by
    have z := r2.length
    rw [F1.len _ _ _ _ hq] at z
    exact z.symm
  have hus : us.length ≤ sizeLine := by
    rw [← Paired.length r1, sizeLine_eq]
    omega
  have bound : BindsTo ⟨(hp.push (PySem.W.kdv_tup us)).push (PySem.HandSPX.excO C hp.objs.size), gg, dr, tk0, os⟩ fd ⟨Value.ref (hp.objs.size + 1) :: us, []⟩ (ps.zip (Value.ref (hp.objs.size + 1) :: us ++ [])) := hb _ (Value.ref (hp.objs.size + 1) :: us) I2.kIn hl
  have run := F1.run _ X.stack _ _ ⟨Value.ref (hp.objs.size + 1) :: us, []⟩ (Value.ref (hp.objs.size + 1) :: us ++ []) _ _ (fun _ _ _ => False) (hr.make C us []) (I2.env0.make C us []) bound r2 hq
  refine wpAny_call (PySem.HandSPX.call_own FB has (I1.kIn _ _ hC) (PySem.W.looks_findIn I1.kIn iC) (fun self => PySem.W.bind_fn I1.kIn self tI) hus (codeAny_mono run fun r s' hq' => ?_))
  match r, hq' with
  | .error er, hq' => exact hx pins σ _ _ er s' I2 hq'
  | .ok (.ret u), hq' =>
    obtain ⟨v, H', I3, rv, ev, q3⟩ := I2.after hq'
    subst ev
    exact ⟨rv, ⟨V.ref (hp.objs.size + 1), H', I3, rfl, q3⟩⟩
theorem pe_mkVK (T : OexB X.K C) (iC : PySem.W.findIn X.K (.ref C) "__init__" = some (some (.ref fI))) (tI : PySem.W.typeIn X.K (.ref fI) = some (.type "function"))
    (F1 : FnOk X.prog X.w X.K X.mg X.base CX k fI fd ps sp) (hr : Room (k + 1) X.A) (hb : KBn X.K fd ps 1 ks g gV) (hx : Passes CX X (fun _ _ _ => False)) (hg : Gl X x) (hm : X.mg x = some (.ref C)) (hkw : PK X kws tk)
    (hall : (backToKw pos (keywordEach kws X.env)).all (·.1.isSome) = true := by rfl) (hks : (backToKw pos (keywordEach kws X.env)).filterMap (·.1) = ks := by rfl) (hdb : (x == ("__debug__" : Str)) = false := by decide)
    (hpl : ((backTo pos (starEach [] X.env)).any (·.1) || (backToKw pos (keywordEach kws X.env)).any (·.1.isNone)) = false := by rfl) :
    PE X (.Call (.Name x p) [] kws pos) (tMkVK C ks.length sp gV tk) := by
  refine ⟨fun pins s σ H Q I h => ?_⟩
  obtain ⟨nm, q, N, bs, bm, sub, bmB, sn, ab, col, dd, k0, k1, k2, k3, k5, B, n1, n2, hC, FB, has, pass, ob⟩ := T.cls
  refine wpAny_Call_Name_kw (ld_glob I hg hm ?_ hdb)
  refine PySem.W.callWith_KW0 (h₀ := X.base) I.ok.mod.kin T.kC hall ?_ hpl
  refine thn (hkw.run pos pins s σ H _ I h) fun ws s1 ⟨zs, H1, I1, rz, l1, q1⟩ => ⟨I1.kIn, ?_⟩
  rw [hks]
  show wpAny _ _ (call (.ref C) [] (ks.zip ws)) _ _ _
  obtain ⟨hp, gg, dr, tk0, os⟩ := s1
  have hsz : hp.objs.size ≤ hp.objs.size + 1 := Nat.le_succ _
  have hq := q1 (hp.objs.size + 1) (I1.hok.fresh hsz)
  have kk : ∀ b o, hp.get? b = some o → ((hp.push (PySem.W.kdv_tup [])).push (PySem.HandSPX.excO C hp.objs.size)).get? b = some o := fun b o z => Heap.get?_push_of_some _ (Heap.get?_push_of_some _ z)
  have hget : ((hp.push (PySem.W.kdv_tup [])).push (PySem.HandSPX.excO C hp.objs.size)).get? (hp.objs.size + 1) = some (PySem.HandSPX.excO C hp.objs.size) := by heap_get
  have I2 : Inv X pins σ (upd H1 (hp.objs.size + 1) (exo (hp.objs.size + 1) C none)) ⟨(hp.push (PySem.W.kdv_tup [])).push (PySem.HandSPX.excO C hp.objs.size), gg, dr, tk0, os⟩ := I1.laid (t' := tk0) kk hsz (exo_ok hget)
  have r1 : Vals [V.ref (hp.objs.size + 1)] [Value.ref (hp.objs.size + 1)] := .cons rfl .nil
  have r2 := hb.rel r1 rz
  have bound := hb.to _ [Value.ref (hp.objs.size + 1)] ws I2.kIn rfl (rz.length.symm.trans l1)
  have run := F1.run _ X.stack _ _ ⟨[Value.ref (hp.objs.size + 1)], ks.zip ws⟩ (g [Value.ref (hp.objs.size + 1)] ws) _ _ (fun _ _ _ => False) (hr.make C [] (ks.zip ws)) (I2.env0.make C [] (ks.zip ws)) bound r2 hq
  refine wpAny_call (PySem.HandSPX.gm_callKw FB has (I1.kIn _ _ hC) (PySem.W.looks_findIn I1.kIn iC) (fun self => PySem.W.bind_fn I1.kIn self tI) (codeAny_mono run fun r s' hq' => ?_))
  match r, hq' with
  | .error er, hq' => exact hx pins σ _ _ er s' I2 hq'
  | .ok (.ret u), hq' =>
    obtain ⟨v, H', I3, rv, ev, q3⟩ := I2.after hq'
    subst ev
    exact ⟨rv, ⟨V.ref (hp.objs.size + 1), H', I3, rfl, q3⟩⟩
/-- C(), a class without own __init__ -/
theorem pe_mkV0 {bmB : List Value} {B newId initId : String} (F : ExcBaseFacts B newId initId bmB) (q : PySem.W.excIn X.K C bmB newId = true) (gC : X.mg x = some (.ref C)) (kC : PySem.W.keepIn X.K (.ref C) = true) (hg : Gl X x)
    (hdb : (x == ("__debug__" : Str)) = false := by decide) :
    PE X (.Call (.Name x p) [] [] pos) (fun σ H Q => ∀ a, H a = none → Q (.ref a) (upd H a (ExO (.ref C) a))) := by
  refine ⟨fun pins s σ H Q I h => ?_⟩
  refine wpAny_Call_Name_kw (ld_glob I hg gC ?_ hdb)
  refine PySem.W.callWith_K0 (I.tok _).kIn kC ?_
  show wpAny _ _ (call (.ref C) []) _ _ _
  obtain ⟨bm, N, nm, qn, bs, hdct, sn, sub, ab, col, dd, k0, k1, k2, k3, k5, mN, hC, hN, hni, T⟩ := exc_obj (I.tok _).kIn q
  refine wpAny_call_exc_subT F T hC hN hni (fun h' a hm => ?_) (Nat.zero_le _)
  have hn : H a = none := I.hok.gone hm.new
  obtain ⟨t, ht, _, _⟩ := hm.there
  exact ⟨.ref a, upd H a (ExO (.ref C) a), I.laidN hm.keeps hm.new hn (exO_ok ht ⟨rfl, rfl⟩ rfl rfl rfl (show 4 < 6 by decide)), rfl, h a hn⟩
end
/-- at a stands an error of the class C with these attributes -/
def ErAt (H : Hp) (a C : Addr) (fs : List (Str × V)) : Prop := (fs = [] ∧ H a = some (ExO (.ref C) a)) ∨ ∃ dx, H a = some (exo a C (some dx)) ∧ H dx = some (exd dx fs)
/-- what a class of errors has for its instances to be asked and read -/
structure ErI (K : PySem.W.Frag) (C : Addr) : Prop where
  cl : (PySem.W.clsIn K C).isSome = true
  ga : PySem.W.findIn K (.ref C) "__getattribute__" = some (some (.builtin "BaseException.__getattribute__"))
  gg : PySem.W.findIn K (.ref C) "__getattr__" = some none
  ex : PySem.W.subIn K (.ref C) (.type "BaseException") = some true
  hd : PySem.W.hasDictIn K C = true
  ac : PySem.W.findIn K (.ref C) "__class__" = some (some (.builtin "object.__class__"))
  gt : PySem.W.specialIn K (.builtin "object.__class__") "__get__" = some (some (.builtin "getset_descriptor.__get__"))
  tk : PySem.W.takesIn K (.builtin "object.__class__") = some true
  ob : PySem.W.mroIn K C (.type "object") = some true
theorem ErrB.erI {K : PySem.W.Frag} {mg : Str → Option Value} {x f : Str} {C fI : Addr} (T : ErrB K mg x f C fI) : ErI K C := ⟨T.cl, T.ga, T.gg, T.ox.exC, T.hd, T.ac, T.gt, T.tk, T.ob⟩
section
variable {X : Cx} {pins : List (Addr × Obj)} {σ : St} {H : Hp} {s : Shared} {a C : Addr} {fs : List (Str × V)}
theorem er_inst (I : Inv X pins σ H s) (h : ErAt H a C fs) : ∃ (oe : Obj) (od : Option Obj), PySem.W.InstAt s.heap a oe C od ∧ ∀ f v, fs.lookup f = some v → ∃ o u, od = some o ∧ PySem.W.lookIn f o = some (some u) ∧ RelV v u := by
  rcases h with ⟨rfl, e⟩ | ⟨dx, e, ed⟩
  · obtain ⟨⟨oe, vs, ho, hz, hd, _⟩, _, _⟩ := I.hok a _ e
    obtain ⟨oc, od, oda, osl⟩ := oe
    obtain ⟨h1, h2⟩ := hz
    dsimp only at h1 h2 hd
    subst h1 h2 hd
    exact ⟨_, none, ⟨ho, rfl, rfl, trivial⟩, fun f v z => nomatch z⟩
  · obtain ⟨t1, ho⟩ := exo_at I.hok e
    obtain ⟨mA, hns, rel⟩ := exd_at I.hok ed
    obtain ⟨od, ho2, hl⟩ := lookIn_ns hns
    refine ⟨_, some od, ⟨ho, rfl, rfl, ho2⟩, fun f v z => ?_⟩
    obtain ⟨u, hu, ru⟩ := RelO.some_of (v := v) (o := mA f) (by rw [← z]; exact rel f)
    exact ⟨od, u, rfl, by rw [hl, hu], ru⟩
/-- isinstance(e, c) of an error that is held -/
def rErI (K : PySem.W.Frag) : List V → Hp → VK → Prop := fun xs H Q =>
  ∃ (a C : Addr) (fs : List (Str × V)) (c : V) (cv : Value) (b : Bool), xs = [.ref a, c] ∧ ErAt H a C fs ∧ ErI K C ∧ ClsV c cv ∧ PySem.W.kitOne K (.ref C) cv = some b ∧ Q (.bl b) H
theorem call_erI : CallR X (.builtin "isinstance") (rErI X.K) := by
  intro pins s σ H xs us Q I r h
  obtain ⟨a, C, fs, c, cv, b, rfl, hat, T, k, e, q⟩ := h
  cases r with
  | cons rx rr =>
    cases rr with
    | cons rt rr =>
      cases rr
      cases rx
      have ec := k.eq rt
      subst ec
      obtain ⟨oe, od, J, _⟩ := er_inst I hat
      exact PySem.W.kia_one (PySem.W.kitx_exc T.cl T.ga T.gg T.ex T.ac T.gt T.tk T.ob) I.kIn J e (fun z => nomatch z) fun tk => ⟨.bl b, H, I.kept (t' := tk) fun _ _ z => z, rfl, q⟩
/-- e.f of an error that is held -/
def tErF (K : PySem.W.Frag) (f : Str) (te : TE) : TE := fun σ H Q => te σ H fun x H1 => ∃ (a C : Addr) (fs : List (Str × V)) (v : V), x = .ref a ∧ ErAt H1 a C fs ∧ ErI K C ∧ PySem.W.findIn K (.ref C) f = some none ∧ fs.lookup f = some v ∧ Q v H1
theorem pe_erF {e : Expr} {te : TE} {pos : Pos} {n : Str} (he : PE X e te) (hb : attributeBase e n X.env (eval e X.env) = eval e X.env := by rfl) : PE X (.Attribute e n pos) (tErF X.K n te) := by
  refine ⟨fun pins s σ H Q I h => ?_⟩
  refine attr_of hb (thn (he.run pins s σ H _ I h) fun u s1 hh => ?_)
  obtain ⟨x, H1, I1, rx, a, C, fs, v, ex, hat, T, hno, l, q⟩ := hh
  subst ex
  obtain rfl : u = Value.ref a := rx
  obtain ⟨oe, od, J, hl⟩ := er_inst I1 hat
  obtain ⟨o, u, rfl, hu, ru⟩ := hl n v l
  exact PySem.HandSPX.exc_get I1.kIn J T.ga T.gg T.ex (PySem.W.findObj_own T.hd hno rfl hu) (handed_of ru) ⟨v, H1, I1.tok _, ru, q⟩
end
end L2

/-! lists of errors, lists of answers of isinstance, how often True stands in a list -/
namespace L2
open PySem PySem.Spec PyProof.Rows
theorem ErAt.same {H H' : Hp} {a C : Addr} {fs : List (Str × V)} (h : ErAt H a C fs) (s : Same H H') : ErAt H' a C fs := by
  rcases h with ⟨rfl, e⟩ | ⟨dx, e, ed⟩
  · exact .inl ⟨rfl, s _ _ e⟩
  · exact .inr ⟨dx, s _ _ e, s _ _ ed⟩
/-- at these places stand errors of these classes, all with the one attribute's value v -/
inductive Ers (H : Hp) (v : V) : List Addr → List (Addr × Str) → Prop
  | nil : Ers H v [] []
  | cons {a C : Addr} {f : Str} {as : List Addr} {L : List (Addr × Str)} : ErAt H a C [(f, v)] → Ers H v as L → Ers H v (a :: as) ((C, f) :: L)
section
variable {H H' : Hp} {v : V} {as bs : List Addr} {L L' : List (Addr × Str)}
theorem Ers.same (h : Ers H v as L) (s : Same H H') : Ers H' v as L := by
  induction h with
  | nil => exact .nil
  | cons a _ ih => exact .cons (a.same s) ih
theorem Ers.app (h : Ers H v as L) (k : Ers H v bs L') : Ers H v (as ++ bs) (L ++ L') := by
  induction h with
  | nil => exact k
  | cons a _ ih => exact .cons a ih
theorem Ers.length (h : Ers H v as L) : as.length = L.length := by
  induction h with
  | nil => rfl
  | cons _ _ ih => rw [List.length_cons, List.length_cons, ih]
theorem Ers.get (h : Ers H v as L) {i : Nat} {a : Addr} (e : as[i]? = some a) : ∃ C f, (C, f) ∈ L ∧ ErAt H a C [(f, v)] := by
  induction h generalizing i with
  | nil => simp at e
  | @cons b C f as L x _ ih =>
    cases i with
    | zero =>
      simp at e
      subst e
      exact ⟨C, f, List.mem_cons_self, x⟩
    | succ i =>
      obtain ⟨C', f', m, y⟩ := ih (i := i) (by simpa using e)
      exact ⟨C', f', List.mem_cons_of_mem _ m, y⟩
end
theorem mkE {C : Addr} {f : Str} {v : V} {H1 : Hp} {Q : VK} (h : ∀ H' a, Same H1 H' → ErAt H' a C [(f, v)] → Q (.ref a) H') : ∀ a, H1 a = none → spErr C f [.ref a, v] (upd H1 a (exo a C none)) (fun u H2 => u = .non ∧ Q (.ref a) H2) (fun _ _ _ => False) := by
  intro a na
  refine ⟨a, v, rfl, upd_same, fun dx nd ne => ⟨rfl, ?_⟩⟩
  rw [upd_ne ne] at nd
  refine h _ a (fun b o e => ?_) (.inr ⟨dx, upd_same, (upd_ne ne).trans upd_same⟩)
  have n1 := ne_of_none e na
  have n2 := ne_of_none e nd
  rw [upd_ne n1, upd_ne n2, upd_ne n1]
  exact e
/-- C(x), x the local i -/
def tMk1 (i : Nat) (C : Addr) (f : Str) : TE := fun σ H Q => ∃ v, σ[i]? = some (some v) ∧ ∀ H' a, Same H H' → ErAt H' a C [(f, v)] → Q (.ref a) H'
def tMks (i : Nat) (L : List (Addr × Str)) : TA := fun σ H Q => ∃ v, σ[i]? = some (some v) ∧ ∀ H' as, Same H H' → Ers H' v as L → Q (as.map V.ref) H'
/-- [C(x), ..] -/
def tMkL (i : Nat) (L : List (Addr × Str)) : TE := fun σ H Q => ∃ v, σ[i]? = some (some v) ∧ ∀ H' as p, Same H H' → H p = none → H' p = some (.lst (as.map V.ref)) → Ers H' v as L → Q (.ref p) H'
/-- l + [C(x), ..], l the local j -/
def tMkC (j i : Nat) (L : List (Addr × Str)) : TE := fun σ H Q => ∃ v p as0 L0, σ[i]? = some (some v) ∧ σ[j]? = some (some (.ref p)) ∧ H p = some (.lst (as0.map V.ref)) ∧ Ers H v as0 L0 ∧ L0.length ≤ 1000 ∧
  ∀ H' as q, Same H H' → H q = none → H' q = some (.lst (as.map V.ref)) → Ers H' v as (L0 ++ L) → Q (.ref q) H'
theorem same_upd0 {H : Hp} {a : Addr} {o : HO} (n : H a = none) : Same H (upd H a o) := fun b u e => by rw [upd_ne (ne_of_none e n)]; exact e
theorem Same.thru {A B C : Hp} (x : Same A B) (y : Same B C) : Same A C := fun b o e => y _ _ (x _ _ e)
theorem sfree {A B : Hp} (x : Same A B) {p : Addr} (n : B p = none) : A p = none := by
  cases e : A p with
  | none => rfl
  | some o =>
    have := x _ _ e
    rw [n] at this
    cases this
section
variable {X : Cx} {i j : Nat} {x f n par : Str} {C fI : Addr} {fd : FuncData} {p1 p pos : Pos} {e e2 : Expr} {es : List Expr} {L : List (Addr × Str)}
theorem pe_mk1 (T : ErrB X.K X.mg x f C fI) (F1 : FnOk X.prog X.w X.K X.mg X.base CX0 1 fI fd ["self", par] (spErr C f)) (hr : Room 2 X.A) (hb : Binds X.K fd ["self", par] []) (hg : Gl X x) (hv : PE X (.Name n p1) (tVar i)) (hdb : (x == ("__debug__" : Str)) = false := by decide) :
    PE X (.Call (.Name x p) [.Name n p1] [] pos) (tMk1 i C f) := by
  refine ⟨fun pins s σ H Q I ⟨v, hi, q⟩ => ?_⟩
  refine (pe_mkV T.ox T.iC T.tI F1 hr hb pass0 hg T.gC (pa_cons hv pa_nil) hdb).run pins s σ H Q I ?_
  exact ⟨v, hi, (by show 1 ≤ 1000; decide), mkE fun H' a s' h => q H' a s' h⟩
theorem pe_mkK1 {g : List Value → List Value → List Value} (T : ErrB X.K X.mg x f C fI) (F1 : FnOk X.prog X.w X.K X.mg X.base CX0 1 fI fd ["self", par] (spErr C f)) (hr : Room 2 X.A) {gV : List V → List V → List V} (gv : ∀ a v, gV [.ref a] [v] = [.ref a, v]) (hb : KBn X.K fd ["self", par] 1 [par] g gV) (hg : Gl X x) (hv : PE X (.Name n p1) (tVar i)) (kp : Pos)
    (hall : (backToKw pos (keywordEach [⟨some par, .Name n p1, kp⟩] X.env)).all (·.1.isSome) = true := by rfl) (hks : (backToKw pos (keywordEach [⟨some par, .Name n p1, kp⟩] X.env)).filterMap (·.1) = [par] := by rfl) (hdb : (x == ("__debug__" : Str)) = false := by decide)
    (hpl : ((backTo pos (starEach [] X.env)).any (·.1) || (backToKw pos (keywordEach [⟨some par, .Name n p1, kp⟩] X.env)).any (·.1.isNone)) = false := by rfl) :
    PE X (.Call (.Name x p) [] [⟨some par, .Name n p1, kp⟩] pos) (tMk1 i C f) := by
  refine ⟨fun pins s σ H Q I ⟨v, hi, q⟩ => ?_⟩
  refine (pe_mkVK T.ox T.iC T.tI F1 hr hb pass0 hg T.gC (pk_cons hv pk_nil) hall hks hdb hpl).run pins s σ H Q I ?_
  refine ⟨v, hi, rfl, ?_⟩
  intro a na
  show spErr C f (gV [.ref a] [v]) _ _ _
  rw [gv]
  exact mkE (fun H' a s' h => q H' a s' h) a na
theorem pa_mk0 : PA X [] (tMks i []) := ⟨fun pos pins s σ H Q I ⟨v, hi, q⟩ => (pa_nil).run pos pins s σ H Q I (q H [] (fun _ _ e => e) .nil)⟩
theorem pa_mk (h : PE X e (tMk1 i C f)) (hs : PA X es (tMks i L)) (hst : starEach (e :: es) X.env = (false, eval e X.env) :: starEach es X.env := by rfl) : PA X (e :: es) (tMks i ((C, f) :: L)) :=
  ⟨fun pos pins s σ H Q I ⟨v, hi, q⟩ => (pa_cons h hs hst).run pos pins s σ H Q I ⟨v, hi, fun H1 a s1 h1 => ⟨v, hi, fun H2 as s2 h2 => q H2 (a :: as) (s1.thru s2) (.cons (h1.same s2) h2)⟩⟩⟩
theorem pe_mkL (hs : PA X es (tMks i L)) (hL : L.length ≤ 1000 := by decide) : PE X (.List es pos) (tMkL i L) :=
  ⟨fun pins s σ H Q I ⟨v, hi, q⟩ => (pe_lst hs).run pins s σ H Q I ⟨v, hi, fun H1 as s1 h1 => ⟨by rw [List.length_map, h1.length, sizeLine_eq]; omega, fun p np => q _ as p (s1.thru (same_upd0 np)) (sfree s1 np) upd_same (h1.same (same_upd0 np))⟩⟩⟩
theorem pe_mkC (ha : PE X e (tVar j)) (hs : PE X e2 (tMkL i L)) (hL : L.length ≤ 1000 := by decide) : PE X (.BinOp e .Add e2 pos) (tMkC j i L) :=
  ⟨fun pins s σ H Q I ⟨v, p, as0, L0, hi, hj, hp, h0, hn, q⟩ => (pe_op op_cat ha hs).run pins s σ H Q I
    ⟨.ref p, hj, v, hi, fun H1 as r s1 n1 hr h1 => ⟨p, r, _, _, rfl, rfl, s1 _ _ hp, hr, by rw [List.length_map, List.length_map, h0.length, h1.length, sizeLine_eq]; omega, fun z nz => q _ (as0 ++ as) z (s1.thru (same_upd0 nz)) (sfree s1 nz) (by rw [upd_same, List.map_append]) (((h0.same s1).app h1).same (same_upd0 nz))⟩⟩⟩
end
/-! isinstance(e, c), .. -/
def Kit (K : PySem.W.Frag) (C : Addr) (f : V → Bool) (ts : List V) : Prop := ∀ t ∈ ts, ∃ cv, ClsV t cv ∧ PySem.W.kitOne K (.ref C) cv = some (f t)
def tI1 (K : PySem.W.Frag) (i : Nat) (t : V) : TE := fun σ H Q => ∃ a C fs f, σ[i]? = some (some (.ref a)) ∧ ErAt H a C fs ∧ ErI K C ∧ Kit K C f [t] ∧ Q (.bl (f t)) H
def tIs (K : PySem.W.Frag) (i : Nat) (ts : List V) : TA := fun σ H Q => ∃ a C fs f, σ[i]? = some (some (.ref a)) ∧ ErAt H a C fs ∧ ErI K C ∧ Kit K C f ts ∧ Q (ts.map fun t => .bl (f t)) H
def tIL (K : PySem.W.Frag) (i : Nat) (ts : List V) : TE := fun σ H Q => ∃ a C fs f, σ[i]? = some (some (.ref a)) ∧ ErAt H a C fs ∧ ErI K C ∧ Kit K C f ts ∧ ∀ p, H p = none → Q (.ref p) (upd H p (.lst (ts.map fun t => .bl (f t))))
def tIC (K : PySem.W.Frag) (j i : Nat) (ts : List V) : TE := fun σ H Q => ∃ a C fs f p xs, σ[i]? = some (some (.ref a)) ∧ σ[j]? = some (some (.ref p)) ∧ H p = some (.lst xs) ∧ xs.length ≤ 1000 ∧ ErAt H a C fs ∧ ErI K C ∧ Kit K C f ts ∧
  ∀ H' q, Same H H' → H q = none → H' q = some (.lst (xs ++ ts.map fun t => .bl (f t))) → Q (.ref q) H'
section
variable {X : Cx} {i j : Nat} {n : Str} {p p1 pos : Pos} {e e2 : Expr} {es : List Expr} {t : V} {ts : List V}
theorem pe_i1 (hg : Gl X "isinstance") (hm : X.mg "isinstance" = none) (hv : PE X (.Name n p1) (tVar i)) (ht : PE X e (tC t)) (hst : starEach [e] X.env = (false, eval e X.env) :: starEach [] X.env := by rfl) : PE X (.Call (.Name "isinstance" p) [.Name n p1, e] [] pos) (tI1 X.K i t) :=
  ⟨fun pins s σ H Q I ⟨a, C, fs, f, hi, h, T, k, q⟩ => (pe_callB call_erI hg hm (by decide +kernel) (pa_cons hv (pa_cons ht pa_nil hst) (by rfl)) (hpl := by rw [hst]; rfl)).run pins s σ H Q I
    (by
      obtain ⟨cv, k1, k2⟩ := k t (List.mem_singleton.mpr rfl)
      exact ⟨_, hi, a, C, fs, t, cv, f t, rfl, h, T, k1, k2, q⟩)⟩
theorem pa_i0 : PA X [] (tIs X.K i []) := ⟨fun pos pins s σ H Q I ⟨a, C, fs, f, hi, h, T, k, q⟩ => (pa_nil).run pos pins s σ H Q I q⟩
theorem pa_i (h : PE X e (tI1 X.K i t)) (hs : PA X es (tIs X.K i ts)) (hst : starEach (e :: es) X.env = (false, eval e X.env) :: starEach es X.env := by rfl) : PA X (e :: es) (tIs X.K i (t :: ts)) :=
  ⟨fun pos pins s σ H Q I ⟨a, C, fs, f, hi, he, T, k, q⟩ => (pa_cons h hs hst).run pos pins s σ H Q I
    ⟨a, C, fs, f, hi, he, T, fun t' m => k t' (List.mem_cons.mpr (.inl (List.mem_singleton.mp m))), a, C, fs, f, hi, he, T, fun t' m => k t' (List.mem_cons_of_mem _ m), q⟩⟩
theorem pe_iL (hs : PA X es (tIs X.K i ts)) (hL : ts.length ≤ 1000 := by decide) : PE X (.List es pos) (tIL X.K i ts) :=
  ⟨fun pins s σ H Q I ⟨a, C, fs, f, hi, he, T, k, q⟩ => (pe_lst hs).run pins s σ H Q I ⟨a, C, fs, f, hi, he, T, k, by rw [List.length_map, sizeLine_eq]; omega, fun p np => q p np⟩⟩
theorem pe_iC (ha : PE X e (tVar j)) (hs : PE X e2 (tIL X.K i ts)) (hL : ts.length ≤ 1000 := by decide) : PE X (.BinOp e .Add e2 pos) (tIC X.K j i ts) :=
  ⟨fun pins s σ H Q I ⟨a, C, fs, f, p, xs, hi, hj, hp, hn, he, T, k, q⟩ => (pe_op op_cat ha hs).run pins s σ H Q I
    ⟨.ref p, hj, a, C, fs, f, hi, he, T, k, fun r nr => ⟨p, r, _, _, rfl, rfl, same_upd0 nr _ _ hp, upd_same, by rw [List.length_map, sizeLine_eq]; omega, fun z nz => q _ z ((same_upd0 nr).thru (same_upd0 nz)) (sfree (same_upd0 nr) nz) upd_same⟩⟩⟩
end
/-! l.count(True) -/
def eqT (v : Value) : Bool := match v with
  | .bool b => b
  | _ => false
theorem bools_of {bs : List Bool} : ∀ {us : List Value}, Vals (bs.map V.bl) us → us = bs.map Value.bool := by
  induction bs with
  | nil => intro us r; cases r; rfl
  | cons b bs ih =>
    intro us r
    cases r with
    | cons a r =>
      have h := ih r
      have h2 : _ = Value.bool b := a
      rw [h, h2]
      rfl
def rCntT (K : PySem.W.Frag) : V → List V → Hp → VK → Prop := fun x xs H Q => ∃ (p : Addr) (bs : List Bool), x = .ref p ∧ xs = [.bl true] ∧ SqL K H p (bs.map V.bl) ∧ Q (.int (bs.count true : Nat)) H
theorem mt_countT {X : Cx} : MtR X "list.count" (rCntT X.K) := by
  intro pins s σ H x xs v us Q I rx rxs h
  obtain ⟨p, bs, rfl, rfl, hs, q⟩ := h
  cases rx
  obtain ⟨u, rfl, ru⟩ := rxs.one
  obtain rfl : u = Value.bool true := ru
  obtain ⟨its, rv, ⟨⟨cls, dd, data, sl⟩, n, ho, hc, hdn, hd⟩, hlen⟩ := I.list hs
  simp only at hc hd
  subst hc hd
  have hi := bools_of rv
  refine call_meets PySem.F.slot_list_count ⟨_, ho, rfl⟩ PySem.F.entry_list_count (PySem.F.args_list_count_2 _ _)
    (SeqAt.list_countAt p its.toArray n dd sl (.bool true) eqT) ⟨ho, fun y hy => ?_, ?_⟩
  · have m : y ∈ its := by simpa using hy
    rw [hi] at m
    obtain ⟨b, _, rfl⟩ := List.mem_map.mp m
    have e : eqT (.bool b) = (b == true) := by cases b <;> rfl
    rw [e]
    exact SeqAt.EqAt.bool_bool b true
  · have ec : its.toArray.toList.countP eqT = bs.count true := by
      rw [List.toList_toArray, hi, List.countP_map]
      refine List.countP_congr fun b _ => ?_
      cases b <;> simp [eqT]
    refine ⟨.int (bs.count true : Nat), H, I.tok _, ⟨s.toks, ?_⟩, q⟩
    show Value.int ((its.toArray.toList.countP eqT : Nat) : Int) s.toks = Value.int ((bs.count true : Nat) : Int) s.toks
    rw [ec]
end L2

/-! calls from an except suite, with the caught error as an argument: what is pinned stays known in the def that is called -/
namespace L2
open PySem PySem.Spec PyProof.Rows
section
variable {P : Program} {w : World} {K : PySem.W.Frag} {mg : Str → Option Value} {base : Heap} {k : Nat} {f : Addr} {name qual : Str} {params : Arguments} {body : List Stmt} {scope : Scope} {dV kV doc pm cdv ct oc : Value} {an od : Option Addr} {osl : Array (Option Value)} {N ps : List Str}
/-- a def is run while an error is being handled; the error is pinned -/
theorem run_ofE (lk : K.lookup f = some { cls := oc, dict := od, data := .func (PySem.W.fnOf name qual params body scope dV kV doc pm an cdv ct), slots := osl }) (hcd : PySem.W.codeIn K cdv qual = true) (S : FnScope N ps scope)
    {A : Around} {outer : List Env} {s : Shared} {H : Hp} {args : Args} {us : List Value} {vs : List V} {Q : VK} {E : XK} {p : Addr × Obj} (hr : L2H.RoomH (k + 1) A) (hp : L2H.PinOk outer H s p) (e : Env0 P w K mg base A outer s H)
    (b : BindsTo s (PySem.W.fnOf name qual params body scope dV kV doc pm an cdv ct) args (ps.zip us)) (r : Vals vs us) (hl : vs.length = ps.length)
    (hb : L2H.RoomH k (A.deeper (envOfC qual scope s.heap.objs.size f cdv)) → ∃ t, PSs (L2H.cxH CX0 P w K mg base N qual scope f cdv A outer s H E p) body t ∧ t { nx := fun _ H' => Q .non H', rt := Q } (start N vs) H) :
    codeAny (model P w) A (.call (.ref f) args) (CR CX0 outer P w H s Q E) s := by
  obtain ⟨t, ht, q⟩ := hb (hr.deeper _)
  have bk : ∀ b o, base.get? b = some o → s.heap.get? b = some o := fun b o z => (e.bs b o z).1
  have nl : s.heap.NoLimit := by
    obtain ⟨mc, h1, h2⟩ := e.mod.nolimit
    exact ⟨mc, h1.keeps bk, h2⟩
  refine Att.call_fn (fun a o z => bk a o (e.mod.kin a o z)) nl lk hcd (by have := hr.dp; omega) b ?_ (fun s1 hs => ?_) S.co S.gen S.kind
  · refine List.all_eq_true.mpr fun y hy => ?_
    rw [Bool.or_eq_true]
    exact (S.par y.1 (List.of_mem_zip (a := y.1) (b := y.2) hy).1).imp (fun z => by rw [z]; rfl) (fun z => by rw [z]; rfl)
  · have I := L2H.inv_startH (CX := CX0) (E := E) S hp e hl r hs
    refine wpAny_mono (ht.run [] s1 _ H _ I q) (fun fl s' h => ?_) (fun _ _ z => z)
    have out : ∀ {σ' : List (Option V)} {H' : Hp} {v : V} {u : Value}, L2.Inv (L2H.cxH CX0 P w K mg base N qual scope f cdv A outer s H E p) [] σ' H' s' → RelV v u → Q v H' → CE outer P w H s Q u s' := fun I' rv q' => ⟨_, _, I'.os, I'.bare, I'.base, I'.hok, rv, q'⟩
    match fl, h with
    | .next, ⟨σ', H', I', q'⟩ => exact out (v := .non) (u := .none) I' rfl q'
    | .ret u, ⟨v, σ', H', I', rv, q'⟩ => exact out I' rv q'
    | .brk, ⟨_, _, _, z⟩ => exact z.elim
    | .cont, ⟨_, _, _, z⟩ => exact z.elim
end
/-- a def that is called with the pinned error in hand -/
structure FnE (P : Program) (w : World) (K : PySem.W.Frag) (mg : Str → Option Value) (base : Heap) (k : Nat) (f : Addr) (fd : FuncData) (ps : List Str) (sp : Addr × Obj → Sp) : Prop where
  many : ∀ {p vs H Q E}, sp p vs H Q E → vs.length = ps.length
  goes : ∀ {A : Around} {outer : List Env} {s : Shared} {H : Hp} {args : Args} {us : List Value} {vs : List V} {Q : VK} {E : XK} {p : Addr × Obj}, A.guards = some [] → L2H.RoomH k A → L2H.PinOk outer H s p → Env0 P w K mg base A outer s H →
    BindsTo s fd args (ps.zip us) → Vals vs us → sp p vs H Q E → codeAny (model P w) A (.call (.ref f) args) (CR CX0 outer P w H s Q E) s
theorem Fun.okE {P : Program} {w : World} {K : PySem.W.Frag} {mg : Str → Option Value} {base : Heap} {x qual : Str} {st : Stmt} {f : Addr} {fd : FuncData} {N ps : List Str} {k : Nat} {sp : Addr × Obj → Sp} (F : Fun K x qual st f fd) (S : FnScope N ps (defScope st))
    (many : ∀ p vs H Q E, sp p vs H Q E → vs.length = ps.length)
    (body : ∀ (cdv : Value) (A : Around) (outer : List Env) (s : Shared) (H : Hp) (vs : List V) (Q : VK) (E : XK) (p : Addr × Obj), A.guards = some [] → L2H.RoomH k (A.deeper (envOfC qual (defScope st) s.heap.objs.size f cdv)) → sp p vs H Q E →
      ∃ t, PSs (L2H.cxH CX0 P w K mg base N qual (defScope st) f cdv A outer s H E p) (defBody st) t ∧ t { nx := fun _ H' => Q .non H', rt := Q } (start N vs) H) : FnE P w K mg base (k + 1) f fd ps sp := by
  obtain ⟨oc, od, kV, doc, pm, an, cdv, ct, osl, rfl, lk, hcd⟩ := F.ex
  exact ⟨fun h => many _ _ _ _ _ h, fun g hr hp e b r h => run_ofE lk hcd S hr hp e b r (many _ _ _ _ _ h) fun hr' => body cdv _ _ _ _ _ _ _ _ g hr' h⟩
section
variable {X : Cx} {k : Nat} {f : Addr} {fd : FuncData} {ps : List Str} {sp : Addr × Obj → Sp} {E : XK} {x : Str} {q pos : Pos} {e : Expr} {es : List Expr} {t : TA} {p : Addr × Obj}
theorem pin_ok {pins : List (Addr × Obj)} {σ : St} {H : Hp} {s : Shared} (I : Inv X pins σ H s) (hpn : p ∈ X.pn) (st : X.stack = X.env :: X.outer) (fr : X.env.frame = some X.env.locals) : L2H.PinOk X.stack H s p := by
  obtain ⟨h1, h2, h3, h4, h5⟩ := I.pin p (List.mem_append_left _ hpn)
  refine ⟨h1, h2, fun m => ?_, h5⟩
  rw [st] at m
  obtain ⟨en, hen, hf⟩ := List.mem_filterMap.mp m
  rcases List.mem_cons.mp hen with rfl | hen
  · rw [fr] at hf
    exact h3 (Option.some.inj hf).symm
  · exact h4 (List.mem_filterMap.mpr ⟨en, hen, hf⟩)
theorem pe_callE (F : FnE X.prog X.w X.K X.mg X.base k f fd ps sp) (g : X.A.guards = some []) (hr : L2H.RoomH k X.A) (hpn : p ∈ X.pn) (st : X.stack = X.env :: X.outer) (fr : X.env.frame = some X.env.locals) (hg : Gl X x) (hm : X.mg x = some (.ref f)) (hk : PySem.W.keepIn X.K (.ref f) = true) (hb : Binds X.K fd ps []) (ha : PA X (e :: es) t)
    (hdb : (x == ("__debug__" : Str)) = false := by decide) (he : starEach (e :: es) X.env = (false, eval e X.env) :: starEach es X.env := by rfl) (hpl : (backTo pos (starEach es X.env)).any (·.1) = false := by rfl) :
    PE X (.Call (.Name x q) (e :: es) [] pos) (tCall (sp p) [] E t) := by
  constructor
  intro pins s σ H Q I h
  apply wpAny_Call_Name_kw
  apply ld_glob I hg hm _ hdb
  refine PySem.W.callWith_K (h₀ := X.base) I.ok.mod.kin hk (thn (ha.run pos pins s σ H _ I h) fun us s1 hh => ?_) he hpl
  obtain ⟨vs, H1, I1, r, q⟩ := hh
  refine ⟨I1.kIn, wpAny_call (codeAny_mono (F.goes g hr (pin_ok I1 hpn st fr) I1.env0 (us := us) ?_ r (by simpa using q)) fun r s' hq => ?_)⟩
  · have hl : (us ++ []).length = ps.length := by
      rw [List.append_nil, ← r.length]
      exact F.many (by simpa using q)
    simpa using hb s1 us I1.kIn hl
  · match r, hq with
    | .error e, hq => exact hq.elim
    | .ok (.ret u), hq => exact I1.after hq
end
/-- the pinned object is an error of the class C with these attributes -/
def PinE (H : Hp) (p : Addr × Obj) (C : Addr) (fs : List (Str × V)) : Prop := (∃ vs, p.2.data = .fields vs) ∧ ((fs = [] ∧ Zc (.ref C) none p.2) ∨ ∃ dd, Zc (.ref C) (some dd) p.2 ∧ H dd = some (.xd fs))
theorem PinE.same {H H' : Hp} {p : Addr × Obj} {C : Addr} {fs : List (Str × V)} (h : PinE H p C fs) (s : Same H H') : PinE H' p C fs := ⟨h.1, h.2.imp (fun z => z) fun ⟨dd, z, e⟩ => ⟨dd, z, s _ _ e⟩⟩
section
variable {X : Cx} {pins : List (Addr × Obj)} {σ : St} {H : Hp} {s : Shared} {C : Addr} {fs : List (Str × V)} {p : Addr × Obj}
theorem pin_inst (I : Inv X pins σ H s) (hpn : p ∈ X.pn) (h : PinE H p C fs) : ∃ od : Option Obj, PySem.W.InstAt s.heap p.1 p.2 C od ∧ ∀ f v, fs.lookup f = some v → ∃ o u, od = some o ∧ PySem.W.lookIn f o = some (some u) ∧ RelV v u := by
  obtain ⟨hget, _⟩ := I.pin p (List.mem_append_left _ hpn)
  obtain ⟨⟨vs, hv⟩, h⟩ := h
  have no : PySem.W.notCls p.2 = true := by unfold PySem.W.notCls; rw [hv] <;> rfl
  rcases h with ⟨rfl, hz⟩ | ⟨dd, hz, hd⟩
  · exact ⟨none, ⟨hget, hz.1, no, by rw [hz.2]; trivial⟩, fun f v z => nomatch z⟩
  · have hx : ObjOk X.prog X.w H s.heap dd (.xd fs) := I.hok dd _ hd
    obtain ⟨mA, hns, rel⟩ := hx
    obtain ⟨od, ho, hl⟩ := lookIn_ns hns
    refine ⟨some od, ⟨hget, hz.1, no, by rw [hz.2]; exact ho⟩, fun f v z => ?_⟩
    obtain ⟨u, hu, ru⟩ := RelO.some_of (v := v) (o := mA f) (by rw [← z]; exact rel f)
    exact ⟨od, u, rfl, by rw [hl, hu], ru⟩
/-- isinstance(e, c) of the pinned error -/
def rErP (K : PySem.W.Frag) (p : Addr × Obj) : List V → Hp → VK → Prop := fun xs H Q =>
  ∃ (C : Addr) (fs : List (Str × V)) (c : V) (cv : Value) (b : Bool), xs = [.ref p.1, c] ∧ PinE H p C fs ∧ ErI K C ∧ ClsV c cv ∧ PySem.W.kitOne K (.ref C) cv = some b ∧ Q (.bl b) H
theorem call_erP (hpn : p ∈ X.pn) : CallR X (.builtin "isinstance") (rErP X.K p) := by
  intro pins s σ H xs us Q I r h
  obtain ⟨C, fs, c, cv, b, rfl, hat, T, k, e, q⟩ := h
  cases r with
  | cons rx rr =>
    cases rr with
    | cons rt rr =>
      cases rr
      cases rx
      have ec := k.eq rt
      subst ec
      obtain ⟨od, J, _⟩ := pin_inst I hpn hat
      exact PySem.W.kia_one (PySem.W.kitx_exc T.cl T.ga T.gg T.ex T.ac T.gt T.tk T.ob) I.kIn J e (fun z => nomatch z) fun tk => ⟨.bl b, H, I.kept (t' := tk) fun _ _ z => z, rfl, q⟩
/-- e.f of the pinned error -/
def tErP (K : PySem.W.Frag) (p : Addr × Obj) (f : Str) (te : TE) : TE := fun σ H Q => te σ H fun x H1 => ∃ (C : Addr) (fs : List (Str × V)) (v : V), x = .ref p.1 ∧ PinE H1 p C fs ∧ ErI K C ∧ PySem.W.findIn K (.ref C) f = some none ∧ fs.lookup f = some v ∧ Q v H1
theorem pe_erP (hpn : p ∈ X.pn) {e : Expr} {te : TE} {pos : Pos} {n : Str} (he : PE X e te) (hb : attributeBase e n X.env (eval e X.env) = eval e X.env := by rfl) : PE X (.Attribute e n pos) (tErP X.K p n te) := by
  refine ⟨fun pins s σ H Q I h => ?_⟩
  refine attr_of hb (thn (he.run pins s σ H _ I h) fun u s1 hh => ?_)
  obtain ⟨x, H1, I1, rx, C, fs, v, ex, hat, T, hno, l, q⟩ := hh
  subst ex
  obtain rfl : u = Value.ref p.1 := rx
  obtain ⟨od, J, hl⟩ := pin_inst I1 hpn hat
  obtain ⟨o, u, rfl, hu, ru⟩ := hl n v l
  exact PySem.HandSPX.exc_get I1.kIn J T.ga T.gg T.ex (PySem.W.findObj_own T.hd hno rfl hu) (handed_of ru) ⟨v, H1, I1.tok _, ru, q⟩
end
/-! isinstance(e, c), .. of the pinned error -/
def tP1 (K : PySem.W.Frag) (p : Addr × Obj) (i : Nat) (t : V) : TE := fun σ H Q => ∃ C fs f, σ[i]? = some (some (.ref p.1)) ∧ PinE H p C fs ∧ ErI K C ∧ Kit K C f [t] ∧ Q (.bl (f t)) H
def tPs (K : PySem.W.Frag) (p : Addr × Obj) (i : Nat) (ts : List V) : TA := fun σ H Q => ∃ C fs f, σ[i]? = some (some (.ref p.1)) ∧ PinE H p C fs ∧ ErI K C ∧ Kit K C f ts ∧ Q (ts.map fun t => .bl (f t)) H
def tPL (K : PySem.W.Frag) (p : Addr × Obj) (i : Nat) (ts : List V) : TE := fun σ H Q => ∃ C fs f, σ[i]? = some (some (.ref p.1)) ∧ PinE H p C fs ∧ ErI K C ∧ Kit K C f ts ∧ ∀ a, H a = none → Q (.ref a) (upd H a (.lst (ts.map fun t => .bl (f t))))
def tPC (K : PySem.W.Frag) (p : Addr × Obj) (j i : Nat) (ts : List V) : TE := fun σ H Q => ∃ C fs f a xs, σ[i]? = some (some (.ref p.1)) ∧ σ[j]? = some (some (.ref a)) ∧ H a = some (.lst xs) ∧ xs.length ≤ 1000 ∧ PinE H p C fs ∧ ErI K C ∧ Kit K C f ts ∧
  ∀ H' q, Same H H' → H q = none → H' q = some (.lst (xs ++ ts.map fun t => .bl (f t))) → Q (.ref q) H'
section
variable {X : Cx} {i j : Nat} {n : Str} {p1 q pos : Pos} {e e2 : Expr} {es : List Expr} {t : V} {ts : List V} {p : Addr × Obj}
theorem pe_p1 (hpn : p ∈ X.pn) (hg : Gl X "isinstance") (hm : X.mg "isinstance" = none) (hv : PE X (.Name n p1) (tVar i)) (ht : PE X e (tC t)) (hst : starEach [e] X.env = (false, eval e X.env) :: starEach [] X.env := by rfl) : PE X (.Call (.Name "isinstance" q) [.Name n p1, e] [] pos) (tP1 X.K p i t) :=
  ⟨fun pins s σ H Q I ⟨C, fs, f, hi, h, T, k, q⟩ => (pe_callB (call_erP hpn) hg hm (by decide +kernel) (pa_cons hv (pa_cons ht pa_nil hst) (by rfl)) (hpl := by rw [hst]; rfl)).run pins s σ H Q I
    (by
      obtain ⟨cv, k1, k2⟩ := k t (List.mem_singleton.mpr rfl)
      exact ⟨_, hi, C, fs, t, cv, f t, rfl, h, T, k1, k2, q⟩)⟩
theorem pa_p0 : PA X [] (tPs X.K p i []) := ⟨fun pos pins s σ H Q I ⟨C, fs, f, hi, h, T, k, q⟩ => (pa_nil).run pos pins s σ H Q I q⟩
theorem pa_p (h : PE X e (tP1 X.K p i t)) (hs : PA X es (tPs X.K p i ts)) (hst : starEach (e :: es) X.env = (false, eval e X.env) :: starEach es X.env := by rfl) : PA X (e :: es) (tPs X.K p i (t :: ts)) :=
  ⟨fun pos pins s σ H Q I ⟨C, fs, f, hi, he, T, k, q⟩ => (pa_cons h hs hst).run pos pins s σ H Q I
    ⟨C, fs, f, hi, he, T, fun t' m => k t' (List.mem_cons.mpr (.inl (List.mem_singleton.mp m))), C, fs, f, hi, he, T, fun t' m => k t' (List.mem_cons_of_mem _ m), q⟩⟩
theorem pe_pL (hs : PA X es (tPs X.K p i ts)) (hL : ts.length ≤ 1000 := by decide) : PE X (.List es pos) (tPL X.K p i ts) :=
  ⟨fun pins s σ H Q I ⟨C, fs, f, hi, he, T, k, q⟩ => (pe_lst hs).run pins s σ H Q I ⟨C, fs, f, hi, he, T, k, by rw [List.length_map, sizeLine_eq]; omega, fun p np => q p np⟩⟩
theorem pe_pC (ha : PE X e (tVar j)) (hs : PE X e2 (tPL X.K p i ts)) (hL : ts.length ≤ 1000 := by decide) : PE X (.BinOp e .Add e2 pos) (tPC X.K p j i ts) :=
  ⟨fun pins s σ H Q I ⟨C, fs, f, a, xs, hi, hj, hp, hn, he, T, k, q⟩ => (pe_op op_cat ha hs).run pins s σ H Q I
    ⟨.ref a, hj, C, fs, f, hi, he, T, k, fun r nr => ⟨a, r, _, _, rfl, rfl, same_upd0 nr _ _ hp, upd_same, by rw [List.length_map, sizeLine_eq]; omega, fun z nz => q _ z ((same_upd0 nr).thru (same_upd0 nz)) (sfree (same_upd0 nr) nz) upd_same⟩⟩⟩
/-- repr of any value that is data -/
theorem call_reprV (g : X.A.guards = some []) (hu : X.A.units + 64 < cLine) (hm : ∃ mm, X.base.Ns sysModules mm) :
    CallR X (.builtin "repr") (fun xs H Q => ∃ (v : V) (d : PyData), xs = [v] ∧ Dq X.K H v d ∧ Sh d 16777216 60 ∧ Q (.str d.shown) H) := by
  intro pins s σ H xs us Q I r h
  obtain ⟨v, d, rfl, hd, hs, q⟩ := h
  have hl : d.shown.length ≤ sizeLine := by rw [sizeLine_eq]; exact hs.long
  obtain ⟨u, rfl, r1⟩ := vals1 r
  cases hd with
  | non =>
    cases r1
    exact PySem.P.repr_of_none ⟨.str _, H, I.tok _, ⟨s.toks, by simp only [PyData.shown]⟩, q⟩
  | bl b =>
    cases r1
    refine PySem.P.repr_of_bool ⟨.str _, H, I.tok _, ⟨s.toks, by simp only [PyData.shown]⟩, q⟩
  | int i =>
    obtain ⟨t, rfl⟩ := r1
    have ok := hs.ok
    simp only [PyData.showable] at ok
    exact PySem.P.repr_of_int (of_decide_eq_true ok) ⟨.str _, H, I.tok _, ⟨s.toks, by simp only [PyData.shown]⟩, q⟩
  | str x =>
    obtain ⟨t, rfl⟩ := r1
    simp only [PyData.shown] at hl
    exact PySem.P.repr_of_str ⟨.str _, H, I.tok _, ⟨s.toks, by simp only [PyData.shown]⟩, q⟩ hl
  | lst h1 h2 => exact call_reprD g hu hm pins s σ H _ _ Q I r ⟨_, _, rfl, .lst h1 h2, hs, q⟩
  | tup h1 h2 => exact call_reprD g hu hm pins s σ H _ _ Q I r ⟨_, _, rfl, .tup h1 h2, hs, q⟩
  | dic e => exact call_reprD g hu hm pins s σ H _ _ Q I r ⟨_, _, rfl, .dic e, hs, q⟩
end
end L2

/-! one except clause for three classes, with a name -/
namespace L2
open PySem PySem.Spec PyProof.Rows
def wTup (K : PySem.W.Frag) (cs : List Value) (i : Nat) (k : Addr → Value → Option Addr → TS) (D : Ends) : WX := fun cl d σ H => PySem.W.exmAny K cl cs = some true ∧ ∀ a, H a = none → k a cl d (endsGone D i) (σ.set i (some (.ref a))) H
theorem FlyingZ_keeps {B : Heap} {l : List Env} {e : Addr} {Z : Obj → Prop} {h h' : Heap} (f : HandSPX.FlyingZ B l e Z h) (k : ∀ b o, h.get? b = some o → h'.get? b = some o) : HandSPX.FlyingZ B l e Z h' := by
  obtain ⟨f1, f2, f3, oe, vs, T, oT, ts, he, hz, hd, h1, hnT, hTe, hT, hdT, h3⟩ := f
  exact ⟨fun b o z => k b o (f1 b o z), f2, f3.of_keeps fun b o z _ => ⟨o, k b o z, rfl⟩, oe, vs, T, oT, ts, k _ _ he, hz, hd, h1, hnT, hTe, k _ _ hT, hdT, h3⟩
section
variable {X : Cx} {pos hp tpos p1 p2 p3 : Pos} {body su : List Stmt} {b : Stmt} {tb : WX → TS} {x1 x2 x3 n : Str} {c1 c2 c3 : Value} {i kk : Nat} {k : Addr → Value → Option Addr → TS}
theorem ps_try_tup3 (st : X.stack = X.env :: X.outer) (fr : X.env.frame = some X.env.locals) (nd : X.N.Nodup)
    (run : ∀ (W : WX) (pn : List (Addr × Obj)) (xe : Value → Shared → Prop), Takes (X.tr pn xe) W → PassesOwn (model X.prog X.w) X.A X.env xe → PSs (X.tr pn xe) body (tb W))
    (n1 : Names X x1 c1) (n2 : Names X x2 c2) (n3 : Names X x3 c3) (at_ : X.N[i]? = some n) (loc : X.env.kindOf n = some .local)
    (suite : ∀ (a : Addr) (o : Obj) (cl : Value) (d : Option Addr) (pn : List (Addr × Obj)), Zc cl d o → (∃ vs, o.data = .fields vs) → PSs (X.suite a ((a, o) :: pn)) (b :: su) (k a cl d)) :
    PS X (.Try body [.ExceptHandler (some (.Tuple [.Name x1 p1, .Name x2 p2, .Name x3 p3] kk tpos)) (some n) (b :: su) hp] [] [] pos) (fun D σ H => tb (wLen X.N.length (wTup X.K [c1, c2, c3] i k D)) D σ H) := by
  constructor
  intro pins s σ H D I h
  have okX := I.ok
  have frs_eq : X.A.frames = some (X.env :: X.outer) := okX.frames.trans (congrArg some st)
  apply wpAny_Try_except
  refine wpAny_mono ((run (wLen X.N.length (wTup X.K [c1, c2, c3] i k D)) (X.pn ++ pins) (fun e r1 => wpAny (model X.prog X.w) X.A (noteFrame e X.env) (fun _ r2 => wpAny (model X.prog X.w) X.A (setFlight e none) (fun _ r3 => wpAny (model X.prog X.w) X.A (handleBy e X.env [.ExceptHandler (some (.Tuple [.Name x1 p1, .Name x2 p2, .Name x3 p3] kk tpos)) (some n) (b :: su) hp]) (SP X pins D) X.xe r3) X.xe r2) X.xe r1) (fun u s' x => ?_) PassesOwn.looking).run [] s σ H D (I.toTry _) h) (fun f s1 e => ?_) (fun _ _ z => z)
  · obtain ⟨a, B, sI, ps', τ, G, cl, d, rfl, J0, nb, up, sk, ga, eo, ag, wish⟩ := x
    have J : Inv X pins τ G sI := J0.ofTry okX
    rw [st] at sk
    obtain ⟨isK, yes⟩ := wish J.len
    show wpAny (model X.prog X.w) X.A (noteFrame (.ref a) X.env) _ _ _
    refine Sky.land Zc.steady frs_eq fr sk fun g3 dn up3 => ?_
    have J3 : Inv X pins τ G { s' with heap := g3 } := J.landed nb dn.1 (up.trans up3) eo ag
    obtain ⟨o3, v3, ho, zo, fo⟩ := dn.there
    have off : a ∉ frs (X.env :: X.outer) := fun m => by
      obtain ⟨_, o', ho', no⟩ := dn.2.2.1.mem m
      exact no _ ((Option.some.inj (ho.symm.trans ho')) ▸ fo)
    have aL : a ≠ X.env.locals := fun z => off (List.mem_filterMap.mpr ⟨X.env, List.mem_cons_self, z ▸ fr⟩)
    have aF : a ∉ X.fs := fun m => by
      obtain ⟨e, i, q⟩ := List.mem_filterMap.mp m
      exact off (List.mem_filterMap.mpr ⟨e, List.mem_cons_of_mem _ i, q⟩)
    have S3 := J3.suite ho fo ga aL aF
    refine wpAny_handleBy_cons (codeAny_handlers_test ?_) nofun
    have reads : ∀ {x : Str} {p : Pos} {c : Value} {Q E : Value → Shared → Prop}, Names X x c → Q c { s' with heap := g3 } → wpAny (model X.prog X.w) (X.A.mark (some (.ref a))) (eval (.Name x p) X.env) Q E { s' with heap := g3 } := fun {x p c Q E} C q => by
      rcases C with ⟨n1, n2, n3 | ⟨n3, n4, n5⟩⟩
      · exact ld_glob (X := X.suite a ((a, o3) :: (X.pn ++ pins))) S3 n1 n3 q n2
      · exact ld_blt (X := X.suite a ((a, o3) :: (X.pn ++ pins))) S3 n1 n3 n4 q n5 n2
    refine wpAny_Tuple ?_
    refine wpAny_items_cons (reads n1 ?_)
    refine wpAny_items_cons (reads n2 ?_)
    refine wpAny_items_cons (reads n3 ?_)
    refine wpAny_items_nil ⟨by size_fits, ?_⟩
    have kp : ∀ q o, g3.get? q = some o → (g3.push { cls := .type "tuple", data := .seq [c1, c2, c3].toArray }).get? q = some o := fun _ _ z => Heap.get?_push_of_some _ z
    have tyA : PySem.W.Looks (model X.prog X.w) (g3.push { cls := .type "tuple", data := .seq [c1, c2, c3].toArray }) (typeOf (.ref a)) cl := fun A Q E r k q => wpAny_typeOf_ref (k _ _ (kp _ _ ho)) (zo.1.symm ▸ q)
    have ans := PySem.W.exm_tup3 (M := model X.prog X.w) (tp := g3.objs.size) ((J3.kIn).keeps kp) tyA (Heap.get?_push_size g3 rfl) isK
    refine ans.here ?_
    have dn' := FlyingZ_keeps dn kp
    have up' : g3.UpToSlots (g3.push { cls := .type "tuple", data := .seq [c1, c2, c3].toArray }) := fun b o z _ => ⟨o.slots, kp b o z⟩
    apply codeAny_handlers_suite_as
    refine HandSPX.lands_againZ dn' fun g4 dn4 up4 => ?_
    have J4 : Inv X pins τ G { s' with heap := g4 } := J.landed nb dn4.1 (((up.trans up3).trans up').trans up4) eo ag
    obtain ⟨o4, v4, h4, z4, f4⟩ := dn4.there
    refine store_ok (X := X.suite a ((a, o4) :: (X.pn ++ pins))) (v := .ref a) (J4.suite h4 f4 ga aL aF) nd at_ (.inl loc) rfl (fun s5 S5 => ?_) (.inr loc)
    refine wpAny_mono ((suite a o4 cl d (X.pn ++ pins) z4 ⟨_, f4⟩).run [] s5 _ G _ S5 (yes a ga)) (fun f s6 e => ?_) (fun _ _ z => z.elim)
    have bye : ∀ {σ6 : L2.St} {H6 : Hp} {Q : Shared → Prop}, Inv (X.suite a ((a, o4) :: (X.pn ++ pins))) [] σ6 H6 s6 → (∀ s7, Inv X pins (σ6.set i none) H6 s7 → Q s7) →
        wpAny (model X.prog X.w) X.A (do bindName X.env n .none; unbindBehindTheSuite X.env n hp) (fun _ s7 => Q s7) X.xe s6 := fun S6 q => gone_ok (S6.unsuite okX) nd at_ loc q
    cases f with
    | ret u =>
      obtain ⟨v6, σ6, H6, S6, r6, q6⟩ := e
      exact bye S6 fun s7 J7 => ⟨_, _, _, J7, r6, q6⟩
    | _ =>
      obtain ⟨σ6, H6, S6, q6⟩ := e
      exact bye S6 fun s7 J7 => ⟨_, _, J7, q6⟩
  · cases f with
    | next =>
      obtain ⟨τ, G, J, q⟩ := e
      exact wpAny_execs_nil ⟨τ, G, J.ofTry okX, q⟩
    | ret u =>
      obtain ⟨v, τ, G, J, r, q⟩ := e
      exact ⟨v, τ, G, J.ofTry okX, r, q⟩
    | _ =>
      obtain ⟨τ, G, J, q⟩ := e
      exact ⟨τ, G, J.ofTry okX, q⟩
end
end L2

/-! raise C() of an own class without own __init__ -/
namespace L2
open PySem PySem.Spec PyProof.Rows
theorem pmk_own0 {X : Cx} {C : Addr} {x : Str} {p pos : Pos} {bmB : List Value} {B newId initId : String} (F : ExcBaseFacts B newId initId bmB) (q : PySem.W.excIn X.K C bmB newId = true) (gC : X.mg x = some (.ref C)) (kC : PySem.W.keepIn X.K (.ref C) = true) (r : Raises X (.ref C)) (hg : Gl X x)
    (hdb : (x == ("__debug__" : Str)) = false := by decide) : PMk X (.Call (.Name x p) [] [] pos) (fun _ H Q => Q (.ref C) none H) := by
  intro pins s σ H Q I h
  refine wpAny_Call_Name_kw (ld_glob I hg gC ?_ hdb)
  refine PySem.W.callWith_K0 I.kIn kC ?_
  show wpAny _ _ (call (.ref C) []) _ _ _
  obtain ⟨bm, N, nm, qn, bs, hdct, sn, sub, ab, col, dd, k0, k1, k2, k3, k5, mN, hC, hN, hni, T⟩ := exc_obj I.kIn q
  exact wpAny_call_exc_subT F T hC hN hni (fun h' e hm => mk_of I hm r h (I.hok.gone hm.new)) (Nat.zero_le _)
end L2

/-! errors whose context stays in sight: made and raised, caught by a clause for three classes; defs called from the suite that may walk lists and unpack tuples (HC) -/
namespace L2
open PySem PySem.Spec PyProof.Rows
theorem mk_endN {X : Cx} {pins : List (Addr × Obj)} {σ : St} {H1 H2 : Hp} {Q : XK} {hp hp2 h2 : Heap} {g1 g2 : Array GenState} {d1 d2 : Drawn} {t1 t2 : Nat} {os1 os2 : OsState} {a C d : Addr} {fs : List (Str × V)} (T : Raises X (.ref C)) (I1 : Inv X pins σ H1 ⟨hp, g1, d1, t1, os1⟩)
    (ha : hp.objs.size ≤ a) (k : ∀ b o, hp.get? b = some o → hp2.get? b = some o) (un : Un (frs X.stack) [] (upd H1 a (exo a C none)) H2 hp2 h2) (hok : HOk X.prog X.w H2 h2) (ho : os2 = os1) (hb : AllBare g2)
    (ea : H2 a = some (exo a C (some d))) (ed : H2 d = some (exd d fs)) (hd1 : H1 d = none) (q : Q (.ref C) (some d) (upd (del H2 a) d (.xd fs))) : L2N.MkP X pins σ Q (.ref a) ⟨h2, g2, d2, t2, os2⟩ := by
  obtain ⟨t0, G, J, kG, ge, hoe, na⟩ := mk_end0 (d2 := d2) (t2 := t2) I1 ha k un hok ho hb ea ed hd1
  exact ⟨a, _, _, ⟨G, g2, d2, t2, os2⟩, _, .ref C, some d, rfl, J, kG, ge, hoe, ⟨rfl, rfl, fun vs e => by cases e; rfl⟩, rfl, rfl, na, rfl, hb, T, q⟩
section
variable {X : Cx} {o e : Expr} {es : List Expr} {to te : TE} {ta : TA} {f : Str} {p p' pos : Pos}
theorem pmkN_oexB {CX : CXT} {x : Str} {C fI : Addr} {k : Nat} {fd : FuncData} {ps : List Str} {sp : Sp} (T : OexB X.K C) (iC : PySem.W.findIn X.K (.ref C) "__init__" = some (some (.ref fI))) (tI : PySem.W.typeIn X.K (.ref fI) = some (.type "function"))
    (F1 : FnOk X.prog X.w X.K X.mg X.base CX k fI fd ps sp) (hr : Room (k + 1) X.A) (hb : Binds X.K fd ps []) (hx : Passes CX X (fun _ _ _ => False)) (hg : Gl X x) (hm : X.mg x = some (.ref C)) (ha : PA X (e :: es) ta)
    (hdb : (x == ("__debug__" : Str)) = false := by decide) (he : starEach (e :: es) X.env = (false, eval e X.env) :: starEach es X.env := by rfl) (hpl : (backTo pos (starEach es X.env)).any (·.1) = false := by rfl) :
    L2N.PMk X (.Call (.Name x p) (e :: es) [] pos) (tMkO C sp [] ta) := by
  intro pins s σ H Q I h
  obtain ⟨nm, q, N, bs, bm, sub, bmB, sn, ab, col, dd, k0, k1, k2, k3, k5, B, n1, n2, hC, FB, has, pass, ob⟩ := T.cls
  refine wpAny_Call_Name_kw (ld_glob I hg hm ?_ hdb)
  refine PySem.W.callWith_K (h₀ := X.base) I.ok.mod.kin T.kC (thn (ha.run pos pins s σ H _ I h) fun us s1 h1 => ?_) he hpl
  obtain ⟨vs, H1, I1, r1, hz, q1⟩ := h1
  refine ⟨I1.kIn, ?_⟩
  show wpAny _ _ (call (.ref C) us) _ _ _
  obtain ⟨hp, g, dr, tk, os⟩ := s1
  obtain ⟨top, etop⟩ : ∃ z, z = hp.objs.size + 1 := ⟨_, rfl⟩
  have hsz : hp.objs.size ≤ top := etop ▸ Nat.le_succ _
  have hq := q1 top (I1.hok.fresh hsz)
  have kk : ∀ b o, hp.get? b = some o → ((hp.push (PySem.W.kdv_tup us)).push (PySem.HandSPX.excO C hp.objs.size)).get? b = some o := fun b o z => Heap.get?_push_of_some _ (Heap.get?_push_of_some _ z)
  have hget : ((hp.push (PySem.W.kdv_tup us)).push (PySem.HandSPX.excO C hp.objs.size)).get? top = some (PySem.HandSPX.excO C hp.objs.size) := by
    rw [etop]
    heap_get
  have I2 : Inv X pins σ (upd H1 top (exo top C none)) ⟨(hp.push (PySem.W.kdv_tup us)).push (PySem.HandSPX.excO C hp.objs.size), g, dr, tk, os⟩ := I1.laid (t' := tk) kk hsz (exo_ok hget)
  have r2 : Vals (V.ref top :: (vs ++ [])) (Value.ref top :: (us ++ [])) := .cons rfl (r1.append .nil)
  have hl : (Value.ref top :: us ++ []).length = ps.length := by
    have z := r2.length
    rw [F1.len _ _ _ _ hq] at z
    exact z.symm
  have hus : us.length ≤ sizeLine := by
    rw [← Paired.length r1, sizeLine_eq]
    omega
  have bound : BindsTo ⟨(hp.push (PySem.W.kdv_tup us)).push (PySem.HandSPX.excO C hp.objs.size), g, dr, tk, os⟩ fd ⟨Value.ref top :: us, []⟩ (ps.zip (Value.ref top :: us ++ [])) := hb _ (Value.ref top :: us) I2.kIn hl
  have run := F1.run _ X.stack _ _ ⟨Value.ref top :: us, []⟩ (Value.ref top :: us ++ []) _ _ (fun _ _ _ => False) (hr.make C us []) (I2.env0.make C us []) bound r2 hq
  subst etop
  refine wpAny_call (PySem.HandSPX.call_own FB has (I1.kIn _ _ hC) (PySem.W.looks_findIn I1.kIn iC) (fun self => PySem.W.bind_fn I1.kIn self tI) hus (codeAny_mono run fun r s' hq' => ?_))
  match r, hq' with
  | .error er, hq' => exact hx pins σ _ _ er s' I2 hq'
  | .ok (.ret u), hq' =>
    obtain ⟨v, H2, os2, bare2, un2, hok2, rv, ev, d, fs, ea, ed, hd1, q2⟩ := hq'
    subst ev
    obtain ⟨h2, g2, d2, t2, os'⟩ := s'
    exact ⟨rv, mk_endN (raises_own T.exC T.tyC) I1 hsz kk un2 hok2 os2 bare2 ea ed hd1 q2⟩
end
theorem pmkN_own0 {X : Cx} {C : Addr} {x : Str} {p pos : Pos} {bmB : List Value} {B newId initId : String} (F : ExcBaseFacts B newId initId bmB) (q : PySem.W.excIn X.K C bmB newId = true) (gC : X.mg x = some (.ref C)) (kC : PySem.W.keepIn X.K (.ref C) = true) (r : Raises X (.ref C)) (hg : Gl X x)
    (hdb : (x == ("__debug__" : Str)) = false := by decide) : L2N.PMk X (.Call (.Name x p) [] [] pos) (fun _ H Q => Q (.ref C) none H) := by
  intro pins s σ H Q I h
  refine wpAny_Call_Name_kw (ld_glob I hg gC ?_ hdb)
  refine PySem.W.callWith_K0 I.kIn kC ?_
  show wpAny _ _ (call (.ref C) []) _ _ _
  obtain ⟨bm, N, nm, qn, bs, hdct, sn, sub, ab, col, dd, k0, k1, k2, k3, k5, mN, hC, hN, hni, T⟩ := exc_obj I.kIn q
  exact wpAny_call_exc_subT F T hC hN hni (fun h' e hm => L2N.mk_of I hm r h (I.hok.gone hm.new)) (Nat.zero_le _)
section
variable {X : Cx} {pos hp tpos p1 p2 p3 : Pos} {body su : List Stmt} {b : Stmt} {tb : WX → TS} {x1 x2 x3 n : Str} {c1 c2 c3 : Value} {i kk : Nat} {k : Addr → Value → Option Addr → TS}
theorem ps_tryN_tup3 (st : X.stack = X.env :: X.outer) (fr : X.env.frame = some X.env.locals) (nd : X.N.Nodup)
    (run : ∀ (W : WX) (pn : List (Addr × Obj)) (xe : Value → Shared → Prop), L2N.Takes (X.tr pn xe) W → PassesOwn (model X.prog X.w) X.A X.env xe → PSs (X.tr pn xe) body (tb W))
    (n1 : Names X x1 c1) (n2 : Names X x2 c2) (n3 : Names X x3 c3) (at_ : X.N[i]? = some n) (loc : X.env.kindOf n = some .local)
    (suite : ∀ (a : Addr) (o : Obj) (cl : Value) (d : Option Addr) (pn : List (Addr × Obj)), L2N.Zn cl d o → (∃ vs, o.data = .fields vs) → PSs (X.suite a ((a, o) :: pn)) (b :: su) (k a cl d)) :
    PS X (.Try body [.ExceptHandler (some (.Tuple [.Name x1 p1, .Name x2 p2, .Name x3 p3] kk tpos)) (some n) (b :: su) hp] [] [] pos) (fun D σ H => tb (wLen X.N.length (wTup X.K [c1, c2, c3] i k D)) D σ H) := by
  constructor
  intro pins s σ H D I h
  have okX := I.ok
  have frs_eq : X.A.frames = some (X.env :: X.outer) := okX.frames.trans (congrArg some st)
  apply wpAny_Try_except
  refine wpAny_mono ((run (wLen X.N.length (wTup X.K [c1, c2, c3] i k D)) (X.pn ++ pins) (fun e r1 => wpAny (model X.prog X.w) X.A (noteFrame e X.env) (fun _ r2 => wpAny (model X.prog X.w) X.A (setFlight e none) (fun _ r3 => wpAny (model X.prog X.w) X.A (handleBy e X.env [.ExceptHandler (some (.Tuple [.Name x1 p1, .Name x2 p2, .Name x3 p3] kk tpos)) (some n) (b :: su) hp]) (SP X pins D) X.xe r3) X.xe r2) X.xe r1) (fun u s' x => ?_) PassesOwn.looking).run [] s σ H D (I.toTry _) h) (fun f s1 e => ?_) (fun _ _ z => z)
  · obtain ⟨a, B, sI, ps', τ, G, cl, d, rfl, J0, nb, up, sk, ga, eo, ag, wish⟩ := x
    have J : Inv X pins τ G sI := J0.ofTry okX
    rw [st] at sk
    obtain ⟨isK, yes⟩ := wish J.len
    show wpAny (model X.prog X.w) X.A (noteFrame (.ref a) X.env) _ _ _
    refine L2N.Sky.land L2N.Zn.steady frs_eq fr sk fun g3 dn up3 => ?_
    have J3 : Inv X pins τ G { s' with heap := g3 } := J.landed nb dn.1 (up.trans up3) eo ag
    obtain ⟨o3, v3, ho, zo, fo⟩ := dn.there
    have off : a ∉ frs (X.env :: X.outer) := fun m => by
      obtain ⟨_, o', ho', no⟩ := dn.2.2.1.mem m
      exact no _ ((Option.some.inj (ho.symm.trans ho')) ▸ fo)
    have aL : a ≠ X.env.locals := fun z => off (List.mem_filterMap.mpr ⟨X.env, List.mem_cons_self, z ▸ fr⟩)
    have aF : a ∉ X.fs := fun m => by
      obtain ⟨e, i, q⟩ := List.mem_filterMap.mp m
      exact off (List.mem_filterMap.mpr ⟨e, List.mem_cons_of_mem _ i, q⟩)
    have S3 := J3.suite ho fo ga aL aF
    refine wpAny_handleBy_cons (codeAny_handlers_test ?_) nofun
    have reads : ∀ {x : Str} {p : Pos} {c : Value} {Q E : Value → Shared → Prop}, Names X x c → Q c { s' with heap := g3 } → wpAny (model X.prog X.w) (X.A.mark (some (.ref a))) (eval (.Name x p) X.env) Q E { s' with heap := g3 } := fun {x p c Q E} C q => by
      rcases C with ⟨n1, n2, n3 | ⟨n3, n4, n5⟩⟩
      · exact ld_glob (X := X.suite a ((a, o3) :: (X.pn ++ pins))) S3 n1 n3 q n2
      · exact ld_blt (X := X.suite a ((a, o3) :: (X.pn ++ pins))) S3 n1 n3 n4 q n5 n2
    refine wpAny_Tuple ?_
    refine wpAny_items_cons (reads n1 ?_)
    refine wpAny_items_cons (reads n2 ?_)
    refine wpAny_items_cons (reads n3 ?_)
    refine wpAny_items_nil ⟨by size_fits, ?_⟩
    have kp : ∀ q o, g3.get? q = some o → (g3.push { cls := .type "tuple", data := .seq [c1, c2, c3].toArray }).get? q = some o := fun _ _ z => Heap.get?_push_of_some _ z
    have tyA : PySem.W.Looks (model X.prog X.w) (g3.push { cls := .type "tuple", data := .seq [c1, c2, c3].toArray }) (typeOf (.ref a)) cl := fun A Q E r k q => wpAny_typeOf_ref (k _ _ (kp _ _ ho)) (zo.1.symm ▸ q)
    have ans := PySem.W.exm_tup3 (M := model X.prog X.w) (tp := g3.objs.size) ((J3.kIn).keeps kp) tyA (Heap.get?_push_size g3 rfl) isK
    refine ans.here ?_
    have dn' := FlyingZ_keeps dn kp
    have up' : g3.UpToSlots (g3.push { cls := .type "tuple", data := .seq [c1, c2, c3].toArray }) := fun b o z _ => ⟨o.slots, kp b o z⟩
    apply codeAny_handlers_suite_as
    refine HandSPX.lands_againZ dn' fun g4 dn4 up4 => ?_
    have J4 : Inv X pins τ G { s' with heap := g4 } := J.landed nb dn4.1 (((up.trans up3).trans up').trans up4) eo ag
    obtain ⟨o4, v4, h4, z4, f4⟩ := dn4.there
    refine store_ok (X := X.suite a ((a, o4) :: (X.pn ++ pins))) (v := .ref a) (J4.suite h4 f4 ga aL aF) nd at_ (.inl loc) rfl (fun s5 S5 => ?_) (.inr loc)
    refine wpAny_mono ((suite a o4 cl d (X.pn ++ pins) z4 ⟨_, f4⟩).run [] s5 _ G _ S5 (yes a ga)) (fun f s6 e => ?_) (fun _ _ z => z.elim)
    have bye : ∀ {σ6 : L2.St} {H6 : Hp} {Q : Shared → Prop}, Inv (X.suite a ((a, o4) :: (X.pn ++ pins))) [] σ6 H6 s6 → (∀ s7, Inv X pins (σ6.set i none) H6 s7 → Q s7) →
        wpAny (model X.prog X.w) X.A (do bindName X.env n .none; unbindBehindTheSuite X.env n hp) (fun _ s7 => Q s7) X.xe s6 := fun S6 q => gone_ok (S6.unsuite okX) nd at_ loc q
    cases f with
    | ret u =>
      obtain ⟨v6, σ6, H6, S6, r6, q6⟩ := e
      exact bye S6 fun s7 J7 => ⟨_, _, _, J7, r6, q6⟩
    | _ =>
      obtain ⟨σ6, H6, S6, q6⟩ := e
      exact bye S6 fun s7 J7 => ⟨_, _, J7, q6⟩
  · cases f with
    | next =>
      obtain ⟨τ, G, J, q⟩ := e
      exact wpAny_execs_nil ⟨τ, G, J.ofTry okX, q⟩
    | ret u =>
      obtain ⟨v, τ, G, J, r, q⟩ := e
      exact ⟨v, τ, G, J.ofTry okX, r, q⟩
    | _ =>
      obtain ⟨τ, G, J, q⟩ := e
      exact ⟨τ, G, J.ofTry okX, q⟩
end
/-- a def whose errors keep their context in sight -/
theorem Fun.okN {P : Program} {w : World} {K : PySem.W.Frag} {mg : Str → Option Value} {base : Heap} {x qual : Str} {st : Stmt} {f : Addr} {fd : FuncData} {N ps : List Str} {k : Nat} {sp : Sp} (F : Fun K x qual st f fd) (S : FnScope N ps (defScope st))
    (many : ∀ vs H Q E, sp vs H Q E → vs.length = ps.length)
    (body : ∀ (cdv : Value) (A : Around) (outer : List Env) (s : Shared) (H : Hp) (vs : List V) (Q : VK) (E : XK), Room k (A.deeper (envOfC qual (defScope st) s.heap.objs.size f cdv)) → sp vs H Q E →
      ∃ t, PSs (cxOf (L2N.CX P w) P w K mg base N qual (defScope st) f cdv A outer s H E) (defBody st) t ∧ t { nx := fun _ H' => Q .non H', rt := Q } (start N vs) H) : FnOk P w K mg base (L2N.CX P w) (k + 1) f fd ps sp := by
  obtain ⟨oc, od, kV, doc, pm, an, cdv, ct, osl, rfl, lk, hcd⟩ := F.ex
  exact fn_of lk hcd S many fun A outer s H vs Q E hr h => body cdv A outer s H vs Q E hr h
/-- a def that is called with the handled error in hand, its context in sight -/
structure FnHE (P : Program) (w : World) (K : PySem.W.Frag) (mg : Str → Option Value) (base : Heap) (k : Nat) (f : Addr) (fd : FuncData) (ps : List Str) (sp : Addr × Obj → Sp) : Prop where
  many : ∀ {p vs H Q E}, sp p vs H Q E → vs.length = ps.length
  goes : ∀ {A : Around} {outer : List Env} {s : Shared} {H : Hp} {args : Args} {us : List Value} {vs : List V} {Q : VK} {E : XK} {p : Addr × Obj}, A.guards = some [] → L2H.RoomH k A → L2H.Hot1 A p → L2H.PinOk outer H s p → Env0 P w K mg base A outer s H →
    BindsTo s fd args (ps.zip us) → Vals vs us → sp p vs H Q E → codeAny (model P w) A (.call (.ref f) args) (CR CX0 outer P w H s Q E) s
theorem Fun.okHE {P : Program} {w : World} {K : PySem.W.Frag} {mg : Str → Option Value} {base : Heap} {x qual : Str} {st : Stmt} {f : Addr} {fd : FuncData} {N ps : List Str} {k : Nat} {sp : Addr × Obj → Sp} (F : Fun K x qual st f fd) (S : FnScope N ps (defScope st))
    (many : ∀ p vs H Q E, sp p vs H Q E → vs.length = ps.length)
    (body : ∀ (cdv : Value) (A : Around) (outer : List Env) (s : Shared) (H : Hp) (vs : List V) (Q : VK) (E : XK) (p : Addr × Obj), A.guards = some [] → L2H.HotC (L2H.cxH CX0 P w K mg base N qual (defScope st) f cdv A outer s H E p) → L2H.RoomH k (A.deeper (envOfC qual (defScope st) s.heap.objs.size f cdv)) → sp p vs H Q E →
      ∃ t, PSs (L2H.cxH CX0 P w K mg base N qual (defScope st) f cdv A outer s H E p) (defBody st) t ∧ t { nx := fun _ H' => Q .non H', rt := Q } (start N vs) H) : FnHE P w K mg base (k + 1) f fd ps sp := by
  obtain ⟨oc, od, kV, doc, pm, an, cdv, ct, osl, rfl, lk, hcd⟩ := F.ex
  exact ⟨fun h => many _ _ _ _ _ h, fun {A outer s H args us vs Q E p} g hr hot hp e b r h => run_ofE lk hcd S hr hp e b r (many _ _ _ _ _ h) fun hr' => body cdv _ _ _ _ _ _ _ _ g ⟨p, hot, List.mem_cons_self⟩ hr' h⟩
section
variable {X : Cx} {k : Nat} {f : Addr} {fd : FuncData} {ps : List Str} {sp : Addr × Obj → Sp} {E : XK} {x : Str} {q pos : Pos} {e : Expr} {es : List Expr} {t : TA} {p : Addr × Obj}
theorem pe_callHE (F : FnHE X.prog X.w X.K X.mg X.base k f fd ps sp) (g : X.A.guards = some []) (hr : L2H.RoomH k X.A) (hot : L2H.Hot1 X.A p) (hpn : p ∈ X.pn) (st : X.stack = X.env :: X.outer) (fr : X.env.frame = some X.env.locals) (hg : Gl X x) (hm : X.mg x = some (.ref f)) (hk : PySem.W.keepIn X.K (.ref f) = true) (hb : Binds X.K fd ps []) (ha : PA X (e :: es) t)
    (hdb : (x == ("__debug__" : Str)) = false := by decide) (he : starEach (e :: es) X.env = (false, eval e X.env) :: starEach es X.env := by rfl) (hpl : (backTo pos (starEach es X.env)).any (·.1) = false := by rfl) :
    PE X (.Call (.Name x q) (e :: es) [] pos) (tCall (sp p) [] E t) := by
  constructor
  intro pins s σ H Q I h
  apply wpAny_Call_Name_kw
  apply ld_glob I hg hm _ hdb
  refine PySem.W.callWith_K (h₀ := X.base) I.ok.mod.kin hk (thn (ha.run pos pins s σ H _ I h) fun us s1 hh => ?_) he hpl
  obtain ⟨vs, H1, I1, r, q⟩ := hh
  refine ⟨I1.kIn, wpAny_call (codeAny_mono (F.goes g hr hot (pin_ok I1 hpn st fr) I1.env0 (us := us) ?_ r (by simpa using q)) fun r s' hq => ?_)⟩
  · have hl : (us ++ []).length = ps.length := by
      rw [List.append_nil, ← r.length]
      exact F.many (by simpa using q)
    simpa using hb s1 us I1.kIn hl
  · match r, hq with
    | .error e, hq => exact hq.elim
    | .ok (.ret u), hq => exact I1.after hq
/-- the caught error is the one that is handled -/
theorem hot_suite {a : Addr} {o : Obj} {cl : Value} {d : Option Addr} {pn : List (Addr × Obj)} (z : L2N.Zn cl d o) (f : ∃ vs, o.data = .fields vs) : L2H.Hot1 (X.suite a ((a, o) :: pn)).A (a, o) := by
  obtain ⟨vs, hv⟩ := f
  exact ⟨rfl, vs, hv, z.2.2 vs hv⟩
end
end L2

/-! checks that may refuse; as T_X9, for programs with Words -/
namespace Gm
open PySem L2 LamX
/-- an own error comes out, with v in its attribute -/
def Comes (E : XK) (H : Hp) (C : Addr) (f : Str) (v : V) : Prop := ∀ H' d, Same H H' → H d = none → H' d = some (.xd [(f, v)]) → E (.ref C) (some d) H'
theorem Comes.same {E : XK} {H H1 : Hp} {C : Addr} {f : Str} {v : V} (h : Comes E H C f v) (s : Same H H1) : Comes E H1 C f v := fun H' d s' n e => h H' d (fun b o x => s' _ _ (s _ _ x)) (s.free n) e
/-- whether v is a text over ch of length n -/
def AsW (K : PySem.W.Frag) (H : Hp) (v : V) (ch : List Nat) (n : Int) (b : Bool) : Prop := (∃ s : List Nat, v = .str (tx s) ∧ s.length ≤ 1000 ∧ b = decide (Wd ch n s)) ∨ (∃ t, TyX K H v t ∧ PySem.W.kitOne K t (.type "str") = some false ∧ b = false)
section
variable {K : PySem.W.Frag} {H H' : Hp} {v : V} {l ch : List Nat} {n : Int} {b : Bool}
theorem AsW.same (h : AsW K H v ch n b) (s : Same H H') : AsW K H' v ch n b := by
  rcases h with h | ⟨t, ty, k⟩
  · exact .inl h
  · exact .inr ⟨t, ty.same s, k⟩
theorem AsW.sp {Q : VK} (h : AsW K H v ch n b) (q : ∀ H', Same H H' → Q (.bl b) H') : (∃ s : List Nat, v = .str (tx s) ∧ s.length ≤ 1000 ∧ ∀ H', Same H H' → Q (.bl (decide (Wd ch n s))) H') ∨ (∃ t, TyX K H v t ∧ PySem.W.kitOne K t (.type "str") = some false ∧ Q (.bl false) H) := by
  rcases h with ⟨s, e, hs, rfl⟩ | ⟨t, ty, no, rfl⟩
  · exact .inl ⟨s, e, hs, q⟩
  · exact .inr ⟨t, ty, no, q _ (Same.refl H)⟩
end
def spChkWX (K : PySem.W.Frag) (C CE : Addr) (ch : Option (List Nat)) : Sp := fun vs H Q E => ∃ (p : Addr) (l : List Nat) (n : Int) (v : V) (b : Bool), vs = [.ref p, v] ∧ Bd C H p l n ∧ AsW K H v (ch.getD l) n b ∧
  ((b = true ∧ ∀ H', Same H H' → Q .non H') ∨ (b = false ∧ Comes E H CE "value" v))
def spChkBX (K : PySem.W.Frag) (C CE : Addr) : Sp := fun vs H Q E => ∃ (v : V) (t : Value), vs = [v] ∧ TyX K H v t ∧ ((PySem.W.kitOne K t (.ref C) = some true ∧ Q .non H) ∨ (PySem.W.kitOne K t (.ref C) = some false ∧ Comes E H CE "value" v))
section
variable {P : Program} {w : World} {K : PySem.W.Frag} {mg : Str → Option Value} {base : Heap}
theorem ok_chkWX {f C CE fO eE : Addr} {fd fdO fdE : FuncData} (F : Fun K "check_word" "check_word" sChkW f fd) (GO : FnOk P w K mg base L2.CX0 2 fO fdO ["board", "value"] (spIsW K C none)) (DO : Df K mg "is_word" fO fdO ["board", "value"])
    (EW : ErrB K mg "InvalidWord" "value" CE eE) (GE : FnOk P w K mg base L2.CX0 1 eE fdE ["self", "value"] (spErr CE "value")) (bE : Binds K fdE ["self", "value"] []) : FnOk P w K mg base (L2N.CX P w) 3 f fd ["board", "word"] (spChkWX K C CE none) := by
  refine F.okN scCW (fun vs H Q E h => ?_) (fun cdv A outer s H vs Q E hr h => ?_)
  · obtain ⟨p, l, n, v, b, rfl, _⟩ := h
    rfl
  · obtain ⟨p, l, n, v, b, rfl, hb, hv, h⟩ := h
    refine ⟨_, pss_one (ps_if (pt_not (pt_val (pe_call GO hr (by rfl) DO.mg DO.kp DO.b .nil L2.pass0 (pa_cons (pv 0) (pa_cons (pv 1) pa_nil)))))
      (pss_one (L2N.ps_raise rfl (L2N.takes_of rfl rfl rfl rfl) (pmkN_oexB EW.ox EW.iC EW.tI GE hr bE L2.pass0 (by rfl) EW.gC (pa_cons (pv 1) pa_nil)))) pss_nil), ?_⟩
    refine ⟨_, rfl, _, rfl, p, l, n, _, rfl, hb, ?_⟩
    rcases hv with ⟨z, rfl, hz, ez⟩ | ⟨t, ty, no, rfl⟩
    · refine .inl ⟨z, rfl, hz, fun H1 s1 => ⟨_, rfl, ?_⟩⟩
      rw [show decide (Wd ((none : Option (List Nat)).getD l) n z) = b from ez.symm]
      rcases h with ⟨rfl, q⟩ | ⟨rfl, ex⟩
      · exact iteF (q _ s1)
      · exact iteT ⟨_, rfl, mkErr (ex.same s1)⟩
    · rcases h with ⟨h, _⟩ | ⟨_, ex⟩
      · cases h
      · exact .inr ⟨t, ty, no, _, rfl, iteT ⟨_, rfl, mkErr ex⟩⟩
theorem ok_chkMX {f C CE fO eE : Addr} {fd fdO fdE : FuncData} (F : Fun K "check_marks" "check_marks" sChkM f fd) (GO : FnOk P w K mg base L2.CX0 2 fO fdO ["board", "value"] (spIsW K C (some [48, 49, 50]))) (DO : Df K mg "are_marks" fO fdO ["board", "value"])
    (EW : ErrB K mg "InvalidMarks" "value" CE eE) (GE : FnOk P w K mg base L2.CX0 1 eE fdE ["self", "value"] (spErr CE "value")) (bE : Binds K fdE ["self", "value"] []) : FnOk P w K mg base (L2N.CX P w) 3 f fd ["board", "told"] (spChkWX K C CE (some [48, 49, 50])) := by
  refine F.okN scCM (fun vs H Q E h => ?_) (fun cdv A outer s H vs Q E hr h => ?_)
  · obtain ⟨p, l, n, v, b, rfl, _⟩ := h
    rfl
  · obtain ⟨p, l, n, v, b, rfl, hb, hv, h⟩ := h
    refine ⟨_, pss_one (ps_if (pt_not (pt_val (pe_call GO hr (by rfl) DO.mg DO.kp DO.b .nil L2.pass0 (pa_cons (pv 0) (pa_cons (pv 1) pa_nil)))))
      (pss_one (L2N.ps_raise rfl (L2N.takes_of rfl rfl rfl rfl) (pmkN_oexB EW.ox EW.iC EW.tI GE hr bE L2.pass0 (by rfl) EW.gC (pa_cons (pv 1) pa_nil)))) pss_nil), ?_⟩
    refine ⟨_, rfl, _, rfl, p, l, n, _, rfl, hb, ?_⟩
    rcases hv with ⟨z, rfl, hz, ez⟩ | ⟨t, ty, no, rfl⟩
    · refine .inl ⟨z, rfl, hz, fun H1 s1 => ⟨_, rfl, ?_⟩⟩
      rw [show decide (Wd ((some [48, 49, 50] : Option (List Nat)).getD l) n z) = b from ez.symm]
      rcases h with ⟨rfl, q⟩ | ⟨rfl, ex⟩
      · exact iteF (q _ s1)
      · exact iteT ⟨_, rfl, mkErr (ex.same s1)⟩
    · rcases h with ⟨h, _⟩ | ⟨_, ex⟩
      · cases h
      · exact .inr ⟨t, ty, no, _, rfl, iteT ⟨_, rfl, mkErr ex⟩⟩
theorem ok_chkBX {f C CE eE : Addr} {fd fdE : FuncData} (F : Fun K "check_board" "check_board" sChkB f fd) (T : TxW mg) (TC : TxC K mg C) (EW : ErrB K mg "NotABoard" "value" CE eE) (GE : FnOk P w K mg base L2.CX0 1 eE fdE ["self", "value"] (spErr CE "value")) (bE : Binds K fdE ["self", "value"] []) :
    FnOk P w K mg base (L2N.CX P w) 3 f fd ["board"] (spChkBX K C CE) := by
  refine F.okN scCB (fun vs H Q E h => ?_) (fun cdv A outer s H vs Q E hr h => ?_)
  · obtain ⟨v, t, rfl, _⟩ := h
    rfl
  · obtain ⟨v, t, rfl, ty, h⟩ := h
    refine ⟨_, pss_one (ps_if (pt_not (pt_val (pe_callB call_isi (by rfl) T.isi (by decide +kernel) (pa_cons (pv 0) (pa_cons (pe_glob (v := .ref C) (by rfl) TC.mgC rfl) pa_nil)))))
      (pss_one (L2N.ps_raise rfl (L2N.takes_of rfl rfl rfl rfl) (pmkN_oexB EW.ox EW.iC EW.tI GE hr bE L2.pass0 (by rfl) EW.gC (pa_cons (pv 0) pa_nil)))) pss_nil), ?_⟩
    rcases h with ⟨k, q⟩ | ⟨k, ex⟩
    · exact ⟨_, rfl, _, _, _, _, _, rfl, .own C, ty, k, _, rfl, iteF q⟩
    · exact ⟨_, rfl, _, _, _, _, _, rfl, .own C, ty, k, _, rfl, iteT ⟨_, rfl, mkErr ex⟩⟩
end
end Gm

/-! keys (n, t): a number and a tuple of keys -/
namespace PySem
section
variable {prog : Program} {w : World} {K : Type} [DecidableEq K] (knd : KeyKind prog w K)
def IsStKey (h : Heap) (k : Int × List K) (a : Addr) : Prop := ∃ o n t b, h.get? a = some o ∧ o.cls = .type "tuple" ∧ o.data = .seq #[.int k.1 t, .ref b] n ∧ IsTupleKey knd h k.2 b
variable {knd}
theorem IsStKey.typeIs {s : Shared} {k : Int × List K} {a : Addr} (x : IsStKey knd s.heap k a) : s.TypeIs (.ref a) "tuple" := by
  obtain ⟨o, _, _, _, ho, hc, _⟩ := x
  exact ⟨o, ho, hc⟩
theorem IsStKey.inj {h : Heap} {a : Addr} {x y : Int × List K} (hx : IsStKey knd h x a) (hy : IsStKey knd h y a) : x = y := by
  obtain ⟨o, n, t, b, ho, _, hd, hb⟩ := hx
  obtain ⟨o', n', t', b', ho', _, hd', hb'⟩ := hy
  obtain rfl : o = o' := Option.some.inj (ho.symm.trans ho')
  rw [hd] at hd'
  injection hd' with e _
  have e1 := congrArg Array.toList e
  injection e1 with e2 e3
  injection e3 with e4 _
  injection e2 with e5 _
  injection e4 with e6
  subst e6
  exact Prod.ext e5 (hb.inj hb')
theorem IsStKey.keeps {h h' : Heap} {k : Int × List K} {a d : Addr} {o : Obj} {es ep} (x : IsStKey knd h k a) (ho : h.get? d = some o) (hd : o.data = .dict es ep) (hs : Heap.SameBut d h h') : IsStKey knd h' k a := by
  obtain ⟨q, n, t, b, hq, hc, hdq, hb⟩ := x
  have hne : a ≠ d := by
    rintro rfl
    obtain rfl : q = o := Option.some.inj (hq.symm.trans ho)
    rw [hdq] at hd
    exact nomatch hd
  exact ⟨q, n, t, b, (hs.2 a hne).trans hq, hc, hdq, hb.keeps ho hd hs⟩
def stHash (knd : KeyKind prog w K) (k : Int × List K) : Int := reduceHash (Builtin.Tuple.tupleHashOf [(intKind prog w).hash k.1, tupleKeyHash knd k.2])
variable {A : Around} {E : Value → Shared → Prop} {s : Shared}
theorem st_pyHash {k : Int × List K} {a : Addr} {Q : Int → Shared → Prop} (hu : A.units + 1 < cLine) (hk : IsStKey knd s.heap k a) (h : Q (stHash knd k) { s with toks := s.toks + (k.2.length + 3) }) :
    wpAny (model prog w) A (pyHash (.ref a)) Q E s := by
  have hT := hk.typeIs
  obtain ⟨o, n, t, b, ho, _, hd, hb⟩ := hk
  unfold pyHash
  first | unfold pyHashByItsType | skip
  first | refine wpAny_bind (wpAny_cRoomFor_or (.inr (by omega)) ?_) | skip
  refine wpAny_bind (wpAny_specialOf hT F.slot_tuple_hash.lookup ?_)
  show wpAny _ _ (if (some (Value.builtin "tuple.__hash__") == some Value.none) = true then _ else _) Q E s
  rw [if_neg (by rw [beq_builtin_none]; exact Bool.false_ne_true)]
  refine wpAny_bind (wpAny_specialOf hT F.slot_tuple_hash.lookup ?_)
  show wpAny _ _ (callSpecialIfBoundUnlessNone? (.ref a) "__hash__" _ >>= _) Q E s
  refine wpAny_bind (wpAny_callSpecialIfBoundUnlessNone?_slot hT F.slot_tuple_hash (wpAny_call_entry F.slot_tuple_hash hT F.entry_tuple_hash ?_ (F.args_tuple_hash_1 _)))
  show wpAny _ _ (Builtin.Tuple.tupleItemsOf (.ref a) >>= _) _ _ s
  refine wpAny_bind (wpAny_tupleItemsOf ho hd ?_)
  refine wpAny_bind ?_
  rw [← Array.forIn_toList]
  refine wpAny_forIn_list _
    (fun rest (c : Array Int) s' => (rest = [.int k.1 t, .ref b] ∧ c.toList = [] ∧ s' = s) ∨ (rest = [.ref b] ∧ c.toList = [(intKind prog w).hash k.1] ∧ s' = { s with toks := s.toks + 1 }) ∨
      (rest = [] ∧ c.toList = [(intKind prog w).hash k.1, tupleKeyHash knd k.2] ∧ s' = { s with toks := s.toks + 1 + (k.2.length + 1) }))
    _ ?_ ?_ _ _ (.inl ⟨rfl, rfl, rfl⟩)
  · rintro x rest c s' (⟨e, hc, rfl⟩ | ⟨e, hc, rfl⟩ | ⟨e, _, _⟩)
    · injection e with e1 e2
      subst e1 e2
      refine wpAny_bind ((intKind prog w).pyHash (k := k.1) (intKind_is prog w k.1 t) ?_)
      first
        | exact wpAny_pure (.inr (.inl ⟨rfl, by simp [hc], rfl⟩))
        | exact wpAny_bind (wpAny_pure (wpAny_pure (.inr (.inl ⟨rfl, by simp [hc], rfl⟩))))
    · injection e with e1 e2
      subst e1 e2
      refine wpAny_bind (wpAny_pyHash_tuple (knd := knd) (ks := k.2) ?_ hb ?_)
      · first | exact hu | (show A.in1.units < cLine; exact hu) | omega
      first
        | exact wpAny_pure (.inr (.inr ⟨rfl, by simp [hc], rfl⟩))
        | exact wpAny_bind (wpAny_pure (wpAny_pure (.inr (.inr ⟨rfl, by simp [hc], rfl⟩))))
    · cases e
  · rintro c s' (⟨e, _, _⟩ | ⟨e, _, _⟩ | ⟨_, hc, rfl⟩)
    · cases e
    · cases e
    show wpAny _ _ (retInt (Builtin.Tuple.tupleHashOf c.toList)) _ _ _
    rw [hc]
    refine wpAny_ret_mkInt ?_
    show wpAny _ _ (if (decide (-(2 : Int) ^ 63 ≤ Builtin.Tuple.tupleHashOf [(intKind prog w).hash k.1, tupleKeyHash knd k.2]) && decide (Builtin.Tuple.tupleHashOf [(intKind prog w).hash k.1, tupleKeyHash knd k.2] < 2 ^ 63)) = true then _ else _) Q E _
    unfold stHash reduceHash at h
    have et : s.toks + (k.2.length + 3) = s.toks + 1 + (k.2.length + 1) + 1 := by omega
    rw [et] at h
    split
    · rename_i hr
      rw [if_pos hr] at h
      exact wpAny_pure h
    · rename_i hr
      rw [if_neg hr] at h
      exact wpAny_bind (wpAny_rule (wpAny_pure h))
theorem st_quiet2 {n : Nat} {ks : List K} {a : Addr} {Q : Bool → Shared → Prop} (hk : IsTupleKey knd s.heap ks a) (h : Q true s) : wpAny (model prog w) A (eqIsQuiet (n + 1) (.ref a)) Q E s := by
  have hT := hk.typeIs
  obtain ⟨o, items, m, ho, _, hd, hi⟩ := hk
  unfold eqIsQuiet
  refine wpAny_bind (wpAny_specialOf hT F.slot_tuple_eq.lookup ?_)
  show wpAny _ _ (isInstance (.ref a) (.type "tuple") >>= _) _ _ s
  refine wpAny_bind (wpAny_isInstance hT isSubtype_tuple_tuple ?_)
  simp only [Bool.not_true, Bool.false_eq_true, if_false]
  refine wpAny_bind (wpAny_seqItems ho hd ?_)
  refine wpAny_bind ?_
  show wpAny _ _ (forIn items _ _) _ _ s
  rw [← Array.forIn_toList]
  refine wpAny_forIn_list _ (fun rest r s' => (∀ v ∈ rest, carriedByValue v = true) ∧ r.1 = none ∧ s' = s) _ ?_ ?_ _ _ ⟨hi.byValue, rfl, rfl⟩
  · rintro v rest r s' ⟨all, hr, rfl⟩
    rw [eqIsQuiet_byValue _ (all v List.mem_cons_self)]
    refine wpAny_bind (wpAny_pure ?_)
    simp only [Bool.not_true, Bool.false_eq_true, if_false]
    exact wpAny_pure ⟨fun u hu => all u (List.mem_cons_of_mem _ hu), rfl, rfl⟩
  · rintro ⟨r1, r2⟩ s' ⟨_, hr, rfl⟩
    simp only at hr
    subst hr
    exact wpAny_pure h
theorem st_quiet {k : Int × List K} {a : Addr} {Q : Bool → Shared → Prop} (hk : IsStKey knd s.heap k a) (h : Q true s) : wpAny (model prog w) A (eqIsQuiet 8 (.ref a)) Q E s := by
  have hT := hk.typeIs
  obtain ⟨o, n, t, b, ho, _, hd, hb⟩ := hk
  unfold eqIsQuiet
  refine wpAny_bind (wpAny_specialOf hT F.slot_tuple_eq.lookup ?_)
  show wpAny _ _ (isInstance (.ref a) (.type "tuple") >>= _) _ _ s
  refine wpAny_bind (wpAny_isInstance hT isSubtype_tuple_tuple ?_)
  simp only [Bool.not_true, Bool.false_eq_true, if_false]
  refine wpAny_bind (wpAny_seqItems ho hd ?_)
  refine wpAny_bind ?_
  show wpAny _ _ (forIn #[Value.int k.1 t, .ref b] _ _) _ _ s
  rw [← Array.forIn_toList]
  refine wpAny_forIn_list _ (fun rest r s' => (∀ v ∈ rest, v = .int k.1 t ∨ v = .ref b) ∧ r.1 = none ∧ s' = s) _ ?_ ?_ _ _ ⟨fun v hv => by simpa using hv, rfl, rfl⟩
  · rintro v rest r s' ⟨all, hr, rfl⟩
    have rest' : ∀ u ∈ rest, u = .int k.1 t ∨ u = .ref b := fun u hu => all u (List.mem_cons_of_mem _ hu)
    rcases all v List.mem_cons_self with rfl | rfl
    · rw [eqIsQuiet_byValue _ rfl]
      refine wpAny_bind (wpAny_pure ?_)
      simp only [Bool.not_true, Bool.false_eq_true, if_false]
      exact wpAny_pure ⟨rest', rfl, rfl⟩
    · refine wpAny_bind (st_quiet2 hb ?_)
      simp only [Bool.not_true, Bool.false_eq_true, if_false]
      exact wpAny_pure ⟨rest', rfl, rfl⟩
  · rintro ⟨r1, r2⟩ s' ⟨_, hr, rfl⟩
    simp only at hr
    subst hr
    exact wpAny_pure h
theorem st_eq_tree {x y : Int × List K} {a b : Addr} {P : Fin → Shared → Prop} (hu : A.units < cLine) (hx : IsStKey knd s.heap x a) (hy : IsStKey knd s.heap y b) (h : P (.done (.ret (.bool (decide (x = y))))) s) :
    wpAny (model prog w) A (Builtin.«tuple.__eq__» ⟨[.ref a, .ref b], []⟩) P E s := by
  have hTb := hy.typeIs
  obtain ⟨oa, na, t, u, hoa, _, hda, hua⟩ := hx
  obtain ⟨ob, nb, t', u', hob, _, hdb, hub⟩ := hy
  have key : decide (x = y) = (decide (x.1 = y.1) && decide (x.2 = y.2)) := by
    rw [Bool.eq_iff_iff, Bool.and_eq_true, decide_eq_true_iff, decide_eq_true_iff, decide_eq_true_iff]
    exact Prod.ext_iff
  show wpAny _ _ (isInstance (.ref b) (.type "tuple") >>= _) _ _ s
  refine wpAny_bind (wpAny_isInstance hTb isSubtype_tuple_tuple ?_)
  simp only [Bool.not_true, Bool.false_eq_true, if_false]
  refine wpAny_bind (wpAny_tupleItemsOf hoa hda ?_)
  refine wpAny_bind (wpAny_tupleItemsOf hob hdb ?_)
  refine wpAny_bind ?_
  refine wpAny_forIn_list _
    (fun rest r s' => r.1 = none ∧ s' = s ∧ (rest = [(.int x.1 t, .int y.1 t'), (.ref u, .ref u')] ∨ (x.1 = y.1 ∧ rest = [(.ref u, .ref u')]) ∨ (x = y ∧ rest = [])))
    _ ?_ ?_ _ _ ⟨rfl, rfl, .inl rfl⟩
  · rintro ⟨p, q⟩ rest r s' ⟨hr, rfl, (e | ⟨e1, e⟩ | ⟨_, e⟩)⟩
    · injection e with e1 e2
      injection e1 with e3 e4
      subst e3 e4 e2
      refine wpAny_bind ((intKind prog w).eqBool (a := x.1) (b := y.1) (intKind_is prog w x.1 t) (intKind_is prog w y.1 t') ?_)
      by_cases hk : x.1 = y.1
      · rw [decide_eq_true hk]
        simp only [Bool.not_true, Bool.false_eq_true, if_false]
        exact wpAny_pure ⟨rfl, rfl, .inr (.inl ⟨hk, by first | rfl | trivial⟩)⟩
      · rw [decide_eq_false hk]
        simp only [Bool.not_false, if_true]
        rw [key, decide_eq_false hk, Bool.false_and] at h
        exact wpAny_bind (wpAny_pure (wpAny_pure (wpAny_pure h)))
    · injection e with e3 e2
      injection e3 with e4 e5
      subst e4 e5 e2
      refine wpAny_bind (wpAny_eqBool_tuple hu hua hub ?_)
      by_cases hk : x.2 = y.2
      · rw [decide_eq_true hk]
        simp only [Bool.not_true, Bool.false_eq_true, if_false]
        exact wpAny_pure ⟨rfl, rfl, .inr (.inr ⟨Prod.ext e1 hk, by first | rfl | trivial⟩)⟩
      · rw [decide_eq_false hk]
        simp only [Bool.not_false, if_true]
        rw [key, decide_eq_false hk, Bool.and_false] at h
        exact wpAny_bind (wpAny_pure (wpAny_pure (wpAny_pure h)))
    · cases e
  · rintro ⟨r1, r2⟩ s' ⟨hr, rfl, (e | ⟨_, e⟩ | ⟨exy, _⟩)⟩
    · cases e
    · cases e
    simp only at hr
    subst hr
    refine wpAny_pure ?_
    rw [decide_eq_true exy] at h
    exact h
theorem st_eqBool {x y : Int × List K} {a b : Addr} {Q : Bool → Shared → Prop} (hu : A.units + 1 < cLine) (hx : IsStKey knd s.heap x a) (hy : IsStKey knd s.heap y b) (h : Q (decide (x = y)) s) :
    wpAny (model prog w) A (eqBool (.ref a) (.ref b)) Q E s := by
  unfold eqBool
  try with_reducible refine wpAny_holding ?_
  show wpAny _ _ (if (Value.ref a == Value.ref b) = true then _ else _) Q E s
  by_cases hab : (Value.ref a == Value.ref b) = true
  · rw [if_pos hab]
    have e : a = b := by
      have := eq_of_beq hab
      injection this
    subst e
    obtain rfl := hx.inj hy
    exact wpAny_bind (wpAny_rule (wpAny_pure (by simpa using h)))
  · rw [if_neg hab]
    exact wpAny_bind (wpAny_richCompare_same_room (op := .Eq) hx.typeIs hy.typeIs F.slot_tuple_eq
      (wpAny_call_entry F.slot_tuple_eq hx.typeIs F.entry_tuple_eq (st_eq_tree (by first | exact hu | (show A.in1.units < cLine; exact hu)) hx hy ⟨_, rfl, (fun e => nomatch e), wpAny_truthy_bool h⟩) (F.args_tuple_eq_2 _ _)) (by omega))
end
def stKind {prog : Program} {w : World} {K : Type} [DecidableEq K] (knd : KeyKind prog w K) : HeapKind prog w (Int × List K) where
  is := IsStKey knd
  hash := stHash knd
  draws := fun k => k.2.length + 3
  room := fun A => A.units + 1 < cLine
  inj := fun hx hy => hx.inj hy
  keeps := fun x ho hd hs => x.keeps ho hd hs
  pyHash := fun hu hk h => st_pyHash hu hk h
  eqBool := fun hu hx hy h => st_eqBool hu hx hy h
  quiet := fun hk h => st_quiet hk h
end PySem

/-! a memory: a dict whose keys are pairs of a number and a tuple -/
namespace Gm
open PySem L2
abbrev MKey := Int × List Key
abbrev MEnt := MKey × Addr × V
def KeyAt (H : Hp) (k : MKey) (b : Addr) : Prop := ∃ u, H b = some (.tup [.int k.1, .ref u]) ∧ H u = some (.tup (k.2.map kV))
def KeysAt (H : Hp) (m : List MEnt) : Prop := ∀ e ∈ m, KeyAt H e.1 e.2.1
theorem KeyAt.mono {H H' : Hp} {k : MKey} {b : Addr} (x : KeyAt H k b) (t : ∀ c ys, H c = some (.tup ys) → H' c = some (.tup ys)) : KeyAt H' k b := by
  obtain ⟨u, h1, h2⟩ := x
  exact ⟨u, t _ _ h1, t _ _ h2⟩
theorem KeysAt.mono {H H' : Hp} {m : List MEnt} (x : KeysAt H m) (t : ∀ c ys, H c = some (.tup ys) → H' c = some (.tup ys)) : KeysAt H' m := fun e he => (x e he).mono t
abbrev MRel : List MEnt → List (MKey × Addr × Value) → Prop := Paired fun p q => p.1 = q.1 ∧ p.2.1 = q.2.1 ∧ RelV p.2.2 q.2.2
def mAt (m : List MEnt) (k : MKey) : Option V := (m.find? fun e => decide (e.1 = k)).map fun e => e.2.2
def mPut (m : List MEnt) (k : MKey) (b : Addr) (v : V) : List MEnt := if (mAt m k).isSome = true then m.map fun e => if e.1 = k then (e.1, e.2.1, v) else e else m ++ [(k, b, v)]
def memoO (P : Program) (w : World) (a : Addr) (m : List MEnt) : HO := .ext fun h => (m.length ≤ sizeLine ∧ (a == sysModules) = false) ∧ ∃ xs : List (MKey × Addr × Value), MRel m xs ∧
  ∃ o es ep, h.get? a = some o ∧ o.ExactDict ∧ o.data = .dict es ep ∧ es.toList = xs.map (entryOfKey (stKind (mixKind P w))) ∧ (xs.map (·.1)).Nodup
theorem mPut_len (m : List MEnt) (k : MKey) (b : Addr) (v : V) : (mPut m k b v).length ≤ m.length + 1 := by
  unfold mPut
  split
  · rw [List.length_map]; omega
  · rw [List.length_append]; exact Nat.le_refl _
theorem mAt_mem {m : List MEnt} {k : MKey} {v : V} (h : mAt m k = some v) : ∃ e ∈ m, e.1 = k ∧ e.2.2 = v := by
  unfold mAt at h
  obtain ⟨e, he, hv⟩ := Option.map_eq_some_iff.mp h
  exact ⟨e, List.mem_of_find?_eq_some he, by simpa using List.find?_some he, hv⟩
theorem mAt_some {m : List MEnt} {k : MKey} : (∃ e ∈ m, e.1 = k) → ∃ v, mAt m k = some v := by
  rintro ⟨e, he, hk⟩
  unfold mAt
  cases q : m.find? fun e => decide (e.1 = k) with
  | none =>
    have := List.find?_eq_none.mp q e he
    simp [hk] at this
  | some z => exact ⟨_, rfl⟩
theorem mPut_mem {m : List MEnt} {k : MKey} {b : Addr} {v : V} {e : MEnt} (h : e ∈ mPut m k b v) : (∃ e' ∈ m, e'.1 = e.1 ∧ e'.2.1 = e.2.1 ∧ (e = e' ∨ e.1 = k ∧ e.2.2 = v)) ∨ e = (k, b, v) := by
  unfold mPut at h
  split at h
  · obtain ⟨x, hx, rfl⟩ := List.mem_map.mp h
    refine .inl ⟨x, hx, ?_⟩
    split
    · rename_i q
      exact ⟨rfl, rfl, .inr ⟨q, rfl⟩⟩
    · exact ⟨rfl, rfl, .inl rfl⟩
  · rcases List.mem_append.mp h with h | h
    · exact .inl ⟨e, h, rfl, rfl, .inl rfl⟩
    · exact .inr (List.mem_singleton.mp h)
theorem mPut_has (m : List MEnt) (k : MKey) (b : Addr) (v : V) : ∃ e ∈ mPut m k b v, e.1 = k := by
  unfold mPut
  split
  · rename_i q
    cases r : mAt m k with
    | none => rw [r] at q; cases q
    | some y =>
      obtain ⟨e, he, hk, _⟩ := mAt_mem r
      exact ⟨_, List.mem_map.mpr ⟨e, he, rfl⟩, by rw [if_pos hk]; exact hk⟩
  · exact ⟨(k, b, v), List.mem_append.mpr (.inr List.mem_cons_self), rfl⟩
theorem MRel.val {m : List MEnt} {xs : List (MKey × Addr × Value)} (r : MRel m xs) (k : MKey) : RelO (mAt m k) ((atKey xs k).map (·.2)) := by
  induction r with
  | nil => exact True.intro
  | @cons p q ps qs h t ih =>
    obtain ⟨h1, _, h2⟩ := h
    by_cases e : p.1 = k
    · have e' : q.1 = k := h1.symm.trans e
      simp only [mAt, atKey, List.find?_cons, e, e', decide_true]
      exact h2
    · have e' : ¬ q.1 = k := fun z => e (h1.trans z)
      simp only [mAt, atKey, List.find?_cons, e, e', decide_false]
      exact ih
theorem MRel.sets {m : List MEnt} {xs : List (MKey × Addr × Value)} (r : MRel m xs) (k : MKey) {y : V} {u : Value} (ry : RelV y u) : MRel (m.map fun e => if e.1 = k then (e.1, e.2.1, y) else e) (xs.map (putAt k u)) := by
  induction r with
  | nil => exact .nil
  | @cons p q ps qs h t ih =>
    refine .cons ?_ ih
    obtain ⟨h1, h2, h3⟩ := h
    simp only [putAt]
    by_cases e : p.1 = k
    · have e' : q.1 = k := h1.symm.trans e
      rw [if_pos e, if_pos e']
      exact ⟨h1, h2, ry⟩
    · have e' : ¬ q.1 = k := fun z => e (h1.trans z)
      rw [if_neg e, if_neg e']
      exact ⟨h1, h2, h3⟩
theorem MRel.put {m : List MEnt} {xs : List (MKey × Addr × Value)} (r : MRel m xs) (k : MKey) {b : Addr} {y : V} {u : Value} (ry : RelV y u) : MRel (mPut m k b y) (storedH xs k b u) := by
  have e : (mAt m k).isSome = (atKey xs k).isSome := by rw [(r.val k).isSome_eq, Option.isSome_map]
  simp only [mPut, storedH, e]
  split
  · exact r.sets k ry
  · exact Paired.snoc r ⟨rfl, rfl, ry⟩
section
variable {P : Program} {w : World} {H : Hp} {h : Heap} {a b : Addr} {k : MKey} {m : List MEnt}
theorem key_is (ok : HOk P w H h) (x : KeyAt H k b) : (stKind (mixKind P w)).is h k b := by
  obtain ⟨u, h1, h2⟩ := x
  obtain ⟨_, its, r, o, g1, g2, n, g3⟩ := (show ObjOk P w H h b (.tup [.int k.1, .ref u]) from ok b _ h1)
  cases r with
  | cons r1 r2 =>
    cases r2 with
    | cons r3 r4 =>
      cases r4
      obtain ⟨t, rfl⟩ := r1
      cases r3
      exact ⟨o, n, t, u, g1, g2, g3, key_of ok h2⟩
theorem keys_are (ok : HOk P w H h) : ∀ {l : List MEnt} {xs : List (MKey × Addr × Value)}, MRel l xs → KeysAt H l → ∀ v ∈ xs, (stKind (mixKind P w)).is h v.1 v.2.1 := by
  intro l xs r
  induction r with
  | nil => intro _ q hq; cases hq
  | @cons p q ps qs hq t ih =>
    intro x v hv
    rcases List.mem_cons.mp hv with rfl | hv
    · have := key_is ok (x p List.mem_cons_self)
      rw [hq.1, hq.2.1] at this
      exact this
    · exact ih (fun e he => x e (List.mem_cons_of_mem _ he)) v hv
theorem memo_rd (ok : HOk P w H h) (e : H a = some (memoO P w a m)) (x : KeysAt H m) : m.length ≤ sizeLine ∧ (a == sysModules) = false ∧ ∃ xs, MRel m xs ∧ h.DictOfH (stKind (mixKind P w)) a xs := by
  obtain ⟨⟨⟨z, y⟩, xs, r, o, es, ep, h1, h2, h3, h4, h5⟩, _⟩ := (show ObjOk P w H h a (memoO P w a m) from ok a _ e)
  exact ⟨z, y, xs, r, o, es, ep, h1, h2, h3, h4, keys_are ok r x, h5⟩
theorem memo_ok {xs : List (MKey × Addr × Value)} {H' : Hp} (z : m.length ≤ sizeLine) (y : (a == sysModules) = false) (r : MRel m xs) (d : h.DictOfH (stKind (mixKind P w)) a xs) : ObjOk P w H' h a (memoO P w a m) := by
  obtain ⟨o, es, ep, h1, h2, h3, h4, _, h5⟩ := d
  refine ⟨⟨⟨z, y⟩, xs, r, o, es, ep, h1, h2, h3, h4, h5⟩, ⟨o, h1⟩, fun g1 g2 hg hk => ?_⟩
  obtain ⟨q, ys, r', o', es', ep', k1, k2⟩ := hg
  exact ⟨q, ys, r', o', es', ep', hk _ k1, k2⟩
end
section
variable {X : Cx} {pins : List (Addr × Obj)} {σ : St} {H : Hp} {s : Shared} {a b : Addr} {k : MKey} {m : List MEnt} {A : Around} {E : Value → Shared → Prop}
theorem st_room (hu : A.units + 2 < cLine) : (stKind (mixKind X.prog X.w)).room A.in1 := by
  show A.in1.units + 1 < cLine
  have : A.in1.units = A.units + 1 := rfl
  omega
theorem me_get {v : V} {Q : Value → Shared → Prop} (hu : A.units + 2 < cLine) (I : Inv X pins σ H s) (e : H a = some (memoO X.prog X.w a m)) (x : KeysAt H m) (hb : KeyAt H k b) (l : mAt m k = some v) (h : ∀ u s', Inv X pins σ H s' → RelV v u → Q u s') :
    wpAny (model X.prog X.w) A (getItem (.ref a) (.ref b)) Q E s := by
  obtain ⟨_, _, xs, r, d⟩ := memo_rd I.hok e x
  obtain ⟨u, hw, rw'⟩ := RelO.some_of (v := v) (o := (atKey xs k).map (·.2)) (by rw [← l]; exact r.val k)
  obtain ⟨p, hp, rfl⟩ := Option.map_eq_some_iff.mp hw
  exact wpAny_getItem_heap (st_room (X := X) hu) (key_is I.hok hb) d hp (h _ _ (I.tok _) rw')
theorem me_notIn {Q : Value → Shared → Prop} (hu : A.units + 2 < cLine) (I : Inv X pins σ H s) (e : H a = some (memoO X.prog X.w a m)) (x : KeysAt H m) (hb : KeyAt H k b) (h : ∀ s', Inv X pins σ H s' → Q (.bool (!(mAt m k).isSome)) s') :
    wpAny (model X.prog X.w) A (compareOp .NotIn (.ref b) (.ref a)) Q E s := by
  obtain ⟨_, nd, xs, r, d⟩ := memo_rd I.hok e x
  refine PyProof.Rows.wpAny_notIn_heap (st_room (X := X) hu) (key_is I.hok hb) nd d ?_
  have q := (r.val k).isSome_eq
  rw [Option.isSome_map] at q
  rw [← q]
  exact h _ (I.tok _)
theorem me_put {v : V} {u : Value} {Q : Unit → Shared → Prop} (hu : A.units + 2 < cLine) (I : Inv X pins σ H s) (e : H a = some (memoO X.prog X.w a m)) (x : KeysAt H m) (hb : KeyAt H k b) (l : m.length < sizeLine) (rv : RelV v u)
    (h : ∀ s', Inv X pins σ (upd H a (memoO X.prog X.w a (mPut m k b v))) s' → Q () s') : wpAny (model X.prog X.w) A (setItem (.ref a) (.ref b) u) Q E s := by
  obtain ⟨_, nd, xs, r, d⟩ := memo_rd I.hok e x
  have len := mPut_len m k b v
  have hz : xs.length ≤ sizeLine := by rw [← Paired.length r]; omega
  refine wpAny_setItem_heap (hsz := hz) (st_room (X := X) hu) (key_is I.hok hb) d fun h' d' hs => h _ ?_
  have he : ∃ q, h'.get? a = some q := let ⟨q, _, _, hq, _⟩ := d'; ⟨q, hq⟩
  exact d_write I (by rw [e]; exact True.intro) hs he (memo_ok (by omega) nd (r.put k rv) d')
end
/-- y not in d, d[y], d[y] = v -/
def tMNotIn (X : Cx) (ty td : TE) : TE := fun σ H Q => ty σ H fun y H1 => td σ H1 fun x H2 => ∃ a b k m, x = .ref a ∧ y = .ref b ∧ KeyAt H2 k b ∧ H2 a = some (memoO X.prog X.w a m) ∧ KeysAt H2 m ∧ Q (.bl (!(mAt m k).isSome)) H2
def tMGet (X : Cx) (td ty : TE) : TE := fun σ H Q => td σ H fun x H1 => ty σ H1 fun y H2 => ∃ a b k m v, x = .ref a ∧ y = .ref b ∧ KeyAt H2 k b ∧ H2 a = some (memoO X.prog X.w a m) ∧ KeysAt H2 m ∧ mAt m k = some v ∧ Q v H2
def sMPut (X : Cx) (td ty tv : TE) : TS := fun D σ H => tv σ H fun v H1 => td σ H1 fun x H2 => ty σ H2 fun y H3 => ∃ a b k m, x = .ref a ∧ y = .ref b ∧ KeyAt H3 k b ∧ H3 a = some (memoO X.prog X.w a m) ∧ KeysAt H3 m ∧ m.length < sizeLine ∧
  D.nx σ (upd H3 a (memoO X.prog X.w a (mPut m k b v)))
def tMNew (X : Cx) : TE := fun _ H Q => ∀ p, H p = none → Q (.ref p) (upd H p (memoO X.prog X.w p []))
section
variable {X : Cx} {o i value : Expr} {pos pos' : Pos} {td ty tv : TE}
theorem memo_type {pins : List (Addr × Obj)} {σ : St} {H : Hp} {s : Shared} {a : Addr} {m : List MEnt} (I : Inv X pins σ H s) (e : H a = some (memoO X.prog X.w a m)) (x : KeysAt H m) : s.TypeIs (.ref a) "dict" := by
  obtain ⟨_, _, xs, _, d⟩ := memo_rd I.hok e x
  exact d.typeIs
theorem pe_mget (hu : X.A.units + 2 < cLine) (ho : PE X o td) (hi : PE X i ty) (hs : NoSl i) : PE X (.Subscript o i pos) (tMGet X td ty) := by
  refine ⟨fun pins s σ H Q I h => ?_⟩
  refine subD_of PySem.F.slot_dict_getitem.lookup hs (thn (ho.run pins s σ H _ I h) fun u s1 hh => ?_)
  obtain ⟨x, H1, I1, rx, q1⟩ := hh
  refine thn (hi.run pins s1 σ H1 _ I1 q1) fun iv s2 hh => ?_
  obtain ⟨y, H2, I2, ry, a, b, k, m, v, rfl, rfl, hb, e, hm, l, q2⟩ := hh
  cases rx; cases ry
  exact ⟨memo_type I2 e hm, me_get hu I2 e hm hb l fun w' s3 I3 rw' => ⟨v, H2, I3, rw', q2⟩⟩
theorem pc_mnotin (hu : X.A.units + 2 < cLine) (hi : PE X i ty) (ho : PE X o td) : PC X .NotIn i o (tMNotIn X ty td) := by
  refine ⟨fun pins s σ H Q I h => ?_⟩
  refine thn (hi.run pins s σ H _ I h) fun iv s1 hh => ?_
  obtain ⟨y, H1, I1, ry, q1⟩ := hh
  refine thn (ho.run pins s1 σ H1 _ I1 q1) fun u s2 hh => ?_
  obtain ⟨x, H2, I2, rx, a, b, k, m, rfl, rfl, hb, e, hm, q2⟩ := hh
  cases rx; cases ry
  exact me_notIn hu I2 e hm hb fun s3 I3 => ⟨.bl (!(mAt m k).isSome), H2, I3, rfl, q2⟩
theorem ps_mput (hu : X.A.units + 2 < cLine) (ho : PE X o td) (hi : PE X i ty) (hv : PE X value tv) (hs : swapsWith value (some (.Subscript o i pos')) pos.line X.env = pure false) : PS X (.Assign [.Subscript o i pos'] value pos) (sMPut X td ty tv) := by
  refine ⟨fun pins s σ H D I h => ?_⟩
  refine wpAny_Assign_Subscript (thn (hv.run pins s σ H _ I h) fun r s1 hh => ?_) hs
  obtain ⟨v, H1, I1, rv, q1⟩ := hh
  refine thn (ho.run pins s1 σ H1 _ I1 q1) fun u s2 hh => ?_
  obtain ⟨x, H2, I2, rx, q2⟩ := hh
  refine thn (hi.run pins s2 σ H2 _ I2 q2) fun iv s3 hh => ?_
  obtain ⟨y, H3, I3, ry, a, b, k, m, rfl, rfl, hb, e, hm, l, q3⟩ := hh
  cases rx; cases ry
  exact me_put hu I3 e hm hb l rv fun s4 I4 => ⟨σ, _, I4, q3⟩
theorem pe_mnew : PE X (.Dict [] [] pos) (tMNew X) := by
  refine ⟨fun pins s σ H Q I h => ?_⟩
  have hb := I.big
  refine wpAny_Dict_empty ⟨.ref s.heap.objs.size, _, I.laid (a := s.heap.objs.size) (o := memoO X.prog X.w s.heap.objs.size []) (t' := s.toks) (fun _ _ q => Heap.get?_push_of_some _ q) (Nat.le_refl _) ?_, rfl, h _ (I.hok.fresh (Nat.le_refl _))⟩
  exact memo_ok (Nat.zero_le _) (beq_eq_false_iff_ne.mpr (Ne.symm (Nat.ne_of_lt hb))) .nil (Heap.DictOfH.new s.heap)
end
end Gm

/-! zip of a list and a tuple of one length -/
namespace L2
open PySem PySem.Spec PyProof.Rows
def Itzm (K : PySem.W.Frag) (a b : Addr) : It :=
  ⟨fun i H => ∃ (xs ys : List V), SqL K H a xs ∧ SqT K H b ys ∧ i < xs.length ∧ i < ys.length,
    fun i H v H' => ∃ T x y, v = .ref T ∧ H T = none ∧ H' = upd H T (.tup [x, y]) ∧ (∀ xs, SqL K H a xs → xs[i]? = some x) ∧ ∀ ys, SqT K H b ys → ys[i]? = some y,
    fun i H => ∃ xs ys : List V, SqL K H a xs ∧ SqT K H b ys ∧ i = xs.length ∧ i = ys.length⟩
theorem zm_sep {n a b : Nat} (ha : a < n) (hb : b < n) : ZipSep2 (n + 4) (n + 2) (n + 3) n (n + 1) [n, a] [n + 1, b] := by
  constructor <;> first | (refine PySem.W.neN ?_; omega) | (intro z; simp only [List.mem_cons, List.not_mem_nil, or_false] at z; rcases z with z | z <;> (have z : (_ : Nat) = _ := z; omega)) | (simp; done)
theorem turn_zipm {P : Program} {w : World} {K : PySem.W.Frag} {elts : List Expr} {kk : Nat} {tpos : Pos} {a b z TI TO i1 i2 : Addr} (D : ZipSep2 z TI TO i1 i2 [i1, a] [i2, b]) (ha1 : a ≠ i1) (hb2 : b ≠ i2) :
    Turn P w K (.Tuple elts kk tpos) (Itzm K a b) [z, TI, TO, i1, i2] z (fun i h => IsZip h z TI TO .none ∧ IsTupOf2 h TI (.ref i1) (.ref i2) ∧ (∃ x y, IsTupOf2 h TO x y) ∧ h.IsListIter i1 a i ∧ h.IsTupleIter i2 b i) where
  mem := by simp
  obj := fun i h st c hc => by
    obtain ⟨hz, hTI, ⟨x, y, hTO⟩, ⟨o1, e1, _, d1⟩, ⟨o2, e2, _, d2⟩⟩ := st
    have q : c = z ∨ c = TI ∨ c = TO ∨ c = i1 ∨ c = i2 := by simpa using hc
    rcases q with rfl | rfl | rfl | rfl | rfl
    · exact ⟨_, hz, fun v q => nomatch q⟩
    · exact ⟨_, hTI, fun v q => nomatch q⟩
    · exact ⟨_, hTO, fun v q => nomatch q⟩
    · exact ⟨o1, e1, fun v q => by rw [d1] at q; cases q⟩
    · exact ⟨o2, e2, fun v q => by rw [d2] at q; cases q⟩
  keep := fun i h h' st k => by
    obtain ⟨hz, hTI, ⟨x, y, hTO⟩, h1, h2⟩ := st
    exact ⟨k z (by simp) _ hz, k TI (by simp) _ hTI, ⟨x, y, k TO (by simp) _ hTO⟩, h1.at fun o q => k i1 (by simp) o q, h2.at fun o q => k i2 (by simp) o q⟩
  item := by
    intro X hP hw hK hc i pins s σ H E I hf st hg
    subst hP hw hK
    obtain ⟨hz, hTI, ⟨a0, b0, hTO⟩, h1, h2⟩ := st
    obtain ⟨xs, ys, hxs, hys, l1, l2⟩ := hg
    obtain ⟨its, rv, p, _⟩ := I.list hxs
    obtain ⟨its2, rv2, p2, _⟩ := I.tuple hys
    have e1 := rv.length
    have e2 := rv2.length
    have lz : z < s.heap.objs.size := Heap.lt_size hz
    refine wpAny_pyNext_zipD2_item (St1 := fun i h => h.IsListIter i1 a i ∧ h.IsList a its.toArray) (St2 := fun i h => h.IsTupleIter i2 b i ∧ h.IsTuple b its2.toArray) D (Draws.list (A := X.A.in1) (show X.A.in1.handled = none from I.ok.hd hc) i1 a ha1 its.toArray) (Draws.tuple (A := X.A.in1) (show X.A.in1.handled = none from I.ok.hd hc) i2 b hb2 its2.toArray) hz hTI hTO ⟨h1, p.isList⟩ ⟨h2, p2⟩ (by simp; omega) (by simp; omega) fun u u2 h' tk q1 q2 z' TO' h1' h2' hT hsz hk => ?_
    have q1 : its[i]? = some u := by simpa using q1
    have q2 : its2[i]? = some u2 := by simpa using q2
    obtain ⟨x, hx⟩ : ∃ x, xs[i]? = some x := ⟨_, List.getElem?_eq_getElem l1⟩
    obtain ⟨y, hy⟩ : ∃ y, ys[i]? = some y := ⟨_, List.getElem?_eq_getElem l2⟩
    obtain ⟨u', hu, ru⟩ := rv.get hx
    obtain ⟨u2', hu2, ru2⟩ := rv2.get hy
    obtain rfl : u' = u := Option.some.inj (hu.symm.trans q1)
    obtain rfl : u2' = u2 := Option.some.inj (hu2.symm.trans q2)
    refine ⟨_, rfl, wpAny_letOwnedTupleGo_zip (s := { s with heap := h', toks := tk }) z' fun g z'' sb => ?_⟩
    have hT2 := (sb.2 _ (Nat.ne_of_gt lz)).trans hT
    have fresh : ObjOk X.prog X.w (upd H s.heap.objs.size (.tup [x, y])) g s.heap.objs.size (.tup [x, y]) :=
      ⟨by show 2 ≤ sizeLine; decide, _, .cons ru (.cons ru2 .nil), ⟨_, hT2, rfl, _, rfl⟩⟩
    have J : Inv X pins σ (upd H s.heap.objs.size (.tup [x, y])) { s with heap := g, toks := tk } := by
      refine I.turnedNew (ch := [z, TI, TO, i1, i2]) (fun b o hb q => ?_) hf (Nat.le_refl _) fresh
      have nb : b ≠ z ∧ b ≠ TI ∧ b ≠ TO ∧ b ≠ i1 ∧ b ≠ i2 := by simpa using hb
      exact (sb.2 b nb.1).trans (hk b o nb.1 nb.2.2.1 nb.2.2.2.1 nb.2.2.2.2 q)
    refine ⟨.ref s.heap.objs.size, _, J, rfl, ⟨_, x, y, rfl, I.hok.fresh (Nat.le_refl _), rfl, fun l hl => by rw [I.list_inj hl hxs]; exact hx, fun l hl => by rw [I.tuple_inj hl hys]; exact hy⟩, ⟨z'', ?_, ⟨_, _, (sb.2 _ D.TOz).trans TO'⟩, ?_, ?_⟩, fun b hb => ?_⟩
    · exact (sb.2 _ D.TIz).trans (hk _ _ D.TIz D.TITO D.TIi1 D.TIi2 hTI)
    · exact h1'.1.at fun o q => (sb.2 _ D.zi1.symm).trans q
    · exact h2'.1.at fun o q => (sb.2 _ D.zi2.symm).trans q
    · have hlt : b < s.heap.objs.size := by
        have q : b = z ∨ b = TI ∨ b = TO ∨ b = i1 ∨ b = i2 := by simpa using hb
        obtain ⟨o1, e1, _⟩ := h1
        obtain ⟨o2, e2, _⟩ := h2
        rcases q with rfl | rfl | rfl | rfl | rfl
        · exact lz
        · exact Heap.lt_size hTI
        · exact Heap.lt_size hTO
        · exact Heap.lt_size e1
        · exact Heap.lt_size e2
      rw [upd_ne (Nat.ne_of_lt hlt)]
      exact (hf b hb).1
  done := by
    intro X hP hw hK hc i pins s σ H E I hf st hg
    subst hP hw hK
    obtain ⟨hz, hTI, ⟨a0, b0, hTO⟩, h1, h2⟩ := st
    obtain ⟨xs, ys, hxs, hys, l1, l2⟩ := hg
    obtain ⟨its, rv, p, _⟩ := I.list hxs
    obtain ⟨its2, rv2, p2, _⟩ := I.tuple hys
    have e1 := rv.length
    have e2 := rv2.length
    refine wpAny_pyNext_zipD2_end (St1 := fun i h => h.IsListIter i1 a i ∧ h.IsList a its.toArray) (St2 := fun i h => h.IsTupleIter i2 b i ∧ h.IsTuple b its2.toArray) D (Draws.list (A := X.A.in1) (show X.A.in1.handled = none from I.ok.hd hc) i1 a ha1 its.toArray) (Draws.tuple (A := X.A.in1) (show X.A.in1.handled = none from I.ok.hd hc) i2 b hb2 its2.toArray) hz hTI hTO ⟨h1, p.isList⟩ ⟨h2, p2⟩ (by simp; omega) (by simp; omega) (.inl (by simp; omega)) fun h' tk hk => ⟨rfl, I.turnedL (ch := [z, TI, TO, i1, i2]) (fun b o hb q => ?_) hf⟩
    have nb : b ≠ z ∧ b ≠ TI ∧ b ≠ TO ∧ b ≠ i1 ∧ b ≠ i2 := by simpa using hb
    exact hk b o nb.1 nb.2.2.1 nb.2.2.2.1 nb.2.2.2.2 q
  self := fun A i s Q E st h => wpAny_pyIter_zip st.1 h
def iZipm (K : PySem.W.Frag) (ta : TA) : TI := fun σ H R => ta σ H fun vs H1 => ∃ a b xs ys, vs = [.ref a, .ref b] ∧ SqL K H1 a xs ∧ SqT K H1 b ys ∧ R (Itzm K a b) H1
theorem pi_zipm {X : Cx} {e e2 : Expr} {ta : TA} {p pos tpos : Pos} {elts : List Expr} {kk : Nat} (hg : Gl X "zip") (hm : X.mg "zip" = none) (ha : PA X [e, e2] ta)
    (hs : starEach [e, e2] X.env = (false, eval e X.env) :: starEach [e2] X.env := by rfl) (hpl : (backTo pos (starEach [e2] X.env)).any (·.1) = false := by rfl) :
    PI X (.Tuple elts kk tpos) (.Call (.Name "zip" p) [e, e2] [] pos) (iZipm X.K ta) := by
  refine ⟨fun pins s σ H R I h => ?_⟩
  refine Call_ (ld_blt I hg hm PyProof.Rows.boot_zip (PyProof.Rows.callWith_type1 (thn (ha.run pos pins s σ H _ I h) fun us s1 hh => ?_) hs hpl))
  obtain ⟨vs, H1, I1, r1, a, b, xs, ys, rfl, hxs, hys, q⟩ := hh
  cases r1 with
  | cons r rr =>
    cases rr with
    | cons r' rr =>
      cases rr
      cases r
      cases r'
      obtain ⟨its, rv, p1, _⟩ := I1.list hxs
      obtain ⟨its2, rv2, p2, _⟩ := I1.tuple hys
      obtain ⟨o2, ho2, _⟩ := id p2
      have la : a < s1.heap.objs.size := p1.lt
      have lb : b < s1.heap.objs.size := Heap.lt_size ho2
      refine zip_begins2 (begins_list a its.toArray) (begins_tuple b its2.toArray) p1.isList p2 fun h' hz hTI hTO h1 h2 hsz hk => wpAny_pyIter_zip hz ?_
      have J : Inv X pins σ H1 { s1 with heap := h' } := I1.kept (t' := s1.toks) hk
      refine ⟨s1.heap.objs.size + 4, [s1.heap.objs.size + 4, s1.heap.objs.size + 2, s1.heap.objs.size + 3, s1.heap.objs.size, s1.heap.objs.size + 1], _, _, H1, rfl, J, turn_zipm (zm_sep la lb) (Nat.ne_of_lt la) (Nat.ne_of_lt (Nat.lt_succ_of_lt lb)), ⟨hz, hTI, ⟨_, _, hTO⟩, ⟨_, h1, rfl, rfl⟩, ⟨_, h2, rfl, rfl⟩⟩, fun c hcm => ?_, q⟩
      have hle : s1.heap.objs.size ≤ c := by
        have q : c = s1.heap.objs.size + 4 ∨ c = s1.heap.objs.size + 2 ∨ c = s1.heap.objs.size + 3 ∨ c = s1.heap.objs.size ∨ c = s1.heap.objs.size + 1 := by simpa using hcm
        rcases q with rfl | rfl | rfl | rfl | rfl
        · exact Nat.le_add_right _ _
        · exact Nat.le_add_right _ _
        · exact Nat.le_add_right _ _
        · exact Nat.le_refl _
        · exact Nat.le_add_right _ _
      exact I1.fpOk hle (I1.hok.fresh hle)
theorem walk_zipm {K : PySem.W.Frag} {a b : Addr} {xs ys : List V} {n : Nat} (h1 : n = xs.length) (h2 : n = ys.length) : Walk (Itzm K a b) n (fun H => SqL K H a xs ∧ SqT K H b ys) (YPair (fun i => xs[i]?) (fun i => ys[i]?)) :=
  ⟨fun i _ hi q => ⟨xs, ys, q.1, q.2, h1 ▸ hi, h2 ▸ hi⟩, fun _ q => ⟨xs, ys, q.1, q.2, h1, h2⟩, fun i H x H' hi q y => by
    obtain ⟨T, u, v, e1, e2, e3, hx, hy⟩ := y
    exact ⟨T, u, v, e1, e2, e3, hx _ q.1, hy _ q.2⟩⟩
end L2

/-! ways to go on, as a number -/
namespace Gm
open PySem
theorem idx_at {c : Nat} : ∀ {l : List Nat} {i : Nat}, l[i]? = some c → (∀ k, k < i → l[k]? ≠ some c) → l.idxOf c = i
  | [], i, h, _ => by simp at h
  | a :: l, 0, h, _ => by
    have : a = c := by simpa using h
    rw [this, List.idxOf_cons_self]
  | a :: l, i + 1, h, n => by
    have h0 : a ≠ c := fun e => n 0 (Nat.succ_pos _) (by simp [e])
    rw [List.idxOf_cons, cond_eq_if, if_neg (by simpa using h0), idx_at (l := l) (i := i) (by simpa using h) fun k hk e => n (k + 1) (Nat.succ_lt_succ hk) (by simpa using e)]
theorem find_one (l : List Nat) (c : Nat) : Txt.find (tx l) (one c) = if c ∈ l then ((l.idxOf c : Nat) : Int) else -1 := by
  have at_ : ∀ k, StrLaws.At (tx l) (one c) (tx l).length k ↔ l[k]? = some c := fun k => by
    have h := StrLaws.subAt_one (tx l) c k
    have e : (tx l).cps.toList = l := by simp
    rw [e] at h
    exact h
  rcases PyProof.Rows.find_whole (tx l) (one c) with ⟨e, n⟩ | ⟨i, e, a, n⟩
  · have : c ∉ l := fun h => by
      obtain ⟨j, hj, hx⟩ := List.getElem_of_mem h
      exact n j ((at_ j).mpr (List.getElem?_eq_some_iff.mpr ⟨hj, hx⟩))
    rw [e, if_neg this]
  · have hi := (at_ i).mp a
    rw [e, if_pos (List.mem_of_getElem? hi), idx_at hi fun k hk q => n k hk ((at_ k).mpr q)]
def owedI (le us : List Int) : Int := ((le.zip us).map fun p => if p.1 - p.2 > 0 then p.1 - p.2 else 0).sum
def bump (us : List Int) (i : Nat) : List Int := us.take i ++ [us.getD i 0 + 1] ++ us.drop (i + 1)
theorem bump_len {us : List Int} {i : Nat} (h : i < us.length) : (bump us i).length = us.length := by
  unfold bump
  simp only [List.length_append, List.length_take, List.length_drop, List.length_cons, List.length_nil]
  omega
/-- those of a that are among b -/
def cc (a b : List Nat) : List Nat := a.filter fun c => decide (c ∈ b)
def wayF (ct : List Nat) (le gr : List Int) : List (List Nat) → List Int → Int
  | [], us => if owedI le us > 0 then 0 else 1
  | a :: al, us => if owedI le us > ((al.length + 1 : Nat) : Int) then 0 else
      ((cc a ct).map fun c => if us.getD (ct.idxOf c) 0 = gr.getD (ct.idxOf c) 0 then 0 else wayF ct le gr al (bump us (ct.idxOf c))).sum +
      (if (a.length : Int) - ((cc a ct).length : Int) > 0 then ((a.length : Int) - ((cc a ct).length : Int)) * wayF ct le gr al us else 0)
/-- the numbers behind one more letter -/
def bumpC (ct : List Nat) (us : List Int) (c : Nat) : List Int := if c ∈ ct then bump us (ct.idxOf c) else us
theorem bumpC_len {ct : List Nat} {us : List Int} {c : Nat} (h : us.length = ct.length) : (bumpC ct us c).length = ct.length := by
  unfold bumpC
  split
  · rename_i m
    rw [bump_len (by rw [h]; exact List.idxOf_lt_length_of_mem m), h]
  · exact h
/-- the ways through a letter -/
def withF (ct : List Nat) (le gr : List Int) (al : List (List Nat)) (us : List Int) (c : Nat) : Int :=
  if c ∈ ct ∧ us.getD (ct.idxOf c) 0 = gr.getD (ct.idxOf c) 0 then 0 else wayF ct le gr al (bumpC ct us c)
theorem cc_mem {a b : List Nat} {c : Nat} : c ∈ cc a b ↔ c ∈ a ∧ c ∈ b := by
  unfold cc
  rw [List.mem_filter]
  exact and_congr_right fun _ => decide_eq_true_iff
theorem cc_le (a b : List Nat) : (cc a b).length ≤ a.length := List.length_filter_le _ _
theorem wayF_cons (ct : List Nat) (le gr : List Int) (a : List Nat) (al : List (List Nat)) (us : List Int) : wayF ct le gr (a :: al) us =
    if owedI le us > ((al.length + 1 : Nat) : Int) then 0 else ((cc a ct).map fun c => withF ct le gr al us c).sum + (if (a.length : Int) - ((cc a ct).length : Int) > 0 then ((a.length : Int) - ((cc a ct).length : Int)) * wayF ct le gr al us else 0) := by
  rw [wayF]
  have e : (cc a ct).map (fun c => if us.getD (ct.idxOf c) 0 = gr.getD (ct.idxOf c) 0 then 0 else wayF ct le gr al (bump us (ct.idxOf c))) = (cc a ct).map fun c => withF ct le gr al us c :=
    List.map_congr_left fun c hc => by
      have hm := (cc_mem.mp hc).2
      unfold withF bumpC
      rw [if_pos hm]
      simp only [hm, true_and]
  rw [e]
/-- how many entries the memory gains at most, if each place has at most b letters -/
def cap (b : Nat) : Nat → Nat
  | 0 => 0
  | r + 1 => (b + 1) * cap b r + 1
theorem cap_mono {b : Nat} {i j : Nat} (h : i ≤ j) : cap b i ≤ cap b j := by
  induction h with
  | refl => exact Nat.le_refl _
  | @step m _ ih =>
    refine Nat.le_trans ih ?_
    show _ ≤ (b + 1) * cap b m + 1
    rw [Nat.succ_mul]
    omega
theorem cap_wide {b c : Nat} (h : b ≤ c) : ∀ r, cap b r ≤ cap c r
  | 0 => Nat.le_refl _
  | r + 1 => Nat.succ_le_succ (Nat.mul_le_mul (Nat.succ_le_succ h) (cap_wide h r))
theorem cap_step (b r : Nat) : b * cap b r + cap b r ≤ cap b (r + 1) := by
  show _ ≤ (b + 1) * cap b r + 1
  rw [Nat.succ_mul]
  omega
/-- the most letters of a place -/
def wideOf (al : List (List Nat)) : Nat := al.foldr (fun a m => max a.length m) 0
theorem wide_le : ∀ {al : List (List Nat)} {a : List Nat}, a ∈ al → a.length ≤ wideOf al
  | b :: al, a, h => by
    show a.length ≤ max b.length (wideOf al)
    rcases List.mem_cons.mp h with rfl | h
    · exact Nat.le_max_left _ _
    · exact Nat.le_trans (wide_le h) (Nat.le_max_right _ _)
theorem wide_of {n : Nat} : ∀ {al : List (List Nat)}, (∀ a ∈ al, a.length ≤ n) → wideOf al ≤ n
  | [], _ => Nat.zero_le _
  | b :: al, h => Nat.max_le.mpr ⟨h b (List.mem_cons_self ..), wide_of fun a m => h a (List.mem_cons_of_mem _ m)⟩
end Gm

namespace Gm
open PySem L2







/-- what an instance of Words holds -/
structure WD where
  al : List (List Nat)
  ct : List Nat
  le : List Int
  gr : List Int
structure WOk (d : WD) : Prop where
  nl : d.le.length = d.ct.length
  ng : d.gr.length = d.ct.length
  na : d.al.length ≤ 6
  a26 : ∀ a ∈ d.al, a.length ≤ 26
  c26 : d.ct.length ≤ 26
abbrev WD.b (d : WD) : Nat := wideOf d.al
theorem WOk.fit {d : WD} (h : WOk d) : cap d.b d.al.length ≤ sizeLine := by
  refine Nat.le_trans (Nat.le_trans (cap_wide (wide_of h.a26) _) (cap_mono h.na)) ?_
  rw [sizeLine_eq]
  decide
def wF (a l g m : Addr) (ct : List Nat) : List (Str × V) := [("allowed", .ref a), ("counted", .str (tx ct)), ("least", .ref l), ("greatest", .ref g), ("known", .ref m)]
theorem wf_al (a l g m : Addr) (ct : List Nat) : (wF a l g m ct).lookup ("allowed" : Str) = some (.ref a) := by
  unfold wF; rfl
theorem wf_ct (a l g m : Addr) (ct : List Nat) : (wF a l g m ct).lookup ("counted" : Str) = some (.str (tx ct)) := by
  have h1 : (("counted" : Str) == "allowed") = false := by decide +kernel
  unfold wF
  rw [List.lookup_cons, h1]; rfl
theorem wf_le (a l g m : Addr) (ct : List Nat) : (wF a l g m ct).lookup ("least" : Str) = some (.ref l) := by
  have h1 : (("least" : Str) == "allowed") = false := by decide +kernel
  have h2 : (("least" : Str) == "counted") = false := by decide +kernel
  unfold wF
  rw [List.lookup_cons, h1, List.lookup_cons, h2]; rfl
theorem wf_gr (a l g m : Addr) (ct : List Nat) : (wF a l g m ct).lookup ("greatest" : Str) = some (.ref g) := by
  have h1 : (("greatest" : Str) == "allowed") = false := by decide +kernel
  have h2 : (("greatest" : Str) == "counted") = false := by decide +kernel
  have h3 : (("greatest" : Str) == "least") = false := by decide +kernel
  unfold wF
  rw [List.lookup_cons, h1, List.lookup_cons, h2, List.lookup_cons, h3]; rfl
theorem wf_kn (a l g m : Addr) (ct : List Nat) : (wF a l g m ct).lookup ("known" : Str) = some (.ref m) := by
  have h1 : (("known" : Str) == "allowed") = false := by decide +kernel
  have h2 : (("known" : Str) == "counted") = false := by decide +kernel
  have h3 : (("known" : Str) == "least") = false := by decide +kernel
  have h4 : (("known" : Str) == "greatest") = false := by decide +kernel
  unfold wF
  rw [List.lookup_cons, h1, List.lookup_cons, h2, List.lookup_cons, h3, List.lookup_cons, h4]; rfl
theorem wf_no (a l g m : Addr) (ct : List Nat) {x : Str} (h : (["allowed", "counted", "least", "greatest", "known"] : List Str).all (fun y => !(x == y)) = true) : (wF a l g m ct).lookup x = none := by
  simp only [List.all_cons, List.all_nil, Bool.and_true, Bool.and_eq_true, Bool.not_eq_true'] at h
  obtain ⟨h1, h2, h3, h4, h5⟩ := h
  unfold wF
  rw [List.lookup_cons, h1, List.lookup_cons, h2, List.lookup_cons, h3, List.lookup_cons, h4, List.lookup_cons, h5]; rfl
/-- the parts that stay -/
def WFix (C : Addr) (H : Hp) (p m : Addr) (d : WD) : Prop := ∃ dx a l g, H p = some (.ins C dx (wF a l g m d.ct)) ∧ H a = some (.lst (d.al.map fun t => V.str (tx t))) ∧ H l = some (.lst (d.le.map V.int)) ∧ H g = some (.lst (d.gr.map V.int))
def keyI (k : Nat) (us : List Int) : MKey := ((k : Int), us.map Sum.inl)
def ways (d : WD) (k : Nat) (us : List Int) : Int := wayF d.ct d.le d.gr (d.al.drop k) us
/-- the memory holds true numbers, at most n -/
def MemOk (P : Program) (w : World) (H : Hp) (m : Addr) (d : WD) (n : Nat) : Prop := ∃ kvs, H m = some (memoO P w m kvs) ∧ KeysAt H kvs ∧ (∀ e ∈ kvs, ∃ k us, e.1 = keyI k us ∧ e.2.2 = .int (ways d k us)) ∧ kvs.length ≤ n
def UsAt (H : Hp) (u : Addr) (us : List Int) : Prop := H u = some (.tup (us.map V.int))
theorem memo_ne {P : Program} {w : World} {H : Hp} {m b : Addr} {kvs : List MEnt} {o : HO} (h : H m = some (memoO P w m kvs)) (e : H b = some o) (n : ∀ φ, o ≠ .ext φ) : b ≠ m := by
  rintro rfl
  rw [h] at e
  exact n _ (Option.some.inj e).symm
theorem WFix.but {P : Program} {w : World} {C : Addr} {H H' : Hp} {p m : Addr} {d : WD} {n : Nat} (x : WFix C H p m d) (y : MemOk P w H m d n) (b : But m H H') : WFix C H' p m d := by
  obtain ⟨dx, a, l, g, h1, h2, h3, h4⟩ := x
  obtain ⟨kvs, hm, _⟩ := y
  exact ⟨dx, a, l, g, b _ _ (memo_ne hm h1 fun _ z => nomatch z) h1, b _ _ (memo_ne hm h2 fun _ z => nomatch z) h2, b _ _ (memo_ne hm h3 fun _ z => nomatch z) h3, b _ _ (memo_ne hm h4 fun _ z => nomatch z) h4⟩
theorem WFix.same {C : Addr} {H H' : Hp} {p m : Addr} {d : WD} (x : WFix C H p m d) (b : Same H H') : WFix C H' p m d := by
  obtain ⟨dx, a, l, g, h1, h2, h3, h4⟩ := x
  exact ⟨dx, a, l, g, b _ _ h1, b _ _ h2, b _ _ h3, b _ _ h4⟩
theorem MemOk.same {P : Program} {w : World} {H H' : Hp} {m : Addr} {d : WD} {n : Nat} (x : MemOk P w H m d n) (b : Same H H') : MemOk P w H' m d n := by
  obtain ⟨kvs, h1, h2, h3⟩ := x
  exact ⟨kvs, b _ _ h1, h2.mono fun c ys q => b _ _ q, h3⟩
theorem MemOk.mono {P : Program} {w : World} {H : Hp} {m : Addr} {d : WD} {n n' : Nat} (x : MemOk P w H m d n) (h : n ≤ n') : MemOk P w H m d n' := by
  obtain ⟨kvs, h1, h2, h3, h4⟩ := x
  exact ⟨kvs, h1, h2, h3, Nat.le_trans h4 h⟩
theorem UsAt.but {P : Program} {w : World} {H H' : Hp} {m u : Addr} {d : WD} {n : Nat} {us : List Int} (x : UsAt H u us) (y : MemOk P w H m d n) (b : But m H H') : UsAt H' u us := by
  obtain ⟨kvs, hm, _⟩ := y
  exact b _ _ (memo_ne hm x fun _ z => nomatch z) x
/-! ### promises -/
def spComm : Sp := fun vs H Q _ => ∃ (a b : List Nat), vs = [.str (tx a), .str (tx b)] ∧ a.length ≤ 26 ∧ ∀ H', Same H H' → Q (.str (tx (cc a b))) H'
def spNone (C : Addr) : Sp := fun vs H Q _ => ∃ (p m : Addr) (d : WD), vs = [.ref p] ∧ WOk d ∧ WFix C H p m d ∧ ∀ H' t, Same H H' → H t = none → UsAt H' t (List.replicate d.ct.length 0) → Q (.ref t) H'
def spUsed (C : Addr) : Sp := fun vs H Q _ => ∃ (p m u : Addr) (d : WD) (us : List Int) (c : Nat), vs = [.ref p, .ref u, .str (one c)] ∧ WOk d ∧ WFix C H p m d ∧ UsAt H u us ∧ us.length = d.ct.length ∧ ∀ H' t, Same H H' → UsAt H' t (bumpC d.ct us c) → Q (.ref t) H'
def spManyF (P : Program) (w : World) (C : Addr) (r : Nat) : Sp := fun vs H Q _ => ∃ (p m u : Addr) (d : WD) (us : List Int) (k n : Nat), vs = [.ref p, .int (k : Int), .ref u] ∧ WOk d ∧ WFix C H p m d ∧ MemOk P w H m d n ∧ UsAt H u us ∧ us.length = d.ct.length ∧ k + r = d.al.length ∧
  n + cap d.b r ≤ sizeLine ∧ ∀ H', But m H H' → MemOk P w H' m d (n + cap d.b r) → Q (.int (ways d k us)) H'
def spManyW (P : Program) (w : World) (C : Addr) (r : Nat) : Sp := fun vs H Q _ => ∃ (p m u : Addr) (d : WD) (us : List Int) (c k n : Nat), vs = [.ref p, .int (k : Int), .ref u, .str (one c)] ∧ WOk d ∧ WFix C H p m d ∧ MemOk P w H m d n ∧ UsAt H u us ∧ us.length = d.ct.length ∧ k + 1 + r = d.al.length ∧
  n + cap d.b r ≤ sizeLine ∧ ∀ H', But m H H' → MemOk P w H' m d (n + cap d.b r) → Q (.int (withF d.ct d.le d.gr (d.al.drop (k + 1)) us c)) H'
def spAddW (P : Program) (w : World) (C : Addr) (r : Nat) : Sp := fun vs H Q _ => ∃ (p m u : Addr) (d : WD) (us : List Int) (k n : Nat), vs = [.ref p, .int (k : Int), .ref u] ∧ WOk d ∧ WFix C H p m d ∧ MemOk P w H m d n ∧ UsAt H u us ∧ us.length = d.ct.length ∧ k + 1 + r = d.al.length ∧
  n + (d.b + 1) * cap d.b r ≤ sizeLine ∧ ∀ H', But m H H' → MemOk P w H' m d (n + (d.b + 1) * cap d.b r) → ∀ a, d.al[k]? = some a →
    Q (.int (((cc a d.ct).map fun c => withF d.ct d.le d.gr (d.al.drop (k + 1)) us c).sum + (if (a.length : Int) - ((cc a d.ct).length : Int) > 0 then ((a.length : Int) - ((cc a d.ct).length : Int)) * wayF d.ct d.le d.gr (d.al.drop (k + 1)) us else 0))) H'
structure TxN (K : PySem.W.Frag) (mg : Str → Option Value) (C : Addr) : Prop where
  cl : Cls K C
  nA : NoAttr K C "allowed"
  nC : NoAttr K C "counted"
  nL : NoAttr K C "least"
  nG : NoAttr K C "greatest"
  nK : NoAttr K C "known"
  len : mg "len" = none
  sum : mg "sum" = none
  max : mg "max" = none
  zip : mg "zip" = none
  tup : mg "tuple" = none
/-! ### slices and sums of tuples, told by what follows -/
theorem sl_any {K : PySem.W.Frag} {H : Hp} {u : Addr} {xs : List V} {lo hi : Option Int} {Q : VK} (e : H u = some (.tup xs)) (k : ∀ H' t, Same H H' → H' t = some (.tup (cutV xs lo hi)) → Q (.ref t) H') : rSlA K (.ref u) lo hi H Q := by
  refine ⟨u, xs, rfl, SqT.of e, fun hw => ?_, fun _ p hp => k _ p (same_upd hp) upd_same⟩
  have ec : cutV xs lo hi = xs := by
    unfold cutV
    rw [hw.1, hw.2]
    simp
  exact k H u (Same.refl H) (by rw [ec]; exact e)
theorem cat_any {K : PySem.W.Frag} {H : Hp} {a b : Addr} {xs ys : List V} {Q : VK} (ea : H a = some (.tup xs)) (eb : H b = some (.tup ys)) (hl : xs.length + ys.length ≤ sizeLine) (k : ∀ H' t, Same H H' → H' t = some (.tup (xs ++ ys)) → Q (.ref t) H') : rCatA K (.ref a) (.ref b) H Q := by
  refine ⟨a, b, xs, ys, rfl, rfl, SqT.of ea, SqT.of eb, hl, fun h => ?_, fun _ h => ?_, fun _ _ p hp => k _ p (same_upd hp) upd_same⟩
  · exact k H b (Same.refl H) (by rw [h, List.nil_append]; exact eb)
  · exact k H a (Same.refl H) (by rw [h, List.append_nil]; exact ea)
theorem cut_to (xs : List V) (i : Nat) (h : i ≤ xs.length) : cutV xs none (some (i : Int)) = xs.take i := by
  unfold cutV
  rw [HT.sIx_none, HT.sIx_nat, Nat.min_eq_left h, List.drop_zero, Nat.sub_zero]
theorem cut_from (xs : List V) (i : Nat) (h : i ≤ xs.length) : cutV xs (some (i : Int)) none = xs.drop i := by
  unfold cutV
  rw [HT.sIx_none, HT.sIx_nat, Nat.min_eq_left h]
  exact List.take_of_length_le (by rw [List.length_drop]; omega)
section
variable {P : Program} {w : World} {K : PySem.W.Frag} {mg : Str → Option Value} {base : Heap}
abbrev nCo : List Str := ["letters", "others", "letter"]
theorem scCo : FnScope nCo ["letters", "others"] (defScope sComm) := ⟨rfl, rfl, rfl, by decide +kernel, rfl, by decide +kernel, by decide +kernel⟩
theorem ok_comm {f : Addr} {fd : FuncData} (F : Fun K "common_letters" "common_letters" sComm f fd) : FnOk P w K mg base CX0 1 f fd ["letters", "others"] spComm := by
  refine F.ok scCo (fun vs H Q E h => ?_) (fun cdv A outer s H vs Q E hr h => ?_)
  · obtain ⟨a, b, rfl, _⟩ := h
    rfl
  · obtain ⟨a, b, rfl, ha, q⟩ := h
    have nd := scCo.nd
    have hline : sizeLine = 16777216 := sizeLine_eq
    refine ⟨_, pss_one (ps_ret (pe_join pe_str (pe_lc (own := [("letter", 2)]) (g := gName 2) (by rfl) nd (pi_str (pv 0)) (blkOk_by (own := [("letter", 2)]) (N := nCo) (sc := defScope sComm) (by decide +kernel))
        (fun _ _ _ _ _ => pg_name (i := 2) nd rfl (Or.inl rfl)) (fun _ _ _ _ _ => pts_one (pt_cmpR op_in_sign (pv 2) (pv 1) rfl)) (fun _ _ _ _ _ => pv 2)))), ?_⟩
    refine ⟨⟨_, rfl⟩, _, rfl, tx a, rfl, fun D hD => ?_⟩
    refine lc_it (walk_str (z := tx a)) (fun i H' => Same H H' ∧ H' D = some (.lst (((a.take i).filter fun c => decide (c ∈ b)).map fun c => V.str (one c)))) ⟨same_upd hD, upd_same⟩ (fun _ _ _ _ => trivial) ?_ ?_
    · rintro i x H1 H2 hi ⟨sm, hD1⟩ ⟨rfl, c, hc, rfl⟩
      have hc' := tx_at hc
      have hlt := (List.getElem?_eq_some_iff.mp hc').1
      have st : (a.take (i + 1)).filter (fun c => decide (c ∈ b)) = (a.take i).filter (fun c => decide (c ∈ b)) ++ (if c ∈ b then [c] else []) := by
        rw [List.take_succ_eq_append_getElem hlt, (List.getElem?_eq_some_iff.mp hc').2, List.filter_append]
        congr 1
        by_cases q : c ∈ b <;> simp [q]
      refine ⟨rfl, _, rfl, _, rfl, c, tx b, rfl, rfl, _, rfl, ?_⟩
      have eb : decide (c ∈ (tx b).cps.toList) = decide (c ∈ b) := by simp
      rw [eb]
      refine ite2 (fun hm => ?_) (fun hm => ?_)
      · rw [if_pos (of_decide_eq_true hm)] at st
        refine ⟨_, rfl, _, hD1, ?_, fun o u e => ?_, ?_⟩
        · have h1 := List.length_filter_le (fun c => decide (c ∈ b)) (a.take i)
          have h2 : (a.take i).length ≤ 26 := by rw [List.length_take]; omega
          rw [List.length_map]
          omega
        · rw [upd_ne (ne_of_none e hD)]
          exact sm o u e
        · rw [upd_same, st, List.map_append]
          rfl
      · rw [if_neg fun z => hm (decide_eq_true z), List.append_nil] at st
        exact ⟨sm, by rw [st]; exact hD1⟩
    · rintro H1 ⟨sm, hD1⟩
      rw [tx_size, List.take_length] at hD1
      refine ⟨_, D, (cc a b).map one, rfl, rfl, .inl (SqL.of (by rw [List.map_map]; exact hD1)), ?_, ?_⟩
      · rw [sum_one, List.length_map]
        have := cc_le a b
        show (cc a b).length + (cc a b).length * 0 ≤ 16777216
        omega
      · show Q (.str (Txt.join (Str.ofString "") ((cc a b).map one))) H1
        rw [join_one]
        exact q H1 sm
abbrev nNo : List Str := ["self", "letter"]
theorem scNo : FnScope nNo ["self"] (defScope sNone) := ⟨rfl, rfl, rfl, by decide +kernel, rfl, by decide +kernel, by decide +kernel⟩
theorem ok_none {f C : Addr} {fd : FuncData} (F : Fun K "none_used" "Words.none_used" sNone f fd) (T : TxN K mg C) : FnOk P w K mg base CX0 1 f fd ["self"] (spNone C) := by
  refine F.ok scNo (fun vs H Q E h => ?_) (fun cdv A outer s H vs Q E hr h => ?_)
  · obtain ⟨p, m, d, rfl, _⟩ := h
    rfl
  · obtain ⟨p, m, d, rfl, ok, ⟨dx, a, l, g, hp, ha, hl, hg⟩, q⟩ := h
    have nd := scNo.nd
    have hline : sizeLine = 16777216 := sizeLine_eq
    refine ⟨_, pss_one (ps_ret (pe_callTy call_tuple_of (by rfl) T.tup (by decide +kernel) (pa_cons (pe_lc (own := [("letter", 1)]) (g := gName 1) (by rfl) nd (pi_str (pe_fld (pv 0) rfl)) (blkOk_by (own := [("letter", 1)]) (N := nNo) (sc := defScope sNone) (by decide +kernel))
        (fun _ _ _ _ _ => pg_name (i := 1) nd rfl (Or.inl rfl)) (fun _ _ _ _ _ => pts_nil) (fun _ _ _ _ _ => pe_int)) pa_nil))), ?_⟩
    refine ⟨_, rfl, p, C, dx, _, _, rfl, hp, T.cl, T.nC, wf_ct a l g m d.ct, tx d.ct, rfl, fun D hD => ?_⟩
    refine lc_it (walk_str (z := tx d.ct)) (fun i H' => Same H H' ∧ H' D = some (.lst ((List.replicate i (0 : Int)).map V.int))) ⟨same_upd hD, upd_same⟩ (fun _ _ _ _ => trivial) ?_ ?_
    · rintro i x H1 H2 hi ⟨sm, hD1⟩ ⟨rfl, c, hc, rfl⟩
      rw [tx_size] at hi
      have c26 := ok.c26
      refine ⟨rfl, _, hD1, by rw [List.length_map, List.length_replicate]; omega, fun o u e => ?_, ?_⟩
      · rw [upd_ne (ne_of_none e hD)]
        exact sm o u e
      · rw [upd_same, List.replicate_succ', List.map_append]
        rfl
    · rintro H1 ⟨sm, hD1⟩
      rw [tx_size] at hD1
      refine ⟨D, _, rfl, .inl ⟨SqL.of hD1, fun t ht => ?_⟩⟩
      exact q _ t (sm.trans (same_upd ht)) (sm.free ht) upd_same
abbrev nUs : List Str := ["self", "used", "letter", "at"]
theorem scUs : FnScope nUs ["self", "used", "letter"] (defScope sUsed) := ⟨rfl, rfl, rfl, by decide +kernel, rfl, by decide +kernel, by decide +kernel⟩
theorem ok_used {f C : Addr} {fd : FuncData} (F : Fun K "used_with" "Words.used_with" sUsed f fd) (T : TxN K mg C) : FnOk P w K mg base CX0 1 f fd ["self", "used", "letter"] (spUsed C) := by
  refine F.ok scUs (fun vs H Q E h => ?_) (fun cdv A outer s H vs Q E hr h => ?_)
  · obtain ⟨p, m, u, d, us, c, rfl, _⟩ := h
    rfl
  · obtain ⟨p, m, u, d, us, c, rfl, ok, ⟨dx, a, l, g, hp, ha, hl, hg⟩, hu, ul, q⟩ := h
    have nd := scUs.nd
    have hline : sizeLine = 16777216 := sizeLine_eq
    refine ⟨_, pss_cons (ps_set (i := 3) nd rfl (Or.inl rfl) (pe_m1 PySem.F.slot_str_find PySem.F.type_str_find mt_find (pe_fld (pv 0) rfl) (pv 2)))
      (pss_cons (ps_if (pt_cmpR op_lt (pv 3) pe_int (nomark _)) (pss_one (ps_ret (pv 1))) pss_nil)
      (pss_one (ps_ret (pe_op op_catA (pe_op op_catA (pe_slice sl_tupA (pv 1) po_none (po_some (pv 3))) (pe_tup (pa_cons (pe_op op_add (pe_ix ix_tup (pv 1) (pv 3) (fun _ _ => rfl)) pe_int) pa_nil))) (pe_slice sl_tupA (pv 1) (po_some (pe_op op_add (pv 3) pe_int)) po_none))))), ?_⟩
    refine ⟨_, rfl, p, C, dx, _, _, rfl, hp, T.cl, T.nC, wf_ct a l g m d.ct, ⟨_, rfl⟩, _, rfl, tx d.ct, one c, rfl, rfl, ?_⟩
    rw [find_one]
    have c26 := ok.c26
    by_cases hm : c ∈ d.ct
    · have hi : d.ct.idxOf c < d.ct.length := List.idxOf_lt_length_of_mem hm
      rw [if_pos hm]
      unfold bumpC at q
      rw [if_pos hm] at q
      generalize d.ct.idxOf c = i at hi q ⊢
      have hiu : i < us.length := by omega
      refine ⟨_, rfl, _, _, rfl, rfl, _, rfl, ?_⟩
      rw [decide_eq_false (show ¬ ((i : Nat) : Int) < 0 by omega)]
      refine iteF ?_
      have ulm : (us.map V.int).length = us.length := List.length_map ..
      refine ⟨_, rfl, _, rfl, _, rfl, sl_any hu fun H1 t1 s1 e1 => ?_⟩
      rw [cut_to _ _ (by omega)] at e1
      refine ⟨_, rfl, _, rfl, u, _, _, _, rfl, rfl, SqT.of (s1 _ _ hu), atI_nat (v := V.int (us.getD i 0)) (by rw [List.getElem?_map, List.getElem?_eq_getElem hiu, List.getD_eq_getElem?_getD, List.getElem?_eq_getElem hiu]; rfl), ?_⟩
      refine ⟨_, _, rfl, rfl, ?_⟩
      refine ⟨by show 1 ≤ sizeLine; omega, fun t2 z2 => ?_⟩
      have s2 := same_upd (o := .tup [V.int (us.getD i 0 + 1)]) z2
      refine cat_any (s2 _ _ e1) upd_same (by rw [List.length_take]; show _ + 1 ≤ sizeLine; omega) fun H3 t3 s3 e3 => ?_
      have s03 := (s1.trans s2).trans s3
      have key : rSlA K (.ref u) (some (((i : Nat) : Int) + 1)) none H3 (fun y H2 => rCatA K (.ref t3) y H2 Q) := by
        refine sl_any (s03 _ _ hu) fun H4 t4 s4 e4 => ?_
        rw [show ((i : Nat) : Int) + 1 = ((i + 1 : Nat) : Int) from rfl, cut_from _ _ (by omega)] at e4
        refine cat_any (s4 _ _ e3) e4 (by rw [List.length_append, List.length_take, List.length_drop]; show _ + 1 + _ ≤ sizeLine; omega) fun H5 t5 s5 e5 => ?_
        refine q H5 t5 ((s03.trans s4).trans s5) ?_
        show H5 t5 = some (.tup ((bump us i).map V.int))
        rw [e5]
        unfold bump
        simp only [List.map_append, List.map_take, List.map_drop, List.map_cons, List.map_nil]
      exact ⟨_, rfl, _, rfl, _, _, rfl, rfl, _, rfl, key⟩
    · rw [if_neg hm]
      unfold bumpC at q
      rw [if_neg hm] at q
      refine ⟨_, rfl, _, _, rfl, rfl, _, rfl, ?_⟩
      exact iteT ⟨_, rfl, q H u (Same.refl H) hu⟩
end
/-! ### the memory -/
theorem keyI_inj {k k' : Nat} {us us' : List Int} (h : keyI k us = keyI k' us') : k = k' ∧ us = us' := by
  unfold keyI at h
  injection h with h1 h2
  refine ⟨by omega, ?_⟩
  have := congrArg (List.map fun x : Key => match x with | .inl i => i | .inr _ => 0) h2
  rw [List.map_map, List.map_map] at this
  simpa [Function.comp_def] using this
abbrev Good (d : WD) (kvs : List MEnt) : Prop := ∀ e ∈ kvs, ∃ k us, e.1 = keyI k us ∧ e.2.2 = .int (ways d k us)
theorem Good.at_ {d : WD} {kvs : List MEnt} (h : Good d kvs) {k : Nat} {us : List Int} {v : V} (e : mAt kvs (keyI k us) = some v) : v = .int (ways d k us) := by
  obtain ⟨x, hx, h1, h2⟩ := mAt_mem e
  obtain ⟨k', us', h3, h4⟩ := h x hx
  obtain ⟨rfl, rfl⟩ := keyI_inj (h3.symm.trans h1)
  exact h2.symm.trans h4
theorem Good.put {d : WD} {kvs : List MEnt} (h : Good d kvs) (k : Nat) (us : List Int) (b : Addr) : Good d (mPut kvs (keyI k us) b (.int (ways d k us))) := by
  intro e he
  rcases mPut_mem he with ⟨x, hx, h1, h2, rfl | ⟨h3, h4⟩⟩ | rfl
  · exact h _ hx
  · exact ⟨k, us, h3, h4⟩
  · exact ⟨k, us, rfl, rfl⟩
theorem keys_put {H : Hp} {kvs : List MEnt} (h : KeysAt H kvs) {k : MKey} {b : Addr} {v : V} (hb : KeyAt H k b) : KeysAt H (mPut kvs k b v) := by
  intro e he
  rcases mPut_mem he with ⟨x, hx, h1, h2, _⟩ | rfl
  · have := h x hx
    rw [h1, h2] at this
    exact this
  · exact hb
theorem upd_tups {P : Program} {w : World} {H : Hp} {m : Addr} {kvs : List MEnt} {o : HO} (h : H m = some (memoO P w m kvs)) : ∀ c ys, H c = some (.tup ys) → upd H m o c = some (.tup ys) := fun c ys e => by
  rw [upd_ne (memo_ne h e fun _ z => nomatch z)]
  exact e
theorem MemOk.updN {P : Program} {w : World} {H : Hp} {m D : Addr} {d : WD} {n : Nat} {o : HO} (x : MemOk P w H m d n) (hn : D ≠ m) (ht : ∀ ys, H D ≠ some (.tup ys)) : MemOk P w (upd H D o) m d n := by
  obtain ⟨kvs, h1, h2, h3⟩ := x
  exact ⟨kvs, by rw [upd_ne hn.symm]; exact h1, h2.mono fun c ys e => by rw [upd_ne (fun z => ht ys (by rw [← z]; exact e))]; exact e, h3⟩
theorem ints_keys (us : List Int) : (us.map (Sum.inl (β := Str))).map kV = us.map V.int := by
  rw [List.map_map]
  rfl
theorem drop_nth {α : Type} {l : List α} {k : Nat} (h : k < l.length) : ∃ x, l[k]? = some x ∧ l.drop k = x :: l.drop (k + 1) := ⟨l[k], List.getElem?_eq_getElem h, (List.getElem_cons_drop h).symm⟩
section
variable {P : Program} {w : World} {K : PySem.W.Frag} {mg : Str → Option Value} {base : Heap}
abbrev nMW : List Str := ["self", "place", "used", "letter", "at"]
theorem scMW : FnScope nMW ["self", "place", "used", "letter"] (defScope sManyW) := ⟨rfl, rfl, rfl, by decide +kernel, rfl, by decide +kernel, by decide +kernel⟩
theorem ok_manyW {r n0 : Nat} {f fU fF C : Addr} {fd fdU fdF : FuncData} (F : Fun K "many_with" "Words.many_with" sManyW f fd) (T : TxN K mg C) (mU : Meth K C "used_with" fU) (GU : FnOk P w K mg base CX0 1 fU fdU ["self", "used", "letter"] (spUsed C)) (bU : Binds K fdU ["self", "used", "letter"] [])
    (mF : Meth K C "many_from" fF) (GF : FnOk P w K mg base CX0 (n0 + 1) fF fdF ["self", "place", "used"] (spManyF P w C r)) (bF : Binds K fdF ["self", "place", "used"] []) : FnOk P w K mg base CX0 (n0 + 2) f fd ["self", "place", "used", "letter"] (spManyW P w C r) := by
  refine F.ok scMW (fun vs H Q E h => ?_) (fun cdv A outer s H vs Q E hr h => ?_)
  · obtain ⟨p, m, u, d, us, c, k, n, rfl, _⟩ := h
    rfl
  · obtain ⟨p, m, u, d, us, c, k, n, rfl, ok, fx, me, hu, ul, kr, cp, q⟩ := h
    have nd := scMW.nd
    have hline : sizeLine = 16777216 := sizeLine_eq
    have hr1 : Room 1 _ := hr.mono (by omega)
    obtain ⟨dx, a, l, g, hp, ha, hl, hg⟩ := _root_.id fx
    refine ⟨_, pss_cons (ps_set (i := 4) nd rfl (Or.inl rfl) (pe_m1 PySem.F.slot_str_find PySem.F.type_str_find mt_find (pe_fld (pv 0) rfl) (pv 3)))
      (pss_cons (ps_if (PW.pt (pw_and (pt_cmpR op_ge (pv 4) pe_int (nomark _)) (pw_and1 (pt_cmpR op_eq (pe_ix ix_tup (pv 2) (pv 4) (fun _ _ => rfl)) (pe_ix ix_list (pe_fld (pv 0) rfl) (pv 4) (fun _ _ => rfl)) (nomark _))))) (pss_one (ps_ret pe_int)) pss_nil)
      (pss_one (ps_ret (pe_meth (pv 0) T.cl mF GF hr bF .nil pass0 (pa_cons (pe_op op_add (pv 1) pe_int) (pa_cons (pe_meth (pv 0) T.cl mU GU hr1 bU .nil pass0 (pa_cons (pv 2) (pa_cons (pv 3) pa_nil))) pa_nil)))))), ?_⟩
    have last : ¬ (c ∈ d.ct ∧ us.getD (d.ct.idxOf c) 0 = d.gr.getD (d.ct.idxOf c) 0) → ∀ v4 : Option V, tMeth C "many_from" (spManyF P w C r) [] E0 (tVar 0) (tCons (tOp (rI0 fun i j => V.int (i + j)) (tVar 1) (tC (V.int 1))) (tCons (tMeth C "used_with" (spUsed C) [] E0 (tVar 0) (tCons (tVar 2) (tCons (tVar 3) tNil))) tNil))
        [some (.ref p), some (.int (k : Int)), some (.ref u), some (.str (one c)), v4] H Q := by
      intro hn v4
      refine ⟨_, rfl, p, dx, _, rfl, hp, wf_no a l g m d.ct (by decide +kernel), _, rfl, _, _, rfl, rfl, _, rfl, p, dx, _, rfl, hp, wf_no a l g m d.ct (by decide +kernel), _, rfl, _, rfl, ?_⟩
      refine ⟨p, m, u, d, us, c, rfl, ok, fx, hu, ul, fun H1 t s1 e1 => ?_⟩
      refine ⟨p, m, t, d, _, k + 1, n, rfl, ok, fx.same s1, me.same s1, e1, bumpC_len ul, kr, cp, fun H2 b2 m2 => ?_⟩
      have := q H2 ((But.of s1).trans b2) m2
      unfold withF at this
      rw [if_neg hn] at this
      exact this
    refine ⟨_, rfl, p, C, dx, _, _, rfl, hp, T.cl, T.nC, wf_ct a l g m d.ct, ⟨_, rfl⟩, _, rfl, tx d.ct, one c, rfl, rfl, ?_⟩
    rw [find_one]
    have c26 := ok.c26
    by_cases hm : c ∈ d.ct
    · have hi : d.ct.idxOf c < d.ct.length := List.idxOf_lt_length_of_mem hm
      rw [if_pos hm]
      have hiu : d.ct.idxOf c < us.length := by omega
      have hig : d.ct.idxOf c < d.gr.length := by have := ok.ng; omega
      refine ⟨_, rfl, _, _, rfl, rfl, _, rfl, ?_⟩
      rw [decide_eq_true (show (0 : Int) ≤ ((d.ct.idxOf c : Nat) : Int) by omega)]
      refine iteT ?_
      refine ⟨_, rfl, _, rfl, u, _, _, _, rfl, rfl, SqT.of hu, atI_nat (v := V.int (us.getD (d.ct.idxOf c) 0)) (by rw [List.getElem?_map, List.getElem?_eq_getElem hiu, List.getD_eq_getElem?_getD, List.getElem?_eq_getElem hiu]; rfl), ?_⟩
      refine ⟨_, rfl, p, C, dx, _, _, rfl, hp, T.cl, T.nG, wf_gr a l g m d.ct, _, rfl, g, _, _, _, rfl, rfl, SqL.of hg, atI_nat (v := V.int (d.gr.getD (d.ct.idxOf c) 0)) (by rw [List.getElem?_map, List.getElem?_eq_getElem hig, List.getD_eq_getElem?_getD, List.getElem?_eq_getElem hig]; rfl), rfl, _, rfl, ?_⟩
      refine ite2 (fun h => ?_) (fun h => ?_)
      · have h := V.int.inj (of_decide_eq_true h)
        have := q H (fun b o _ e => e) (me.mono (Nat.le_add_right _ _))
        unfold withF at this
        rw [if_pos ⟨hm, h⟩] at this
        exact this
      · exact last (fun z => h (decide_eq_true (congrArg V.int z.2))) _
    · rw [if_neg hm]
      refine ⟨_, rfl, _, _, rfl, rfl, _, rfl, ?_⟩
      exact iteF (last (fun z => hm z.1) _)
/-- what add_ways is asked with r places left at the place -/
def spAddW' (P : Program) (w : World) (C : Addr) : Nat → Sp
  | 0 => fun _ _ _ _ => False
  | r + 1 => spAddW P w C r
abbrev nMF : List Str := ["self", "place", "used", "owed", "state", "least", "number"]
theorem scMF : FnScope nMF ["self", "place", "used"] (defScope sManyF) := ⟨rfl, rfl, rfl, by decide +kernel, rfl, by decide +kernel, by decide +kernel⟩
theorem ok_manyF {r n0 : Nat} {f fA C : Addr} {fd fdA : FuncData} (F : Fun K "many_from" "Words.many_from" sManyF f fd) (T : TxN K mg C) (mA : Meth K C "add_ways" fA) (GA : FnOk P w K mg base CX0 n0 fA fdA ["self", "place", "used"] (spAddW' P w C r)) (bA : Binds K fdA ["self", "place", "used"] []) :
    FnOk P w K mg base CX0 (n0 + 1) f fd ["self", "place", "used"] (spManyF P w C r) := by
  refine F.ok scMF (fun vs H Q E h => ?_) (fun cdv A outer s H vs Q E hr h => ?_)
  · obtain ⟨p, m, u, d, us, k, n, rfl, _⟩ := h
    rfl
  · obtain ⟨p, m, u, d, us, k, n, rfl, ok, fx, me, hu, ul, kr, cp, q⟩ := h
    have nd := scMF.nd
    have hline : sizeLine = 16777216 := sizeLine_eq
    obtain ⟨dx, a, l, g, hp, ha, hl, hg⟩ := _root_.id fx
    have hu2 : (A.deeper (PyProof.Rows.envOfC "Words.many_from" (defScope sManyF) s.heap.objs.size f cdv)).units + 2 < cLine := by
      have := hr.un
      omega
    refine ⟨_, pss_cons (ps_set (i := 3) nd rfl (Or.inl rfl) (pe_callB (cr_sum rfl) (by rfl) T.sum (by decide +kernel) (pa_cons (pe_lc (own := [("least", 5), ("number", 6)]) (g := gTup K 2 (gCons (gName 5) (gCons (gName 6) gNil))) (by rfl) nd
          (pi_zipm (by rfl) T.zip (pa_cons (pe_fld (pv 0) rfl) (pa_cons (pv 2) pa_nil))) (blkOk_by (own := [("least", 5), ("number", 6)]) (N := nMF) (sc := defScope sManyF) (by decide +kernel))
          (fun _ _ _ _ _ => by exact pg_tup (by rfl) (pgs_cons (pg_name (i := 5) nd rfl (Or.inl rfl)) (pgs_cons (pg_name (i := 6) nd rfl (Or.inl rfl)) pgs_nil))) (fun _ _ _ _ _ => pts_nil)
          (fun _ _ _ _ _ => pe_callB (call_max2 rfl) (by rfl) T.max (by decide +kernel) (pa_cons pe_int (pa_cons (pe_op op_sub (pv 5) (pv 6)) pa_nil)))) pa_nil)))
      (pss_cons (ps_if (pt_cmpR op_gt (pv 3) (pe_op op_sub (pe_callB call_len_seq (by rfl) T.len PySem.boot_len (pa_cons (pe_fld (pv 0) rfl) pa_nil)) (pv 1)) (nomark _)) (pss_one (ps_ret pe_int)) pss_nil)
      (pss_cons (ps_if (pt_cmpR op_eq (pv 1) (pe_callB call_len_seq (by rfl) T.len PySem.boot_len (pa_cons (pe_fld (pv 0) rfl) pa_nil)) (nomark _)) (pss_one (ps_ret pe_int)) pss_nil)
      (pss_cons (ps_set (i := 4) nd rfl (Or.inl rfl) (pe_tup (pa_cons (pv 1) (pa_cons (pv 2) pa_nil))))
      (pss_cons (ps_if (pt_cmp (pc_mnotin hu2 (pv 4) (pe_fld (pv 0) rfl)) rfl) (pss_one (ps_mput hu2 (pe_fld (pv 0) rfl) (pv 4) (pe_meth (pv 0) T.cl mA GA hr bA .nil pass0 (pa_cons (pv 1) (pa_cons (pv 2) pa_nil))) (by rfl))) pss_nil)
      (pss_one (ps_ret (pe_mget hu2 (pe_fld (pv 0) rfl) (pv 4) (fun _ _ => rfl)))))))), ?_⟩
    have na := ok.na
    have c26 := ok.c26
    have nl := ok.nl
    refine ⟨_, rfl, p, C, dx, _, _, rfl, hp, T.cl, T.nL, wf_le a l g m d.ct, _, rfl, l, u, _, _, rfl, SqL.of hl, SqT.of hu, fun D hD => ?_⟩
    refine lc_it (walk_zipm (n := d.ct.length) (by rw [List.length_map]; exact nl.symm) (by rw [List.length_map]; exact ul.symm)) (fun i H' => Same H H' ∧ H' D = some (.lst ((((d.le.zip us).take i).map fun p => if p.1 - p.2 > 0 then p.1 - p.2 else 0).map V.int)))
      ⟨same_upd hD, upd_same⟩ (fun i H' _ h => ⟨SqL.of (h.1 _ _ hl), SqT.of (h.1 _ _ hu)⟩) ?_ ?_
    · rintro i x H1 H2 hi ⟨sm, hD1⟩ ⟨T1, x1, y1, rfl, hT, rfl, hx, hy⟩
      replace hx : (d.le.map V.int)[i]? = some x1 := hx
      replace hy : (us.map V.int)[i]? = some y1 := hy
      rw [List.getElem?_map, Option.map_eq_some_iff] at hx hy
      obtain ⟨z1, hx, rfl⟩ := hx
      obtain ⟨z2, hy, rfl⟩ := hy
      have hz : (d.le.zip us)[i]? = some (z1, z2) := List.getElem?_zip_eq_some.mpr ⟨hx, hy⟩
      have hlt := (List.getElem?_eq_some_iff.mp hz).1
      refine ⟨T1, _, rfl, SqT.of upd_same, rfl, _, _, rfl, _, _, rfl, rfl, rfl, _, rfl, _, rfl, _, _, rfl, rfl, _, _, rfl, _, (upd_ne (ne_of_none hD1 hT)).trans hD1, ?_, fun b o e => ?_, ?_⟩
      · rw [List.length_map, List.length_map, List.length_take]
        omega
      · rw [upd_ne (ne_of_none e hD)]
        exact (sm.trans (same_upd hT)) b o e
      · rw [upd_same, List.take_succ_eq_append_getElem hlt, (List.getElem?_eq_some_iff.mp hz).2, List.map_append, List.map_append]
        rfl
    rintro H1 ⟨s1, hD1⟩
    have eo : (((d.le.zip us).take d.ct.length).map fun p => if p.1 - p.2 > 0 then p.1 - p.2 else 0).sum = owedI d.le us := by
      rw [List.take_of_length_le (by rw [List.length_zip]; omega)]
      rfl
    refine ⟨D, _, rfl, SqL.of hD1, ?_⟩
    rw [eo]
    have fx1 := fx.same s1
    have me1 := me.same s1
    have hu1 : UsAt H1 u us := s1 _ _ hu
    have hp1 := s1 _ _ hp
    have ha1 := s1 _ _ ha
    refine ⟨_, rfl, _, rfl, p, C, dx, _, _, rfl, hp1, T.cl, T.nA, wf_al a l g m d.ct, a, _, rfl, .inl (SqL.of ha1), _, rfl, _, _, rfl, rfl, _, _, rfl, rfl, _, rfl, ?_⟩
    have lm : ((d.al.map fun t => V.str (tx t)).length : Int) - (k : Int) = (r : Int) := by rw [List.length_map]; omega
    rw [lm]
    have stop : ∀ {v : Int} {H' : Hp}, But m H H' → MemOk P w H' m d n → v = ways d k us → Q (.int v) H' := fun b me' e => e ▸ q _ b (me'.mono (Nat.le_add_right _ _))
    have b1 : But m H H1 := But.of s1
    refine ite2 (fun h => ?_) (fun h => ?_)
    · refine stop b1 me1 ?_
      have h := of_decide_eq_true h
      unfold ways
      cases r with
      | zero =>
        rw [List.drop_of_length_le (by omega)]
        have h : owedI d.le us > 0 := by simpa using h
        rw [wayF, if_pos h]
      | succ r =>
        obtain ⟨x, _, e⟩ := drop_nth (l := d.al) (k := k) (by omega)
        rw [e, wayF_cons, if_pos ?_]
        rw [List.length_drop]
        have : d.al.length - (k + 1) + 1 = r + 1 := by omega
        rw [this]
        exact h
    have hno : ¬ owedI d.le us > (r : Int) := fun z => h (decide_eq_true z)
    refine ⟨_, rfl, _, rfl, p, C, dx, _, _, rfl, hp1, T.cl, T.nA, wf_al a l g m d.ct, a, _, rfl, .inl (SqL.of ha1), rfl, _, rfl, ?_⟩
    rw [List.length_map]
    refine ite2 (fun h => ?_) (fun h => ?_)
    · refine stop b1 me1 ?_
      have h := V.int.inj (of_decide_eq_true h)
      have r0 : r = 0 := by omega
      subst r0
      unfold ways
      have hno : ¬ owedI d.le us > 0 := by simpa using hno
      rw [List.drop_of_length_le (by omega), wayF, if_neg hno]
    have hk : k < d.al.length := by
      have : ¬ (k : Int) = (d.al.length : Nat) := fun z => h (decide_eq_true (congrArg V.int z))
      omega
    obtain ⟨r, rfl⟩ : ∃ r', r = r' + 1 := ⟨r - 1, by omega⟩
    obtain ⟨x, hx, ex⟩ := drop_nth hk
    have ew : ways d k us = ((cc x d.ct).map fun c => withF d.ct d.le d.gr (d.al.drop (k + 1)) us c).sum + (if (x.length : Int) - ((cc x d.ct).length : Int) > 0 then ((x.length : Int) - ((cc x d.ct).length : Int)) * wayF d.ct d.le d.gr (d.al.drop (k + 1)) us else 0) := by
      unfold ways
      rw [ex, wayF_cons, if_neg]
      rw [List.length_drop]
      have : d.al.length - (k + 1) + 1 = r + 1 := by omega
      rw [this]
      exact hno
    have ecap : cap d.b (r + 1) = (d.b + 1) * cap d.b r + 1 := rfl
    rw [ecap] at cp q
    refine ⟨_, rfl, _, rfl, by show 2 ≤ sizeLine; omega, fun b zb => ?_⟩
    have s2 := s1.trans (same_upd (o := .tup [.int (k : Int), .ref u]) zb)
    have eb : upd H1 b (.tup [.int (k : Int), .ref u]) b = some (.tup [.int (k : Int), .ref u]) := upd_same
    generalize upd H1 b (.tup [.int (k : Int), .ref u]) = H2 at s2 eb
    have fx2 := fx.same s2
    obtain ⟨kvs, hm2, ks2, gd2, len2⟩ := me.same s2
    have key2 : KeyAt H2 (keyI k us) b := ⟨u, eb, by rw [show (keyI k us).2 = us.map Sum.inl from rfl, ints_keys]; exact s2 _ _ hu⟩
    refine ⟨_, rfl, _, rfl, p, C, dx, _, _, rfl, s2 _ _ hp, T.cl, T.nK, wf_kn a l g m d.ct, m, b, keyI k us, kvs, rfl, rfl, key2, hm2, ks2, _, rfl, ?_⟩
    cases hat : mAt kvs (keyI k us) with
    | some v =>
      have ev := Good.at_ gd2 hat
      subst ev
      refine iteF ?_
      refine ⟨_, rfl, p, C, dx, _, _, rfl, s2 _ _ hp, T.cl, T.nK, wf_kn a l g m d.ct, _, rfl, m, b, keyI k us, kvs, _, rfl, rfl, key2, hm2, ks2, hat, ?_⟩
      exact q H2 (But.of s2) ⟨kvs, hm2, ks2, gd2, by omega⟩
    | none =>
      refine iteT ?_
      refine ⟨_, rfl, p, dx, _, rfl, s2 _ _ hp, wf_no a l g m d.ct (by decide +kernel), _, rfl, _, rfl, ?_⟩
      refine ⟨p, m, u, d, us, k, n, rfl, ok, fx2, ⟨kvs, hm2, ks2, gd2, len2⟩, s2 _ _ hu, ul, by omega, by omega, fun H3 b3 me3 x' hx' => ?_⟩
      obtain rfl : x' = x := Option.some.inj (hx'.symm.trans hx)
      have hp3 := b3 _ _ (memo_ne hm2 (s2 _ _ hp) fun _ z => nomatch z) (s2 _ _ hp)
      have eb3 := b3 _ _ (memo_ne hm2 eb fun _ z => nomatch z) eb
      have hu3 : UsAt H3 u us := b3 _ _ (memo_ne hm2 (s2 _ _ hu) fun _ z => nomatch z) (s2 _ _ hu)
      obtain ⟨kvs3, hm3, ks3, gd3, len3⟩ := me3
      have key3 : KeyAt H3 (keyI k us) b := ⟨u, eb3, by rw [show (keyI k us).2 = us.map Sum.inl from rfl, ints_keys]; exact hu3⟩
      rw [← ew]
      refine ⟨_, rfl, p, C, dx, _, _, rfl, hp3, T.cl, T.nK, wf_kn a l g m d.ct, _, rfl, m, b, keyI k us, kvs3, rfl, rfl, key3, hm3, ks3, by omega, ?_⟩
      have tups := upd_tups (o := memoO P w m (mPut kvs3 (keyI k us) b (.int (ways d k us)))) hm3
      have key4 := key3.mono tups
      have ks4 := (keys_put (v := .int (ways d k us)) ks3 key3).mono tups
      have gd4 := Good.put gd3 k us b
      have len4 := mPut_len kvs3 (keyI k us) b (.int (ways d k us))
      obtain ⟨v, hv⟩ := mAt_some (mPut_has kvs3 (keyI k us) b (.int (ways d k us)))
      have ev := Good.at_ gd4 hv
      subst ev
      have hp4 : upd H3 m (memoO P w m (mPut kvs3 (keyI k us) b (.int (ways d k us)))) p = some (.ins C dx (wF a l g m d.ct)) := by
        rw [upd_ne (memo_ne hm3 hp3 fun _ z => nomatch z)]
        exact hp3
      refine ⟨_, rfl, p, C, dx, _, _, rfl, hp4, T.cl, T.nK, wf_kn a l g m d.ct, _, rfl, m, b, keyI k us, _, _, rfl, rfl, key4, upd_same, ks4, hv, ?_⟩
      exact q _ (((But.of s2).trans b3).trans But.upd) ⟨_, upd_same, ks4, gd4, by omega⟩
abbrev nAW : List Str := ["self", "place", "used", "counted", "total", "others", "letter"]
theorem scAW : FnScope nAW ["self", "place", "used"] (defScope sAddW) := ⟨rfl, rfl, rfl, by decide +kernel, rfl, by decide +kernel, by decide +kernel⟩
theorem ok_addW {r n0 : Nat} {f fC fW fF C : Addr} {fd fdC fdW fdF : FuncData} (F : Fun K "add_ways" "Words.add_ways" sAddW f fd) (T : TxN K mg C) (GC : FnOk P w K mg base CX0 1 fC fdC ["letters", "others"] spComm) (DC : Df K mg "common_letters" fC fdC ["letters", "others"])
    (mW : Meth K C "many_with" fW) (GW : FnOk P w K mg base CX0 (n0 + 2) fW fdW ["self", "place", "used", "letter"] (spManyW P w C r)) (bW : Binds K fdW ["self", "place", "used", "letter"] [])
    (mF : Meth K C "many_from" fF) (GF : FnOk P w K mg base CX0 (n0 + 1) fF fdF ["self", "place", "used"] (spManyF P w C r)) (bF : Binds K fdF ["self", "place", "used"] []) : FnOk P w K mg base CX0 (n0 + 3) f fd ["self", "place", "used"] (spAddW P w C r) := by
  refine F.ok scAW (fun vs H Q E h => ?_) (fun cdv A outer s H vs Q E hr h => ?_)
  · obtain ⟨p, m, u, d, us, k, n, rfl, _⟩ := h
    rfl
  · obtain ⟨p, m, u, d, us, k, n, rfl, ok, fx, me, hu, ul, kr, cp, q⟩ := h
    have nd := scAW.nd
    have hline : sizeLine = 16777216 := sizeLine_eq
    obtain ⟨dx, a, l, g, hp, ha, hl, hg⟩ := _root_.id fx
    have hr1 : Room 1 _ := hr.mono (by omega)
    have hrF : Room (n0 + 1) _ := hr.mono (by omega)
    refine ⟨_, pss_cons (ps_set (i := 3) nd rfl (Or.inl rfl) (pe_call GC hr1 (by rfl) DC.mg DC.kp DC.b .nil pass0 (pa_cons (pe_ix ix_list (pe_fld (pv 0) rfl) (pv 1) (fun _ _ => rfl)) (pa_cons (pe_fld (pv 0) rfl) pa_nil))))
      (pss_cons (ps_set (i := 4) nd rfl (Or.inl rfl) (pe_callB (cr_sum rfl) (by rfl) T.sum (by decide +kernel) (pa_cons (pe_lc (own := [("letter", 6)]) (g := gName 6) (by rfl) nd (pi_str (pv 3)) (blkOk_by (own := [("letter", 6)]) (N := nAW) (sc := defScope sAddW) (by decide +kernel))
          (fun _ _ _ _ _ => pg_name (i := 6) nd rfl (Or.inl rfl)) (fun _ _ _ _ _ => pts_nil) (fun _ _ _ _ _ => pe_meth (pv 0) T.cl mW GW hr bW .nil pass0 (pa_cons (pv 1) (pa_cons (pv 2) (pa_cons (pv 6) pa_nil))))) pa_nil)))
      (pss_cons (ps_set (i := 5) nd rfl (Or.inl rfl) (pe_op op_sub (pe_callB call_len_str (by rfl) T.len PySem.boot_len (pa_cons (pe_ix ix_list (pe_fld (pv 0) rfl) (pv 1) (fun _ _ => rfl)) pa_nil)) (pe_callB call_len_str (by rfl) T.len PySem.boot_len (pa_cons (pv 3) pa_nil))))
      (pss_cons (ps_if (pt_cmpR op_gt (pv 5) pe_int (nomark _)) (pss_one (ps_aug (i := 4) nd rfl (Or.inl rfl) (pe_op op_mul (pv 5) (pe_meth (pv 0) T.cl mF GF hrF bF .nil pass0 (pa_cons (pe_op op_add (pv 1) pe_int) (pa_cons (pv 2) pa_nil)))) iop_add)) pss_nil)
      (pss_one (ps_ret (pv 4)))))), ?_⟩
    have na := ok.na
    have c26 := ok.c26
    have hk : k < d.al.length := by omega
    obtain ⟨x, hx, ex⟩ := drop_nth hk
    have x26 : x.length ≤ 26 := ok.a26 x (List.mem_of_getElem? hx)
    have xb : x.length ≤ d.b := wide_le (List.mem_of_getElem? hx)
    have e27 : (d.b + 1) * cap d.b r = d.b * cap d.b r + cap d.b r := Nat.succ_mul _ _
    have hxa : (d.al.map fun t => V.str (tx t))[k]? = some (.str (tx x)) := by rw [List.getElem?_map, hx]; rfl
    refine ⟨_, rfl, p, C, dx, _, _, rfl, hp, T.cl, T.nA, wf_al a l g m d.ct, _, rfl, a, _, _, _, rfl, rfl, SqL.of ha, atI_nat hxa, ?_⟩
    refine ⟨_, rfl, p, C, dx, _, _, rfl, hp, T.cl, T.nC, wf_ct a l g m d.ct, ?_⟩
    refine ⟨x, d.ct, rfl, x26, fun H1 s1 => ?_⟩
    have ccl := cc_le x d.ct
    refine ⟨_, rfl, tx (cc x d.ct), rfl, fun D hD => ?_⟩
    have fx1 := fx.same s1
    have me1 := me.same s1
    have nDm : D ≠ m := by
      obtain ⟨kvs, e, _⟩ := me1
      exact (ne_of_none e hD).symm
    refine lc_it (walk_str (z := tx (cc x d.ct))) (fun i H' => (∀ b o, b ≠ m → b ≠ D → H1 b = some o → H' b = some o) ∧ MemOk P w H' m d (n + i * cap d.b r) ∧ H' D = some (.lst ((((cc x d.ct).take i).map fun c => withF d.ct d.le d.gr (d.al.drop (k + 1)) us c).map V.int)))
      ⟨fun b o _ n2 e => by rw [upd_ne n2]; exact e, by rw [Nat.zero_mul, Nat.add_zero]; exact me1.same (same_upd hD), upd_same⟩ (fun _ _ _ _ => trivial) ?_ ?_
    · rintro i y H3 H2 hi ⟨k2, me2, hD2⟩ ⟨rfl, c, hc, rfl⟩
      have hc' := tx_at hc
      have hlt := (List.getElem?_eq_some_iff.mp hc').1
      obtain ⟨kvs, hm2, _⟩ := _root_.id me2
      have keep : ∀ {b : Addr} {o : HO}, H b = some o → (∀ φ, o ≠ .ext φ) → H2 b = some o := fun {b o} e nx => by
        have e1 := s1 _ _ e
        obtain ⟨kv1, hm1, _⟩ := _root_.id me1
        exact k2 b o (memo_ne hm1 e1 nx) (ne_of_none e1 hD) e1
      have fx2 : WFix C H2 p m d := ⟨dx, a, l, g, keep hp (fun _ z => nomatch z), keep ha (fun _ z => nomatch z), keep hl (fun _ z => nomatch z), keep hg (fun _ z => nomatch z)⟩
      have hu2 : UsAt H2 u us := keep hu (fun _ z => nomatch z)
      have room : n + i * cap d.b r + cap d.b r ≤ n + (d.b + 1) * cap d.b r := by
        have : (i + 1) * cap d.b r ≤ (d.b + 1) * cap d.b r := Nat.mul_le_mul_right _ (by omega)
        rw [Nat.succ_mul] at this
        omega
      refine ⟨rfl, _, rfl, p, dx, _, rfl, keep hp (fun _ z => nomatch z), wf_no a l g m d.ct (by decide +kernel), _, rfl, _, rfl, _, rfl, ?_⟩
      refine ⟨p, m, u, d, us, c, k, n + i * cap d.b r, rfl, ok, fx2, me2, hu2, ul, kr, by omega, fun H4 b4 me4 => ?_⟩
      have hD4 : H4 D = _ := b4 D _ nDm hD2
      refine ⟨_, hD4, ?_, fun b o n1 n2 e => ?_, ?_, ?_⟩
      · rw [List.length_map, List.length_map, List.length_take]
        omega
      · rw [upd_ne n2]
        exact b4 b o n1 (k2 b o n1 n2 e)
      · have e' : n + (i + 1) * cap d.b r = n + i * cap d.b r + cap d.b r := by rw [Nat.succ_mul]; omega
        rw [e']
        exact me4.updN nDm fun ys z => by rw [hD4] at z; exact nomatch z
      · rw [upd_same, List.take_succ_eq_append_getElem hlt, (List.getElem?_eq_some_iff.mp hc').2, List.map_append, List.map_append]
        rfl
    rintro H2 ⟨k2, me2, hD2⟩
    rw [tx_size, List.take_length] at hD2
    rw [tx_size] at me2
    have keep : ∀ {b : Addr} {o : HO}, H b = some o → (∀ φ, o ≠ .ext φ) → H2 b = some o := fun {b o} e nx => by
      have e1 := s1 _ _ e
      obtain ⟨kv1, hm1, _⟩ := _root_.id me1
      exact k2 b o (memo_ne hm1 e1 nx) (ne_of_none e1 hD) e1
    have fx2 : WFix C H2 p m d := ⟨dx, a, l, g, keep hp (fun _ z => nomatch z), keep ha (fun _ z => nomatch z), keep hl (fun _ z => nomatch z), keep hg (fun _ z => nomatch z)⟩
    have hu2 : UsAt H2 u us := keep hu (fun _ z => nomatch z)
    have b2 : But m H H2 := fun b o n1 e => k2 b o n1 (ne_of_none (s1 _ _ e) hD) (s1 _ _ e)
    have lim : (cc x d.ct).length * cap d.b r ≤ d.b * cap d.b r := Nat.mul_le_mul_right _ (by omega)
    refine ⟨D, _, rfl, SqL.of hD2, ?_⟩
    refine ⟨_, rfl, p, C, dx, _, _, rfl, keep hp (fun _ z => nomatch z), T.cl, T.nA, wf_al a l g m d.ct, _, rfl, a, _, _, _, rfl, rfl, SqL.of (keep ha (fun _ z => nomatch z)), atI_nat hxa, _, rfl, by rw [tx_len]; omega, ?_⟩
    refine ⟨_, rfl, _, rfl, by rw [tx_len]; omega, _, _, rfl, rfl, ?_⟩
    rw [tx_len, tx_len]
    refine ⟨_, rfl, _, _, rfl, rfl, _, rfl, ?_⟩
    refine ite2 (fun h => ?_) (fun h => ?_)
    · have h := of_decide_eq_true h
      refine ⟨_, rfl, _, rfl, _, rfl, p, dx, _, rfl, keep hp (fun _ z => nomatch z), wf_no a l g m d.ct (by decide +kernel), _, rfl, _, _, rfl, rfl, _, rfl, ?_⟩
      refine ⟨p, m, u, d, us, k + 1, n + (cc x d.ct).length * cap d.b r, rfl, ok, fx2, me2, hu2, ul, by omega, by omega, fun H3 b3 me3 => ?_⟩
      refine ⟨_, _, rfl, rfl, .inl ⟨by omega, by omega⟩, ?_⟩
      have := q H3 (b2.trans b3) (me3.mono (by omega)) x hx
      rw [if_pos h] at this
      exact ⟨_, _, rfl, rfl, _, rfl, this⟩
    · have h : ¬ ((x.length : Int) - ((cc x d.ct).length : Int) > 0) := fun z => h (decide_eq_true z)
      have := q H2 b2 (me2.mono (by omega)) x hx
      rw [if_neg h, Int.add_zero] at this
      exact ⟨_, rfl, this⟩
abbrev nMy : List Str := ["self"]
theorem scMy : FnScope nMy ["self"] (defScope sMany) := ⟨rfl, rfl, rfl, by decide +kernel, rfl, by decide +kernel, by decide +kernel⟩
def spMany (P : Program) (w : World) (C : Addr) : Sp := fun vs H Q _ => ∃ (p m : Addr) (d : WD) (n : Nat), vs = [.ref p] ∧ WOk d ∧ WFix C H p m d ∧ MemOk P w H m d n ∧ n + cap d.b d.al.length ≤ sizeLine ∧
  ∀ H', But m H H' → MemOk P w H' m d (n + cap d.b d.al.length) → Q (.int (ways d 0 (List.replicate d.ct.length 0))) H'
theorem ok_many {n0 : Nat} {f fN fF C : Addr} {fd fdN fdF : FuncData} (F : Fun K "many" "Words.many" sMany f fd) (T : TxN K mg C) (mN : Meth K C "none_used" fN) (GN : FnOk P w K mg base CX0 1 fN fdN ["self"] (spNone C)) (bN : Binds K fdN ["self"] [])
    (mF : Meth K C "many_from" fF) (GF : ∀ r, r ≤ 6 → FnOk P w K mg base CX0 (n0 + 1) fF fdF ["self", "place", "used"] (spManyF P w C r)) (bF : Binds K fdF ["self", "place", "used"] []) : FnOk P w K mg base CX0 (n0 + 2) f fd ["self"] (spMany P w C) := by
  refine F.ok scMy (fun vs H Q E h => ?_) (fun cdv A outer s H vs Q E hr h => ?_)
  · obtain ⟨p, m, d, n, rfl, _⟩ := h
    rfl
  · obtain ⟨p, m, d, n, rfl, ok, fx, me, cp, q⟩ := h
    have nd := scMy.nd
    obtain ⟨dx, a, l, g, hp, ha, hl, hg⟩ := _root_.id fx
    have hr1 : Room 1 _ := hr.mono (by omega)
    refine ⟨_, pss_one (ps_ret (pe_meth (pv 0) T.cl mF (GF d.al.length ok.na) hr bF .nil pass0 (pa_cons pe_int (pa_cons (pe_meth0 (pv 0) T.cl mN GN hr1 bN .nil pass0) pa_nil)))), ?_⟩
    refine ⟨_, rfl, p, dx, _, rfl, hp, wf_no a l g m d.ct (by decide +kernel), _, rfl, p, dx, _, rfl, hp, wf_no a l g m d.ct (by decide +kernel), ?_⟩
    refine ⟨p, m, d, rfl, ok, fx, fun H1 t s1 nt ht => ?_⟩
    refine ⟨p, m, t, d, _, 0, n, rfl, ok, fx.same s1, me.same s1, ht, List.length_replicate .., by omega, by omega, fun H2 b2 me2 => ?_⟩
    exact q H2 ((But.of s1).trans b2) (me2.mono (by omega))
end
end Gm

/-! a loop over the signs of a text whose turn is told which token the sign bears -/
namespace L2
open PySem PySem.Spec PyProof.Rows
section
variable {X : Cx} {pins : List (Addr × Obj)} {σ : St} {H : Hp} {s : Shared}
/-- the local x holds the value u, as the machine has it -/
def Raw (X : Cx) (s : Shared) (x : Str) (u : Value) : Prop := ∃ m, s.heap.Ns X.env.locals m ∧ m x = some u
theorem raw_ld {M : Model} {A : Around} {E : Value → Shared → Prop} {x : Str} {u : Value} {pos : Pos} {Q : Value → Shared → Prop} (ok : X.env.scope.kind = .function) (hk : X.env.kindOf x = some .local) (r : Raw X s x u) (q : Q u s)
    (hd : (x == ("__debug__" : Str)) = false := by decide) : wpAny M A (eval (.Name x pos) X.env) Q E s := let ⟨_, hn, hm⟩ := r
  wpAny_Name (wpAny_loadName_local ok hk hn hm q) hd
theorem var_ld {M : Model} {A : Around} {E : Value → Shared → Prop} {i : Nat} {x : Str} {v : V} {pos : Pos} {Q : Value → Shared → Prop} (I : Inv X pins σ H s) (hN : X.N[i]? = some x) (e : σ[i]? = some (some v)) (hv : Vis X.env.scope x) (q : ∀ u, RelV v u → Q u s)
    (hd : (x == ("__debug__" : Str)) = false := by decide) (hcd : (x == ("__classdict__" : Str)) = false := by decide) : wpAny M A (eval (.Name x pos) X.env) Q E s := by
  obtain ⟨m, hn, hl⟩ := I.loc
  obtain ⟨u, r, ⟨hk, hm⟩ | ⟨hk | hk, c, hc, hcell⟩⟩ := hl i x v hN e hv
  · exact wpAny_Name (wpAny_loadName_local I.ok.kind hk hn hm (q u r)) hd
  · exact wpAny_Name (wpAny_loadName_cell I.ok.kind hk hc hcell (q u r)) hd
  · exact wpAny_Name (wpAny_loadName_free I.ok.kind hk hc hcell (q u r) hcd) hd
theorem raw_set {M : Model} {A : Around} {E : Value → Shared → Prop} {i : Nat} {x : Str} {v : V} {u : Value} {Q : Unit → Shared → Prop} (I : Inv X pins σ H s) (hN : X.N.Nodup) (hi : X.N[i]? = some x) (hk : X.env.kindOf x = some .local) (r : RelV v u)
    (h : ∀ s', Inv X pins (σ.set i (some v)) H s' → Raw X s' x u → s'.toks = s.toks + 1 → Q () s') : wpAny M A (storeName X.env x u) Q E s := by
  obtain ⟨m, hn, hl⟩ := id I.loc
  have hiσ : i < σ.length := I.len ▸ (List.getElem?_eq_some_iff.mp hi).1
  refine wpAny_storeName_local hk hn (fun g hg sb => ?_) (by rw [I.ok.kind]; rfl)
  obtain ⟨oL, _, _, hoL, _⟩ := id hn
  have old : ∀ b o, X.s_0.heap.get? b = some o → g.get? b = s.heap.get? b := fun b o e => sb.2 b (Nat.ne_of_lt (Nat.lt_of_lt_of_le (Heap.lt_size e) I.ok.above))
  have nL : ∀ {b ob}, H b = some ob → b ≠ X.env.locals := fun e q => by
    rw [q, I.free] at e
    cases e
  have tr : HOk X.prog X.w H g := fun b ob e => (I.hok b ob e).stay (fun c w' hc q => (sb.2 c (by
    rcases hc with rfl | hc
    · exact nL e
    · exact nL hc)).trans q) (fun _ q => q) fun _ _ q => q
  have J : Inv X pins (σ.set i (some v)) H { s with heap := g, toks := s.toks + 1 } := {
    ok := I.ok
    os := I.os
    bare := I.bare
    base := ⟨fun b o e n hb hx => (old b o e).trans (I.base.keep b o e n hb hx), fun b o e n hb hx => let ⟨sl, e1⟩ := I.base.slot b o e n hb hx; ⟨sl, (old b o e).trans e1⟩, I.base.free,
      fun b o e hx => let ⟨o', e1⟩ := I.base.there b o e hx; ⟨o', (old b o e).trans e1⟩, I.base.tups, I.base.frzs, I.base.tbls⟩
    loc := ⟨_, hg, fun j y v' e1 e2 e3 => by
      rcases Nat.decEq j i with hj | rfl
      · rw [List.getElem?_set_ne (Ne.symm hj)] at e2
        obtain ⟨u', r', q⟩ := hl j y v' e1 e2 e3
        have ny : y ≠ x := fun e => hj (nodup_ix hN e1 (e ▸ hi))
        exact ⟨u', r', q.elim (fun q => .inl ⟨q.1, by simp [ny, q.2]⟩) fun ⟨k, c, e, z⟩ => .inr ⟨k, c, e, z.sameBut sb (I.cne y c e)⟩⟩
      · cases hi.symm.trans e1
        rw [List.getElem?_set_self hiσ] at e2
        cases e2
        exact ⟨u, r, .inl ⟨hk, by simp⟩⟩⟩
    cell := fun y c e => let ⟨w', z⟩ := I.cell y c e; ⟨w', z.sameBut sb (I.cne y c e)⟩
    free := I.free
    freeC := I.freeC
    pin := fun p hp => let ⟨e, n, ne, nf, d⟩ := I.pin p hp; ⟨(sb.2 p.1 ne).trans e, n, ne, nf, d⟩
    hok := tr
    len := by simpa using I.len }
  exact h _ J ⟨_, hg, by simp⟩ rfl
/-- one turn of a loop over a text: the sign c stands in slot i, its token t is younger than the state -/
def TurnT (X : Cx) (i : Nat) (x : Str) (body : List Stmt) (tb : Nat → TS) : Prop :=
  ∀ (pins : List (Addr × Obj)) (s : Shared) (σ : St) (H : Hp) (D : Ends) (c : Nat) (t : Tok), Inv X pins (σ.set i (some (.str ⟨#[c]⟩))) H s → Raw X s x (.str ⟨#[c]⟩ t) → 1 ≤ t → t < s.toks → tb c D (σ.set i (some (.str ⟨#[c]⟩))) H →
    wpAny (model X.prog X.w) X.A (execs body X.env) (SP X pins D) X.xe s
def tForT (z : TE) (i : Nat) (tb : Nat → TS) : TS := fun D σ H => z σ H fun v H1 => ∃ y, v = .str y ∧ ∃ Pv : Nat → St → Hp → Prop, Pv 0 σ H1 ∧
  (∀ k c σ H, y.cps[k]? = some c → Pv k σ H → tb c { D with nx := Pv (k + 1), ct := Pv (k + 1), bk := D.nx } (σ.set i (some (.str ⟨#[c]⟩))) H) ∧ ∀ σ H, Pv y.cps.size σ H → D.nx σ H
theorem pst_forT {i : Nat} {x : Str} {px pos : Pos} {iter : Expr} {body : List Stmt} {z : TE} {tb : Nat → TS} (hp : PassesOwn (model X.prog X.w) X.A X.env X.xe) (hc : X.calm = true) (hz : PE X iter z) (hN : X.N.Nodup) (hi : X.N[i]? = some x) (hk : X.env.kindOf x = some .local)
    (hb : TurnT X i x body tb) (hs : ∀ x, foldedSetIterable iter X.env x = pure x := by intro _; rfl) : PST X (.For (.Name x px) iter body [] pos) (tForT z i tb) := by
  intro pins s σ H D h0 I h
  refine wpAny_For (thn (PySem.wpAny_toks (hz.run pins s σ H _ I h) |> fun q => wpAny_mono q (fun _ _ x => x) fun _ _ x => x.2) fun v s1 h1 => ?_) hs
  obtain ⟨k1, v', H1, I1, r1, y, rfl, Pv, p0, step, fin⟩ := h1
  obtain ⟨ty, rfl⟩ := r1
  have one : 1 ≤ s1.toks := Nat.le_trans h0 k1
  have go : ∀ (T : String) (hT : T = "str_ascii_iterator" ∨ T = "str_iterator"), codeAny (model X.prog X.w) X.A (.forLoop (.Name x px) (.ref s1.heap.objs.size) body [] X.env) (fun r s' => match r with | .ok f => SP X pins D f s' | .error e => cameBackBy (model X.prog X.w) X.A X.env X.xe e s')
      { s1 with heap := s1.heap.push { cls := .type T, data := .fields #[.str y ty, .int 0 0] } } := by
    intro T hT
    have I2 : Inv X pins σ H1 { s1 with heap := s1.heap.push { cls := .type T, data := .fields #[.str y ty, .int 0 0] } } := I1.kept (t' := s1.toks) fun b o e => Heap.get?_push_of_some _ e
    have fp : FpOk X pins H1 s1.heap.objs.size := I1.fpOk (Nat.le_refl _) (I1.hok.fresh (Nat.le_refl _))
    have no : ["enumerate", "zip", "dict_itemiterator", "dict_reverseitemiterator", "odict_iterator", "itertools.zip_longest", "itertools.pairwise"].contains T = false := by rcases hT with rfl | rfl <;> decide
    refine codeAny_forLoop_any (fun n s' => ∃ k σ' H', n = y.cps.size - k ∧ k ≤ y.cps.size ∧ 1 ≤ s'.toks ∧ Inv X pins σ' H' s' ∧ s'.heap.IsStrIter s1.heap.objs.size T y ty k ∧ H' s1.heap.objs.size = none ∧ Pv k σ' H') ?_ _
      ⟨0, σ, H1, rfl, Nat.zero_le _, one, I2, ⟨_, Heap.get?_push_size _ (by rcases hT with rfl | rfl <;> rfl), rfl, rfl⟩, fp.1, p0⟩
    rintro n s3 ⟨k, σ3, H3, rfl, hk3, o3, I3, it3, f3, p3⟩
    have fp3 : FpOk X pins H3 s1.heap.objs.size := ⟨f3, fp.2⟩
    rcases Nat.lt_or_ge k y.cps.size with hlt | hge
    · have hcx : y.cps[k]? = some y.cps[k] := by simp [hlt]
      have item : ∀ g, g.IsStrIter s1.heap.objs.size T y ty (k + 1) → Heap.SameBut s1.heap.objs.size s3.heap g → wpAny (model X.prog X.w) X.A (letOwnedTupleGo (.Name x px) (.ref s1.heap.objs.size) (.str ⟨#[y.cps[k]]⟩ s3.toks)) (fun _ s₁' =>
          wpAny (model X.prog X.w) X.A (assign (.Name x px) X.env (.str ⟨#[y.cps[k]]⟩ s3.toks)) (fun _ s₂ => wpAny (model X.prog X.w) X.A (execs body X.env) (fun f s₃ => match f with
            | .next | .cont => ∃ m, m < y.cps.size - k ∧ ∃ k σ' H', m = y.cps.size - k ∧ k ≤ y.cps.size ∧ 1 ≤ s₃.toks ∧ Inv X pins σ' H' s₃ ∧ s₃.heap.IsStrIter s1.heap.objs.size T y ty k ∧ H' s1.heap.objs.size = none ∧ Pv k σ' H'
            | .brk => SP X pins D .next s₃
            | .ret v => SP X pins D (.ret v) s₃) X.xe s₂) X.xe s₁') X.xe { s3 with heap := g, toks := s3.toks + 1 } := by
        intro g itg sb
        obtain ⟨og, eg, cg, dg⟩ := id itg
        have I4 : Inv X pins σ3 H3 { s3 with heap := g, toks := s3.toks + 1 } := I3.turned (fun b o hb e => (sb.2 b hb).trans e) fp3.1 fp3.2.1 fp3.2.2.2.1 fp3.2.2.2.2.1 fp3.2.2.2.2.2
        refine go_of (s := { s3 with heap := g, toks := s3.toks + 1 }) eg cg dg no ?_
        have I5 := I4.pinned (fp := [s1.heap.objs.size]) (fun b hb => by rw [List.mem_singleton.mp hb]; exact fp3) (fun b hb => by rw [List.mem_singleton.mp hb]; exact ⟨og, eg, fun v q => by rw [dg] at q; cases q⟩)
        refine wpAny_assign_Name (raw_set (v := .str ⟨#[y.cps[k]]⟩) I5 hN hi hk ⟨_, rfl⟩ fun s6 I6 R6 t6 => ?_)
        have t6 : s6.toks = s3.toks + 2 := t6
        refine thn (PySem.wpAny_toks (hb _ s6 σ3 H3 _ _ s3.toks I6 R6 o3 (by rw [t6]; exact Nat.lt_add_of_pos_right (by decide)) (step k _ σ3 H3 hcx p3)) |> fun q => wpAny_mono q (fun _ _ x => x) fun _ _ x => x.2) fun f s7 q7 => ?_
        obtain ⟨k7, q7⟩ := q7
        have again : ∀ {σ7 : St} {H7 : Hp}, Inv X (pins ++ pinsAt [s1.heap.objs.size] g) σ7 H7 s7 → Pv (k + 1) σ7 H7 → ∃ m, m < y.cps.size - k ∧ ∃ k σ' H', m = y.cps.size - k ∧ k ≤ y.cps.size ∧ 1 ≤ s7.toks ∧ Inv X pins σ' H' s7 ∧ s7.heap.IsStrIter s1.heap.objs.size T y ty k ∧ H' s1.heap.objs.size = none ∧ Pv k σ' H' := fun {σ7 H7} I7 p7 => by
          obtain ⟨e7, n7, _⟩ := I7.pin (s1.heap.objs.size, og) (List.mem_append_right _ (List.mem_append_right _ (mem_pinsAt (List.mem_singleton.mpr rfl) eg)))
          exact ⟨y.cps.size - (k + 1), by omega, k + 1, σ7, H7, rfl, hlt, by omega, I7.unpinned, ⟨og, e7, cg, dg⟩, n7, p7⟩
        cases f with
        | next => obtain ⟨σ7, H7, I7, p7⟩ := q7; exact again I7 p7
        | cont => obtain ⟨σ7, H7, I7, p7⟩ := q7; exact again I7 p7
        | brk => obtain ⟨σ7, H7, I7, p7⟩ := q7; exact ⟨σ7, H7, I7.unpinned, p7⟩
        | ret v => obtain ⟨x7, σ7, H7, I7, r7, p7⟩ := q7; exact ⟨x7, σ7, H7, I7.unpinned, r7, p7⟩
      have all : wpAny (model X.prog X.w) X.A (pyNext (.ref s1.heap.objs.size)) (fun r s₁ => r = some (.str ⟨#[y.cps[k]]⟩ s3.toks) ∧ ∃ g, s₁ = { s3 with heap := g, toks := s3.toks + 1 } ∧ g.IsStrIter s1.heap.objs.size T y ty (k + 1) ∧ Heap.SameBut s1.heap.objs.size s3.heap g) X.xe s3 := by
        rcases hT with rfl | rfl
        · exact wpAny_pyNext_ascii_item it3 hcx fun g itg sb => ⟨rfl, g, rfl, itg, sb⟩
        · exact wpAny_pyNext_wide_item it3 hcx fun g itg sb => ⟨rfl, g, rfl, itg, sb⟩
      refine wpAny_passesOwn hp (thn all fun r s4 hr => ?_)
      obtain ⟨rfl, g, rfl, itg, sb⟩ := hr
      have q := item g itg sb
      refine wpAny_passesOwn hp (thn q fun _ s5 q5 => ?_)
      exact wpAny_passesOwn hp (thn q5 fun _ s6 q6 => wpAny_passesOwn hp q6)
    · have ek : k = y.cps.size := by omega
      subst ek
      have hx : y.cps[y.cps.size]? = none := by simp
      have done : wpAny (model X.prog X.w) X.A (pyNext (.ref s1.heap.objs.size)) (fun r s₁ => r = none ∧ Inv X pins σ3 H3 s₁) X.xe s3 := by
        rcases hT with rfl | rfl
        · exact wpAny_pyNext_ascii_end (I3.ok.hd hc) it3 hx fun g eb => ⟨rfl, I3.turned (t' := s3.toks) (fun b o hb e => eb b o hb e) fp3.1 fp3.2.1 fp3.2.2.2.1 fp3.2.2.2.2.1 fp3.2.2.2.2.2⟩
        · exact wpAny_pyNext_wide_end (I3.ok.hd hc) it3 hx fun g eb => ⟨rfl, I3.turned (t' := s3.toks) (fun b o hb e => eb b o hb e) fp3.1 fp3.2.1 fp3.2.2.2.1 fp3.2.2.2.2.1 fp3.2.2.2.2.2⟩
      refine wpAny_passesOwn hp (thn done fun r s4 hr => ?_)
      obtain ⟨rfl, I4⟩ := hr
      exact wpAny_execs_nil ⟨σ3, H3, I4, fin σ3 H3 p3⟩
  cases ha : y.cps.all (· < 128)
  · exact wpAny_pyIter_wide ha (go _ (.inr rfl))
  · exact wpAny_pyIter_ascii ha (go _ (.inl rfl))
end
end L2

/-! enumerate of a text, with the tokens of its signs -/
namespace L2
open PySem PySem.Spec PyProof.Rows PySem.Builtin.SmallTypes
section
variable {prog : Program} {w : World} {A : Around} {E : Value → Shared → Prop} {s : Shared}
theorem sign_next {I : Addr} {T : String} {x : Str} {t : Tok} {k c : Nat} {Q : Value → Shared → Prop} (hT : T = "str_ascii_iterator" ∨ T = "str_iterator") (st : s.heap.IsStrIter I T x t k) (hc : x.cps[k]? = some c)
    (q : ∀ g, g.IsStrIter I T x t (k + 1) → Heap.SameBut I s.heap g → Q (.str ⟨#[c]⟩ s.toks) { s with heap := g, toks := s.toks + 1 }) : wpAny (model prog w) A (nextOf (.ref I)) Q E s := by
  rcases hT with rfl | rfl
  · exact wpAny_nextOf_ascii_item st hc q
  · exact wpAny_nextOf_wide_item st hc q
theorem enum_body {a I : Addr} {T : String} {x : Str} {t : Tok} {k c : Nat} {old : Value} {Q : Value → Shared → Prop} (hT : T = "str_ascii_iterator" ∨ T = "str_iterator") (en : IsEnum s.heap a I k old) (st : s.heap.IsStrIter I T x t k) (hc : x.cps[k]? = some c) (aI : a ≠ I)
    (q : ∀ g, IsEnumOut g a I ((k : Int) + 1) (.str ⟨#[c]⟩ s.toks) s.heap.objs.size → g.IsStrIter I T x t (k + 1) → g.get? s.heap.objs.size = some { cls := .type "tuple", data := .seq #[.int k (s.toks + 1), .str ⟨#[c]⟩ s.toks] } →
      g.objs.size = s.heap.objs.size + 1 → (∀ b o, b ≠ a → b ≠ I → s.heap.get? b = some o → g.get? b = some o) → Q (.ref s.heap.objs.size) { s with heap := g, toks := s.toks + 2 }) :
    wpAny (model prog w) A (Builtin.«enumerate.__next__» ⟨[.ref a], []⟩) (fun r z => ∃ v, r = .done (.ret v) ∧ Q v z) E s := by
  obtain ⟨h0, g0, d0, k0, o0⟩ := s
  have al : a < h0.objs.size := Heap.lt_size en
  show wpAny _ _ (field (.ref a) 2 >>= _) _ _ _
  refine wpAny_bind (wpAny_field en rfl (x := .ref I) rfl (wpAny_bind (sign_next hT st hc fun h1 st1 b1 => ?_)))
  have b1 : Heap.SameBut I h0 h1 := b1
  have en1 : IsEnum h1 a I k old := (b1.2 a aI).trans en
  show wpAny _ _ (field (.ref a) 3 >>= _) _ _ ⟨h1, g0, d0, k0 + 1, o0⟩
  refine wpAny_bind (wpAny_field en1 rfl (x := rawInt k) rfl ?_)
  show wpAny _ _ (field (.ref a) 4 >>= _) _ _ ⟨h1, g0, d0, k0 + 1, o0⟩
  refine wpAny_bind (wpAny_field en1 rfl (x := .none) rfl ?_)
  show wpAny _ _ (mkInt k >>= _) _ _ ⟨h1, g0, d0, k0 + 1, o0⟩
  refine wpAny_bind (wpAny_mkInt ?_)
  show wpAny _ _ (setField (.ref a) 3 (rawInt ((k : Int) + 1)) >>= _) _ _ ⟨h1, g0, d0, k0 + 2, o0⟩
  refine wpAny_bind (wpAny_setField_rec en1 (by simp) fun h2 en2 b2 => ?_)
  have b2 : Heap.SameBut a h1 h2 := b2
  have en2 : IsEnum h2 a I ((k : Int) + 1) old := en2
  show wpAny _ _ (setField (.ref a) 4 .none >>= _) _ _ ⟨h2, g0, d0, k0 + 2, o0⟩
  refine wpAny_bind (wpAny_setField_rec en2 (by simp) fun h3 en3 b3 => ?_)
  have b3 : Heap.SameBut a h2 h3 := b3
  have en3 : IsEnum h3 a I ((k : Int) + 1) old := en3
  show wpAny _ _ (newTuple [.int k (k0 + 1), .str ⟨#[c]⟩ k0] >>= _) _ _ ⟨h3, g0, d0, k0 + 2, o0⟩
  refine wpAny_bind (wpAny_newTuple ?_)
  have z3 : h3.objs.size = h0.objs.size := (b3.1.trans b2.1).trans b1.1
  have st3 : h3.IsStrIter I T x t (k + 1) := by
    obtain ⟨o, e, r⟩ := st1
    exact ⟨o, (b3.2 I aI.symm).trans ((b2.2 I aI.symm).trans e), r⟩
  have keep3 : ∀ b o, b ≠ a → b ≠ I → h0.get? b = some o → h3.get? b = some o := fun b o n1 n2 e => (b3.2 b n1).trans ((b2.2 b n1).trans ((b1.2 b n2).trans e))
  have en4 : IsEnum (h3.push { cls := .type "tuple", data := .seq #[.int k (k0 + 1), .str ⟨#[c]⟩ k0] }) a I ((k : Int) + 1) old := Heap.get?_push_of_some _ en3
  have T4 : (h3.push { cls := .type "tuple", data := .seq #[.int k (k0 + 1), .str ⟨#[c]⟩ k0] }).get? h0.objs.size = some { cls := .type "tuple", data := .seq #[.int k (k0 + 1), .str ⟨#[c]⟩ k0] } := by rw [← z3]; exact Heap.get?_push_size _ rfl
  have z4 : (h3.push { cls := .type "tuple", data := .seq #[.int k (k0 + 1), .str ⟨#[c]⟩ k0] }).objs.size = h0.objs.size + 1 := by rw [Heap.size_push, z3]
  have st4 : (h3.push { cls := .type "tuple", data := .seq #[.int k (k0 + 1), .str ⟨#[c]⟩ k0] }).IsStrIter I T x t (k + 1) := by
    obtain ⟨o, e, r⟩ := st3
    exact ⟨o, Heap.get?_push_of_some _ e, r⟩
  have keep4 : ∀ b o, b ≠ a → b ≠ I → h0.get? b = some o → (h3.push { cls := .type "tuple", data := .seq #[.int k (k0 + 1), .str ⟨#[c]⟩ k0] }).get? b = some o := fun b o n1 n2 e => Heap.get?_push_of_some _ (keep3 b o n1 n2 e)
  generalize h3.push { cls := .type "tuple", data := .seq #[.int k (k0 + 1), .str ⟨#[c]⟩ k0] } = h4 at en4 T4 z4 st4 keep4
  show wpAny _ _ (ownedTupleIsFree (.ref a) >>= _) _ _ ⟨h4, g0, d0, k0 + 2, o0⟩
  rw [z3]
  refine wpAny_bind ?_
  unfold ownedTupleIsFree
  refine wpAny_bind (wpAny_field en4 rfl (x := .none) rfl (wpAny_pure ?_))
  simp only [if_true]
  refine wpAny_bind (wpAny_rule (wpAny_bind (wpAny_field en4 rfl (x := old) rfl (wpAny_bind (wpAny_setField_rec en4 (by simp) fun h5 en5 b5 => ?_)))))
  have b5 : Heap.SameBut a h4 h5 := b5
  have en5 : IsEnum h5 a I ((k : Int) + 1) (.str ⟨#[c]⟩ k0) := en5
  show wpAny _ _ (ownedTupleHandOut (.ref a) (.ref h0.objs.size) >>= _) _ _ ⟨h5, g0, d0, k0 + 2, o0⟩
  refine wpAny_bind ?_
  unfold ownedTupleHandOut
  refine wpAny_bind (wpAny_setField_rec en5 (by simp) fun h6 en6 b6 => ?_)
  have b6 : Heap.SameBut a h5 h6 := b6
  have en6 : IsEnumOut h6 a I ((k : Int) + 1) (.str ⟨#[c]⟩ k0) h0.objs.size := en6
  refine wpAny_setField_rec en6 (by simp) fun h7 en7 b7 => ?_
  have b7 : Heap.SameBut a h6 h7 := b7
  have en7 : IsEnumOut h7 a I ((k : Int) + 1) (.str ⟨#[c]⟩ k0) h0.objs.size := en7
  have to7 : ∀ {b o}, b ≠ a → h4.get? b = some o → h7.get? b = some o := fun n e => (b7.2 _ n).trans ((b6.2 _ n).trans ((b5.2 _ n).trans e))
  refine wpAny_bind (wpAny_letGo (wpAny_pure ⟨_, rfl, q h7 en7 ?_ (to7 (Nat.ne_of_gt al) T4) ?_ fun b o n1 n2 e => to7 n1 (keep4 b o n1 n2 e)⟩))
  · obtain ⟨o, e, r⟩ := st4
    exact ⟨o, to7 aI.symm e, r⟩
  · rw [b7.1, b6.1, b5.1, z4]
theorem enum_next {a I : Addr} {T : String} {x : Str} {t : Tok} {k c : Nat} {old : Value} {Q : Option Value → Shared → Prop} (hT : T = "str_ascii_iterator" ∨ T = "str_iterator") (en : IsEnum s.heap a I k old) (st : s.heap.IsStrIter I T x t k) (hc : x.cps[k]? = some c) (aI : a ≠ I)
    (q : ∀ g, IsEnumOut g a I ((k : Int) + 1) (.str ⟨#[c]⟩ s.toks) s.heap.objs.size → g.IsStrIter I T x t (k + 1) → g.get? s.heap.objs.size = some { cls := .type "tuple", data := .seq #[.int k (s.toks + 1), .str ⟨#[c]⟩ s.toks] } →
      g.objs.size = s.heap.objs.size + 1 → (∀ b o, b ≠ a → b ≠ I → s.heap.get? b = some o → g.get? b = some o) → Q (some (.ref s.heap.objs.size)) { s with heap := g, toks := s.toks + 2 }) :
    wpAny (model prog w) A (pyNext (.ref a)) Q E s := by
  have ty : s.TypeIs (.ref a) "enumerate" := ⟨_, en, rfl⟩
  unfold pyNext
  refine wpAny_bind (wpAny_attempt (wpAny_callSpecial?_slot (name := Str.ofString "__next__") ty F.slot_enumerate_next (wpAny_call_entry F.slot_enumerate_next ty F.entry_enumerate_next ?_ (F.args_enumerate_next_1 _))))
  refine enum_body hT en st hc aI fun g e1 e2 e3 e4 e5 => ?_
  exact wpAny_pure (q g e1 e2 e3 e4 e5)
end
end L2

/-! a loop over enumerate of a text whose turn is told which token the sign bears -/
namespace L2
open PySem PySem.Spec PyProof.Rows
section
variable {X : Cx}
/-- one turn: the number k in slot i, the sign c in slot j, its token t younger than the state -/
def TurnE (X : Cx) (i j : Nat) (y : Str) (body : List Stmt) (tb : Nat → Nat → TS) : Prop :=
  ∀ (pins : List (Addr × Obj)) (s : Shared) (σ : St) (H : Hp) (D : Ends) (k c : Nat) (t : Tok), Inv X pins ((σ.set i (some (.int (k : Int)))).set j (some (.str ⟨#[c]⟩))) H s → Raw X s y (.str ⟨#[c]⟩ t) → 1 ≤ t → t < s.toks →
    tb k c D ((σ.set i (some (.int (k : Int)))).set j (some (.str ⟨#[c]⟩))) H → wpAny (model X.prog X.w) X.A (execs body X.env) (SP X pins D) X.xe s
def tForE (ta : TA) (i j : Nat) (tb : Nat → Nat → TS) : TS := fun D σ H => ta σ H fun vs H1 => ∃ z : Str, vs = [.str z] ∧ ∃ Pv : Nat → St → Hp → Prop, Pv 0 σ H1 ∧
  (∀ k c σ H, z.cps[k]? = some c → Pv k σ H → tb k c { D with nx := Pv (k + 1), ct := Pv (k + 1), bk := D.nx } ((σ.set i (some (.int (k : Int)))).set j (some (.str ⟨#[c]⟩))) H) ∧ ∀ σ H, Pv z.cps.size σ H → D.nx σ H
theorem pst_forE {i j : Nat} {x y : Str} {px py tpos p cpos fpos : Pos} {kk : Nat} {e : Expr} {body : List Stmt} {ta : TA} {tb : Nat → Nat → TS} (hp : PassesOwn (model X.prog X.w) X.A X.env X.xe) (hc : X.calm = true) (hg : Gl X "enumerate") (hm : X.mg "enumerate" = none) (ha : PA X [e] ta)
    (hN : X.N.Nodup) (hx : PG X (.Name x px) (gName i)) (hj : X.N[j]? = some y) (hk : X.env.kindOf y = some .local) (hb : TurnE X i j y body tb) (h1 : ∀ pins s σ H, Inv X pins σ H s → 1 ≤ s.toks → 1 ≤ s.toks)
    (hst : starEach [e] X.env = [(false, eval e X.env)] := by rfl) (hs : ∀ v, foldedSetIterable (.Call (.Name "enumerate" p) [e] [] cpos) X.env v = pure v := by intro _; rfl)
    (hn : (assignEach [.Name x px, .Name y py] X.env).map (·.2) = [assign (.Name x px) X.env, assign (.Name y py) X.env] := by rfl) (hl : (assignEach [.Name x px, .Name y py] X.env).length = 2 := by rfl) (hf : (assignEach [.Name x px, .Name y py] X.env).findIdx? (·.1) = none := by rfl) :
    PST X (.For (.Tuple [.Name x px, .Name y py] kk tpos) (.Call (.Name "enumerate" p) [e] [] cpos) body [] fpos) (tForE ta i j tb) := by
  intro pins s σ H D h0 I h
  have first : wpAny (model X.prog X.w) X.A (eval (.Call (.Name "enumerate" p) [e] [] cpos) X.env) (fun v s1 => ∃ (z : Str) (t : Tok) (H1 : Hp) (a b : Addr) (T : String), v = .ref a ∧ T = strIterType z ∧ (T = "str_ascii_iterator" ∨ T = "str_iterator") ∧ a ≠ b ∧ IsEnum s1.heap a b ((0 : Nat) : Int) .none ∧ s1.heap.IsStrIter b T z t 0 ∧ Inv X pins σ H1 s1 ∧
      FpOk X pins H1 a ∧ FpOk X pins H1 b ∧ ∃ Pv : Nat → St → Hp → Prop, Pv 0 σ H1 ∧ (∀ k c σ H, z.cps[k]? = some c → Pv k σ H → tb k c { D with nx := Pv (k + 1), ct := Pv (k + 1), bk := D.nx } ((σ.set i (some (.int (k : Int)))).set j (some (.str ⟨#[c]⟩))) H) ∧ ∀ σ H, Pv z.cps.size σ H → D.nx σ H) X.xe s := by
    refine Call_ (ld_blt I hg hm boot_enumerate (PyProof.Rows.callWith_type1 (thn (ha.run cpos pins s σ H _ I h) fun us s1 hh => ?_) hst rfl))
    obtain ⟨vs, H1, I1, r1, z, rfl, Pv, p0, step, fin⟩ := hh
    cases r1 with
    | cons r rr =>
      cases rr
      obtain ⟨t, rfl⟩ := r
      refine enum1_begins (begins_text z t) trivial fun h' he hit keep => ?_
      have J : Inv X pins σ H1 { s1 with heap := h' } := I1.kept (t' := s1.toks) keep
      refine ⟨z, t, H1, _, _, strIterType z, rfl, rfl, ?_, Nat.succ_ne_self _, he, ⟨_, hit, rfl, rfl⟩, J, I1.fpOk (Nat.le_succ _) (I1.hok.fresh (Nat.le_succ _)), I1.fpOk (Nat.le_refl _) (I1.hok.fresh (Nat.le_refl _)), Pv, p0, step, fin⟩
      unfold strIterType
      split
      · exact .inl rfl
      · exact .inr rfl
  refine wpAny_For (thn (PySem.wpAny_toks first |> fun q => wpAny_mono q (fun _ _ x => x) fun _ _ x => x.2) fun v s1 hh => ?_) hs
  obtain ⟨k1, z, tz, H1, a, b, T, rfl, eT, hT, ab, en1, st1, I1, fa, fb, Pv, p0, step, fin⟩ := hh
  have one1 : 1 ≤ s1.toks := Nat.le_trans h0 k1
  refine wpAny_pyIter_enum en1 ?_
  refine codeAny_forLoop_any (fun n s' => ∃ k σ' H', n = z.cps.size - k ∧ k ≤ z.cps.size ∧ 1 ≤ s'.toks ∧ Inv X pins σ' H' s' ∧ (∃ old, IsEnum s'.heap a b ((k : Nat) : Int) old) ∧ s'.heap.IsStrIter b T z tz k ∧ H' a = none ∧ H' b = none ∧ Pv k σ' H') ?_ _
    ⟨0, σ, H1, rfl, Nat.zero_le _, one1, I1, ⟨_, en1⟩, st1, fa.1, fb.1, p0⟩
  rintro n s3 ⟨k, σ3, H3, rfl, hk3, o3, I3, ⟨old, en3⟩, st3, na3, nb3, p3⟩
  have fa3 : FpOk X pins H3 a := ⟨na3, fa.2⟩
  have fb3 : FpOk X pins H3 b := ⟨nb3, fb.2⟩
  have fab : ∀ c ∈ [a, b], FpOk X pins H3 c := fun c hcm => by
    have q : c = a ∨ c = b := by simpa using hcm
    rcases q with rfl | rfl
    · exact fa3
    · exact fb3
  rcases Nat.lt_or_ge k z.cps.size with hlt | hge
  · have hcx : z.cps[k]? = some z.cps[k] := by simp [hlt]
    have al : a < s3.heap.objs.size := Heap.lt_size en3
    refine enum_next hT en3 st3 hcx ab fun g eo st4 tup sz keep => ?_
    refine wpAny_passesOwn hp (wpAny_letOwnedTupleGo_enum (s := { s3 with heap := g, toks := s3.toks + 2 }) eo fun g' en4 sb => ?_)
    have tup' : g'.get? s3.heap.objs.size = some { cls := .type "tuple", data := .seq #[.int (k : Nat) (s3.toks + 1), .str ⟨#[z.cps[k]]⟩ s3.toks] } := (sb.2 _ (Nat.ne_of_gt al)).trans tup
    have I4 : Inv X pins σ3 H3 { s3 with heap := g', toks := s3.toks + 2 } := I3.turnedL (ch := [a, b]) (fun c o hcm q => by
      have nc : c ≠ a ∧ c ≠ b := by simpa using hcm
      exact (sb.2 c nc.1).trans (keep c o nc.1 nc.2 q)) fab
    have st5 : g'.IsStrIter b T z tz (k + 1) := by
      obtain ⟨o, e1, r⟩ := st4
      exact ⟨o, (sb.2 b ab.symm).trans e1, r⟩
    have en5 : IsEnum g' a b (((k + 1 : Nat)) : Int) (.str ⟨#[z.cps[k]]⟩ s3.toks) := by
      have c : ((k + 1 : Nat) : Int) = (k : Int) + 1 := by omega
      rw [c]
      exact en4
    obtain ⟨ob, eb, cb, db⟩ := _root_.id st5
    have I5 := I4.pinned (fp := [a, b]) fab (fun c hcm => by
      have q : c = a ∨ c = b := by simpa using hcm
      rcases q with rfl | rfl
      · exact ⟨_, en5, fun v q => nomatch q⟩
      · exact ⟨ob, eb, fun v q => by rw [db] at q; cases q⟩)
    refine wpAny_passesOwn hp (assign_Tuple_tuple (s := { s3 with heap := g', toks := s3.toks + 2 }) (I3.ok.hd hc) ⟨_, tup', rfl, _, rfl⟩ hl hf fun g2 eb2 => ?_)
    rw [hn]
    have I6 : Inv X (pins ++ pinsAt [a, b] g') σ3 H3 { s3 with heap := g2, toks := s3.toks + 2 } := I5.kept (t' := s3.toks + 2) fun c o e1 => eb2 c o (Nat.ne_of_lt (Heap.lt_size e1)) e1
    refine assignInOrder_cons (thn (PySem.wpAny_toks (hx.run _ _ σ3 H3 (.int (k : Int)) _ (fun σ' H' => σ' = σ3.set i (some (.int (k : Int))) ∧ H' = H3) I6 ⟨_, rfl⟩ ⟨rfl, rfl⟩) |> fun q => wpAny_mono q (fun _ _ x => x) fun _ _ x => x.2) fun _ s7 hh => ?_)
    obtain ⟨k7, σ7, H7, I7, e7, e8⟩ := hh
    rw [e7, e8] at I7
    refine assignInOrder_cons (wpAny_assign_Name (raw_set (v := .str ⟨#[z.cps[k]]⟩) I7 hN hj hk ⟨_, rfl⟩ fun s8 I8 R8 t8 => assignInOrder_nil ?_))
    have k7 : s3.toks + 2 ≤ s7.toks := k7
    have t8 : s8.toks = s7.toks + 1 := t8
    have lt8 : s3.toks < s8.toks := by omega
    refine wpAny_passesOwn hp (thn (PySem.wpAny_toks (hb _ s8 σ3 H3 _ k _ s3.toks I8 R8 o3 lt8 (step k _ σ3 H3 hcx p3)) |> fun q => wpAny_mono q (fun _ _ x => x) fun _ _ x => x.2) fun f s9 q9 => ?_)
    obtain ⟨k9, q9⟩ := q9
    have again : ∀ {σ9 : St} {H9 : Hp}, Inv X (pins ++ pinsAt [a, b] g') σ9 H9 s9 → Pv (k + 1) σ9 H9 → ∃ m, m < z.cps.size - k ∧ ∃ k σ' H', m = z.cps.size - k ∧ k ≤ z.cps.size ∧ 1 ≤ s9.toks ∧ Inv X pins σ' H' s9 ∧ (∃ old, IsEnum s9.heap a b ((k : Nat) : Int) old) ∧ s9.heap.IsStrIter b T z tz k ∧ H' a = none ∧ H' b = none ∧ Pv k σ' H' := fun {σ9 H9} I9 p9 => by
      obtain ⟨ea, na, _⟩ := I9.pin (a, _) (List.mem_append_right _ (List.mem_append_right _ (mem_pinsAt (List.mem_cons_self ..) en5)))
      obtain ⟨eb', nb, _⟩ := I9.pin (b, ob) (List.mem_append_right _ (List.mem_append_right _ (mem_pinsAt (List.mem_cons_of_mem _ (List.mem_cons_self ..)) eb)))
      exact ⟨z.cps.size - (k + 1), by omega, k + 1, σ9, H9, rfl, hlt, by omega, I9.unpinned, ⟨_, ea⟩, ⟨ob, eb', cb, db⟩, na, nb, p9⟩
    cases f with
    | next => obtain ⟨σ9, H9, I9, p9⟩ := q9; exact again I9 p9
    | cont => obtain ⟨σ9, H9, I9, p9⟩ := q9; exact again I9 p9
    | brk => obtain ⟨σ9, H9, I9, p9⟩ := q9; exact ⟨σ9, H9, I9.unpinned, p9⟩
    | ret v => obtain ⟨x9, σ9, H9, I9, r9, p9⟩ := q9; exact ⟨x9, σ9, H9, I9.unpinned, r9, p9⟩
  · have ek : k = z.cps.size := by omega
    subst ek
    obtain ⟨f0, f1, f2, f3, f4, f5⟩ := fb3
    have Dt := Draws.text (prog := X.prog) (w := X.w) (A := X.A.in1) (show X.A.in1.handled = none from I3.ok.hd hc) b z tz
    subst eT
    refine wpAny_passesOwn hp (wpAny_pyNext_enum_endD Dt en3 st3 fun g eb => ?_)
    have I4 : Inv X pins σ3 H3 { s3 with heap := g } := I3.turned (t' := s3.toks) (fun c o hcm q => eb c o hcm q) f0 f1 f3 f4 f5
    exact wpAny_execs_nil ⟨σ3, H3, I4, fin σ3 H3 p3⟩
end
end L2

/-! o.f[i] = o.f[i].replace(c, "") where the token of c is known -/
namespace L2
open PySem PySem.Spec PyProof.Rows
section
variable {X : Cx} {pins : List (Addr × Obj)} {σ : St} {H : Hp} {s : Shared}
theorem fld_raw {i : Nat} {a C dx : Addr} {fs : List (Str × V)} {x f : Str} {v : V} {p1 pos : Pos} {Q E : Value → Shared → Prop} (I : Inv X pins σ H s) (hN : X.N[i]? = some x) (e : σ[i]? = some (some (.ref a))) (hv : Vis X.env.scope x) (ha : H a = some (.ins C dx fs)) (c : Cls X.K C) (n : NoAttr X.K C f)
    (l : fs.lookup f = some v) (q : ∀ u, RelV v u → Q u { s with toks := s.toks + 1 }) (hb : attributeBase (.Name x p1) f X.env (eval (.Name x p1) X.env) = eval (.Name x p1) X.env) (hd : (x == ("__debug__" : Str)) = false := by decide) (hcd : (x == ("__classdict__" : Str)) = false := by decide) :
    wpAny (model X.prog X.w) X.A (eval (.Attribute (.Name x p1) f pos) X.env) Q E s := by
  refine attr_of hb (var_ld I hN e hv (fun u ru => ?_) hd hcd)
  cases ru
  obtain ⟨mA, O, r, _, _, _⟩ := ins_get I.hok ha
  obtain ⟨u, hu, ru⟩ := RelO.some_of (v := v) (o := mA f) (by rw [← l]; exact r f)
  exact get_map I.kIn O (c.get f) c.hd n hu (handed_of ru) (q u ru)
theorem item_raw {i j : Nat} {a b C dx : Addr} {fs : List (Str × V)} {xs : List V} {x y f : Str} {v : V} {k : Nat} {p1 p2 p3 pos : Pos} {Q E : Value → Shared → Prop} (I : Inv X pins σ H s) (hN : X.N[i]? = some x) (e : σ[i]? = some (some (.ref a))) (hv : Vis X.env.scope x) (ha : H a = some (.ins C dx fs)) (c : Cls X.K C) (n : NoAttr X.K C f)
    (l : fs.lookup f = some (.ref b)) (hM : X.N[j]? = some y) (e2 : σ[j]? = some (some (.int (k : Int)))) (hw : Vis X.env.scope y) (hx : H b = some (.lst xs)) (hk : xs[k]? = some v) (q : ∀ u, RelV v u → Q u { s with toks := s.toks + 1 })
    (hb : attributeBase (.Name x p1) f X.env (eval (.Name x p1) X.env) = eval (.Name x p1) X.env) (hd : (x == ("__debug__" : Str)) = false := by decide) (hcd : (x == ("__classdict__" : Str)) = false := by decide) (hd2 : (y == ("__debug__" : Str)) = false := by decide) (hcd2 : (y == ("__classdict__" : Str)) = false := by decide) :
    wpAny (model X.prog X.w) X.A (eval (.Subscript (.Attribute (.Name x p1) f p2) (.Name y p3) pos) X.env) Q E s := by
  refine Subscript_ (fld_raw I hN e hv ha c n l (fun u ru => ?_) hb hd hcd)
  cases ru
  have J : Inv X pins σ H { s with toks := s.toks + 1 } := I.tok _
  refine var_ld J hM e2 hw (fun u ru => ?_) hd2 hcd2
  obtain ⟨ti, rfl⟩ := ru
  obtain ⟨its, r, pl, hz⟩ := J.list (SqL.of hx)
  obtain ⟨u, hu, ru⟩ := r.get hk
  have lt : k < xs.length := (List.getElem?_eq_some_iff.mp hk).1
  have h63 := line63
  exact item_listR pl.isList (by omega) (by omega) (by simpa using hu) (q u ru) rfl
theorem repl_stmt {i j : Nat} {a b C dx : Addr} {fs : List (Str × V)} {xs : List V} {x y z f : Str} {t : Str} {k c : Nat} {tc : Tok} {D : Ends} {p1 p2 p3 p4 p5 p6 p7 p8 p9 pa pb pc pd : Pos} {jj : Nat} (I : Inv X pins σ H s) (R : Raw X s z (.str ⟨#[c]⟩ tc)) (t1 : 1 ≤ tc) (t2 : tc < s.toks)
    (hN : X.N[i]? = some x) (e : σ[i]? = some (some (.ref a))) (hv : Vis X.env.scope x) (ha : H a = some (.ins C dx fs)) (cl : Cls X.K C) (n : NoAttr X.K C f)
    (l : fs.lookup f = some (.ref b)) (hM : X.N[j]? = some y) (e2 : σ[j]? = some (some (.int (k : Int)))) (hw : Vis X.env.scope y) (hx : H b = some (.lst xs)) (hk : xs[k]? = some (.str t)) (ht : t.length ≤ 1000) (kz : X.env.kindOf z = some .local)
    (q : D.nx σ (upd H b (.lst (xs.set k (.str (Txt.replace t ⟨#[c]⟩ Str.empty))))))
    (hb : attributeBase (.Name x p1) f X.env (eval (.Name x p1) X.env) = eval (.Name x p1) X.env) (hb4 : attributeBase (.Name x p4) f X.env (eval (.Name x p4) X.env) = eval (.Name x p4) X.env)
    (hb2 : attributeBase (.Subscript (.Attribute (.Name x p4) f p5) (.Name y p6) p7) "replace" X.env (eval (.Subscript (.Attribute (.Name x p4) f p5) (.Name y p6) p7) X.env) = eval (.Subscript (.Attribute (.Name x p4) f p5) (.Name y p6) p7) X.env) (hline : (p8.endLine == pb.line) = true)
    (hst : starEach [.Name z p9, .Constant (.str Str.empty) jj pa] X.env = [(false, eval (.Name z p9) X.env), (false, eval (.Constant (.str Str.empty) jj pa) X.env)])
    (hs : swapsWithSole [.Subscript (.Attribute (.Name x p1) f p2) (.Name y p3) pc] (.Call (.Attribute (.Subscript (.Attribute (.Name x p4) f p5) (.Name y p6) p7) "replace" p8) [.Name z p9, .Constant (.str Str.empty) jj pa] [] pb) pd.line X.env = pure false)
    (hw2 : swappedStores [.Subscript (.Attribute (.Name x p1) f p2) (.Name y p3) pc] (.Call (.Attribute (.Subscript (.Attribute (.Name x p4) f p5) (.Name y p6) p7) "replace" p8) [.Name z p9, .Constant (.str Str.empty) jj pa] [] pb) X.env = pure none)
    (hg : PG X (.Subscript (.Attribute (.Name x p1) f p2) (.Name y p3) pc) (gSub (tFld X.K (tVar i) f) (tVar j) rSetL))
    (hd : (x == ("__debug__" : Str)) = false := by decide) (hcd : (x == ("__classdict__" : Str)) = false := by decide) (hd2 : (y == ("__debug__" : Str)) = false := by decide) (hcd2 : (y == ("__classdict__" : Str)) = false := by decide) (hd3 : (z == ("__debug__" : Str)) = false := by decide) :
    wpAny (model X.prog X.w) X.A (exec (.Assign [.Subscript (.Attribute (.Name x p1) f p2) (.Name y p3) pc] (.Call (.Attribute (.Subscript (.Attribute (.Name x p4) f p5) (.Name y p6) p7) "replace" p8) [.Name z p9, .Constant (.str Str.empty) jj pa] [] pb) pd) X.env) (SP X pins D) X.xe s := by
  have lt : k < xs.length := (List.getElem?_eq_some_iff.mp hk).1
  have hix : ixN xs.length (k : Int) = some k := by
    show (if (0 : Int) ≤ (k : Nat) then _ else _) = _
    rw [if_pos (by omega), if_pos (by omega)]
    rfl
  refine wpAny_Assign_stores (PySem.Call_method2 hb2 hst hline (item_raw I hN e hv ha cl n l hM e2 hw hx hk (fun u ru => ?_) hb4 hd hcd hd2 hcd2)) hs hw2
  obtain ⟨tt, rfl⟩ := ru
  refine ⟨"str", _, PySem.F.plainAttrs_str, PySem.F.slot_str_replace, PySem.F.type_str_replace, typeIs_str _ _ _, (fun _ e => nomatch e), Calls.callWith_builtin rfl (Calls.evalArgs_plain (Calls.spliced_cons ?_))⟩
  have R1 : Raw X { s with toks := s.toks + 1 } z (.str ⟨#[c]⟩ tc) := R
  refine raw_ld I.ok.kind kz R1 ?_ hd3
  refine Calls.spliced_cons (Calls.Constant_str (Calls.spliced_nil ?_))
  refine PySem.SC.replace (Nat.ne_of_gt t1) (Nat.succ_ne_zero _) (Nat.ne_of_lt (Nat.lt_succ_of_lt t2)) (by rfl) (by show t.length + (t.length + 1) * 0 ≤ 16777216; omega) fun t' k' => ?_
  exact (hg.run pins _ σ H (.str (Txt.replace t ⟨#[c]⟩ Str.empty)) _ D.nx (I.tok k') ⟨t', rfl⟩ ⟨_, e, a, C, dx, fs, _, rfl, ha, cl, n, l, _, e2, b, xs, _, k, rfl, rfl, hx, hix, q⟩)
end
end L2

namespace Gm
open PySem L2








/-! ### what an instance of Bounds holds -/
structure BS where
  al : List (List Nat)
  le : Nat → Int
  gr : Nat → Int
def bF (a l g : Addr) : List (Str × V) := [("allowed", .ref a), ("least", .ref l), ("greatest", .ref g)]
theorem bf_al (a l g : Addr) : (bF a l g).lookup ("allowed" : Str) = some (.ref a) := by unfold bF; rfl
theorem bf_le (a l g : Addr) : (bF a l g).lookup ("least" : Str) = some (.ref l) := by
  have h1 : (("least" : Str) == "allowed") = false := by decide +kernel
  unfold bF
  rw [List.lookup_cons, h1]; rfl
theorem bf_gr (a l g : Addr) : (bF a l g).lookup ("greatest" : Str) = some (.ref g) := by
  have h1 : (("greatest" : Str) == "allowed") = false := by decide +kernel
  have h2 : (("greatest" : Str) == "least") = false := by decide +kernel
  unfold bF
  rw [List.lookup_cons, h1, List.lookup_cons, h2]; rfl
theorem bf_no (a l g : Addr) {x : Str} (h : (["allowed", "least", "greatest"] : List Str).all (fun y => !(x == y)) = true) : (bF a l g).lookup x = none := by
  simp only [List.all_cons, List.all_nil, Bool.and_true, Bool.and_eq_true, Bool.not_eq_true'] at h
  obtain ⟨h1, h2, h3⟩ := h
  unfold bF
  rw [List.lookup_cons, h1, List.lookup_cons, h2, List.lookup_cons, h3]; rfl
def kvsOf (l : List Nat) (f : Nat → Int) : List (Key × V) := l.map fun c => (Sum.inr (one c), V.int (f c))
def alV (al : List (List Nat)) : List V := al.map fun t => V.str (tx t)
structure BParts where
  dx : Addr
  a : Addr
  l : Addr
  g : Addr
structure BAt (C : Addr) (H : Hp) (p : Addr) (q : BParts) (ls : List Nat) (b : BS) : Prop where
  p : H p = some (.ins C q.dx (bF q.a q.l q.g))
  a : H q.a = some (.lst (alV b.al))
  l : H q.l = some (.dK (kvsOf ls b.le))
  g : H q.g = some (.dK (kvsOf ls b.gr))
  n : q.l ≠ q.g
theorem valV_of {l : List Nat} {f : Nat → Int} {c : Nat} (h : c ∈ l) : valV (kvsOf l f) (Sum.inr (one c)) = some (.int (f c)) := by
  unfold kvsOf
  induction l with
  | nil => cases h
  | cons a l ih =>
    rw [List.map_cons]
    by_cases e : a = c
    · subst e
      exact valV_pos rfl
    · rw [valV_neg (fun z => e (ones_inj (Sum.inr.inj z)))]
      rcases List.mem_cons.mp h with h | h
      · exact absurd h.symm e
      · exact ih h
def setF (f : Nat → Int) (c : Nat) (v : Int) : Nat → Int := fun x => if x = c then v else f x
theorem putK_of {l : List Nat} {f : Nat → Int} {c : Nat} {v : Int} (h : c ∈ l) : putK (kvsOf l f) (Sum.inr (one c)) (.int v) = kvsOf l (setF f c v) := by
  unfold putK
  have e : ((kvsOf l f).any fun kv => decide (kv.1 = (Sum.inr (one c) : Key))) = true := by
    rw [valV_any, valV_of h]; rfl
  rw [if_pos e]
  unfold kvsOf
  rw [List.map_map]
  refine List.map_congr_left fun x _ => ?_
  show (if (Sum.inr (one x) : Key) = Sum.inr (one c) then (Sum.inr (one x), V.int v) else (Sum.inr (one x), V.int (f x))) = (Sum.inr (one x), V.int (setF f c v x))
  unfold setF
  by_cases q : x = c
  · rw [if_pos (by rw [q]), if_pos q]
  · rw [if_neg (fun z => q (ones_inj (Sum.inr.inj z))), if_neg q]
/-- no copy of c -/
def rid (c : Nat) (t : List Nat) : List Nat := t.filter fun x => !decide (x = c)
theorem repl_rid (t : List Nat) (c : Nat) : Txt.replace (tx t) (one c) Str.empty = tx (rid c t) := by
  apply TL.ext_tl
  show (Txt.replace (tx t) (one c) Str.empty).cps.toList = _
  rw [StrLaws.replace_list (by exact Nat.le_refl 1)]
  show StrLaws.replL [c] [] t = rid c t
  unfold rid
  induction t with
  | nil => exact StrLaws.replL_nil
  | cons a t ih =>
    by_cases e : a = c
    · subst e
      rw [StrLaws.replL_hit (by simp) (by simp)]
      simpa using ih
    · rw [StrLaws.replL_miss (by simpa using e), ih]
      simp [e]
def leaveB (b : BS) (k c : Nat) : BS := { b with al := b.al.modify k (rid c) }
def keepB (b : BS) (k c : Nat) : BS := { b with al := b.al.modify k fun t => if c ∈ t then [c] else [] }
def leastB (b : BS) (c : Nat) (v : Int) : BS := { b with le := setF b.le c (if v > b.le c then v else b.le c) }
def mostB (b : BS) (c : Nat) (v : Int) : BS := { b with gr := setF b.gr c (if v < b.gr c then v else b.gr c) }
structure TxBd (K : PySem.W.Frag) (mg : Str → Option Value) (C : Addr) : Prop where
  cl : Cls K C
  nA : NoAttr K C "allowed"
  nL : NoAttr K C "least"
  nG : NoAttr K C "greatest"
  max : mg "max" = none
  min : mg "min" = none
section
variable {P : Program} {w : World} {K : PySem.W.Frag} {mg : Str → Option Value} {base : Heap}
/-! ### leave_out: its letter comes with its token -/
def LeaveRun (P : Program) (w : World) (K : PySem.W.Frag) (mg : Str → Option Value) (base : Heap) (C : Addr) (k : Nat) (f : Addr) : Prop :=
  ∀ (A : Around) (outer : List Env) (s : Shared) (H : Hp) (p : Addr) (q : BParts) (ls : List Nat) (b : BS) (i c : Nat) (ti t : Tok) (Q : VK), Room k A → Env0 P w K mg base A outer s H → 1 ≤ t → t < s.toks → BAt C H p q ls b → i < b.al.length → (∀ x ∈ b.al, x.length ≤ 26) →
    (∀ H', But q.a H H' → BAt C H' p q ls (leaveB b i c) → Q .non H') → codeAny (model P w) A (.call (.ref f) ⟨[.ref p, .int (i : Int) ti, .str (one c) t], []⟩) (CR CX0 outer P w H s Q E0) s
theorem BAt.setA {C : Addr} {H : Hp} {p : Addr} {q : BParts} {ls : List Nat} {b : BS} (x : BAt C H p q ls b) (al : List (List Nat)) : BAt C (upd H q.a (.lst (alV al))) p q ls { b with al := al } :=
  ⟨by rw [upd_ne (ne_of x.p x.a fun z => nomatch z)]; exact x.p, upd_same, by rw [upd_ne (ne_of x.l x.a fun z => nomatch z)]; exact x.l, by rw [upd_ne (ne_of x.g x.a fun z => nomatch z)]; exact x.g, x.n⟩
theorem BAt.same {C : Addr} {H H' : Hp} {p : Addr} {q : BParts} {ls : List Nat} {b : BS} (x : BAt C H p q ls b) (s : Same H H') : BAt C H' p q ls b := ⟨s _ _ x.p, s _ _ x.a, s _ _ x.l, s _ _ x.g, x.n⟩
theorem alV_set (al : List (List Nat)) (i : Nat) (t : List Nat) : (alV al).set i (.str (tx t)) = alV (al.set i t) := by
  unfold alV
  rw [List.map_set]
theorem modify_at {al : List (List Nat)} {i : Nat} {x : List Nat} (f : List Nat → List Nat) (h : al[i]? = some x) : al.modify i f = al.set i (f x) := by
  apply List.ext_getElem?
  intro j
  rw [List.getElem?_modify, List.getElem?_set]
  obtain ⟨hi, e⟩ := List.getElem?_eq_some_iff.mp h
  by_cases q : i = j
  · subst q
    simp [hi, e]
  · simp [q]
abbrev nLv : List Str := ["self", "place", "letter"]
theorem scLv : FnScope nLv ["self", "place", "letter"] (defScope sLeave) := ⟨rfl, rfl, rfl, by decide +kernel, rfl, by decide +kernel, by decide +kernel⟩
theorem leave_run {f C : Addr} {fd : FuncData} (F : Fun K "leave_out" "Bounds.leave_out" sLeave f fd) (T : TxBd K mg C) : LeaveRun P w K mg base C 1 f := by
  obtain ⟨oc, od, kV, doc, pm, an, cdv, ct, osl, rfl, lk, hcd⟩ := F.ex
  intro A outer s H p q ls b i c ti t Q hr e0 t1 t2 bt hi h26 fin
  have S := scLv
  have KX : K.In s.heap := e0.mod.kin.keeps fun b o e => (e0.bs b o e).1
  have lim : s.heap.NoLimit := e0.mod.nolimit.keeps fun b o e => (e0.bs b o e).1
  have kinds : ∀ v ∈ (["self", "place", "letter"] : List Str).zip [Value.ref p, .int (i : Int) ti, .str (one c) t], (defScope sLeave).names.lookup v.1 = some .local ∨ ((defScope sLeave).names.lookup v.1 = some .cell ∧ ((cellsFrom (s.heap.objs.size + 1) (defScope sLeave).names []).lookup v.1).isSome = true) := fun ⟨n, v⟩ hy => by
    rcases S.par n (List.of_mem_zip hy).1 with z | z
    · exact .inl z
    · exact .inr ⟨z, PySem.W.cellsFrom_some _ _ _ (.inl z)⟩
  refine codeAny_call_function hr.depth (KX _ _ lk) rfl S.co S.gen rfl (PySem.W.codeRec_of KX hcd) (BindsTo.of_eq (binds := (["self", "place", "letter"] : List Str).zip [Value.ref p, .int (i : Int) ti, .str (one c) t]) (by rfl) _ _ _ _ ?_)
  refine wpAny_mono (PySem.wpAny_toks (wpAny_newFunctionEnv_cells (Q := fun env s1 => env = PyProof.Rows.envOfC "Bounds.leave_out" (defScope sLeave) s.heap.objs.size f cdv ∧ InCallC s s.heap.objs.size (bindL (PyProof.Rows.envOfC "Bounds.leave_out" (defScope sLeave) s.heap.objs.size f cdv).kindOf ((["self", "place", "letter"] : List Str).zip [Value.ref p, .int (i : Int) ti, .str (one c) t]) fun _ => none)
      (cellsFrom (s.heap.objs.size + 1) (defScope sLeave).names []) (bindC (PyProof.Rows.envOfC "Bounds.leave_out" (defScope sLeave) s.heap.objs.size f cdv).kindOf ((["self", "place", "letter"] : List Str).zip [Value.ref p, .int (i : Int) ti, .str (one c) t]) fun _ => none) s1) S.kind kinds fun env he s1 xx => by subst he; exact ⟨rfl, xx⟩)) (fun env s1 hh => ?_) fun _ _ z => z.2
  obtain ⟨tk1, rfl, xx⟩ := hh
  refine ⟨lim.keeps xx.toInCall.keep, codeAny_func ?_⟩
  have rv : Vals [V.ref p, .int (i : Int), .str (one c)] [Value.ref p, .int (i : Int) ti, .str (one c) t] := .cons rfl (.cons ⟨ti, rfl⟩ (.cons ⟨t, rfl⟩ .nil))
  have I : Inv (cxOf CX0 P w K mg base nLv "Bounds.leave_out" (defScope sLeave) f cdv A outer s H E0) [] (L2.start nLv [.ref p, .int (i : Int), .str (one c)]) H s1 := inv_start S hr.hd e0 rfl rv xx
  have hn := xx.toInCall.ns
  have nd3 : (["self", "place", "letter"] : List Str).Nodup := by decide +kernel
  have m2 := bindL_get (kindOf := (PyProof.Rows.envOfC "Bounds.leave_out" (defScope sLeave) s.heap.objs.size f cdv).kindOf) (x := "letter") (v := Value.str (one c) t) (P := ["self", "place", "letter"]) (vs := [.ref p, .int (i : Int) ti, .str (one c) t]) (i := 2) (m := fun _ => none) nd3 rfl rfl rfl
  have k2 : (PyProof.Rows.envOfC "Bounds.leave_out" (defScope sLeave) s.heap.objs.size f cdv).kindOf "letter" = some .local := by rfl
  have nd := scLv.nd
  obtain ⟨x, hx, _⟩ := drop_nth hi
  have hxa : (alV b.al)[i]? = some (.str (tx x)) := by unfold alV; rw [List.getElem?_map, hx]; rfl
  have fin' : Q .non (upd H q.a (.lst ((alV b.al).set i (.str (Txt.replace (tx x) ⟨#[c]⟩ Str.empty))))) := by
    rw [repl_rid, alV_set, ← modify_at (rid c) hx]
    exact fin _ But.upd (bt.setA _)
  have x26 : (tx x).length ≤ 1000 := by
    rw [tx_len]
    have := h26 x (List.mem_of_getElem? hx)
    omega
  refine wpAny_execs_cons (wpAny_mono (repl_stmt (i := 0) (j := 1) (c := c) (tc := t) (D := { nx := fun _ H' => Q .non H', rt := Q }) I ⟨_, hn, m2⟩ t1 (Nat.lt_of_lt_of_le t2 tk1) rfl rfl (Or.inl rfl) bt.p T.cl T.nA (bf_al q.a q.l q.g) rfl rfl (Or.inl rfl) bt.a hxa x26 k2 fin'
    rfl rfl rfl (by rfl) rfl (by rfl) (by rfl) (pg_sub (pe_fld (pv 0) rfl) (pv 1) set_list)) (fun fl s2 hh => ?_) fun _ _ z => z)
  cases fl with
  | next =>
    obtain ⟨σ', H', J, z⟩ := hh
    exact wpAny_execs_nil ⟨.non, H', J.os, J.bare, J.base, J.hok, rfl, z⟩
  | ret u =>
    obtain ⟨v, σ', H', J, rv', z⟩ := hh
    exact ⟨v, H', J.os, J.bare, J.base, J.hok, rv', z⟩
  | brk =>
    obtain ⟨_, _, _, z⟩ := hh
    exact z.elim
  | cont =>
    obtain ⟨_, _, _, z⟩ := hh
    exact z.elim
end
section
variable {X : Cx} {pins : List (Addr × Obj)} {σ : L2.St} {H : Hp} {s : Shared}
theorem leave_call {k f p C : Addr} {q : BParts} {ls : List Nat} {b : BS} {i0 i1 i c : Nat} {x y z : Str} {tc : Tok} {D : Ends} {p1 p2 p3 p4 p5 p6 : Pos} {pl : Sem Bool} (I : Inv X pins σ H s) (R : L2.Raw X s z (.str (one c) tc)) (t1 : 1 ≤ tc) (t2 : tc < s.toks)
    (hN : X.N[i0]? = some x) (e : σ[i0]? = some (some (.ref p))) (hv : Vis X.env.scope x) (hM : X.N[i1]? = some y) (e2 : σ[i1]? = some (some (.int (i : Int)))) (hw : Vis X.env.scope y) (kz : X.env.kindOf z = some .local)
    (bt : BAt C H p q ls b) (hi : i < b.al.length) (h26 : ∀ x ∈ b.al, x.length ≤ 26) (cl : Cls X.K C) (hm : Meth X.K C "leave_out" f) (L : LeaveRun X.prog X.w X.K X.mg X.base C k f) (hr : Room k X.A) (fin : ∀ H', But q.a H H' → BAt C H' p q ls (leaveB b i c) → D.nx σ H')
    (hs : swapsWith (.Call (.Attribute (.Name x p1) "leave_out" p2) [.Name y p3, .Name z p4] [] p5) none p6.line X.env = pure false)
    (hst : starEach [.Name y p3, .Name z p4] X.env = (false, eval (.Name y p3) X.env) :: starEach [.Name z p4] X.env) (hst2 : starEach [.Name z p4] X.env = [(false, eval (.Name z p4) X.env)]) (hpl : (backTo p5 (starEach [.Name z p4] X.env)).any (·.1) = false)
    (ht : eval (.Call (.Attribute (.Name x p1) "leave_out" p2) [.Name y p3, .Name z p4] [] p5) X.env = (do
      let ov ← eval (.Name x p1) X.env
      standAt p2.atName
      let (f, first) ← holding [ov] (getMethod ov "leave_out" pl)
      callWith p5 f first (backTo p5 (starEach [.Name y p3, .Name z p4] X.env)) (backToKw p5 (keywordEach [] X.env))))
    (hd : (x == ("__debug__" : Str)) = false := by decide) (hcd : (x == ("__classdict__" : Str)) = false := by decide) (hd2 : (y == ("__debug__" : Str)) = false := by decide) (hcd2 : (y == ("__classdict__" : Str)) = false := by decide) (hd3 : (z == ("__debug__" : Str)) = false := by decide) :
    wpAny (model X.prog X.w) X.A (exec (.Expr (.Call (.Attribute (.Name x p1) "leave_out" p2) [.Name y p3, .Name z p4] [] p5) p6) X.env) (SP X pins D) X.xe s := by
  refine wpAny_Expr_any ?_ I.quiet hs
  refine PySem.W.methodCall_KW (pl := pl) (L2.var_ld I hN e hv (fun u ru => ?_) hd hcd) ht
  cases ru
  refine getmeth_ok I bt.p cl hm (bf_no q.a q.l q.g (by decide +kernel)) ?_
  refine PySem.W.callWith_K (first := [.ref p]) (h₀ := X.base) I.ok.mod.kin hm.kp ?_ hst hpl
  rw [hst, hst2]
  show wpAny _ _ (spliced ((false, eval (.Name y p3) X.env) :: (false, eval (.Name z p4) X.env) :: [])) _ _ _
  refine Calls.spliced_cons (L2.var_ld I hM e2 hw (fun u ru => ?_) hd2 hcd2)
  obtain ⟨ti, rfl⟩ := ru
  refine Calls.spliced_cons (L2.raw_ld I.ok.kind kz R (Calls.spliced_nil ⟨I.kIn, ?_⟩) hd3)
  refine wpAny_call (codeAny_mono (L X.A X.stack s H p q ls b i c ti tc (fun _ H' => D.nx σ H') hr I.env0 t1 t2 bt hi h26 fin) fun r s' hq => ?_)
  cases r with
  | error e => exact hq.elim
  | ok fl =>
    cases fl with
    | ret u =>
      obtain ⟨v, H', I', rv, z⟩ := I.after hq
      exact ⟨σ, H', I', z⟩
    | next => exact hq.elim
    | brk => exact hq.elim
    | cont => exact hq.elim
/-- what is left to ask of a turn: the place k, the letter c -/
def tbRow (C : Addr) (k c : Nat) : TS := fun D σ H => ∃ (p : Addr) (q : BParts) (ls t : List Nat) (b : BS) (m : Nat), σ[0]? = some (some (.ref p)) ∧ σ[2]? = some (some (.str (tx t))) ∧ σ[3]? = some (some (.int (k : Int))) ∧ σ[4]? = some (some (.str (one c))) ∧ BAt C H p q ls b ∧ k < b.al.length ∧ (∀ x ∈ b.al, x.length ≤ 26) ∧ t[k]? = some m ∧ t.length ≤ 1000 ∧
  ∀ H', But q.a H H' → BAt C H' p q ls (if m = 50 then keepB b k c else leaveB b k c) → D.nx σ H'
def spKeep (C : Addr) : Sp := fun vs H Q _ => ∃ (p : Addr) (q : BParts) (ls : List Nat) (b : BS) (i c : Nat), vs = [.ref p, .int (i : Int), .str (one c)] ∧ BAt C H p q ls b ∧ i < b.al.length ∧ ∀ H', But q.a H H' → BAt C H' p q ls (keepB b i c) → Q .non H'
def spAskL (C : Addr) : Sp := fun vs H Q _ => ∃ (p : Addr) (q : BParts) (ls : List Nat) (b : BS) (c : Nat) (v : Int), vs = [.ref p, .str (one c), .int v] ∧ BAt C H p q ls b ∧ c ∈ ls ∧ ls.length ≤ 26 ∧ ∀ H', But q.l H H' → BAt C H' p q ls (leastB b c v) → Q .non H'
def spAskM (C : Addr) : Sp := fun vs H Q _ => ∃ (p : Addr) (q : BParts) (ls : List Nat) (b : BS) (c : Nat) (v : Int), vs = [.ref p, .str (one c), .int v] ∧ BAt C H p q ls b ∧ c ∈ ls ∧ ls.length ≤ 26 ∧ ∀ H', But q.g H H' → BAt C H' p q ls (mostB b c v) → Q .non H'
end
section
variable {P : Program} {w : World} {K : PySem.W.Frag} {mg : Str → Option Value} {base : Heap}
theorem BAt.setL {C : Addr} {H : Hp} {p : Addr} {q : BParts} {ls : List Nat} {b : BS} (x : BAt C H p q ls b) (f : Nat → Int) : BAt C (upd H q.l (.dK (kvsOf ls f))) p q ls { b with le := f } :=
  ⟨by rw [upd_ne (ne_of x.p x.l fun z => nomatch z)]; exact x.p, by rw [upd_ne (ne_of x.a x.l fun z => nomatch z)]; exact x.a, upd_same, by rw [upd_ne x.n.symm]; exact x.g, x.n⟩
theorem BAt.setG {C : Addr} {H : Hp} {p : Addr} {q : BParts} {ls : List Nat} {b : BS} (x : BAt C H p q ls b) (f : Nat → Int) : BAt C (upd H q.g (.dK (kvsOf ls f))) p q ls { b with gr := f } :=
  ⟨by rw [upd_ne (ne_of x.p x.g fun z => nomatch z)]; exact x.p, by rw [upd_ne (ne_of x.a x.g fun z => nomatch z)]; exact x.a, by rw [upd_ne x.n]; exact x.l, upd_same, x.n⟩
theorem kvs_len (ls : List Nat) (f : Nat → Int) : (kvsOf ls f).length = ls.length := List.length_map ..
theorem scKp : FnScope nLv ["self", "place", "letter"] (defScope sKeep) := ⟨rfl, rfl, rfl, by decide +kernel, rfl, by decide +kernel, by decide +kernel⟩
theorem ok_keep {f C : Addr} {fd : FuncData} (F : Fun K "keep_only" "Bounds.keep_only" sKeep f fd) (T : TxBd K mg C) : FnOk P w K mg base CX0 1 f fd ["self", "place", "letter"] (spKeep C) := by
  refine F.ok scKp (fun vs H Q E h => ?_) (fun cdv A outer s H vs Q E hr h => ?_)
  · obtain ⟨p, q, ls, b, i, c, rfl, _⟩ := h
    rfl
  · obtain ⟨p, q, ls, b, i, c, rfl, bt, hi, fin⟩ := h
    have nd := scKp.nd
    refine ⟨_, pss_one (ps_asg (pe_ifExp (pt_cmpR op_in_sign (pv 2) (pe_ix ix_list (pe_fld (pv 0) rfl) (pv 1) (fun _ _ => rfl)) rfl) (pv 2) pe_str) (pg_sub (pe_fld (pv 0) rfl) (pv 1) set_list)), ?_⟩
    obtain ⟨x, hx, _⟩ := drop_nth hi
    have hxa : (alV b.al)[i]? = some (.str (tx x)) := by unfold alV; rw [List.getElem?_map, hx]; rfl
    have hl : (alV b.al).length = b.al.length := List.length_map ..
    refine ⟨_, rfl, _, rfl, p, C, q.dx, _, _, rfl, bt.p, T.cl, T.nA, bf_al q.a q.l q.g, _, rfl, q.a, _, _, _, rfl, rfl, SqL.of bt.a, atI_nat hxa, c, tx x, rfl, rfl, _, rfl, ?_⟩
    have ei : decide (c ∈ (tx x).cps.toList) = decide (c ∈ x) := by simp
    rw [ei]
    have put : ∀ t : List Nat, (if c ∈ x then [c] else []) = t → gSub (tFld K (tVar 0) "allowed") (tVar 1) rSetL (.str (tx t)) [some (.ref p), some (.int (i : Int)), some (.str (one c))] H (fun _ H' => Q .non H') := fun t ht => by
      refine ⟨_, rfl, p, C, q.dx, _, _, rfl, bt.p, T.cl, T.nA, bf_al q.a q.l q.g, _, rfl, q.a, _, _, i, rfl, rfl, bt.a, ?_, ?_⟩
      · rw [hl]
        show (if (0 : Int) ≤ (i : Nat) then _ else _) = _
        rw [if_pos (by omega), if_pos (by omega)]
        rfl
      · rw [alV_set, ← ht, ← modify_at (fun t => if c ∈ t then [c] else []) hx]
        exact fin _ But.upd (bt.setA _)
    refine ite2 (fun h => ?_) (fun h => ?_)
    · exact ⟨_, rfl, put [c] (if_pos (of_decide_eq_true h))⟩
    · exact put [] (if_neg fun z => h (decide_eq_true z))
abbrev nAk : List Str := ["self", "letter", "many"]
theorem scAkL : FnScope nAk ["self", "letter", "many"] (defScope sAskL) := ⟨rfl, rfl, rfl, by decide +kernel, rfl, by decide +kernel, by decide +kernel⟩
theorem scAkM : FnScope nAk ["self", "letter", "many"] (defScope sAskM) := ⟨rfl, rfl, rfl, by decide +kernel, rfl, by decide +kernel, by decide +kernel⟩
theorem ok_askL {f C : Addr} {fd : FuncData} (F : Fun K "ask_least" "Bounds.ask_least" sAskL f fd) (T : TxBd K mg C) : FnOk P w K mg base CX0 1 f fd ["self", "letter", "many"] (spAskL C) := by
  refine F.ok scAkL (fun vs H Q E h => ?_) (fun cdv A outer s H vs Q E hr h => ?_)
  · obtain ⟨p, q, ls, b, c, v, rfl, _⟩ := h
    rfl
  · obtain ⟨p, q, ls, b, c, v, rfl, bt, hc, l26, fin⟩ := h
    have nd := scAkL.nd
    have hline : sizeLine = 16777216 := sizeLine_eq
    have hu1 : (A.deeper (PyProof.Rows.envOfC "Bounds.ask_least" (defScope sAskL) s.heap.objs.size f cdv)).units + 1 < cLine := by
      have := hr.un
      omega
    refine ⟨_, pss_one (ps_dput hu1 (pe_fld (pv 0) rfl) (pv 1) (pe_callB (call_max2 rfl) (by rfl) T.max (by decide +kernel) (pa_cons (pe_dget hu1 (pe_fld (pv 0) rfl) (pv 1) (fun _ _ => rfl)) (pa_cons (pv 2) pa_nil))) (by rfl)), ?_⟩
    have g0 := DGet.k (k := Sum.inr (one c)) bt.l
    rw [valV_of hc] at g0
    refine ⟨_, rfl, p, C, q.dx, _, _, rfl, bt.p, T.cl, T.nL, bf_le q.a q.l q.g, _, rfl, q.l, _, rfl, g0, _, rfl, _, _, rfl, ?_⟩
    have p0 := DPut.k (k := Sum.inr (one c)) (v := .int (if v > b.le c then v else b.le c)) bt.l (by rw [kvs_len]; omega)
    rw [putK_of hc] at p0
    exact ⟨_, rfl, p, C, q.dx, _, _, rfl, bt.p, T.cl, T.nL, bf_le q.a q.l q.g, _, rfl, q.l, _, rfl, p0, fin _ But.upd (bt.setL _)⟩
theorem ok_askM {f C : Addr} {fd : FuncData} (F : Fun K "ask_most" "Bounds.ask_most" sAskM f fd) (T : TxBd K mg C) : FnOk P w K mg base CX0 1 f fd ["self", "letter", "many"] (spAskM C) := by
  refine F.ok scAkM (fun vs H Q E h => ?_) (fun cdv A outer s H vs Q E hr h => ?_)
  · obtain ⟨p, q, ls, b, c, v, rfl, _⟩ := h
    rfl
  · obtain ⟨p, q, ls, b, c, v, rfl, bt, hc, l26, fin⟩ := h
    have nd := scAkM.nd
    have hline : sizeLine = 16777216 := sizeLine_eq
    have hu1 : (A.deeper (PyProof.Rows.envOfC "Bounds.ask_most" (defScope sAskM) s.heap.objs.size f cdv)).units + 1 < cLine := by
      have := hr.un
      omega
    refine ⟨_, pss_one (ps_dput hu1 (pe_fld (pv 0) rfl) (pv 1) (pe_callB (call_min2 rfl) (by rfl) T.min (by decide +kernel) (pa_cons (pe_dget hu1 (pe_fld (pv 0) rfl) (pv 1) (fun _ _ => rfl)) (pa_cons (pv 2) pa_nil))) (by rfl)), ?_⟩
    have g0 := DGet.k (k := Sum.inr (one c)) bt.g
    rw [valV_of hc] at g0
    refine ⟨_, rfl, p, C, q.dx, _, _, rfl, bt.p, T.cl, T.nG, bf_gr q.a q.l q.g, _, rfl, q.g, _, rfl, g0, _, rfl, _, _, rfl, ?_⟩
    have p0 := DPut.k (k := Sum.inr (one c)) (v := .int (if v < b.gr c then v else b.gr c)) bt.g (by rw [kvs_len]; omega)
    rw [putK_of hc] at p0
    exact ⟨_, rfl, p, C, q.dx, _, _, rfl, bt.p, T.cl, T.nG, bf_gr q.a q.l q.g, _, rfl, q.g, _, rfl, p0, fin _ But.upd (bt.setG _)⟩
/-! ### marks of one letter -/
def mgv (g t : List Nat) (c : Nat) : List Nat := ((g.zip t).filter fun p => decide (p.1 = c)).map (·.2)
theorem mgv_le (g t : List Nat) (c : Nat) : (mgv g t c).length ≤ g.length := by
  unfold mgv
  rw [List.length_map]
  refine Nat.le_trans (List.length_filter_le _ _) ?_
  rw [List.length_zip]
  omega
def spGiven : Sp := fun vs H Q _ => ∃ (g t : List Nat) (c : Nat), vs = [.str (tx g), .str (tx t), .str (one c)] ∧ g.length = t.length ∧ g.length ≤ 6 ∧ ∀ H', Same H H' → Q (.str (tx (mgv g t c))) H'
abbrev nGv : List Str := ["guess", "told", "letter", "guessed", "mark"]
theorem scGv : FnScope nGv ["guess", "told", "letter"] (defScope sGiven) := ⟨rfl, rfl, rfl, by decide +kernel, rfl, by decide +kernel, by decide +kernel⟩
theorem ok_given {f : Addr} {fd : FuncData} (F : Fun K "marks_given" "marks_given" sGiven f fd) (zip : mg "zip" = none) : FnOk P w K mg base CX0 1 f fd ["guess", "told", "letter"] spGiven := by
  refine F.ok scGv (fun vs H Q E h => ?_) (fun cdv A outer s H vs Q E hr h => ?_)
  · obtain ⟨g, t, c, rfl, _⟩ := h
    rfl
  · obtain ⟨g, t, l, rfl, hl, h6, q⟩ := h
    have nd := scGv.nd
    have hline : sizeLine = 16777216 := sizeLine_eq
    refine ⟨_, pss_one (ps_ret (pe_join pe_str (pe_lc (own := [("guessed", 3), ("mark", 4)]) (g := gTup K 2 (gCons (gName 3) (gCons (gName 4) gNil))) (by rfl) nd
        (pi_zips (by rfl) zip (pa_cons (pv 0) (pa_cons (pv 1) pa_nil))) (blkOk_by (own := [("guessed", 3), ("mark", 4)]) (N := nGv) (sc := defScope sGiven) (by decide +kernel))
        (fun _ _ _ _ _ => by exact pg_tup (by rfl) (pgs_cons (pg_name (i := 3) nd rfl (Or.inl rfl)) (pgs_cons (pg_name (i := 4) nd rfl (Or.inl rfl)) pgs_nil)))
        (fun _ _ _ _ _ => pts_one (pt_cmpR op_eq (pv 3) (pv 2) (nomark _))) (fun _ _ _ _ _ => pv 4)))), ?_⟩
    have sz : (tx g).cps.size = (tx t).cps.size := by rw [tx_size, tx_size, hl]
    refine ⟨⟨_, rfl⟩, _, rfl, _, rfl, tx g, tx t, rfl, sz, fun D hD => ?_⟩
    refine lc_it (walk_zips sz) (fun i H' => Same H H' ∧ H' D = some (.lst (((((g.zip t).take i).filter fun p => decide (p.1 = l)).map (·.2)).map fun c => V.str (one c)))) ⟨same_upd hD, upd_same⟩ (fun _ _ _ _ => trivial) ?_ ?_
    · rintro i x H1 H2 hi ⟨sm, hDi⟩ ⟨T, c, e, rfl, hT, rfl, hx, hy⟩
      have hz := zip_at (tx_at hx) (tx_at hy)
      have nDT : D ≠ T := ne_of_none hDi hT
      have st := take_map_filter (fun p => decide (p.1 = l)) (fun p => p.2) hz
      have hD2 : upd H1 T (.tup [.str (one c), .str (one e)]) D = _ := (upd_ne nDT).trans hDi
      have sm2 : Same H (upd H1 T (.tup [.str (one c), .str (one e)])) := sm.trans (same_upd hT)
      refine ⟨T, _, rfl, SqT.of upd_same, rfl, _, _, rfl, _, _, rfl, rfl, rfl, ?_⟩
      have ei : decide (V.str (one c) = V.str (one l)) = decide (c = l) := decide_eq_decide.mpr ⟨fun q => ones_inj (V.str.inj q), fun q => by rw [q]⟩
      refine ⟨_, rfl, _, rfl, rfl, _, rfl, ?_⟩
      rw [ei]
      refine ite2 (fun hm => ?_) (fun hm => ?_)
      · rw [if_pos hm] at st
        refine ⟨_, rfl, _, hD2, ?_, fun b o q => ?_, ?_⟩
        · have h1 := List.length_filter_le (fun p : Nat × Nat => decide (p.1 = l)) ((g.zip t).take i)
          have h2 : ((g.zip t).take i).length ≤ 6 := by rw [List.length_take, List.length_zip]; omega
          rw [List.length_map, List.length_map]
          omega
        · rw [upd_ne (ne_of_none q hD)]
          exact sm2 b o q
        · rw [upd_same, st, List.map_append]
          rfl
      · rw [if_neg hm, List.append_nil] at st
        exact ⟨sm2, by rw [st]; exact hD2⟩
    rintro H1 ⟨sm, hD1⟩
    rw [tx_size, List.take_of_length_le (by rw [List.length_zip]; omega)] at hD1
    refine ⟨_, D, (mgv g t l).map one, rfl, rfl, .inl (SqL.of (by rw [List.map_map]; exact hD1)), ?_, ?_⟩
    · have h3 := mgv_le g t l
      rw [sum_one, List.length_map]
      show (mgv g t l).length + (mgv g t l).length * 0 ≤ 16777216
      omega
    · show Q (.str (Txt.join (Str.ofString "") ((mgv g t l).map one))) H1
      rw [join_one]
      exact q H1 sm
end
/-! ### no 0 ahead of a 1 -/
def zo : List Nat → Bool
  | a :: b :: r => (decide (a = 48) && decide (b = 49)) || zo (b :: r)
  | _ => false
theorem zo_iff : ∀ l : List Nat, zo l = true ↔ ∃ i, l[i]? = some 48 ∧ l[i + 1]? = some 49
  | [] => by simp [zo]
  | [a] => by
    simp only [zo, Bool.false_eq_true, false_iff]
    rintro ⟨i, _, h⟩
    simp at h
  | a :: b :: r => by
    have ih := zo_iff (b :: r)
    simp only [zo, Bool.or_eq_true, Bool.and_eq_true, decide_eq_true_iff]
    constructor
    · rintro (⟨h1, h2⟩ | h)
      · exact ⟨0, by simp [h1], by simp [h2]⟩
      · obtain ⟨i, h1, h2⟩ := ih.mp h
        exact ⟨i + 1, by simpa using h1, by simpa using h2⟩
    · rintro ⟨i, h1, h2⟩
      cases i with
      | zero => exact .inl ⟨by simpa using h1, by simpa using h2⟩
      | succ i => exact .inr (ih.mpr ⟨i, by simpa using h1, by simpa using h2⟩)
theorem occ_zo (l : List Nat) : (!(Builtin.Str.occurrences (tx l) (Str.ofString "01") 0 (tx l).length 1).isEmpty) = zo l := by
  rw [Bool.eq_iff_iff, StrLaws.found_iff, zo_iff]
  have el : (Str.ofString "01").length = 2 := rfl
  have ec : (Str.ofString "01").cps.toList = [48, 49] := rfl
  constructor
  · rintro ⟨i, h1, h2⟩
    rw [StrLaws.subAt_eq, el, ec] at h2
    have h2 := eq_of_beq h2
    have e : ((tx l).cps.toList.drop i) = l.drop i := by simp
    rw [e] at h2
    refine ⟨i, ?_, ?_⟩
    · have := congrArg (fun z : List Nat => z[0]?) h2
      simpa [List.getElem?_take, List.getElem?_drop] using this
    · have := congrArg (fun z : List Nat => z[1]?) h2
      simpa [List.getElem?_take, List.getElem?_drop] using this
  · rintro ⟨i, h1, h2⟩
    obtain ⟨l1, e1⟩ := List.getElem?_eq_some_iff.mp h1
    obtain ⟨l2, e2⟩ := List.getElem?_eq_some_iff.mp h2
    refine ⟨i, by rw [el, tx_len]; omega, ?_⟩
    rw [StrLaws.subAt_eq, el, ec]
    have e : ((tx l).cps.toList.drop i) = l.drop i := by simp
    rw [e, List.drop_eq_getElem_cons l1, List.drop_eq_getElem_cons l2, e1, e2]
    rfl
def ordOk (g t : List Nat) : Bool := g.all fun c => !zo (rid 50 (mgv g t c))
def tNotInR (a y z : Str) (te : TE) : TE := fun σ H Q => CwR.tReplC te y z σ H fun v H1 => ∃ b, v = .str b ∧ Q (.bl (!(!(Builtin.Str.occurrences b a 0 b.length 1).isEmpty))) H1
section
variable {X : Cx} {e : Expr} {te : TE} {a y z : Str} {j j1 k1 : Nat} {p1 p2 c0 c1 apos pos : Pos}
theorem pe_notinR (he : PE X e te) (hyz : (y == z) = false) (hm : behindInMarks .NotIn (.Call (.Attribute e "replace" apos) [.Constant (.str y) j1 c0, .Constant (.str z) k1 c1] [] pos) = false)
    (hst : starEach [.Constant (.str y) j1 c0, .Constant (.str z) k1 c1] X.env = [(false, eval (.Constant (.str y) j1 c0) X.env), (false, eval (.Constant (.str z) k1 c1) X.env)] := by rfl)
    (hbase : attributeBase e "replace" X.env (eval e X.env) = eval e X.env := by rfl) (hline : (apos.endLine == pos.line) = true := by rfl) :
    PE X (.Compare (.Constant (.str a) j p1) [.NotIn] [.Call (.Attribute e "replace" apos) [.Constant (.str y) j1 c0, .Constant (.str z) k1 c1] [] pos] p2) (tNotInR a y z te) := by
  refine ⟨fun pins s σ H Q I h => ?_⟩
  refine wpAny_Compare1 (Calls.Constant_str ?_) hm
  have J : Inv X pins σ H { s with toks := s.toks + 1 } := I.tok _
  refine thn (CwR.pet_replC he hyz hst hbase hline pins _ σ H _ (Nat.succ_le_succ (Nat.zero_le _)) J h) fun u s2 hh => ?_
  obtain ⟨y', H2, I2, ry, b, rfl, q⟩ := hh
  obtain ⟨t', rfl⟩ := ry
  exact PyProof.Rows.notIn_str (fin_bl I2 q rfl)
end
def spOrd : Sp := fun vs H Q _ => ∃ (g t : List Nat), vs = [.str (tx g), .str (tx t)] ∧ g.length = t.length ∧ g.length ≤ 6 ∧ ∀ H', Same H H' → Q (.bl (ordOk g t)) H'
section
variable {P : Program} {w : World} {K : PySem.W.Frag} {mg : Str → Option Value} {base : Heap}
abbrev nOr : List Str := ["guess", "told", "letter"]
theorem scOr : FnScope nOr ["guess", "told"] (defScope sOrd) := ⟨rfl, rfl, rfl, by decide +kernel, rfl, by decide +kernel, by decide +kernel⟩
theorem ok_ord {f fG : Addr} {fd fdG : FuncData} (F : Fun K "is_in_order" "is_in_order" sOrd f fd) (all : mg "all" = none) (GG : FnOk P w K mg base CX0 1 fG fdG ["guess", "told", "letter"] spGiven) (DG : Df K mg "marks_given" fG fdG ["guess", "told", "letter"]) : FnOk P w K mg base CX0 2 f fd ["guess", "told"] spOrd := by
  refine F.ok scOr (fun vs H Q E h => ?_) (fun cdv A outer s H vs Q E hr h => ?_)
  · obtain ⟨g, t, rfl, _⟩ := h
    rfl
  · obtain ⟨g, t, rfl, hl, h6, q⟩ := h
    have nd := scOr.nd
    have hline : sizeLine = 16777216 := sizeLine_eq
    refine ⟨_, pss_one (ps_ret (pe_callB (cr_all rfl) (by rfl) all (by decide +kernel) (pa_cons (pe_lc (own := [("letter", 2)]) (g := gName 2) (by rfl) nd (pi_str (pv 0)) (blkOk_by (own := [("letter", 2)]) (N := nOr) (sc := defScope sOrd) (by decide +kernel))
        (fun _ _ _ _ _ => pg_name (i := 2) nd rfl (Or.inl rfl)) (fun _ _ _ _ _ => pts_nil) (fun _ _ _ _ _ => pe_notinR (pe_call GG hr (by rfl) DG.mg DG.kp DG.b .nil pass0 (pa_cons (pv 0) (pa_cons (pv 1) (pa_cons (pv 2) pa_nil)))) (by decide +kernel) rfl)) pa_nil))), ?_⟩
    refine ⟨_, rfl, tx g, rfl, fun D hD => ?_⟩
    refine lc_it (walk_str (z := tx g)) (fun i H' => Same H H' ∧ H' D = some (.lst (((g.take i).map fun c => !zo (rid 50 (mgv g t c))).map V.bl))) ⟨same_upd hD, upd_same⟩ (fun _ _ _ _ => trivial) ?_ ?_
    · rintro i x H2 H1 hi ⟨sm, hD1⟩ ⟨rfl, c, hc, rfl⟩
      have hc' := tx_at hc
      have hlt := (List.getElem?_eq_some_iff.mp hc').1
      refine ⟨rfl, _, rfl, _, rfl, _, rfl, g, t, c, rfl, hl, h6, fun H3 s3 => ?_⟩
      refine ⟨_, rfl, ?_, _, rfl, _, s3 _ _ hD1, ?_, fun b o e => ?_, ?_⟩
      · rw [tx_len]
        have := mgv_le g t c
        show (mgv g t c).length + ((mgv g t c).length + 1) * 0 ≤ 16777216
        omega
      · rw [List.length_map, List.length_map, List.length_take]
        omega
      · rw [upd_ne (ne_of_none e hD)]
        exact (sm.trans s3) b o e
      · rw [upd_same]
        have er : Txt.replace (tx (mgv g t c)) (Str.ofString "2") (Str.ofString "") = tx (rid 50 (mgv g t c)) := repl_rid _ 50
        rw [er, occ_zo, List.take_succ_eq_append_getElem hlt, (List.getElem?_eq_some_iff.mp hc').2, List.map_append, List.map_append]
        rfl
    · rintro H1 ⟨sm, hD1⟩
      rw [tx_size, List.take_length] at hD1
      refine ⟨D, _, rfl, SqL.of hD1, ?_⟩
      have ea : ((g.map fun c => !zo (rid 50 (mgv g t c))).all id) = ordOk g t := by
        unfold ordOk
        rw [List.all_map]
        rfl
      rw [ea]
      exact q H1 sm
abbrev nTR : List Str := ["self", "guess", "told", "place", "letter", "given", "found"]
theorem scTR : FnScope nTR ["self", "guess", "told"] (defScope sTakeR) := ⟨rfl, rfl, rfl, by decide +kernel, rfl, by decide +kernel, by decide +kernel⟩
open PyProof.Rows in
theorem sign_at {prog : Program} {w' : World} {A : Around} {E : Value → Shared → Prop} {s : Shared} {z : List Nat} {k m : Nat} {tz ti : Tok} {value slice : Expr} {Q : Value → Shared → Prop} (hk : z[k]? = some m) (hz : z.length ≤ 1000) (q : Q (.str (one m) s.toks) { s with toks := s.toks + 1 })
    (hs : subscripted slice false (.str (tx z) tz) (.int (k : Int) ti) = operate [.str (tx z) tz, .int (k : Int) ti] (getItem (.str (tx z) tz) (.int (k : Int) ti))) : wpAny (model prog w') A (subscriptTail value slice (.str (tx z) tz) (.int (k : Int) ti)) Q E s := by
  have lt : k < z.length := (List.getElem?_eq_some_iff.mp hk).1
  refine PyProof.Rows.tail_any (typeIs_str s (tx z) tz) PyProof.Rows.slot_str_getitem.lookup (PySem.P.getItem_str (c := m) ?_ ?_ q) hs
  · rw [decide_eq_false (by omega), decide_eq_false (by omega), Bool.or_false]
  · rw [show (tx z).length = z.length from tx_len z, seqIndex_of (by omega) (by omega)]
    simpa using hk
theorem turn_row {f fL C : Addr} {cdv : Value} {A : Around} {outer : List Env} {s0 : Shared} {H0 : Hp} {E : XK} {a1 a2 a3 a4 a5 b1 b2 b3 b4 b5 b6 d1 d2 d3 d4 d5 d6 c1 : Pos} {j : Nat} {pl : Sem Bool} (T : TxBd K mg C) (hr : Room 1 (A.deeper (PyProof.Rows.envOfC "Bounds.take_row" (defScope sTakeR) s0.heap.objs.size f cdv)))
    (mL : Meth K C "leave_out" fL) (GL : LeaveRun P w K mg base C 1 fL)
    (ps : PSs (cxOf CX0 P w K mg base nTR "Bounds.take_row" (defScope sTakeR) f cdv A outer s0 H0 E).nox [.Expr (.Call (.Attribute (.Name "self" b1) "keep_only" b2) [.Name "place" b3, .Name "letter" b4] [] b5) b6] (tDrop (tMeth C "keep_only" (spKeep C) [] E0 (tVar 0) (tCons (tVar 3) (tCons (tVar 4) tNil)))))
    (hLs : swapsWith (.Call (.Attribute (.Name "self" d1) "leave_out" d2) [.Name "place" d3, .Name "letter" d4] [] d5) none d6.line (cxOf CX0 P w K mg base nTR "Bounds.take_row" (defScope sTakeR) f cdv A outer s0 H0 E).nox.env = pure false)
    (hLt : eval (.Call (.Attribute (.Name "self" d1) "leave_out" d2) [.Name "place" d3, .Name "letter" d4] [] d5) (cxOf CX0 P w K mg base nTR "Bounds.take_row" (defScope sTakeR) f cdv A outer s0 H0 E).nox.env = (do
      let ov ← eval (.Name "self" d1) (cxOf CX0 P w K mg base nTR "Bounds.take_row" (defScope sTakeR) f cdv A outer s0 H0 E).nox.env
      standAt d2.atName
      let (g, first) ← holding [ov] (getMethod ov "leave_out" pl)
      callWith d5 g first (backTo d5 (starEach [.Name "place" d3, .Name "letter" d4] (cxOf CX0 P w K mg base nTR "Bounds.take_row" (defScope sTakeR) f cdv A outer s0 H0 E).nox.env)) (backToKw d5 (keywordEach [] (cxOf CX0 P w K mg base nTR "Bounds.take_row" (defScope sTakeR) f cdv A outer s0 H0 E).nox.env)))) :
    TurnE (cxOf CX0 P w K mg base nTR "Bounds.take_row" (defScope sTakeR) f cdv A outer s0 H0 E).nox 3 4 "letter" [.If (.Compare (.Subscript (.Name "told" a1) (.Name "place" a2) a3) [.Eq] [.Constant (.str "2") j a4] a5)
      [.Expr (.Call (.Attribute (.Name "self" b1) "keep_only" b2) [.Name "place" b3, .Name "letter" b4] [] b5) b6] [.Expr (.Call (.Attribute (.Name "self" d1) "leave_out" d2) [.Name "place" d3, .Name "letter" d4] [] d5) d6] c1] (tbRow C) := by
  intro pins s σ H D k c t I R t1 t2 h
  generalize (σ.set 3 (some (.int (k : Int)))).set 4 (some (.str ⟨#[c]⟩)) = σ' at I h
  obtain ⟨p, q, ls, tt, b, m, e0, e2, e3, e4, bt, hk, h26, hm, htl, fin⟩ := h
  have nd := scTR.nd
  have J : Inv _ pins σ' H { s with toks := s.toks + 2 } := I.tok _
  refine wpAny_execs_cons (wpAny_If (wpAny_isTrue_Compare1 (PyProof.Rows.Subscript_ (L2.var_ld I (i := 2) (x := "told") rfl e2 (Or.inl rfl) (fun u ru => ?_))) rfl))
  obtain ⟨tz, rfl⟩ := ru
  refine L2.var_ld I (i := 3) (x := "place") rfl e3 (Or.inl rfl) (fun u ru => ?_)
  obtain ⟨ti, rfl⟩ := ru
  refine sign_at hm htl ?_ rfl
  refine Calls.Constant_str (PyProof.Rows.eq_str (wpAny_truthy_bool ?_))
  have ee : ((one m : Str) == Str.ofString "2") = decide (m = 50) := by
    by_cases q : m = 50
    · subst q; rfl
    · have : one m ≠ one 50 := fun z => q (ones_inj z)
      rw [decide_eq_false q]
      exact beq_eq_false_iff_ne.mpr this
  rw [ee]
  cases hb : decide (m = 50) with
  | true =>
    have fin := fun H' b r => fin H' b (by rw [if_pos (of_decide_eq_true hb)]; exact r)
    refine iteT (wpAny_mono (ps.run pins _ σ' H D J ⟨_, e0, p, q.dx, _, rfl, bt.p, bf_no q.a q.l q.g (by decide +kernel), _, e3, _, e4, p, q, ls, b, k, c, rfl, bt, hk, fin⟩) (fun fl s1 hh => ?_) fun _ _ z => z)
    cases fl with
    | next =>
      obtain ⟨σ1, H1, I1, z⟩ := hh
      exact wpAny_execs_nil ⟨σ1, H1, I1, z⟩
    | ret v => exact hh
    | brk => exact hh
    | cont => exact hh
  | false =>
    have fin := fun H' b r => fin H' b (by rw [if_neg (of_decide_eq_false hb)]; exact r)
    refine iteF (wpAny_execs_cons (wpAny_mono (leave_call (i0 := 0) (i1 := 3) (c := c) (tc := t) J R t1 (Nat.lt_succ_of_lt (Nat.lt_succ_of_lt t2)) rfl e0 (Or.inl rfl) rfl e3 (Or.inl rfl) rfl bt hk h26 T.cl mL GL hr fin hLs rfl rfl rfl hLt) (fun fl s1 hh => ?_) fun _ _ z => z))
    cases fl with
    | next =>
      obtain ⟨σ1, H1, I1, z⟩ := hh
      exact wpAny_execs_nil (wpAny_execs_nil ⟨σ1, H1, I1, z⟩)
    | ret v => exact hh
    | brk => exact hh
    | cont => exact hh
theorem okT {x qual : Str} {st : Stmt} {f : Addr} {fd : FuncData} {N ps : List Str} {k : Nat} {sp : Sp} (F : Fun K x qual st f fd) (S : FnScope N ps (defScope st)) (hnc : ∀ y ∈ (defScope st).names, y.2 ≠ .cell) (hps : 1 ≤ ps.length) (many : ∀ vs H Q E, sp vs H Q E → vs.length = ps.length)
    (body : ∀ (cdv : Value) (A : Around) (outer : List Env) (s : Shared) (H : Hp) (vs : List V) (Q : VK) (E : XK), Room k (A.deeper (PyProof.Rows.envOfC qual (defScope st) s.heap.objs.size f cdv)) → sp vs H Q E →
      ∃ t, PSsT (cxOf CX0 P w K mg base N qual (defScope st) f cdv A outer s H E).nox (defBody st) t ∧ t { nx := fun _ H' => Q .non H', rt := Q } (L2.start N vs) H) : FnOk P w K mg base CX0 (k + 1) f fd ps sp := by
  obtain ⟨oc, od, kV, doc, pm, an, cdv, ct, osl, rfl, lk, hcd⟩ := F.ex
  refine fn_ofT lk hcd S hnc hps many fun A outer s H vs Q E hr h => ?_
  obtain ⟨t, ht, q⟩ := body cdv A outer s H vs Q E hr h
  exact ⟨t, fun pins s1 σ H1 D h0 I hw => wpAny_mono (ht pins s1 σ H1 D h0 (I.wish _) hw) (fun _ _ q => q.unwish) fun _ _ z => z.elim, q⟩
theorem cnt_one (w : List Nat) (a : Nat) : Txt.count (tx w) (one a) = ((w.count a : Nat) : Int) := by
  rw [PyProof.Rows.count_cnt]
  show PyProof.Rows.cnt a w = _
  induction w with
  | nil => rfl
  | cons b w ih =>
    rw [PyProof.Rows.cnt_cons, ih, List.count_cons]
    by_cases h : b = a <;> simp [h] <;> omega
/-- a row, taken in -/
def placeB (g t : List Nat) : Nat → BS → BS
  | 0, b => b
  | k + 1, b => if t[k]? = some 50 then keepB (placeB g t k b) k (g.getD k 0) else leaveB (placeB g t k b) k (g.getD k 0)
def countB (g t : List Nat) (b : BS) (c : Nat) : BS := (fun v : Int => if 48 ∈ mgv g t c then mostB (leastB b c v) c v else leastB b c v) (((mgv g t c).length : Int) - ((mgv g t c).count 48 : Int))
def rowB (b : BS) (r : List Nat × List Nat) : BS := r.1.foldl (countB r.1 r.2) (placeB r.1 r.2 r.1.length b)
theorem placeB_al (g t : List Nat) (b : BS) : ∀ k, (placeB g t k b).al.length = b.al.length
  | 0 => rfl
  | k + 1 => by
    have ih := placeB_al g t b k
    unfold placeB
    split
    · show (List.modify _ _ _).length = _
      rw [List.length_modify, ih]
    · show (List.modify _ _ _).length = _
      rw [List.length_modify, ih]
theorem mem_modify {al : List (List Nat)} {k : Nat} {f : List Nat → List Nat} {x : List Nat} (h : x ∈ al.modify k f) : x ∈ al ∨ ∃ y ∈ al, x = f y := by
  obtain ⟨j, hj⟩ := List.mem_iff_getElem?.mp h
  rw [List.getElem?_modify] at hj
  obtain ⟨y, hy, e⟩ := Option.map_eq_some_iff.mp hj
  by_cases q : k = j
  · rw [if_pos q] at e
    exact .inr ⟨y, List.mem_of_getElem? hy, e.symm⟩
  · rw [if_neg q] at e
    exact .inl (e ▸ List.mem_of_getElem? hy)
theorem placeB_26 (g t : List Nat) (b : BS) (h : ∀ x ∈ b.al, x.length ≤ 26) : ∀ k, ∀ x ∈ (placeB g t k b).al, x.length ≤ 26
  | 0 => h
  | k + 1 => by
    have ih := placeB_26 g t b h k
    intro x hx
    unfold placeB at hx
    split at hx
    · rcases mem_modify hx with hx | ⟨y, hy, rfl⟩
      · exact ih x hx
      · split <;> simp
    · rcases mem_modify hx with hx | ⟨y, hy, rfl⟩
      · exact ih x hx
      · exact Nat.le_trans (List.length_filter_le _ _) (ih y hy)
def spTakeR (C : Addr) : Sp := fun vs H Q _ => ∃ (p : Addr) (q : BParts) (ls g t : List Nat) (b : BS), vs = [.ref p, .str (tx g), .str (tx t)] ∧ BAt C H p q ls b ∧ ls.length ≤ 26 ∧ g.length = t.length ∧ g.length = b.al.length ∧ g.length ≤ 6 ∧ (∀ c ∈ g, c ∈ ls) ∧ (∀ x ∈ b.al, x.length ≤ 26) ∧
  ∀ H', (∀ a o, a ≠ q.a → a ≠ q.l → a ≠ q.g → H a = some o → H' a = some o) → BAt C H' p q ls (rowB b (g, t)) → Q .non H'
theorem ok_takeR {f fK fL fG fA fM C : Addr} {fd fdK fdG fdA fdM : FuncData} (F : Fun K "take_row" "Bounds.take_row" sTakeR f fd) (T : TxBd K mg C) (len : mg "len" = none) (enu : mg "enumerate" = none) (mK : Meth K C "keep_only" fK) (GK : FnOk P w K mg base CX0 1 fK fdK ["self", "place", "letter"] (spKeep C)) (bK : Binds K fdK ["self", "place", "letter"] [])
    (mL : Meth K C "leave_out" fL) (GL : LeaveRun P w K mg base C 1 fL) (GG : FnOk P w K mg base CX0 1 fG fdG ["guess", "told", "letter"] spGiven) (DG : Df K mg "marks_given" fG fdG ["guess", "told", "letter"])
    (mA : Meth K C "ask_least" fA) (GA : FnOk P w K mg base CX0 1 fA fdA ["self", "letter", "many"] (spAskL C)) (bA : Binds K fdA ["self", "letter", "many"] []) (mM : Meth K C "ask_most" fM) (GM : FnOk P w K mg base CX0 1 fM fdM ["self", "letter", "many"] (spAskM C)) (bM : Binds K fdM ["self", "letter", "many"] []) :
    FnOk P w K mg base CX0 2 f fd ["self", "guess", "told"] (spTakeR C) := by
  refine okT F scTR (by decide +kernel) (by decide) (fun vs H Q E h => ?_) (fun cdv A outer s H vs Q E hr h => ?_)
  · obtain ⟨p, q, ls, g, t, b, rfl, _⟩ := h
    rfl
  · obtain ⟨p, q, ls, g, t, b, rfl, bt, l26, hl, gl, g6, hg, h26, fin⟩ := h
    have nd := scTR.nd
    have hline : sizeLine = 16777216 := sizeLine_eq
    refine ⟨_, psst_cons (pst_forE (i := 3) (j := 4) (tb := tbRow C) PassesOwn.never rfl (by rfl) enu (pa_cons (pv 1) pa_nil) nd (pg_name (i := 3) nd rfl (Or.inl rfl)) rfl rfl (by exact turn_row T hr mL GL (pss_one (ps_expr (pe_meth (pv 0) T.cl mK GK hr bK .nil pass0 (pa_cons (pv 3) (pa_cons (pv 4) pa_nil))))) rfl rfl) (fun _ _ _ _ _ h => h))
      (psst_cons (PST.of (ps_for PassesOwn.never rfl (pi_str (pv 1)) (pg_name (i := 4) nd rfl (Or.inl rfl)) (pss_cons (ps_set (i := 5) nd rfl (Or.inl rfl) (pe_call GG hr (by rfl) DG.mg DG.kp DG.b .nil pass0 (pa_cons (pv 1) (pa_cons (pv 2) (pa_cons (pv 4) pa_nil)))))
          (pss_cons (ps_set (i := 6) nd rfl (Or.inl rfl) (pe_op op_sub (pe_callB call_len_str (by rfl) len PySem.boot_len (pa_cons (pv 5) pa_nil)) (pe_m1 PySem.F.slot_str_count PySem.F.type_str_count mt_count (pv 5) pe_str)))
          (pss_cons (ps_expr (pe_meth (pv 0) T.cl mA GA hr bA .nil pass0 (pa_cons (pv 4) (pa_cons (pv 6) pa_nil))))
          (pss_one (ps_if (pt_cmpR op_in_sign pe_str (pv 5) rfl) (pss_one (ps_expr (pe_meth (pv 0) T.cl mM GM hr bM .nil pass0 (pa_cons (pv 4) (pa_cons (pv 6) pa_nil))))) pss_nil))))))) (PSsT.of pss_nil)), ?_⟩
    refine ⟨_, rfl, tx g, rfl, fun k σ H' => (∃ v3 v4 v5 v6 : Option V, σ = [some (.ref p), some (.str (tx g)), some (.str (tx t)), v3, v4, v5, v6]) ∧ (∀ a o, a ≠ q.a → a ≠ q.l → a ≠ q.g → H a = some o → H' a = some o) ∧ BAt C H' p q ls (placeB g t k b), ⟨⟨_, _, _, _, rfl⟩, fun _ _ _ _ _ e => e, bt⟩, ?_, ?_⟩
    · rintro k c σ H1 hc ⟨⟨v3, v4, v5, v6, rfl⟩, keep, b1⟩
      have hc' := tx_at hc
      have hk : k < g.length := (List.getElem?_eq_some_iff.mp hc').1
      have hm : t[k]? = some (t[k]'(by omega)) := List.getElem?_eq_getElem _
      generalize t[k]'(by omega) = m at hm
      refine ⟨p, q, ls, t, placeB g t k b, m, rfl, rfl, rfl, rfl, b1, by rw [placeB_al]; omega, placeB_26 g t b h26 k, hm, by omega, fun H2 b2 bt2 => ⟨⟨_, _, _, _, rfl⟩, fun a o n1 n2 n3 e => b2 a o n1 (keep a o n1 n2 n3 e), ?_⟩⟩
      have e : placeB g t (k + 1) b = if m = 50 then keepB (placeB g t k b) k c else leaveB (placeB g t k b) k c := by
        rw [placeB]
        have ec : g.getD k 0 = c := by rw [List.getD_eq_getElem?_getD, hc']; rfl
        rw [hm, ec]
        by_cases z : m = 50
        · rw [if_pos (by rw [z]), if_pos z]
        · rw [if_neg (fun y => z (Option.some.inj y)), if_neg z]
      rw [e]
      exact bt2
    rintro σ H1 ⟨⟨v3, v4, v5, v6, rfl⟩, keep1, b1⟩
    rw [tx_size] at b1
    refine ⟨_, rfl, tx g, rfl, for_it (walk_str (z := tx g)) (fun i σ H' => (∃ v3 v4 v5 v6 : Option V, σ = [some (.ref p), some (.str (tx g)), some (.str (tx t)), v3, v4, v5, v6]) ∧ (∀ a o, a ≠ q.a → a ≠ q.l → a ≠ q.g → H a = some o → H' a = some o) ∧ BAt C H' p q ls ((g.take i).foldl (countB g t) (placeB g t g.length b)))
      ⟨⟨_, _, _, _, rfl⟩, keep1, b1⟩ (fun _ _ _ _ _ => trivial) ?_ ?_⟩
    · rintro i x σ H3 H2 hi ⟨⟨v3, v4, v5, v6, rfl⟩, keep, b2⟩ ⟨rfl, c, hc, rfl⟩
      have hc' := tx_at hc
      have hlt := (List.getElem?_eq_some_iff.mp hc').1
      have hcl : c ∈ ls := hg c (List.mem_of_getElem? hc')
      have ef : (g.take (i + 1)).foldl (countB g t) (placeB g t g.length b) = countB g t ((g.take i).foldl (countB g t) (placeB g t g.length b)) c := by
        rw [List.take_succ_eq_append_getElem hlt, (List.getElem?_eq_some_iff.mp hc').2, List.foldl_append]
        rfl
      rw [ef]
      generalize (g.take i).foldl (countB g t) (placeB g t g.length b) = B at b2 ⊢
      have m6 := mgv_le g t c
      refine ⟨_, rfl, _, rfl, _, rfl, g, t, c, rfl, hl, g6, fun H4 s4 => ?_⟩
      have b4 := b2.same s4
      refine ⟨_, rfl, _, rfl, by rw [tx_len]; omega, _, rfl, ⟨_, rfl⟩, tx (mgv g t c), Str.ofString "0", rfl, rfl, _, _, rfl, rfl, ?_⟩
      have ecnt : Txt.count (tx (mgv g t c)) (Str.ofString "0") = (((mgv g t c).count 48 : Nat) : Int) := cnt_one _ 48
      rw [ecnt, tx_len]
      refine ⟨_, rfl, p, q.dx, _, rfl, b4.p, bf_no q.a q.l q.g (by decide +kernel), _, rfl, _, rfl, p, q, ls, B, c, _, rfl, b4, hcl, l26, fun H5 b5 bt5 => ?_⟩
      refine ⟨_, rfl, 48, tx (mgv g t c), rfl, rfl, _, rfl, ?_⟩
      have e48 : decide (48 ∈ (tx (mgv g t c)).cps.toList) = decide (48 ∈ mgv g t c) := by simp
      rw [e48]
      refine ite2 (fun h => ?_) (fun h => ?_)
      · refine ⟨_, rfl, p, q.dx, _, rfl, bt5.p, bf_no q.a q.l q.g (by decide +kernel), _, rfl, _, rfl, p, q, ls, _, c, _, rfl, bt5, hcl, l26, fun H6 b6 bt6 => ?_⟩
        refine ⟨⟨_, _, _, _, rfl⟩, fun a o n1 n2 n3 e => b6 a o n3 (b5 a o n2 (s4 a o (keep a o n1 n2 n3 e))), ?_⟩
        unfold countB
        simp only
        rw [if_pos (of_decide_eq_true h)]
        exact bt6
      · refine ⟨⟨_, _, _, _, rfl⟩, fun a o n1 n2 n3 e => b5 a o n2 (s4 a o (keep a o n1 n2 n3 e)), ?_⟩
        unfold countB
        simp only
        rw [if_neg (fun z => h (decide_eq_true z))]
        exact bt5
    · rintro σ H2 ⟨_, keep, b2⟩
      rw [tx_size, List.take_length] at b2
      exact fin H2 keep b2
end
end Gm

/-! dict comprehensions over any walk -/
namespace L2
open PySem PySem.Spec PyProof.Rows
theorem dc_it {J : It} {n : Nat} {G : Hp → Prop} {Y : Nat → Hp → V → Hp → Prop} (w : Walk J n G Y) {g : TG} {tt : TT} {tk tv : TE} {vs : List Nat} {σ : St} {H1 : Hp} {D : Addr} {Qd : Hp → Prop} (Pv : Nat → Hp → Prop) (h0 : Pv 0 (upd H1 D (.dK []))) (hG : ∀ i H, i ≤ n → Pv i H → G H)
    (hs : ∀ i x H H', i < n → Pv i H → Y i H x H' → g x (wipe σ vs) H' fun σ2 H2 => wipe σ2 vs = wipe σ vs ∧ tt σ2 H2 fun b H3 =>
      if b = true then tk σ2 H3 fun y H4 => tv σ2 H4 fun z H5 => ∃ kvs k, y = kV k ∧ H5 D = some (.dK kvs) ∧ kvs.length < sizeLine ∧ Pv (i + 1) (upd H5 D (.dK (putK kvs k z))) else Pv (i + 1) H3) (hd : ∀ H, Pv n H → Qd H) :
    ∃ W : Nat → Nat → Hp → Prop, (∃ m, W 0 m (upd H1 D (.dK []))) ∧ ∀ i m H, W i m H →
      (J.stop i H ∧ Qd H) ∨ (J.go i H ∧ ∃ Nx : Hp → Prop, (∀ H', Nx H' → ∃ m', m' < m ∧ W (i + 1) m' H') ∧ ∀ x H', J.yld i H x H' → g x (wipe σ vs) H' fun σ2 H2 => wipe σ2 vs = wipe σ vs ∧ tt σ2 H2 fun b H3 =>
        if b = true then tk σ2 H3 fun y H4 => tv σ2 H4 fun z H5 => ∃ kvs k, y = kV k ∧ H5 D = some (.dK kvs) ∧ kvs.length < sizeLine ∧ Nx (upd H5 D (.dK (putK kvs k z))) else Nx H3) := by
  refine ⟨fun i m H => m = n - i ∧ i ≤ n ∧ Pv i H, ⟨n, rfl, Nat.zero_le _, h0⟩, fun i m H hh => ?_⟩
  obtain ⟨rfl, hi, p⟩ := hh
  rcases Nat.lt_or_ge i n with lt | ge
  · exact .inr ⟨w.goes i H lt (hG i H hi p), Pv (i + 1), fun H' p' => ⟨n - (i + 1), by omega, rfl, lt, p'⟩, fun x H' y => hs i x H H' lt p (w.yields i H x H' lt (hG i H hi p) y)⟩
  · obtain rfl : i = n := by omega
    exact .inl ⟨w.stops H (hG _ H hi p), hd H p⟩
end L2

namespace Gm
open PySem L2



theorem putK_app {l : List Nat} {f : Nat → Int} {c : Nat} (h : ¬ c ∈ l) : putK (kvsOf l f) (Sum.inr (one c)) (.int (f c)) = kvsOf (l ++ [c]) f := by
  have e : ((kvsOf l f).any fun kv => decide (kv.1 = (Sum.inr (one c) : Key))) = false := by
    rw [List.any_eq_false]
    intro x hx
    unfold kvsOf at hx
    obtain ⟨d, hd, rfl⟩ := List.mem_map.mp hx
    intro z
    have := of_decide_eq_true z
    exact h (by rw [← ones_inj (Sum.inr.inj this)]; exact hd)
  unfold putK
  rw [if_neg (by rw [e]; exact Bool.false_ne_true)]
  unfold kvsOf
  rw [List.map_append]
  rfl
theorem fresh_at {l : List Nat} (h : l.Nodup) {i c : Nat} (hc : l[i]? = some c) : ¬ c ∈ l.take i := by
  intro z
  obtain ⟨j, hj⟩ := List.mem_iff_getElem?.mp z
  rw [List.getElem?_take] at hj
  split at hj
  · rename_i lt
    have := (List.getElem?_inj (List.getElem?_eq_some_iff.mp hj).1 h).mp (hj.trans hc.symm)
    omega
  · cases hj
/-- a board of letters that all differ -/
def Bn (C : Addr) (H : Hp) (p : Addr) (l : List Nat) (n : Int) : Prop := Bd C H p l n ∧ l.Nodup
theorem Bn.same {C p : Addr} {H H' : Hp} {l : List Nat} {n : Int} (h : Bn C H p l n) (e : Same H H') : Bn C H' p l n := ⟨h.1.same e, h.2⟩
/-- the bounds without rows -/
def bs0 (l : List Nat) (n : Nat) : BS := ⟨List.replicate n l, fun _ => 0, fun _ => (n : Int)⟩
def bsOf (l : List Nat) (n : Nat) (rows : List Row) : BS := rows.foldl rowB (bs0 l n)
def spBInit (C CB : Addr) : Sp := fun vs H Q _ => ∃ (p dx b r e : Addr) (l : List Nat) (n : Int) (rows : List Row), vs = [.ref p, .ref b, .ref r, .ref e] ∧ H p = some (.ins CB dx []) ∧ Bn C H b l n ∧ RowsAt H r rows ∧ (∀ x ∈ rows, RowOk l n x) ∧ H e = some (.tup []) ∧
  ∀ H' q, But p H H' → BAt CB H' p q l (bsOf l n.toNat rows) → Q .non H'
theorem countB_al (g t : List Nat) (b : BS) (c : Nat) : (countB g t b c).al = b.al := by
  unfold countB
  simp only
  split <;> rfl
theorem countF_al (g t : List Nat) : ∀ (cs : List Nat) (b : BS), (cs.foldl (countB g t) b).al = b.al
  | [], _ => rfl
  | c :: cs, b => by rw [List.foldl_cons, countF_al g t cs, countB_al]
theorem rowB_al (b : BS) (r : Row) : (rowB b r).al = (placeB r.1 r.2 r.1.length b).al := countF_al ..
theorem bsF_ok {n : Nat} : ∀ (rows : List Row) (b : BS), b.al.length = n → (∀ x ∈ b.al, x.length ≤ 26) → (rows.foldl rowB b).al.length = n ∧ ∀ x ∈ (rows.foldl rowB b).al, x.length ≤ 26
  | [], b, h1, h2 => ⟨h1, h2⟩
  | r :: rows, b, h1, h2 => by
    rw [List.foldl_cons]
    refine bsF_ok rows (rowB b r) ?_ ?_
    · rw [rowB_al, placeB_al, h1]
    · rw [rowB_al]
      exact placeB_26 r.1 r.2 b h2 r.1.length
theorem bf_put (a l g : Addr) : putF "greatest" (V.ref g) (putF "least" (.ref l) (putF "allowed" (.ref a) [])) = bF a l g := by
  have h1 : ¬ (("allowed" : Str) = "least") := by decide +kernel
  have h2 : ¬ (("allowed" : Str) = "greatest") := by decide +kernel
  have h3 : ¬ (("least" : Str) = "greatest") := by decide +kernel
  simp only [putF]
  rw [if_neg h1]
  simp only [putF]
  rw [if_neg h2, if_neg h3]
  rfl
section
variable {P : Program} {w : World} {K : PySem.W.Frag} {mg : Str → Option Value} {base : Heap}
abbrev nBI : List Str := ["self", "board", "rows", "facts", "guess", "told", "fact", "place", "letter"]
theorem scBI : FnScope nBI ["self", "board", "rows", "facts"] (defScope sBInit) := ⟨rfl, rfl, rfl, by decide +kernel, rfl, by decide +kernel, by decide +kernel⟩
theorem ok_binit {f fT C CB : Addr} {fd fdT : FuncData} (F : Fun K "__init__" "Bounds.__init__" sBInit f fd) (T : TxBd K mg CB) (TC : TxC K mg C) (range : mg "range" = none) (mT : Meth K CB "take_row" fT) (GT : FnOk P w K mg base CX0 2 fT fdT ["self", "guess", "told"] (spTakeR CB)) (bT : Binds K fdT ["self", "guess", "told"] []) :
    FnOk P w K mg base CX0 3 f fd ["self", "board", "rows", "facts"] (spBInit C CB) := by
  refine F.ok scBI (fun vs H Q E h => ?_) (fun cdv A outer s H vs Q E hr h => ?_)
  · obtain ⟨p, dx, b, r, e, l, n, rows, rfl, _⟩ := h
    rfl
  · obtain ⟨p, dx, b, r, e, l, n, rows, rfl, hp, hb, ⟨vs, hv, hw⟩, rok, he, fin⟩ := h
    have nd := scBI.nd
    have hline : sizeLine = 16777216 := sizeLine_eq
    obtain ⟨⟨⟨dxb, hbd⟩, l26, n1, n6⟩, lnd⟩ := _root_.id hb
    refine ⟨_, pss_cons (ps_fld (pv 0) (pe_lc (te := tFld K (tVar 1) "letters") (own := [("place", 7)]) (g := gName 7) (by rfl) nd (pi_range1 (by rfl) range (pa_cons (pe_fld (pv 1) rfl) pa_nil)) (blkOk_by (own := [("place", 7)]) (N := nBI) (sc := defScope sBInit) (by decide +kernel))
          (fun _ _ _ _ _ => pg_name (i := 7) nd rfl (Or.inl rfl)) (fun _ _ _ _ _ => pts_nil) (fun _ _ _ _ _ => by exact pe_fld (pv 1) rfl)) rfl)
      (pss_cons (ps_fld (pv 0) (pe_dc (own := [("letter", 8)]) (g := gName 8) (by rfl) nd (pi_str (pe_fld (pv 1) rfl)) (blkOk_by (own := [("letter", 8)]) (N := nBI) (sc := defScope sBInit) (by decide +kernel))
          (fun _ _ _ _ _ => pg_name (i := 8) nd rfl (Or.inl rfl)) (fun _ _ _ _ _ => pts_nil) (fun _ _ _ _ _ => pv 8) (fun _ _ _ _ _ => pe_int)) rfl)
      (pss_cons (ps_fld (pv 0) (pe_dc (tv := tFld K (tVar 1) "length") (own := [("letter", 8)]) (g := gName 8) (by rfl) nd (pi_str (pe_fld (pv 1) rfl)) (blkOk_by (own := [("letter", 8)]) (N := nBI) (sc := defScope sBInit) (by decide +kernel))
          (fun _ _ _ _ _ => pg_name (i := 8) nd rfl (Or.inl rfl)) (fun _ _ _ _ _ => pts_nil) (fun _ _ _ _ _ => pv 8) (fun _ _ _ _ _ => by exact pe_fld (pv 1) rfl)) rfl)
      (pss_cons (ps_for PassesOwn.never rfl (pi_tup (pv 2)) (pg_tup (by rfl) (pgs_cons (pg_name (i := 4) nd rfl (Or.inl rfl)) (pgs_cons (pg_name (i := 5) nd rfl (Or.inl rfl)) pgs_nil))) (pss_one (ps_expr (pe_meth (pv 0) T.cl mT GT hr bT .nil pass0 (pa_cons (pv 4) (pa_cons (pv 5) pa_nil))))))
      (pss_one (ps_for PassesOwn.never rfl (pi_tup (pv 3)) (pg_name (i := 6) nd rfl (Or.inl rfl)) (pss_one ps_never)))))), ?_⟩
    refine ⟨_, rfl, b, C, dxb, _, _, rfl, hbd, TC.cl, TC.nN, bf_length _ _, n, rfl, by omega, by omega, fun D hD => ?_⟩
    refine lc_range (lo := 0) (n := n.toNat) (fun i H' => Same H H' ∧ H' D = some (.lst (alV (List.replicate i l)))) ⟨same_upd hD, upd_same⟩ ?_ ?_
    · rintro i H1 hi ⟨sm, hD1⟩
      refine ⟨rfl, _, rfl, b, C, dxb, _, _, rfl, sm _ _ hbd, TC.cl, TC.nL, bf_letters _ _, _, hD1, ?_, fun a o z => ?_, ?_⟩
      · unfold alV
        rw [List.length_map, List.length_replicate]
        omega
      · rw [upd_ne (ne_of_none z hD)]
        exact sm a o z
      · rw [upd_same, List.replicate_succ']
        unfold alV
        rw [List.map_append]
        rfl
    rintro H1 ⟨s1, hD1⟩
    refine ⟨_, rfl, p, CB, dx, _, rfl, s1 _ _ hp, T.cl, T.nA, by show 0 < 1000; decide, ?_⟩
    have pD : p ≠ D := ne_of_none hp hD
    have eA : upd H1 p (.ins CB dx (putF "allowed" (.ref D) [])) p = some (.ins CB dx (putF "allowed" (.ref D) [])) := upd_same
    have kA : ∀ a o, a ≠ p → H1 a = some o → upd H1 p (.ins CB dx (putF "allowed" (.ref D) [])) a = some o := fun a o n z => by rw [upd_ne n]; exact z
    generalize upd H1 p (.ins CB dx (putF "allowed" (.ref D) [])) = HA at eA kA
    have pb : b ≠ p := by
      intro z
      rw [z, hp] at hbd
      have := HO.ins.inj (Option.some.inj hbd)
      have h3 := this.2.2
      rw [bf_eq] at h3
      cases h3
    have hbdA := kA _ _ pb (s1 _ _ hbd)
    have hDA := kA _ _ pD.symm hD1
    refine ⟨_, rfl, b, C, dxb, _, _, rfl, hbdA, TC.cl, TC.nL, bf_letters _ _, tx l, rfl, fun D2 hD2 => ?_⟩
    refine dc_it (walk_str (z := tx l)) (fun i H' => Same HA H' ∧ H' D2 = some (.dK (kvsOf (l.take i) fun _ => 0))) ⟨same_upd hD2, upd_same⟩ (fun _ _ _ _ => trivial) ?_ ?_
    · rintro i x H3 H2 hi ⟨sm, hd⟩ ⟨rfl, c, hc, rfl⟩
      have hc' := tx_at hc
      have hlt := (List.getElem?_eq_some_iff.mp hc').1
      have hnot : ¬ c ∈ l.take i := fresh_at lnd hc'
      refine ⟨rfl, _, rfl, _, Sum.inr (one c), rfl, hd, ?_, fun a o z => ?_, ?_⟩
      · rw [kvs_len, List.length_take]
        omega
      · rw [upd_ne (ne_of_none z hD2)]
        exact sm a o z
      · rw [upd_same, List.take_succ_eq_append_getElem hlt, (List.getElem?_eq_some_iff.mp hc').2]
        exact congrArg (fun z => some (HO.dK z)) (putK_app hnot)
    rintro H2 ⟨s2, hD2'⟩
    rw [tx_size, List.take_length] at hD2'
    have eA2 := s2 _ _ eA
    have pD2 : p ≠ D2 := ne_of_none eA hD2
    refine ⟨_, rfl, p, CB, dx, _, rfl, eA2, T.cl, T.nL, by show 1 < 1000; decide, ?_⟩
    have eB : upd H2 p (.ins CB dx (putF "least" (.ref D2) (putF "allowed" (.ref D) []))) p = some (.ins CB dx (putF "least" (.ref D2) (putF "allowed" (.ref D) []))) := upd_same
    have kB : ∀ a o, a ≠ p → H2 a = some o → upd H2 p (.ins CB dx (putF "least" (.ref D2) (putF "allowed" (.ref D) []))) a = some o := fun a o n z => by rw [upd_ne n]; exact z
    generalize upd H2 p (.ins CB dx (putF "least" (.ref D2) (putF "allowed" (.ref D) []))) = HB at eB kB
    have hbdB := kB _ _ pb (s2 _ _ hbdA)
    have hDB := kB _ _ pD.symm (s2 _ _ hDA)
    have hD2B := kB _ _ pD2.symm hD2'
    refine ⟨_, rfl, b, C, dxb, _, _, rfl, hbdB, TC.cl, TC.nL, bf_letters _ _, tx l, rfl, fun D3 hD3 => ?_⟩
    refine dc_it (walk_str (z := tx l)) (fun i H' => Same HB H' ∧ H' D3 = some (.dK (kvsOf (l.take i) fun _ => ((n.toNat : Nat) : Int)))) ⟨same_upd hD3, upd_same⟩ (fun _ _ _ _ => trivial) ?_ ?_
    · rintro i x H3 H2 hi ⟨sm, hd⟩ ⟨rfl, c, hc, rfl⟩
      have hc' := tx_at hc
      have hlt := (List.getElem?_eq_some_iff.mp hc').1
      have hnot : ¬ c ∈ l.take i := fresh_at lnd hc'
      refine ⟨rfl, _, rfl, _, rfl, b, C, dxb, _, _, rfl, sm _ _ hbdB, TC.cl, TC.nN, bf_length _ _, _, Sum.inr (one c), rfl, hd, ?_, fun a o z => ?_, ?_⟩
      · rw [kvs_len, List.length_take]
        omega
      · rw [upd_ne (ne_of_none z hD3)]
        exact sm a o z
      · rw [upd_same, List.take_succ_eq_append_getElem hlt, (List.getElem?_eq_some_iff.mp hc').2]
        exact congrArg (fun z => some (HO.dK z)) (by have := putK_app (f := fun _ => ((n.toNat : Nat) : Int)) hnot; rw [← this, show ((n.toNat : Nat) : Int) = n by omega])
    rintro H3 ⟨s3, hD3'⟩
    rw [tx_size, List.take_length] at hD3'
    have eB3 := s3 _ _ eB
    have pD3 : p ≠ D3 := ne_of_none eB hD3
    refine ⟨_, rfl, p, CB, dx, _, rfl, eB3, T.cl, T.nG, by show 2 < 1000; decide, ?_⟩
    rw [bf_put]
    have eC : upd H3 p (.ins CB dx (bF D D2 D3)) p = some (.ins CB dx (bF D D2 D3)) := upd_same
    have kC : ∀ a o, a ≠ p → H3 a = some o → upd H3 p (.ins CB dx (bF D D2 D3)) a = some o := fun a o n z => by rw [upd_ne n]; exact z
    generalize upd H3 p (.ins CB dx (bF D D2 D3)) = HC at eC kC
    have keep0 : ∀ a o, a ≠ p → H a = some o → HC a = some o := fun a o n z => kC a o n (s3 _ _ (kB a o n (s2 _ _ (kA a o n (s1 _ _ z)))))
    have bt0 : BAt CB HC p ⟨dx, D, D2, D3⟩ l (bs0 l n.toNat) := ⟨eC, kC _ _ pD.symm (s3 _ _ hDB), kC _ _ pD2.symm (s3 _ _ hD2B), kC _ _ pD3.symm hD3', fun z => by
      have z : D2 = D3 := z
      rw [← z, hD2B] at hD3
      cases hD3⟩
    have fA : H D = none := hD
    have fD2 : H D2 = none := by
      cases z : H D2 with
      | none => rfl
      | some o =>
        have := kA D2 o (fun y => pD2 y.symm) (s1 _ _ z)
        rw [hD2] at this
        cases this
    have fD3 : H D3 = none := by
      cases z : H D3 with
      | none => rfl
      | some o =>
        have := kB D3 o (fun y => pD3 y.symm) (s2 _ _ (kA D3 o (fun y => pD3 y.symm) (s1 _ _ z)))
        rw [hD3] at this
        cases this
    have rp : r ≠ p := ne_of hv hp fun z => nomatch z
    have ep : e ≠ p := ne_of he hp fun z => nomatch z
    have base0 : (bs0 l n.toNat).al.length = n.toNat ∧ ∀ x ∈ (bs0 l n.toNat).al, x.length ≤ 26 := ⟨List.length_replicate .., fun x hx => by rw [(List.mem_replicate.mp hx).2]; exact l26⟩
    refine ⟨_, rfl, r, rfl, ⟨vs, SqT.of (keep0 _ _ rp hv)⟩, for_it (walk_tup (xs := vs)) (fun i σ H' => (∃ v4 v5 v6 v7 v8 : Option V, σ = [some (.ref p), some (.ref b), some (.ref r), some (.ref e), v4, v5, v6, v7, v8]) ∧ (∀ a o, a ≠ p → H a = some o → H' a = some o) ∧ BAt CB H' p ⟨dx, D, D2, D3⟩ l ((rows.take i).foldl rowB (bs0 l n.toNat)))
      ⟨⟨_, _, _, _, _, rfl⟩, keep0, bt0⟩ (fun i σ H' _ h => SqT.of (h.2.1 _ _ rp hv)) ?_ ?_⟩
    · rintro i x σ H5 H4 hi ⟨⟨v4, v5, v6, v7, v8, rfl⟩, keep, bt⟩ ⟨rfl, hx⟩
      obtain ⟨a, row, rfl, hrow, ha⟩ := hw.get hx
      have ap : a ≠ p := ne_of ha hp fun z => nomatch z
      have rk := rok row (List.mem_of_getElem? hrow)
      have hlt := (List.getElem?_eq_some_iff.mp hrow).1
      have ef : (rows.take (i + 1)).foldl rowB (bs0 l n.toNat) = rowB ((rows.take i).foldl rowB (bs0 l n.toNat)) row := by
        rw [List.take_succ_eq_append_getElem hlt, (List.getElem?_eq_some_iff.mp hrow).2, List.foldl_append]
        rfl
      rw [ef]
      have bo := bsF_ok (rows.take i) (bs0 l n.toNat) base0.1 base0.2
      generalize (rows.take i).foldl rowB (bs0 l n.toNat) = B at bt bo ⊢
      have g1 := rk.1.1
      have g2 := rk.2.1
      refine ⟨a, _, rfl, SqT.of (keep _ _ ap ha), rfl, _, _, rfl, _, _, rfl, rfl, ?_⟩
      refine ⟨_, rfl, p, dx, _, rfl, bt.p, bf_no D D2 D3 (by decide +kernel), _, rfl, _, rfl, p, ⟨dx, D, D2, D3⟩, l, row.1, row.2, B, rfl, bt, l26, by omega, by rw [bo.1]; omega, by omega, rk.1.2, bo.2, fun H6 k6 bt6 => ⟨⟨_, _, _, _, _, rfl⟩, fun c o n z => k6 c o (ne_of_none z fA) (ne_of_none z fD2) (ne_of_none z fD3) (keep c o n z), bt6⟩⟩
    rintro σ H4 ⟨⟨v4, v5, v6, v7, v8, rfl⟩, keep, bt⟩
    rw [hw.len, List.take_length] at bt
    refine ⟨_, rfl, e, rfl, ⟨[], SqT.of (keep _ _ ep he)⟩, for_it (walk_tup (xs := [])) (fun _ _ H' => H' = H4) rfl (fun _ _ H' _ h => by rw [h]; exact SqT.of (keep _ _ ep he)) ?_ ?_⟩
    · rintro i x σ H5 H6 hi _ _
      exact absurd hi (Nat.not_lt_zero _)
    · rintro σ H5 rfl
      exact fin _ _ (fun a o n z => keep a o n z) bt
end
end Gm

namespace Gm
open PySem L2
/-- the letters that are counted -/
def ctOf (l : List Nat) (n : Int) (b : BS) : List Nat := l.filter fun c => decide (0 < b.le c) || (decide (0 < b.gr c) && decide (b.gr c < n))
def usOf (l : List Nat) (b : BS) (rows : List Row) : List Nat := if rows.all (fun r => ordOk r.1 r.2) = true then l.filter (fun c => decide (0 < b.gr c)) else []
def wdOf (l : List Nat) (n : Int) (rows : List Row) : WD :=
  ⟨(bsOf l n.toNat rows).al.map fun t => cc t (usOf l (bsOf l n.toNat rows) rows), ctOf l n (bsOf l n.toNat rows), (ctOf l n (bsOf l n.toNat rows)).map (bsOf l n.toNat rows).le, (ctOf l n (bsOf l n.toNat rows)).map (bsOf l n.toNat rows).gr⟩
def spCnt (C CB : Addr) : Sp := fun vs H Q _ => ∃ (d p : Addr) (q : BParts) (l : List Nat) (n : Int) (b : BS), vs = [.ref d, .ref p] ∧ Bd C H d l n ∧ BAt CB H p q l b ∧ Q (.str (tx (ctOf l n b))) H
def spWInit (P : Program) (w : World) (C CB CW : Addr) : Sp := fun vs H Q _ => ∃ (p dx b r e : Addr) (l : List Nat) (n : Int) (rows : List Row), vs = [.ref p, .ref b, .ref r, .ref e] ∧ H p = some (.ins CW dx []) ∧ Bn C H b l n ∧ RowsAt H r rows ∧ (∀ x ∈ rows, RowOk l n x) ∧ rows.length ≤ 1000 ∧ H e = some (.tup []) ∧
  ∀ H' m, But p H H' → H m = none → WFix CW H' p m (wdOf l n rows) → MemOk P w H' m (wdOf l n rows) 0 → Q .non H'
theorem wf_p2 (a : Addr) (c : V) : putF "counted" c (putF "allowed" (.ref a) []) = ([("allowed", V.ref a), ("counted", c)] : List (Str × V)) := by
  have h1 : ¬ (("allowed" : Str) = "counted") := by decide +kernel
  simp only [putF]
  rw [if_neg h1]
theorem wf_p3 (a l : Addr) (c : V) : putF "least" (V.ref l) ([("allowed", V.ref a), ("counted", c)] : List (Str × V)) = ([("allowed", V.ref a), ("counted", c), ("least", .ref l)] : List (Str × V)) := by
  have h1 : ¬ (("allowed" : Str) = "least") := by decide +kernel
  have h2 : ¬ (("counted" : Str) = "least") := by decide +kernel
  simp only [putF]
  rw [if_neg h1, if_neg h2]
theorem wf_p4 (a l g : Addr) (c : V) : putF "greatest" (V.ref g) ([("allowed", V.ref a), ("counted", c), ("least", .ref l)] : List (Str × V)) = ([("allowed", V.ref a), ("counted", c), ("least", .ref l), ("greatest", .ref g)] : List (Str × V)) := by
  have h1 : ¬ (("allowed" : Str) = "greatest") := by decide +kernel
  have h2 : ¬ (("counted" : Str) = "greatest") := by decide +kernel
  have h3 : ¬ (("least" : Str) = "greatest") := by decide +kernel
  simp only [putF]
  rw [if_neg h1, if_neg h2, if_neg h3]
theorem wf_p5 (a l g m : Addr) (ct : List Nat) : putF "known" (V.ref m) ([("allowed", V.ref a), ("counted", .str (tx ct)), ("least", .ref l), ("greatest", .ref g)] : List (Str × V)) = wF a l g m ct := by
  have h1 : ¬ (("allowed" : Str) = "known") := by decide +kernel
  have h2 : ¬ (("counted" : Str) = "known") := by decide +kernel
  have h3 : ¬ (("least" : Str) = "known") := by decide +kernel
  have h4 : ¬ (("greatest" : Str) = "known") := by decide +kernel
  simp only [putF]
  rw [if_neg h1, if_neg h2, if_neg h3, if_neg h4]
  rfl
theorem wl_ct (a : V) (c : V) (r : List (Str × V)) : (("allowed", a) :: ("counted", c) :: r : List (Str × V)).lookup ("counted" : Str) = some c := by
  have h1 : (("counted" : Str) == "allowed") = false := by decide +kernel
  rw [List.lookup_cons, h1]; rfl
theorem ct_sub {l : List Nat} {n : Int} {b : BS} {c : Nat} (h : c ∈ ctOf l n b) : c ∈ l := (List.mem_filter.mp h).1
section
variable {P : Program} {w : World} {K : PySem.W.Frag} {mg : Str → Option Value} {base : Heap}
abbrev nCn : List Str := ["board", "bounds", "counted", "letter"]
theorem scCn : FnScope nCn ["board", "bounds"] (defScope sCnt) := ⟨rfl, rfl, rfl, by decide +kernel, rfl, by decide +kernel, by decide +kernel⟩
theorem ok_cnt {f C CB : Addr} {fd : FuncData} (F : Fun K "counted_letters" "counted_letters" sCnt f fd) (T : TxBd K mg CB) (TC : TxC K mg C) : FnOk P w K mg base CX0 1 f fd ["board", "bounds"] (spCnt C CB) := by
  refine F.ok scCn (fun vs H Q E h => ?_) (fun cdv A outer s H vs Q E hr h => ?_)
  · obtain ⟨d, p, q, l, n, b, rfl, _⟩ := h
    rfl
  · obtain ⟨d, p, q, l, n, b, rfl, ⟨⟨dxb, hbd⟩, l26, n1, n6⟩, bt, fin⟩ := h
    have nd := scCn.nd
    have hline : sizeLine = 16777216 := sizeLine_eq
    have hu1 : (A.deeper (PyProof.Rows.envOfC "counted_letters" (defScope sCnt) s.heap.objs.size f cdv)).units + 1 < cLine := by
      have := hr.un
      omega
    refine ⟨_, pss_cons (ps_set (i := 2) nd rfl (Or.inl rfl) pe_str)
      (pss_cons (ps_for PassesOwn.never rfl (pi_str (pe_fld (pv 0) rfl)) (pg_name (i := 3) nd rfl (Or.inl rfl)) (pss_one (ps_if (PW.pt (pw_or (pt_cmpR op_gt (pe_dget hu1 (pe_fld (pv 1) rfl) (pv 3) (fun _ _ => rfl)) pe_int (nomark _))
          (pw_or1 (pt_chain op_lt op_lt pe_int (pe_dget hu1 (pe_fld (pv 1) rfl) (pv 3) (fun _ _ => rfl)) (pe_fld (pv 0) rfl))))) (pss_one (ps_aug (i := 2) nd rfl (Or.inl rfl) (pv 3) iop_add_str)) pss_nil)))
      (pss_one (ps_ret (pv 2)))), ?_⟩
    refine ⟨_, rfl, d, C, dxb, _, _, rfl, hbd, TC.cl, TC.nL, bf_letters _ _, tx l, rfl, for_it (walk_str (z := tx l)) (fun i σ H' => (∃ v3 : Option V, σ = [some (.ref d), some (.ref p), some (.str (tx (ctOf (l.take i) n b))), v3]) ∧ H' = H) ⟨⟨_, rfl⟩, rfl⟩ (fun _ _ _ _ _ => trivial) ?_ ?_⟩
    · rintro i x σ H3 H2 hi ⟨⟨v3, rfl⟩, e2⟩ ⟨rfl, c, hc, rfl⟩
      subst e2
      have hc' := tx_at hc
      have hlt := (List.getElem?_eq_some_iff.mp hc').1
      have hcl := List.mem_of_getElem? hc'
      have st : ctOf (l.take (i + 1)) n b = ctOf (l.take i) n b ++ (if (decide (0 < b.le c) || (decide (0 < b.gr c) && decide (b.gr c < n))) = true then [c] else []) := by
        unfold ctOf
        rw [List.take_succ_eq_append_getElem hlt, (List.getElem?_eq_some_iff.mp hc').2, List.filter_append, List.filter_cons, List.filter_nil]
      have len : (tx (ctOf (l.take i) n b)).length + 1 ≤ sizeLine := by
        rw [tx_len]
        have h1 : (ctOf (l.take i) n b).length ≤ (l.take i).length := List.length_filter_le _ _
        rw [List.length_take] at h1
        omega
      have add : (decide (0 < b.le c) || (decide (0 < b.gr c) && decide (b.gr c < n))) = true → tx (ctOf (l.take i) n b) ++ one c = tx (ctOf (l.take (i + 1)) n b) := fun h => by
        rw [st, if_pos h, ← tx_app]
      have no : (decide (0 < b.le c) || (decide (0 < b.gr c) && decide (b.gr c < n))) = false → ctOf (l.take i) n b = ctOf (l.take (i + 1)) n b := fun h => by
        rw [st, h]; simp
      have g0 := DGet.k (k := Sum.inr (one c)) bt.l
      rw [valV_of hcl] at g0
      have g1 := DGet.k (k := Sum.inr (one c)) bt.g
      rw [valV_of hcl] at g1
      refine ⟨_, rfl, p, CB, q.dx, _, _, rfl, bt.p, T.cl, T.nL, bf_le q.a q.l q.g, _, rfl, q.l, _, rfl, g0, _, _, rfl, rfl, _, rfl, ?_⟩
      cases h1 : decide (0 < b.le c) with
      | true =>
        refine iteT ⟨_, rfl, _, rfl, _, _, rfl, rfl, len, ⟨some (.str (one c)), ?_⟩, rfl⟩
        rw [← add (by rw [h1]; rfl)]
        rfl
      | false =>
        refine iteF ⟨_, rfl, p, CB, q.dx, _, _, rfl, bt.p, T.cl, T.nG, bf_gr q.a q.l q.g, _, rfl, q.g, _, rfl, g1, _, _, rfl, rfl, _, rfl, ?_⟩
        cases h2 : decide (0 < b.gr c) with
        | false =>
          refine iteF ⟨_, rfl, ⟨some (.str (one c)), ?_⟩, rfl⟩
          rw [← no (by rw [h1, h2]; rfl)]
          rfl
        | true =>
          refine iteT ⟨_, rfl, d, C, dxb, _, _, rfl, hbd, TC.cl, TC.nN, bf_length _ _, _, _, rfl, rfl, _, rfl, ?_⟩
          refine ite2 (fun h => ?_) (fun h => ?_)
          · refine ⟨_, rfl, _, rfl, _, _, rfl, rfl, len, ⟨some (.str (one c)), ?_⟩, rfl⟩
            rw [← add (by rw [h1, h2, h]; rfl)]
            rfl
          · refine ⟨⟨some (.str (one c)), ?_⟩, rfl⟩
            rw [← no (by rw [h1, h2, Bool.eq_false_iff.mpr h]; rfl)]
            rfl
    · rintro σ H2 ⟨⟨v3, rfl⟩, rfl⟩
      rw [tx_size, List.take_length]
      exact ⟨_, rfl, fin⟩
abbrev nWI : List Str := ["self", "board", "rows", "facts", "bounds", "usable", "letter", "guess", "told", "letters"]
theorem scWI : FnScope nWI ["self", "board", "rows", "facts"] (defScope sWInit) := ⟨rfl, rfl, rfl, by decide +kernel, rfl, by decide +kernel, by decide +kernel⟩
theorem ok_winit {f fI fO fC fN C CB CW : Addr} {fd fdI fdO fdC fdN : FuncData} (F : Fun K "__init__" "Words.__init__" sWInit f fd) (T : TxN K mg CW) (TB : TxBd K mg CB) (TC : TxC K mg C) (all : mg "all" = none) (mB : mg "Bounds" = some (.ref CB))
    (M : Mk K CB fI) (GI : FnOk P w K mg base CX0 3 fI fdI ["self", "board", "rows", "facts"] (spBInit C CB)) (bI : Binds K fdI ["self", "board", "rows", "facts"] []) (GO : FnOk P w K mg base CX0 2 fO fdO ["guess", "told"] spOrd) (DO : Df K mg "is_in_order" fO fdO ["guess", "told"])
    (GC : FnOk P w K mg base CX0 1 fC fdC ["letters", "others"] spComm) (DC : Df K mg "common_letters" fC fdC ["letters", "others"]) (GN : FnOk P w K mg base CX0 1 fN fdN ["board", "bounds"] (spCnt C CB)) (DN : Df K mg "counted_letters" fN fdN ["board", "bounds"]) :
    FnOk P w K mg base CX0 5 f fd ["self", "board", "rows", "facts"] (spWInit P w C CB CW) := by
  refine F.ok scWI (fun vs H Q E h => ?_) (fun cdv A outer s H vs Q E hr h => ?_)
  · obtain ⟨p, dx, b, r, e, l, n, rows, rfl, _⟩ := h
    rfl
  · obtain ⟨p, dx, b, r, e, l, n, rows, rfl, hp, hb, hrw, rok, r1000, he, fin⟩ := h
    have nd := scWI.nd
    have hline : sizeLine = 16777216 := sizeLine_eq
    have hu1 : (A.deeper (PyProof.Rows.envOfC "Words.__init__" (defScope sWInit) s.heap.objs.size f cdv)).units + 1 < cLine := by
      have := hr.un
      omega
    have hr1 : Room 1 _ := hr.mono (by decide)
    have hr2 : Room 2 _ := hr.mono (by decide)
    have hr4 : Room (3 + 1) _ := hr
    refine ⟨_, pss_cons (ps_set (i := 4) nd rfl (Or.inr rfl) (pe_make M GI hr4 (by rfl) mB bI .nil pass0 (pa_cons (pv 1) (pa_cons (pv 2) (pa_cons (pv 3) pa_nil)))))
      (pss_cons (ps_set (i := 5) nd rfl (Or.inr rfl) (pe_join pe_str (pe_lc (tt := tTest (tOp (rI0 fun i j => .bl (decide (j < i))) (tDGet (tFld K (tVar 4) "greatest") (tVar 6)) (tC (.int 0)))) (own := [("letter", 6)]) (g := gName 6) (by rfl) nd (pi_str (pe_fld (pv 1) rfl)) (blkOk_by (own := [("letter", 6)]) (N := nWI) (sc := defScope sWInit) (by decide +kernel))
          (fun _ _ _ _ _ => pg_name (i := 6) nd rfl (Or.inl rfl)) (fun _ _ _ _ _ => by exact pts_one (pt_cmpR op_gt (pe_dget hu1 (pe_fld (pv 4) rfl) (pv 6) (fun _ _ => rfl)) pe_int (nomark _))) (fun _ _ _ _ _ => pv 6))))
      (C8.pss_cut (ps_if (pt_not (pt_val (pe_callB (cr_all rfl) (by rfl) all (by decide +kernel) (pa_cons (pe_lc (own := [("guess", 7), ("told", 8)]) (g := gTup K 2 (gCons (gName 7) (gCons (gName 8) gNil))) (by rfl) nd (pi_tup (pv 2)) (blkOk_by (own := [("guess", 7), ("told", 8)]) (N := nWI) (sc := defScope sWInit) (by decide +kernel))
          (fun _ _ _ _ _ => by exact pg_tup (by rfl) (pgs_cons (pg_name (i := 7) nd rfl (Or.inl rfl)) (pgs_cons (pg_name (i := 8) nd rfl (Or.inl rfl)) pgs_nil))) (fun _ _ _ _ _ => pts_nil) (fun _ _ _ _ _ => pe_call GO hr2 (by rfl) DO.mg DO.kp DO.b .nil pass0 (pa_cons (pv 7) (pa_cons (pv 8) pa_nil)))) pa_nil)))) (pss_one (ps_set (i := 5) nd rfl (Or.inr rfl) pe_str)) pss_nil)
      (pss_cons (ps_fld (pv 0) (pe_lc (own := [("letters", 9)]) (g := gName 9) (by rfl) nd (pi_list (pe_fld (pv 4) rfl)) (blkOk_by (own := [("letters", 9)]) (N := nWI) (sc := defScope sWInit) (by decide +kernel))
          (fun _ _ _ _ _ => pg_name (i := 9) nd rfl (Or.inl rfl)) (fun _ _ _ _ _ => pts_nil) (fun _ _ _ _ _ => pe_call GC hr1 (by rfl) DC.mg DC.kp DC.b .nil pass0 (pa_cons (pv 9) (pa_cons (pv 5) pa_nil)))) rfl)
      (pss_cons (ps_fld (pv 0) (pe_call GN hr1 (by rfl) DN.mg DN.kp DN.b .nil pass0 (pa_cons (pv 1) (pa_cons (pv 4) pa_nil))) rfl)
      (pss_cons (ps_fld (pv 0) (pe_lc (te := tDGet (tFld K (tVar 4) "least") (tVar 6)) (own := [("letter", 6)]) (g := gName 6) (by rfl) nd (pi_str (pe_fld (pv 0) rfl)) (blkOk_by (own := [("letter", 6)]) (N := nWI) (sc := defScope sWInit) (by decide +kernel))
          (fun _ _ _ _ _ => pg_name (i := 6) nd rfl (Or.inl rfl)) (fun _ _ _ _ _ => pts_nil) (fun _ _ _ _ _ => by exact pe_dget hu1 (pe_fld (pv 4) rfl) (pv 6) (fun _ _ => rfl))) rfl)
      (pss_cons (ps_fld (pv 0) (pe_lc (te := tDGet (tFld K (tVar 4) "greatest") (tVar 6)) (own := [("letter", 6)]) (g := gName 6) (by rfl) nd (pi_str (pe_fld (pv 0) rfl)) (blkOk_by (own := [("letter", 6)]) (N := nWI) (sc := defScope sWInit) (by decide +kernel))
          (fun _ _ _ _ _ => pg_name (i := 6) nd rfl (Or.inl rfl)) (fun _ _ _ _ _ => pts_nil) (fun _ _ _ _ _ => by exact pe_dget hu1 (pe_fld (pv 4) rfl) (pv 6) (fun _ _ => rfl))) rfl)
      (pss_one (ps_fld (pv 0) pe_mnew rfl)))))))), ?_⟩
    obtain ⟨vs, hv, hw⟩ := _root_.id hrw
    obtain ⟨⟨⟨dxb, hbd⟩, l26, n1, n6⟩, lnd⟩ := _root_.id hb
    refine ⟨_, rfl, _, rfl, _, rfl, fun x dxx nx ndx ne => ?_⟩
    have sm0 : Same H (upd (upd H dxx (.own x)) x (.ins CB dxx [])) := fun a o z => by rw [upd_ne (ne_of_none z nx), upd_ne (ne_of_none z ndx)]; exact z
    refine ⟨x, dxx, b, r, e, l, n, rows, rfl, upd_same, hb.same sm0, hrw.same sm0, rok, sm0 _ _ he, fun H1 q b1 bt1 => ⟨rfl, ?_⟩⟩
    have s1 : Same H H1 := fun a o z => b1 a o (ne_of_none z nx) (sm0 a o z)
    have bo := bsF_ok rows (bs0 l n.toNat) (n := n.toNat) (List.length_replicate ..) (fun y hy => by rw [(List.mem_replicate.mp hy).2]; exact l26)
    have bo : (bsOf l n.toNat rows).al.length = n.toNat ∧ ∀ y ∈ (bsOf l n.toNat rows).al, y.length ≤ 26 := bo
    have ewd : wdOf l n rows = ⟨(bsOf l n.toNat rows).al.map fun t => cc t (usOf l (bsOf l n.toNat rows) rows), ctOf l n (bsOf l n.toNat rows), (ctOf l n (bsOf l n.toNat rows)).map (bsOf l n.toNat rows).le, (ctOf l n (bsOf l n.toNat rows)).map (bsOf l n.toNat rows).gr⟩ := rfl
    rw [ewd] at fin
    clear ewd
    generalize bsOf l n.toNat rows = B at bt1 bo fin
    have ct26 : (ctOf l n B).length ≤ 26 := Nat.le_trans (List.length_filter_le _ _) l26
    have hbd1 := s1 _ _ hbd
    have hv1 := s1 _ _ hv
    have hw1 := hw.same s1
    refine ⟨⟨_, rfl⟩, _, rfl, b, C, dxb, _, _, rfl, hbd1, TC.cl, TC.nL, bf_letters _ _, tx l, rfl, fun D hD => ?_⟩
    refine lc_it (walk_str (z := tx l)) (fun i H' => Same H1 H' ∧ H' D = some (.lst (((l.take i).filter fun c => decide (0 < B.gr c)).map fun c => V.str (one c)))) ⟨same_upd hD, upd_same⟩ (fun _ _ _ _ => trivial) ?_ ?_
    · rintro i x0 H3 H2 hi ⟨sm, hd⟩ ⟨rfl, c, hc, rfl⟩
      have hc' := tx_at hc
      have hlt := (List.getElem?_eq_some_iff.mp hc').1
      have hcl := List.mem_of_getElem? hc'
      have bt' := bt1.same sm
      have g1 := DGet.k (k := Sum.inr (one c)) bt'.g
      rw [valV_of hcl] at g1
      have st : (l.take (i + 1)).filter (fun c => decide (0 < B.gr c)) = (l.take i).filter (fun c => decide (0 < B.gr c)) ++ (if decide (0 < B.gr c) = true then [c] else []) := by
        rw [List.take_succ_eq_append_getElem hlt, (List.getElem?_eq_some_iff.mp hc').2, List.filter_append, List.filter_cons, List.filter_nil]
      refine ⟨rfl, _, rfl, x, CB, q.dx, _, _, rfl, bt'.p, TB.cl, TB.nG, bf_gr q.a q.l q.g, _, rfl, q.g, _, rfl, g1, _, _, rfl, rfl, _, rfl, ?_⟩
      refine ite2 (fun hm => ?_) (fun hm => ?_)
      · rw [if_pos hm] at st
        refine ⟨_, rfl, _, hd, ?_, fun o u z => ?_, ?_⟩
        · have h1 := List.length_filter_le (fun c => decide (0 < B.gr c)) (l.take i)
          rw [List.length_take] at h1
          rw [List.length_map]
          omega
        · rw [upd_ne (ne_of_none z hD)]
          exact sm o u z
        · rw [upd_same, st, List.map_append]
          rfl
      · rw [if_neg hm, List.append_nil] at st
        exact ⟨sm, by rw [st]; exact hd⟩
    rintro H2 ⟨s2, hD2⟩
    rw [tx_size, List.take_length] at hD2
    refine ⟨_, D, (l.filter fun c => decide (0 < B.gr c)).map one, rfl, rfl, .inl (SqL.of (by rw [List.map_map]; exact hD2)), ?_, ?_⟩
    · have h1 := List.length_filter_le (fun c => decide (0 < B.gr c)) l
      rw [sum_one, List.length_map]
      show (l.filter fun c => decide (0 < B.gr c)).length + (l.filter fun c => decide (0 < B.gr c)).length * 0 ≤ 16777216
      omega
    rw [join_one]
    refine ⟨fun σ H' => ∃ us : List Nat, σ = [some (.ref p), some (.ref b), some (.ref r), some (.ref e), some (.ref x), some (.str (tx us)), none, none, none, none] ∧ Same H1 H' ∧ us = usOf l B rows, ?_, ?_⟩
    · refine ⟨_, rfl, r, rfl, ⟨vs, SqT.of (s2 _ _ hv1)⟩, fun D2 hD2 => ?_⟩
      refine lc_it (walk_tup (xs := vs)) (fun i H' => Same H2 H' ∧ H' D2 = some (.lst (((rows.take i).map fun r => ordOk r.1 r.2).map V.bl))) ⟨same_upd hD2, upd_same⟩ (fun i H' _ h => SqT.of (h.1 _ _ (s2 _ _ hv1))) ?_ ?_
      · rintro i x0 H4 H3 hi ⟨sm, hd⟩ ⟨rfl, hx⟩
        obtain ⟨a, row, rfl, hrow, ha⟩ := hw1.get hx
        have rk := rok row (List.mem_of_getElem? hrow)
        have hlt := (List.getElem?_eq_some_iff.mp hrow).1
        have k1 := rk.1.1
        have k2 := rk.2.1
        refine ⟨a, _, rfl, SqT.of (sm _ _ (s2 _ _ ha)), rfl, _, _, rfl, _, _, rfl, rfl, rfl, _, rfl, _, rfl, row.1, row.2, rfl, by omega, by omega, fun H5 s5 => ⟨_, s5 _ _ hd, ?_, fun o u z => ?_, ?_⟩⟩
        · rw [List.length_map, List.length_map, List.length_take]
          omega
        · rw [upd_ne (ne_of_none z hD2)]
          exact (sm.trans s5) o u z
        · rw [upd_same, List.take_succ_eq_append_getElem hlt, (List.getElem?_eq_some_iff.mp hrow).2, List.map_append, List.map_append]
          rfl
      · rintro H3 ⟨sm, hd⟩
        rw [hw1.len, List.take_length] at hd
        refine ⟨D2, _, rfl, SqL.of hd, _, rfl, ?_⟩
        have ea : ((rows.map fun r => ordOk r.1 r.2).all _root_.id) = rows.all fun r => ordOk r.1 r.2 := by
          rw [List.all_map]
          rfl
        rw [ea]
        cases eo : rows.all fun r => ordOk r.1 r.2 with
        | true => exact iteF ⟨_, rfl, s2.trans sm, by unfold usOf; rw [if_pos eo]⟩
        | false => exact iteT ⟨[], rfl, s2.trans sm, by unfold usOf; rw [if_neg (by rw [eo]; exact Bool.false_ne_true)]⟩
    rintro σ H3 ⟨us, rfl, s3, eus⟩
    rw [← eus] at fin
    clear eus hD2 s2 hD D
    have bt3 := bt1.same s3
    have s03 := s1.trans s3
    have hp3 := s03 _ _ hp
    have hb3 := hb.same s03
    have px : p ≠ x := ne_of_none hp nx
    refine ⟨_, rfl, x, CB, q.dx, _, _, rfl, bt3.p, TB.cl, TB.nA, bf_al q.a q.l q.g, q.a, rfl, ⟨_, SqL.of bt3.a⟩, fun D hD => ?_⟩
    refine lc_it (walk_list (xs := alV B.al)) (fun i H' => Same H3 H' ∧ H' D = some (.lst (alV ((B.al.take i).map fun t => cc t us)))) ⟨same_upd hD, upd_same⟩ (fun i H' _ h => SqL.of (h.1 _ _ bt3.a)) ?_ ?_
    · rintro i x0 H5 H4 hi ⟨sm, hd⟩ ⟨rfl, hx⟩
      obtain ⟨t, ht, rfl⟩ : ∃ t, B.al[i]? = some t ∧ V.str (tx t) = x0 := by
        unfold alV at hx
        rw [List.getElem?_map] at hx
        obtain ⟨t, h1, h2⟩ := Option.map_eq_some_iff.mp hx
        exact ⟨t, h1, h2⟩
      have hlt := (List.getElem?_eq_some_iff.mp ht).1
      have b6 := bo.1
      refine ⟨rfl, _, rfl, _, rfl, t, us, rfl, bo.2 t (List.mem_of_getElem? ht), fun H6 s6 => ⟨_, s6 _ _ hd, ?_, fun o u z => ?_, ?_⟩⟩
      · unfold alV
        rw [List.length_map, List.length_map, List.length_take]
        omega
      · rw [upd_ne (ne_of_none z hD)]
        exact (sm.trans s6) o u z
      · rw [upd_same, List.take_succ_eq_append_getElem hlt, (List.getElem?_eq_some_iff.mp ht).2, List.map_append]
        unfold alV
        rw [List.map_append]
        rfl
    rintro H4 ⟨s4, hD4⟩
    have lal : (alV B.al).length = B.al.length := List.length_map ..
    rw [lal, List.take_length] at hD4
    refine ⟨_, rfl, p, CW, dx, _, rfl, s4 _ _ hp3, T.cl, T.nA, by show 0 < 1000; decide, ?_⟩
    have pD : p ≠ D := ne_of_none hp3 hD
    have eA : upd H4 p (.ins CW dx (putF "allowed" (.ref D) [])) p = some (.ins CW dx (putF "allowed" (.ref D) [])) := upd_same
    have kA : ∀ a o, a ≠ p → H4 a = some o → upd H4 p (.ins CW dx (putF "allowed" (.ref D) [])) a = some o := fun a o n z => by rw [upd_ne n]; exact z
    generalize upd H4 p (.ins CW dx (putF "allowed" (.ref D) [])) = HA at eA kA
    have keep : ∀ a o, a ≠ p → H a = some o → HA a = some o := fun a o n z => kA a o n (s4 _ _ (s03 _ _ z))
    have pb : b ≠ p := by
      intro z
      rw [z, hp] at hbd
      have h3 := (HO.ins.inj (Option.some.inj hbd)).2.2
      rw [bf_eq] at h3
      cases h3
    have hbA : Bd C HA b l n := ⟨⟨dxb, keep _ _ pb hbd⟩, l26, n1, n6⟩
    have pqa : q.a ≠ p := ne_of bt3.a hp3 fun z => nomatch z
    have pql : q.l ≠ p := ne_of bt3.l hp3 fun z => nomatch z
    have pqg : q.g ≠ p := ne_of bt3.g hp3 fun z => nomatch z
    have btK : ∀ {HX HY : Hp}, BAt CB HX x q l B → (∀ a o, a ≠ p → HX a = some o → HY a = some o) → BAt CB HY x q l B := fun {HX HY} y k => ⟨k _ _ px.symm y.p, k _ _ pqa y.a, k _ _ pql y.l, k _ _ pqg y.g, y.n⟩
    have btA : BAt CB HA x q l B := btK (bt3.same s4) kA
    have dA := kA _ _ pD.symm hD4
    refine ⟨_, rfl, _, rfl, b, x, q, l, n, B, rfl, hbA, btA, ?_⟩
    refine ⟨_, rfl, p, CW, dx, _, rfl, eA, T.cl, T.nC, by show 1 < 1000; decide, ?_⟩
    rw [wf_p2]
    have eB : upd HA p (.ins CW dx [("allowed", .ref D), ("counted", .str (tx (ctOf l n B)))]) p = some (.ins CW dx [("allowed", .ref D), ("counted", .str (tx (ctOf l n B)))]) := upd_same
    have kB : ∀ a o, a ≠ p → HA a = some o → upd HA p (.ins CW dx [("allowed", .ref D), ("counted", .str (tx (ctOf l n B)))]) a = some o := fun a o n z => by rw [upd_ne n]; exact z
    generalize upd HA p (.ins CW dx [("allowed", .ref D), ("counted", .str (tx (ctOf l n B)))]) = HB at eB kB
    have btB := btK btA kB
    have dB := kB _ _ pD.symm dA
    refine ⟨_, rfl, p, CW, dx, _, _, rfl, eB, T.cl, T.nC, wl_ct _ _ _, tx (ctOf l n B), rfl, fun E hE => ?_⟩
    refine lc_it (walk_str (z := tx (ctOf l n B))) (fun i H' => Same HB H' ∧ H' E = some (.lst ((((ctOf l n B).take i).map B.le).map V.int))) ⟨same_upd hE, upd_same⟩ (fun _ _ _ _ => trivial) ?_ ?_
    · rintro i x0 H7 H6 hi ⟨sm, hd⟩ ⟨rfl, c, hc, rfl⟩
      have hc' := tx_at hc
      have hlt := (List.getElem?_eq_some_iff.mp hc').1
      have hcl := ct_sub (List.mem_of_getElem? hc')
      have bt' := btB.same sm
      have g0 := DGet.k (k := Sum.inr (one c)) bt'.l
      rw [valV_of hcl] at g0
      refine ⟨rfl, _, rfl, x, CB, q.dx, _, _, rfl, bt'.p, TB.cl, TB.nL, bf_le q.a q.l q.g, _, rfl, q.l, _, rfl, g0, _, hd, ?_, fun a o z => ?_, ?_⟩
      · rw [List.length_map, List.length_map, List.length_take]
        omega
      · rw [upd_ne (ne_of_none z hE)]
        exact sm a o z
      · rw [upd_same, List.take_succ_eq_append_getElem hlt, (List.getElem?_eq_some_iff.mp hc').2, List.map_append, List.map_append]
        rfl
    rintro HE ⟨sE, dE⟩
    rw [tx_size, List.take_length] at dE
    have eB' := sE _ _ eB
    have pE : p ≠ E := ne_of_none eB hE
    refine ⟨_, rfl, p, CW, dx, _, rfl, eB', T.cl, T.nL, by show 2 < 1000; decide, ?_⟩
    rw [wf_p3]
    have eC : upd HE p (.ins CW dx [("allowed", .ref D), ("counted", .str (tx (ctOf l n B))), ("least", .ref E)]) p = some (.ins CW dx [("allowed", .ref D), ("counted", .str (tx (ctOf l n B))), ("least", .ref E)]) := upd_same
    have kC : ∀ a o, a ≠ p → HE a = some o → upd HE p (.ins CW dx [("allowed", .ref D), ("counted", .str (tx (ctOf l n B))), ("least", .ref E)]) a = some o := fun a o n z => by rw [upd_ne n]; exact z
    generalize upd HE p (.ins CW dx [("allowed", .ref D), ("counted", .str (tx (ctOf l n B))), ("least", .ref E)]) = HC at eC kC
    have btC := btK (btB.same sE) kC
    have dC := kC _ _ pD.symm (sE _ _ dB)
    have dEC := kC _ _ pE.symm dE
    refine ⟨_, rfl, p, CW, dx, _, _, rfl, eC, T.cl, T.nC, wl_ct _ _ _, tx (ctOf l n B), rfl, fun G hG => ?_⟩
    refine lc_it (walk_str (z := tx (ctOf l n B))) (fun i H' => Same HC H' ∧ H' G = some (.lst ((((ctOf l n B).take i).map B.gr).map V.int))) ⟨same_upd hG, upd_same⟩ (fun _ _ _ _ => trivial) ?_ ?_
    · rintro i x0 H7 H6 hi ⟨sm, hd⟩ ⟨rfl, c, hc, rfl⟩
      have hc' := tx_at hc
      have hlt := (List.getElem?_eq_some_iff.mp hc').1
      have hcl := ct_sub (List.mem_of_getElem? hc')
      have bt' := btC.same sm
      have g0 := DGet.k (k := Sum.inr (one c)) bt'.g
      rw [valV_of hcl] at g0
      refine ⟨rfl, _, rfl, x, CB, q.dx, _, _, rfl, bt'.p, TB.cl, TB.nG, bf_gr q.a q.l q.g, _, rfl, q.g, _, rfl, g0, _, hd, ?_, fun a o z => ?_, ?_⟩
      · rw [List.length_map, List.length_map, List.length_take]
        omega
      · rw [upd_ne (ne_of_none z hG)]
        exact sm a o z
      · rw [upd_same, List.take_succ_eq_append_getElem hlt, (List.getElem?_eq_some_iff.mp hc').2, List.map_append, List.map_append]
        rfl
    rintro HG ⟨sG, dG⟩
    rw [tx_size, List.take_length] at dG
    have eC' := sG _ _ eC
    have pG : p ≠ G := ne_of_none eC hG
    refine ⟨_, rfl, p, CW, dx, _, rfl, eC', T.cl, T.nG, by show 3 < 1000; decide, ?_⟩
    rw [wf_p4]
    have eD : upd HG p (.ins CW dx [("allowed", .ref D), ("counted", .str (tx (ctOf l n B))), ("least", .ref E), ("greatest", .ref G)]) p = some (.ins CW dx [("allowed", .ref D), ("counted", .str (tx (ctOf l n B))), ("least", .ref E), ("greatest", .ref G)]) := upd_same
    have kD : ∀ a o, a ≠ p → HG a = some o → upd HG p (.ins CW dx [("allowed", .ref D), ("counted", .str (tx (ctOf l n B))), ("least", .ref E), ("greatest", .ref G)]) a = some o := fun a o n z => by rw [upd_ne n]; exact z
    generalize upd HG p (.ins CW dx [("allowed", .ref D), ("counted", .str (tx (ctOf l n B))), ("least", .ref E), ("greatest", .ref G)]) = HD at eD kD
    have dD := kD _ _ pD.symm (sG _ _ dC)
    have dED := kD _ _ pE.symm (sG _ _ dEC)
    have dGD := kD _ _ pG.symm dG
    refine fun m hm => ?_
    have sm := same_upd (o := memoO P w m []) hm
    have pm : p ≠ m := ne_of_none eD hm
    refine ⟨_, rfl, p, CW, dx, _, rfl, sm _ _ eD, T.cl, T.nK, by show 4 < 1000; decide, ?_⟩
    rw [wf_p5]
    have hm0 : H m = none := by
      cases z : H m with
      | none => rfl
      | some o =>
        have := kD _ _ (fun y => pm y.symm) (sG _ _ (kC _ _ (fun y => pm y.symm) (sE _ _ (kB _ _ (fun y => pm y.symm) (keep _ _ (fun y => pm y.symm) z)))))
        rw [hm] at this
        cases this
    refine fin _ m (fun a o n z => ?_) hm0 ⟨dx, D, E, G, upd_same, ?_, ?_, ?_⟩ ⟨[], ?_, (fun _ z => nomatch z), (fun _ z => nomatch z), Nat.le_refl _⟩
    · rw [upd_ne n]
      exact sm _ _ (kD _ _ n (sG _ _ (kC _ _ n (sE _ _ (kB _ _ n (keep _ _ n z))))))
    · rw [upd_ne pD.symm]
      exact sm _ _ dD
    · rw [upd_ne pE.symm]
      exact sm _ _ dED
    · rw [upd_ne pG.symm]
      exact sm _ _ dGD
    · rw [upd_ne pm.symm]
      exact upd_same
/-! ### has_word -/
def spHas (C : Addr) : Sp := fun vs H Q _ => ∃ (b r e : Addr) (l : List Nat) (n : Int) (rows : List Row), vs = [.ref b, .ref r, .ref e] ∧ Bn C H b l n ∧ RowsAt H r rows ∧ (∀ x ∈ rows, RowOk l n x) ∧ rows.length ≤ 1000 ∧ H e = some (.tup []) ∧
  ∀ H', Same H H' → Q (.bl (decide (0 < ways (wdOf l n rows) 0 (List.replicate (wdOf l n rows).ct.length 0)))) H'
theorem wd_ok {l : List Nat} {n : Int} {rows : List Row} (l26 : l.length ≤ 26) (n0 : 0 ≤ n) (n6 : n ≤ 6) : WOk (wdOf l n rows) := by
  have bo := bsF_ok rows (bs0 l n.toNat) (n := n.toNat) (List.length_replicate ..) (fun y hy => by rw [(List.mem_replicate.mp hy).2]; exact l26)
  have bo : (bsOf l n.toNat rows).al.length = n.toNat ∧ ∀ y ∈ (bsOf l n.toNat rows).al, y.length ≤ 26 := bo
  refine ⟨?_, ?_, ?_, fun a ha => ?_, ?_⟩
  · exact List.length_map ..
  · exact List.length_map ..
  · show (List.map _ _).length ≤ 6
    rw [List.length_map, bo.1]
    omega
  · obtain ⟨t, ht, rfl⟩ := List.mem_map.mp ha
    exact Nat.le_trans (cc_le _ _) (bo.2 t ht)
  · exact Nat.le_trans (List.length_filter_le _ _) l26
abbrev nHW : List Str := ["board", "rows", "facts"]
theorem scHW : FnScope nHW ["board", "rows", "facts"] (defScope sHas) := ⟨rfl, rfl, rfl, by decide +kernel, rfl, by decide +kernel, by decide +kernel⟩
theorem ok_has {n0 : Nat} {f fI fM C CB CW : Addr} {fd fdI fdM : FuncData} (F : Fun K "has_word" "has_word" sHas f fd) (T : TxN K mg CW) (mW : mg "Words" = some (.ref CW)) (M : Mk K CW fI) (GI : FnOk P w K mg base CX0 5 fI fdI ["self", "board", "rows", "facts"] (spWInit P w C CB CW)) (bI : Binds K fdI ["self", "board", "rows", "facts"] [])
    (mM : Meth K CW "many" fM) (GM : FnOk P w K mg base CX0 (n0 + 6) fM fdM ["self"] (spMany P w CW)) (bM : Binds K fdM ["self"] []) : FnOk P w K mg base CX0 (n0 + 7) f fd ["board", "rows", "facts"] (spHas C) := by
  refine F.ok scHW (fun vs H Q E h => ?_) (fun cdv A outer s H vs Q E hr h => ?_)
  · obtain ⟨b, r, e, l, n, rows, rfl, _⟩ := h
    rfl
  · obtain ⟨b, r, e, l, n, rows, rfl, hb, hrw, rok, r1000, he, fin⟩ := h
    have nd := scHW.nd
    have hr6 : Room (5 + 1) _ := hr.mono (by omega)
    have hn := hb.1.2
    refine ⟨_, pss_one (ps_ret (pe_cmpR op_gt (pe_meth0 (pe_make M GI hr6 (by rfl) mW bI .nil pass0 (pa_cons (pv 0) (pa_cons (pv 1) (pa_cons (pv 2) pa_nil)))) T.cl mM GM hr bM .nil pass0) pe_int (nomark _))), ?_⟩
    refine ⟨_, rfl, _, rfl, _, rfl, fun x dx nx ndx ne => ?_⟩
    have sm0 : Same H (upd (upd H dx (.own x)) x (.ins CW dx [])) := fun a o z => by rw [upd_ne (ne_of_none z nx), upd_ne (ne_of_none z ndx)]; exact z
    refine ⟨x, dx, b, r, e, l, n, rows, rfl, upd_same, hb.same sm0, hrw.same sm0, rok, r1000, sm0 _ _ he, fun H1 m b1 m0 fx me => ⟨rfl, ?_⟩⟩
    have s1 : Same H H1 := fun a o z => b1 a o (ne_of_none z nx) (sm0 a o z)
    obtain ⟨dx', a, l', g, hp, _⟩ := _root_.id fx
    refine ⟨x, dx', _, rfl, hp, wf_no a l' g m _ (by decide +kernel), x, m, _, 0, rfl, wd_ok hn.1 (by omega) hn.2.2, fx, me, by rw [Nat.zero_add]; exact (wd_ok hn.1 (by omega) hn.2.2).fit, fun H2 b2 me2 => ?_⟩
    refine ⟨_, _, rfl, rfl, fin H2 fun c o z => ?_⟩
    exact b2 c o (ne_of_none (sm0 c o z) m0) (s1 c o z)
end
end Gm

/-! can_come as lists of codes -/
namespace Gm
def lm (g t wd : List Nat) : List Nat := ((g.zip t).filter fun p => decide (p.2 ∈ wd)).map (·.1)
def ordB : List (Nat × Nat) → List Nat → Bool
  | [], _ => true
  | (a, m) :: r, u => if m = 49 ∧ a ∈ u then false else ordB r (if m = 48 then u ++ [a] else u)
def fillB : List Nat → List Nat → List Nat → Bool
  | [], o, _ => o.isEmpty
  | g :: gs, o, s => if gs.length + 1 < o.length then false else (o.any fun c => !decide (c = g) && fillB gs (o.erase c) s) || (s.any (fun c => !decide (c = g)) && fillB gs o s)
def spare (l used : List Nat) : List Nat := l.filter fun c => !decide (c ∈ used)
def comeB (l g t : List Nat) : Bool := ordB (g.zip t) [] && fillB (lm g t [48, 49]) (lm g t [49]) (spare l (lm g t [48]))
end Gm

/-! which marks can come: comeB tells whether a word gives them -/
namespace Gm
theorem lm_cons (a m : Nat) (g t wd : List Nat) : lm (a :: g) (m :: t) wd = if m ∈ wd then a :: lm g t wd else lm g t wd := by
  unfold lm
  rw [List.zip_cons_cons, List.filter_cons]
  by_cases h : m ∈ wd <;> simp [h]
theorem un_cons (a b : Nat) (g w : List Nat) : un (a :: g) (b :: w) = if a = b then un g w else b :: un g w := by
  unfold un
  rw [List.zip_cons_cons, List.filter_cons]
  by_cases h : a = b <;> simp [h]
theorem cnt_cons (a b : Nat) (l : List Nat) : (b :: l).count a = l.count a + if b = a then 1 else 0 := by
  rw [List.count_cons]
  by_cases h : b = a <;> simp [h]
theorem cnt_erase (a b : Nat) (l : List Nat) : (l.erase b).count a = l.count a - if b = a then 1 else 0 := by
  rw [List.count_erase]
  by_cases h : b = a <;> simp [h]
theorem mem_cnt {a : Nat} {l : List Nat} : a ∈ l ↔ 0 < l.count a := List.count_pos_iff.symm
def Hits : List Nat → List Nat → List Nat → Prop
  | [], [], [] => True
  | a :: g, b :: w, m :: t => (m = 50 ↔ a = b) ∧ (m = 48 ∨ m = 49 ∨ m = 50) ∧ Hits g w t
  | _, _, _ => False
theorem ord_zero : ∀ (g t : List Nat) (U : List Nat) (a : Nat), ordB (g.zip t) U = true → a ∈ U → (lm g t [49]).count a = 0
  | [], t, U, a, _, _ => by simp [lm]
  | b :: g, [], U, a, _, _ => by simp [lm]
  | b :: g, m :: t, U, a, h, ha => by
    rw [List.zip_cons_cons, ordB] at h
    by_cases c : m = 49 ∧ b ∈ U
    · rw [if_pos c] at h; cases h
    · rw [if_neg c] at h
      have ih := ord_zero g t _ a h (by split <;> simp [ha])
      rw [lm_cons]
      by_cases c2 : m ∈ [49]
      · rw [if_pos c2, cnt_cons, ih]
        have : m = 49 := by simpa using c2
        have : ¬ b = a := fun e => c ⟨this, e ▸ ha⟩
        simp [this]
      · rw [if_neg c2]; exact ih
theorem go_of : ∀ (g w t u U : List Nat), Hits g w t → ordB (g.zip t) U = true → (∀ a, (lm g t [49]).count a ≤ u.count a) → (∀ a, a ∈ lm g t [48] → u.count a = (lm g t [49]).count a) → go (g.zip w) u = t
  | [], [], [], _, _, _, _, _, _ => rfl
  | a :: g, b :: w, m :: t, u, U, hh, ho, h1, h2 => by
    obtain ⟨hm, hd, hh⟩ := hh
    rw [List.zip_cons_cons, ordB] at ho
    by_cases c : m = 49 ∧ a ∈ U
    · rw [if_pos c] at ho; cases ho
    rw [if_neg c] at ho
    rw [List.zip_cons_cons, go]
    by_cases e : a = b
    · have m50 := hm.mpr e
      subst m50
      rw [if_pos e]
      refine congrArg _ (go_of g w t u _ hh ho (fun x => ?_) fun x hx => ?_)
      · have := h1 x
        rw [lm_cons, if_neg (by decide)] at this
        exact this
      · have := h2 x (by rw [lm_cons, if_neg (by decide)]; exact hx)
        rw [lm_cons, if_neg (by decide)] at this
        exact this
    · rw [if_neg e]
      have n50 : ¬ m = 50 := fun z => e (hm.mp z)
      by_cases m49 : m = 49
      · subst m49
        have ha := h1 a
        rw [lm_cons, if_pos (by decide), cnt_cons, if_pos rfl] at ha
        have hu : a ∈ u := mem_cnt.mpr (by omega)
        rw [if_pos hu]
        refine congrArg _ (go_of g w t (u.erase a) _ hh ho (fun x => ?_) fun x hx => ?_)
        · have := h1 x
          rw [lm_cons, if_pos (by decide), cnt_cons] at this
          rw [cnt_erase]
          omega
        · have := h2 x (by rw [lm_cons, if_neg (by decide)]; exact hx)
          rw [lm_cons, if_pos (by decide), cnt_cons] at this
          rw [cnt_erase]
          omega
      · have m48 : m = 48 := by omega
        subst m48
        rw [if_pos rfl] at ho
        have z := ord_zero g t _ a ho (by simp)
        have h2a := h2 a (by rw [lm_cons, if_pos (by decide)]; exact List.mem_cons_self)
        rw [lm_cons, if_neg (by decide), z] at h2a
        have hu : ¬ a ∈ u := fun q => by have := mem_cnt.mp q; omega
        rw [if_neg hu]
        refine congrArg _ (go_of g w t u _ hh ho (fun x => ?_) fun x hx => ?_)
        · have := h1 x
          rw [lm_cons, if_neg (by decide)] at this
          exact this
        · have := h2 x (by rw [lm_cons, if_pos (by decide)]; exact List.mem_cons_of_mem _ hx)
          rw [lm_cons, if_neg (by decide)] at this
          exact this
theorem of_go : ∀ (g w u U : List Nat), g.length = w.length → (∀ a, a ∈ U → ¬ a ∈ u) → Hits g w (go (g.zip w) u) ∧ ordB (g.zip (go (g.zip w) u)) U = true ∧ (∀ a, (lm g (go (g.zip w) u) [49]).count a ≤ u.count a) ∧
    (∀ a, a ∈ lm g (go (g.zip w) u) [48] → u.count a = (lm g (go (g.zip w) u) [49]).count a)
  | [], [], u, U, _, _ => ⟨trivial, rfl, fun a => by simp [lm], fun a h => by simp [lm] at h⟩
  | a :: g, b :: w, u, U, hl, hU => by
    have hl' : g.length = w.length := by simpa using hl
    rw [List.zip_cons_cons, go]
    by_cases e : a = b
    · rw [if_pos e]
      obtain ⟨i1, i2, i3, i4⟩ := of_go g w u U hl' hU
      refine ⟨⟨by simp [e], by simp, i1⟩, ?_, ?_, ?_⟩
      · rw [List.zip_cons_cons, ordB, if_neg (fun q => absurd q.1 (by decide)), if_neg (by decide)]
        exact i2
      · intro x; rw [lm_cons, if_neg (by decide)]; exact i3 x
      · intro x hx; rw [lm_cons, if_neg (by decide)] at hx ⊢; exact i4 x hx
    · rw [if_neg e]
      by_cases hu : a ∈ u
      · rw [if_pos hu]
        have hU2 : ∀ x, x ∈ U → ¬ x ∈ u.erase a := fun x hx q => hU x hx (List.mem_of_mem_erase q)
        obtain ⟨i1, i2, i3, i4⟩ := of_go g w (u.erase a) U hl' hU2
        have ca := mem_cnt.mp hu
        refine ⟨⟨by simp [e], by simp, i1⟩, ?_, ?_, ?_⟩
        · rw [List.zip_cons_cons, ordB, if_neg (fun q => hU a q.2 hu), if_neg (by decide)]
          exact i2
        · intro x
          have := i3 x
          rw [cnt_erase] at this
          rw [lm_cons, if_pos (by decide), cnt_cons]
          by_cases q : a = x
          · subst q; simp only [if_true] at this ⊢; omega
          · simp only [q, if_false] at this ⊢; omega
        · intro x hx
          rw [lm_cons, if_neg (by decide)] at hx
          have := i4 x hx
          rw [cnt_erase] at this
          rw [lm_cons, if_pos (by decide), cnt_cons]
          by_cases q : a = x
          · subst q; simp only [if_true] at this ⊢; omega
          · simp only [q, if_false] at this ⊢; omega
      · rw [if_neg hu]
        have hU2 : ∀ x, x ∈ U ++ [a] → ¬ x ∈ u := fun x hx => by
          rcases List.mem_append.mp hx with q | q
          · exact hU x q
          · rw [List.mem_singleton.mp q]; exact hu
        obtain ⟨i1, i2, i3, i4⟩ := of_go g w u (U ++ [a]) hl' hU2
        refine ⟨⟨by simp [e], by simp, i1⟩, ?_, ?_, ?_⟩
        · rw [List.zip_cons_cons, ordB, if_neg (by simp), if_pos rfl]
          exact i2
        · intro x; rw [lm_cons, if_neg (by decide)]; exact i3 x
        · intro x hx
          rw [lm_cons, if_pos (by decide)] at hx
          rw [lm_cons, if_neg (by decide)]
          rcases List.mem_cons.mp hx with q | q
          · subst q
            have z := ord_zero g _ _ x i2 (by simp)
            have : u.count x = 0 := by
              have : ¬ 0 < u.count x := fun z => hu (mem_cnt.mpr z)
              omega
            omega
          · exact i4 x q
/-! ### the gaps are filled -/
def Ne2 : List Nat → List Nat → Prop
  | [], [] => True
  | y :: ys, g :: gs => y ≠ g ∧ Ne2 ys gs
  | _, _ => False
theorem ne2_len : ∀ (ys gs : List Nat), Ne2 ys gs → ys.length = gs.length
  | [], [], _ => rfl
  | y :: ys, g :: gs, h => by rw [List.length_cons, List.length_cons, ne2_len ys gs h.2]
theorem len_of_cnt : ∀ (o ys : List Nat), (∀ a, o.count a ≤ ys.count a) → o.length ≤ ys.length
  | [], ys, _ => Nat.zero_le _
  | a :: o, ys, h => by
    have ha := h a
    rw [cnt_cons, if_pos rfl] at ha
    have hm : a ∈ ys := mem_cnt.mpr (by omega)
    have ih := len_of_cnt o (ys.erase a) fun x => by
      have := h x
      rw [cnt_cons] at this
      rw [cnt_erase]
      omega
    rw [List.length_erase_of_mem hm] at ih
    have := List.length_pos_of_mem hm
    rw [List.length_cons]
    omega
theorem fill_of : ∀ (gs o s ys : List Nat), Ne2 ys gs → (∀ a, o.count a ≤ ys.count a) → (∀ a, ¬ a ∈ s → ys.count a = o.count a) → fillB gs o s = true
  | [], o, s, [], _, h1, _ => by
    have : o.length ≤ 0 := len_of_cnt o [] h1
    rw [fillB, List.length_eq_zero_iff.mp (Nat.le_zero.mp this)]
    rfl
  | g :: gs, o, s, y :: ys, hn, h1, h2 => by
    have hl := len_of_cnt o _ h1
    have hy := ne2_len _ _ hn.2
    rw [List.length_cons] at hl
    rw [fillB, if_neg (by omega), Bool.or_eq_true]
    by_cases ho : y ∈ o
    · refine .inl (List.any_eq_true.mpr ⟨y, ho, ?_⟩)
      have co := mem_cnt.mp ho
      rw [fill_of gs (o.erase y) s ys hn.2 (fun a => ?_) fun a ha => ?_]
      · simp [hn.1]
      · have := h1 a
        rw [cnt_cons] at this
        rw [cnt_erase]
        omega
      · have := h2 a ha
        rw [cnt_cons] at this
        rw [cnt_erase]
        omega
    · have co : o.count y = 0 := by
        have : ¬ 0 < o.count y := fun z => ho (mem_cnt.mpr z)
        omega
      have hs : y ∈ s := by
        refine Decidable.byContradiction fun q => ?_
        have := h2 y q
        rw [cnt_cons, if_pos rfl] at this
        omega
      refine .inr ?_
      rw [Bool.and_eq_true]
      refine ⟨List.any_eq_true.mpr ⟨y, hs, by simp [hn.1]⟩, fill_of gs o s ys hn.2 (fun a => ?_) fun a ha => ?_⟩
      · have := h1 a
        rw [cnt_cons] at this
        by_cases q : y = a
        · subst q; omega
        · simp only [q, if_false] at this; omega
      · have := h2 a ha
        rw [cnt_cons] at this
        have q : ¬ y = a := fun e => ha (e ▸ hs)
        simp only [q, if_false] at this
        omega
theorem of_fill : ∀ (gs o s : List Nat), fillB gs o s = true → ∃ ys, Ne2 ys gs ∧ (∀ a, o.count a ≤ ys.count a) ∧ (∀ a, ¬ a ∈ s → ys.count a = o.count a)
  | [], o, s, h => by
    have : o = [] := by simpa [fillB] using h
    subst this
    exact ⟨[], trivial, fun a => Nat.le_refl _, fun a _ => rfl⟩
  | g :: gs, o, s, h => by
    rw [fillB] at h
    by_cases hl : gs.length + 1 < o.length
    · rw [if_pos hl] at h; cases h
    rw [if_neg hl, Bool.or_eq_true] at h
    rcases h with h | h
    · obtain ⟨c, hc, h⟩ := List.any_eq_true.mp h
      rw [Bool.and_eq_true] at h
      have hcg : c ≠ g := by simpa using h.1
      obtain ⟨ys, y1, y2, y3⟩ := of_fill gs (o.erase c) s h.2
      have co := mem_cnt.mp hc
      refine ⟨c :: ys, ⟨hcg, y1⟩, fun a => ?_, fun a ha => ?_⟩
      · have := y2 a
        rw [cnt_erase] at this
        rw [cnt_cons]
        by_cases q : c = a
        · subst q; simp only [if_true] at this ⊢; omega
        · simp only [q, if_false] at this ⊢; omega
      · have := y3 a ha
        rw [cnt_erase] at this
        rw [cnt_cons]
        by_cases q : c = a
        · subst q; simp only [if_true] at this ⊢; omega
        · simp only [q, if_false] at this ⊢; omega
    · rw [Bool.and_eq_true] at h
      obtain ⟨c, hc, hcg⟩ := List.any_eq_true.mp h.1
      have hcg : c ≠ g := by simpa using hcg
      obtain ⟨ys, y1, y2, y3⟩ := of_fill gs o s h.2
      refine ⟨c :: ys, ⟨hcg, y1⟩, fun a => ?_, fun a ha => ?_⟩
      · have := y2 a
        rw [cnt_cons]
        omega
      · have := y3 a ha
        rw [cnt_cons]
        have q : ¬ c = a := fun e => ha (e ▸ hc)
        simp only [q, if_false]
        omega
/-! ### words from fillings -/
def weave : List Nat → List Nat → List Nat → List Nat
  | [], _, _ => []
  | _ :: _, [], _ => []
  | a :: g, m :: t, ys => if m = 50 then a :: weave g t ys else ys.headD 0 :: weave g t ys.tail
def Marks (t : List Nat) : Prop := ∀ m ∈ t, m = 48 ∨ m = 49 ∨ m = 50
theorem weave_ok : ∀ (g t ys : List Nat), g.length = t.length → Marks t → Ne2 ys (lm g t [48, 49]) → Hits g (weave g t ys) t ∧ un g (weave g t ys) = ys ∧ (∀ c ∈ weave g t ys, c ∈ g ∨ c ∈ ys) ∧ (weave g t ys).length = g.length
  | [], [], ys, _, _, h => by
    cases ys with
    | nil => exact ⟨trivial, rfl, fun c hc => (by cases hc), rfl⟩
    | cons y ys => exact h.elim
  | a :: g, m :: t, ys, hl, hm, h => by
    have hl' : g.length = t.length := by simpa using hl
    have hm' : Marks t := fun x hx => hm x (List.mem_cons_of_mem _ hx)
    rw [lm_cons] at h
    by_cases e : m = 50
    · subst e
      rw [if_neg (by decide)] at h
      obtain ⟨i1, i2, i3, i4⟩ := weave_ok g t ys hl' hm' h
      rw [weave, if_pos rfl]
      refine ⟨⟨by simp, by simp, i1⟩, by rw [un_cons, if_pos rfl]; exact i2, fun c hc => ?_, by rw [List.length_cons, i4]; rfl⟩
      rcases List.mem_cons.mp hc with q | q
      · exact .inl (by rw [q]; exact List.mem_cons_self)
      · exact (i3 c q).elim (fun z => .inl (List.mem_cons_of_mem _ z)) .inr
    · have h4 : m ∈ [48, 49] := by
        rcases hm m List.mem_cons_self with q | q | q
        · simp [q]
        · simp [q]
        · exact absurd q e
      rw [if_pos h4] at h
      cases ys with
      | nil => exact h.elim
      | cons y ys =>
        obtain ⟨i1, i2, i3, i4⟩ := weave_ok g t ys hl' hm' h.2
        rw [weave, if_neg e, List.headD_cons, List.tail_cons]
        have ne : ¬ a = y := fun q => h.1 q.symm
        refine ⟨⟨⟨fun q => absurd q e, fun q => absurd q ne⟩, hm m List.mem_cons_self, i1⟩, by rw [un_cons, if_neg ne, i2], fun c hc => ?_, by show (weave g t ys).length + 1 = g.length + 1; rw [i4]⟩
        rcases List.mem_cons.mp hc with q | q
        · exact .inr (by rw [q]; exact List.mem_cons_self)
        · exact (i3 c q).elim (fun z => .inl (List.mem_cons_of_mem _ z)) fun z => .inr (List.mem_cons_of_mem _ z)
theorem hits_ne2 : ∀ (g w t : List Nat), Hits g w t → Ne2 (un g w) (lm g t [48, 49])
  | [], [], [], _ => trivial
  | a :: g, b :: w, m :: t, ⟨h1, h2, h3⟩ => by
    rw [un_cons, lm_cons]
    by_cases e : a = b
    · have := h1.mpr e
      subst this
      rw [if_pos e, if_neg (by decide)]
      exact hits_ne2 g w t h3
    · have n : ¬ m = 50 := fun q => e (h1.mp q)
      have h4 : m ∈ [48, 49] := by
        rcases h2 with q | q | q
        · simp [q]
        · simp [q]
        · exact absurd q n
      rw [if_neg e, if_pos h4]
      exact ⟨fun q => e q.symm, hits_ne2 g w t h3⟩
theorem un_sub : ∀ (g w : List Nat) (c : Nat), c ∈ un g w → c ∈ w := fun g w c h => by
  unfold un at h
  obtain ⟨p, hp, rfl⟩ := List.mem_map.mp h
  exact (List.of_mem_zip (List.mem_filter.mp hp).1).2
theorem lm_sub : ∀ (g t wd : List Nat) (c : Nat), c ∈ lm g t wd → c ∈ g := fun g t wd c h => by
  unfold lm at h
  obtain ⟨p, hp, rfl⟩ := List.mem_map.mp h
  exact (List.of_mem_zip (List.mem_filter.mp hp).1).1
theorem mem_spare {l used : List Nat} {c : Nat} : c ∈ spare l used ↔ c ∈ l ∧ ¬ c ∈ used := by
  unfold spare
  rw [List.mem_filter]
  simp
/-- can_come tells it: some word of the letters l gets the guess g the marks t -/
theorem come_iff {l g t : List Nat} (hl : g.length = t.length) (hm : Marks t) (hg : ∀ c ∈ g, c ∈ l) : comeB l g t = true ↔ ∃ w, w.length = g.length ∧ (∀ c ∈ w, c ∈ l) ∧ mk g w = t := by
  constructor
  · intro h
    unfold comeB at h
    rw [Bool.and_eq_true] at h
    obtain ⟨ys, y1, y2, y3⟩ := of_fill _ _ _ h.2
    obtain ⟨w1, w2, w3, w4⟩ := weave_ok g t ys hl hm y1
    refine ⟨weave g t ys, w4, fun c hc => ?_, ?_⟩
    · rcases w3 c hc with q | q
      · exact hg c q
      · by_cases hs : c ∈ spare l (lm g t [48])
        · exact (mem_spare.mp hs).1
        · have := y3 c hs
          have cy := mem_cnt.mp q
          exact hg c (lm_sub g t [49] c (mem_cnt.mpr (by omega)))
    · unfold mk
      rw [w2]
      exact go_of g _ t ys [] w1 h.1 y2 fun a ha => y3 a fun q => (mem_spare.mp q).2 ha
  · rintro ⟨w, hw, hwl, rfl⟩
    obtain ⟨i1, i2, i3, i4⟩ := of_go g w (un g w) [] hw.symm fun a ha => by cases ha
    unfold comeB
    rw [Bool.and_eq_true]
    refine ⟨i2, fill_of _ _ _ (un g w) (hits_ne2 g w _ i1) i3 fun a ha => ?_⟩
    by_cases hz : a ∈ lm g (go (g.zip w) (un g w)) [48]
    · exact i4 a hz
    · have hal : ¬ a ∈ l := fun q => ha (mem_spare.mpr ⟨q, hz⟩)
      have c0 : (un g w).count a = 0 := by
        have : ¬ 0 < (un g w).count a := fun z => hal (hwl a (un_sub g w a (mem_cnt.mpr z)))
        omega
      have := i3 a
      show (un g w).count a = (lm g (go (g.zip w) (un g w)) [49]).count a
      omega
theorem hits_marks : ∀ (g w t : List Nat), Hits g w t → Marks t
  | [], [], [], _ => fun m hm => (by cases hm)
  | a :: g, b :: w, m :: t, ⟨_, h2, h3⟩ => fun x hx => by
    rcases List.mem_cons.mp hx with q | q
    · rw [q]; exact h2
    · exact hits_marks g w t h3 x q
theorem mk_marks {g w : List Nat} (h : g.length = w.length) : Marks (mk g w) := hits_marks g w _ (of_go g w (un g w) [] h fun a ha => by cases ha).1
theorem mk_len {g w : List Nat} (h : g.length = w.length) : (mk g w).length = g.length := by
  unfold mk
  rw [go_length, List.length_zip]
  omega
theorem hits_all : ∀ (g w t : List Nat), Hits g w t → (t = List.replicate t.length 50 ↔ g = w)
  | [], [], [], _ => by simp
  | a :: g, b :: w, m :: t, ⟨h1, _, h3⟩ => by
    have ih := hits_all g w t h3
    rw [List.length_cons, List.replicate_succ, List.cons.injEq, List.cons.injEq, ih, h1]
/-- marks 2 alone: the word itself -/
theorem mk_all {g w : List Nat} (h : g.length = w.length) : mk g w = List.replicate g.length 50 ↔ g = w := by
  have := hits_all g w _ (of_go g w (un g w) [] h fun a ha => by cases ha).1
  have hl : (mk g w).length = g.length := mk_len h
  unfold mk at hl ⊢
  rw [hl] at this
  exact this
end Gm

/-! the marks as the law works them out, place by place -/
namespace Gm
abbrev PL := List (Nat × Nat)
def us (a : Nat) (z : PL) : Nat := (z.filter fun p => decide (p.1 = a) && !decide (p.2 = 48)).length
def hs (a : Nat) (z : PL) : Nat := (z.filter fun p => decide (p.1 = a) && decide (p.1 = p.2)).length
def hitL (g w : List Nat) : List Nat := (g.zip w).map fun p => if p.1 = p.2 then 50 else 48
theorem us_cons (a x y : Nat) (z : PL) : us a ((x, y) :: z) = us a z + if x = a ∧ ¬ y = 48 then 1 else 0 := by
  unfold us
  rw [List.filter_cons]
  by_cases h1 : x = a <;> by_cases h2 : y = 48 <;> simp [h1, h2]
theorem hs_cons (a x y : Nat) (z : PL) : hs a ((x, y) :: z) = hs a z + if x = a ∧ x = y then 1 else 0 := by
  unfold hs
  rw [List.filter_cons]
  by_cases h1 : x = a <;> by_cases h2 : x = y <;> simp_all
theorem us_app (a : Nat) (z z' : PL) : us a (z ++ z') = us a z + us a z' := by
  unfold us
  rw [List.filter_append, List.length_append]
theorem hitL_cons (a b : Nat) (g w : List Nat) : hitL (a :: g) (b :: w) = (if a = b then 50 else 48) :: hitL g w := rfl
theorem us_hit : ∀ (a : Nat) (g w : List Nat), us a (g.zip (hitL g w)) = hs a (g.zip w)
  | a, [], w => by simp [us, hs]
  | a, b :: g, [] => by simp [us, hs, hitL]
  | a, b :: g, c :: w => by
    rw [hitL_cons, List.zip_cons_cons, List.zip_cons_cons, us_cons, hs_cons, us_hit a g w]
    by_cases h1 : b = a <;> by_cases h2 : b = c <;> simp_all
/-- what is used at step k -/
theorem us_mix : ∀ (a : Nat) (g w m : List Nat) (k : Nat), g.length = w.length → g.length = m.length → us a (g.zip (m.take k ++ (hitL g w).drop k)) = us a ((g.zip m).take k) + hs a ((g.zip w).drop k)
  | a, g, w, m, 0, _, _ => by
    rw [List.take_zero, List.nil_append, List.drop_zero, us_hit, List.take_zero, List.drop_zero]
    show _ = 0 + _
    omega
  | a, [], w, m, k + 1, _, _ => by simp [us, hs]
  | a, b :: g, [], m, k + 1, h, _ => by simp at h
  | a, b :: g, c :: w, [], k + 1, _, h => by simp at h
  | a, b :: g, c :: w, x :: m, k + 1, h1, h2 => by
    have ih := us_mix a g w m k (by simpa using h1) (by simpa using h2)
    rw [hitL_cons, List.take_succ_cons, List.drop_succ_cons, List.cons_append, List.zip_cons_cons, us_cons, ih, List.zip_cons_cons, List.zip_cons_cons, List.take_succ_cons, List.drop_succ_cons, us_cons]
    omega
theorem count_split : ∀ (a : Nat) (g w : List Nat), g.length = w.length → w.count a = hs a (g.zip w) + (un g w).count a
  | a, [], [], _ => rfl
  | a, b :: g, c :: w, h => by
    have ih := count_split a g w (by simpa using h)
    rw [List.zip_cons_cons, hs_cons, un_cons, cnt_cons, ih]
    by_cases e : b = c
    · subst e
      rw [if_pos rfl]
      by_cases q : b = a
      · rw [if_pos q, if_pos ⟨q, rfl⟩]
        omega
      · rw [if_neg q, if_neg (fun z => q z.1)]
        omega
    · rw [if_neg e, cnt_cons, if_neg (show ¬ (b = a ∧ b = c) from fun z => e z.2)]
      omega
/-- what stands between two steps: W a the copies of a in the hidden word -/
def Mid (g w : List Nat) (k : Nat) (u : List Nat) : Prop := (∀ a, w.count a = us a ((g.zip (mk g w)).take k) + hs a ((g.zip w).drop k) + u.count a) ∧ go ((g.zip w).drop k) u = (mk g w).drop k
theorem mid_start {g w : List Nat} (h : g.length = w.length) : Mid g w 0 (un g w) := by
  refine ⟨fun a => ?_, rfl⟩
  have := count_split a g w h
  rw [List.take_zero, List.drop_zero]
  show _ = 0 + _ + _
  omega
/-- step k: a the guess's letter there, b the hidden one's -/
theorem mid_step {g w u : List Nat} {k a b : Nat} (hl : g.length = w.length) (ha : g[k]? = some a) (hb : w[k]? = some b) (M : Mid g w k u) :
    (a = b → (mk g w)[k]? = some 50 ∧ Mid g w (k + 1) u) ∧
    (¬ a = b → us a ((g.zip (mk g w)).take k) + hs a ((g.zip w).drop k) < w.count a → (mk g w)[k]? = some 49 ∧ Mid g w (k + 1) (u.erase a)) ∧
    (¬ a = b → ¬ us a ((g.zip (mk g w)).take k) + hs a ((g.zip w).drop k) < w.count a → (mk g w)[k]? = some 48 ∧ Mid g w (k + 1) u) := by
  obtain ⟨h1, h2⟩ := M
  have hz := zip_at ha hb
  have hk : k < g.length := (List.getElem?_eq_some_iff.mp ha).1
  have hml : (mk g w).length = g.length := mk_len hl
  have hmk : (mk g w)[k]? = some (mk g w)[k] := List.getElem?_eq_getElem (by omega)
  have hzm := zip_at ha hmk
  rw [drop_at hz, drop_at hmk] at h2
  have tk : (g.zip (mk g w)).take (k + 1) = (g.zip (mk g w)).take k ++ [(a, (mk g w)[k])] := by
    have hlt := (List.getElem?_eq_some_iff.mp hzm).1
    rw [List.take_succ_eq_append_getElem hlt, (List.getElem?_eq_some_iff.mp hzm).2]
  have cnt : ∀ x, us x ((g.zip (mk g w)).take (k + 1)) = us x ((g.zip (mk g w)).take k) + if a = x ∧ ¬ (mk g w)[k] = 48 then 1 else 0 := fun x => by
    rw [tk, us_app, us_cons]
    show _ + (0 + _) = _
    rw [Nat.zero_add]
  have hsd : ∀ x, hs x ((g.zip w).drop k) = hs x ((g.zip w).drop (k + 1)) + if a = x ∧ a = b then 1 else 0 := fun x => by
    rw [drop_at hz, hs_cons]
  have ca := h1 a
  refine ⟨fun e => ?_, fun e q => ?_, fun e q => ?_⟩
  · rw [go, if_pos e] at h2
    obtain ⟨e1, e2⟩ := List.cons.inj h2
    refine ⟨by rw [hmk, ← e1], fun x => ?_, e2⟩
    have := h1 x
    rw [cnt x, ← e1]
    rw [hsd x] at this
    by_cases z : a = x
    · rw [if_pos ⟨z, e⟩] at this
      rw [if_pos ⟨z, by decide⟩]
      omega
    · rw [if_neg (fun q => z q.1)] at this
      rw [if_neg (fun q => z q.1)]
      omega
  · have hu : a ∈ u := mem_cnt.mpr (by omega)
    rw [go, if_neg e, if_pos hu] at h2
    obtain ⟨e1, e2⟩ := List.cons.inj h2
    refine ⟨by rw [hmk, ← e1], fun x => ?_, e2⟩
    have := h1 x
    rw [cnt x, ← e1, cnt_erase]
    rw [hsd x, if_neg (fun q => e q.2)] at this
    have cu := mem_cnt.mp hu
    by_cases z : a = x
    · subst z
      rw [if_pos ⟨rfl, by decide⟩, if_pos rfl]
      omega
    · rw [if_neg (fun q => z q.1), if_neg z]
      omega
  · have hu : ¬ a ∈ u := fun z => by have := mem_cnt.mp z; omega
    rw [go, if_neg e, if_neg hu] at h2
    obtain ⟨e1, e2⟩ := List.cons.inj h2
    refine ⟨by rw [hmk, ← e1], fun x => ?_, e2⟩
    have := h1 x
    rw [cnt x, ← e1, if_neg (fun q => q.2 rfl)]
    rw [hsd x, if_neg (fun q => e q.2)] at this
    omega
end Gm

namespace Gm
/-! ### a row's marks, letter by letter -/
def nb : List Nat → Bool
  | [] => true
  | m :: r => (if m = 48 then !decide (49 ∈ r) else true) && nb r
theorem mem_rid {c x : Nat} {l : List Nat} : x ∈ rid c l ↔ x ∈ l ∧ x ≠ c := by
  unfold rid
  rw [List.mem_filter]
  simp
theorem rid_cons (c a : Nat) (l : List Nat) : rid c (a :: l) = if a = c then rid c l else a :: rid c l := by
  unfold rid
  rw [List.filter_cons]
  by_cases h : a = c <;> simp [h]
theorem nb_rid : ∀ l : List Nat, nb l = nb (rid 50 l)
  | [] => rfl
  | m :: r => by
    have ih := nb_rid r
    rw [rid_cons]
    by_cases h : m = 50
    · rw [if_pos h, nb, if_neg (by omega), ← ih]
      rfl
    · rw [if_neg h, nb, nb, ih]
      have e : decide (49 ∈ r) = decide (49 ∈ rid 50 r) := decide_eq_decide.mpr ⟨fun z => mem_rid.mpr ⟨z, by omega⟩, fun z => (mem_rid.mp z).1⟩
      rw [e]
theorem nb_zo : ∀ l : List Nat, (∀ m ∈ l, m = 48 ∨ m = 49) → nb l = !zo l
  | [], _ => rfl
  | [a], _ => by simp [nb, zo]
  | a :: b :: r, h => by
    have ih := nb_zo (b :: r) fun m hm => h m (List.mem_cons_of_mem _ hm)
    rw [nb, zo, ih]
    rcases h a (List.mem_cons_self ..) with rfl | rfl
    · rcases h b (by simp) with rfl | rfl
      · rw [if_pos rfl]
        rw [nb, if_pos rfl] at ih
        cases z : decide (49 ∈ r) with
        | true =>
          rw [z] at ih
          have : zo (48 :: r) = true := by
            cases y : zo (48 :: r) with
            | true => rfl
            | false => rw [y] at ih; simp at ih
          simp [this]
        | false =>
          have : ¬ 49 ∈ r := of_decide_eq_false z
          simp [this]
      · simp
    · simp
theorem nb_all {l : List Nat} (h : ∀ m ∈ l, m = 48 ∨ m = 49 ∨ m = 50) : nb l = !zo (rid 50 l) := by
  rw [nb_rid]
  refine nb_zo _ fun m hm => ?_
  have h1 := mem_rid.mp hm
  rcases h m h1.1 with h | h | h
  · exact .inl h
  · exact .inr h
  · exact absurd h h1.2
def ml (z : List (Nat × Nat)) (a : Nat) : List Nat := (z.filter fun p => decide (p.1 = a)).map (·.2)
theorem ml_cons (x m a : Nat) (z : List (Nat × Nat)) : ml ((x, m) :: z) a = if x = a then m :: ml z a else ml z a := by
  unfold ml
  rw [List.filter_cons]
  by_cases h : x = a <;> simp [h]
theorem ord_iff : ∀ (z : List (Nat × Nat)) (u : List Nat), ordB z u = true ↔ ∀ a, (a ∈ u → ¬ 49 ∈ ml z a) ∧ nb (ml z a) = true
  | [], u => by
    simp [ordB, ml, nb]
  | (x, m) :: r, u => by
    have ih := ord_iff r (if m = 48 then u ++ [x] else u)
    have up : ∀ a, a ∈ u → a ∈ (if m = 48 then u ++ [x] else u) := fun a h => by
      split
      · exact List.mem_append_left _ h
      · exact h
    rw [ordB]
    by_cases c : m = 49 ∧ x ∈ u
    · rw [if_pos c]
      refine ⟨fun h => absurd h Bool.false_ne_true, fun h => ?_⟩
      have := (h x).1 c.2
      rw [ml_cons, if_pos rfl, c.1] at this
      exact absurd (List.mem_cons_self ..) this
    · rw [if_neg c, ih]
      constructor
      · intro h a
        obtain ⟨h1, h2⟩ := h a
        rw [ml_cons]
        by_cases e : x = a
        · subst e
          rw [if_pos rfl]
          refine ⟨fun hu z => ?_, ?_⟩
          · rcases List.mem_cons.mp z with z | z
            · exact c ⟨z.symm, hu⟩
            · exact h1 (up x hu) z
          · rw [nb, h2, Bool.and_true]
            by_cases m8 : m = 48
            · rw [if_pos m8]
              rw [if_pos m8] at h1
              simpa using h1 (by simp)
            · rw [if_neg m8]
        · rw [if_neg e]
          exact ⟨fun hu => h1 (up a hu), h2⟩
      · intro h a
        obtain ⟨h1, h2⟩ := h a
        rw [ml_cons] at h1 h2
        by_cases e : x = a
        · subst e
          rw [if_pos rfl] at h1 h2
          rw [nb, Bool.and_eq_true] at h2
          refine ⟨fun hu z => ?_, h2.2⟩
          by_cases m8 : m = 48
          · rw [if_pos m8] at h2
            have := h2.1
            simp at this
            exact this z
          · rw [if_neg m8] at hu
            exact h1 hu (List.mem_cons_of_mem _ z)
        · rw [if_neg e] at h1 h2
          refine ⟨fun hu => ?_, h2⟩
          by_cases m8 : m = 48
          · rw [if_pos m8] at hu
            rcases List.mem_append.mp hu with hu | hu
            · exact h1 hu
            · exact absurd (List.mem_singleton.mp hu).symm e
          · rw [if_neg m8] at hu
            exact h1 hu
theorem ml_nil {z : List (Nat × Nat)} {a : Nat} (h : ∀ p ∈ z, p.1 ≠ a) : ml z a = [] := by
  unfold ml
  rw [List.filter_eq_nil_iff.mpr fun p hp => by simpa using h p hp]
  rfl
theorem ml_sub {z : List (Nat × Nat)} {a m : Nat} (h : m ∈ ml z a) : (a, m) ∈ z := by
  unfold ml at h
  obtain ⟨p, hp, rfl⟩ := List.mem_map.mp h
  obtain ⟨h1, h2⟩ := List.mem_filter.mp hp
  have := of_decide_eq_true h2
  rw [← this]
  exact h1
theorem ordOk_eq {g t : List Nat} (hm : Marks t) : ordOk g t = ordB (g.zip t) [] := by
  rw [Bool.eq_iff_iff, ord_iff]
  have all : ∀ a, ∀ m ∈ ml (g.zip t) a, m = 48 ∨ m = 49 ∨ m = 50 := fun a m h => hm m (List.of_mem_zip (ml_sub h)).2
  unfold ordOk
  rw [List.all_eq_true]
  constructor
  · intro h a
    refine ⟨fun z => (by cases z), ?_⟩
    by_cases ha : a ∈ g
    · rw [nb_all (all a)]
      exact h a ha
    · have e0 : ml (g.zip t) a = [] := ml_nil fun p hp e => ha (by rw [← e]; exact (List.of_mem_zip (a := p.1) (b := p.2) hp).1)
      rw [e0]
      rfl
  · intro h a ha
    have := (h a).2
    rw [nb_all (all a)] at this
    exact this
/-! ### numbers of letters -/
def fd (g t : List Nat) (a : Nat) : Nat := ((mgv g t a).filter fun m => !decide (m = 48)).length
theorem fd_eq (g t : List Nat) (a : Nat) : (((mgv g t a).length : Int) - ((mgv g t a).count 48 : Int)) = (fd g t a : Int) := by
  unfold fd
  induction mgv g t a with
  | nil => rfl
  | cons m r ih =>
    rw [List.length_cons, List.count_cons, List.filter_cons]
    by_cases h : m = 48
    · subst h
      simp
      omega
    · simp [h]
      omega
theorem mgv_cons (x m a : Nat) (g t : List Nat) : mgv (x :: g) (m :: t) a = if x = a then m :: mgv g t a else mgv g t a := ml_cons x m a (g.zip t)
theorem hits_found : ∀ (g w t : List Nat) (a : Nat), Hits g w t → hs a (g.zip w) + (lm g t [49]).count a = fd g t a
  | [], [], [], a, _ => rfl
  | x :: g, y :: w, m :: t, a, h => by
    obtain ⟨h1, h2, h3⟩ := h
    have ih := hits_found g w t a h3
    rw [List.zip_cons_cons, hs_cons, lm_cons]
    have ef : fd (x :: g) (m :: t) a = fd g t a + if x = a ∧ ¬ m = 48 then 1 else 0 := by
      unfold fd
      rw [mgv_cons]
      by_cases e : x = a
      · rw [if_pos e, List.filter_cons]
        by_cases e2 : m = 48 <;> simp [e, e2]
      · rw [if_neg e]; simp [e]
    rw [ef, ← ih]
    have n9 : ¬ ((48 : Nat) ∈ [49]) := by decide
    have n5 : ¬ ((50 : Nat) ∈ [49]) := by decide
    have y9 : ((49 : Nat) ∈ [49]) := by decide
    rcases h2 with rfl | rfl | rfl
    · have ne : ¬ x = y := fun z => absurd (h1.mpr z) (by decide)
      rw [if_neg n9, if_neg (fun z => ne z.2), if_neg (fun z => z.2 rfl)]
      omega
    · have ne : ¬ x = y := fun z => absurd (h1.mpr z) (by decide)
      rw [if_pos y9, cnt_cons, if_neg (fun z => ne z.2)]
      by_cases e : x = a
      · rw [if_pos e, if_pos ⟨e, by decide⟩]
        omega
      · rw [if_neg e, if_neg (fun z => e z.1)]
        omega
    · have eq : x = y := h1.mp rfl
      rw [if_neg n5]
      by_cases e : x = a
      · rw [if_pos ⟨e, eq⟩, if_pos ⟨e, by decide⟩]
        omega
      · rw [if_neg (fun z => e z.1), if_neg (fun z => e z.1)]
        omega
theorem zero_iff : ∀ (g t : List Nat) (a : Nat), a ∈ lm g t [48] ↔ 48 ∈ mgv g t a := fun g t a => by
  unfold lm mgv
  constructor
  · intro h
    obtain ⟨p, hp, rfl⟩ := List.mem_map.mp h
    obtain ⟨h1, h2⟩ := List.mem_filter.mp hp
    have h2 : p.2 = 48 := by simpa using h2
    exact List.mem_map.mpr ⟨p, List.mem_filter.mpr ⟨h1, by simp⟩, h2⟩
  · intro h
    obtain ⟨p, hp, h2⟩ := List.mem_map.mp h
    obtain ⟨h1, h3⟩ := List.mem_filter.mp hp
    exact List.mem_map.mpr ⟨p, List.mem_filter.mpr ⟨h1, by simp [h2]⟩, of_decide_eq_true h3⟩
theorem fits_iff {g w t : List Nat} (hw : g.length = w.length) : mk g w = t ↔ Hits g w t ∧ ordOk g t = true ∧ ∀ a ∈ g, fd g t a ≤ w.count a ∧ (48 ∈ mgv g t a → w.count a ≤ fd g t a) := by
  constructor
  · rintro rfl
    obtain ⟨h1, h2, h3, h4⟩ := of_go g w (un g w) [] hw fun a ha => by cases ha
    refine ⟨h1, by rw [ordOk_eq (mk_marks hw)]; exact h2, fun a _ => ?_⟩
    have e1 := hits_found g w (mk g w) a h1
    have e2 := count_split a g w hw
    have e3 : (lm g (mk g w) [49]).count a ≤ (un g w).count a := h3 a
    refine ⟨by omega, fun hz => ?_⟩
    have e4 : (un g w).count a = (lm g (mk g w) [49]).count a := h4 a ((zero_iff _ _ _).mpr hz)
    omega
  · rintro ⟨h1, h2, h3⟩
    rw [ordOk_eq (hits_marks g w t h1)] at h2
    refine go_of g w t (un g w) [] h1 h2 (fun a => ?_) fun a ha => ?_
    · have e1 := hits_found g w t a h1
      have e2 := count_split a g w hw
      by_cases hg : a ∈ g
      · have := (h3 a hg).1
        omega
      · have : (lm g t [49]).count a = 0 := List.count_eq_zero.mpr fun z => hg (lm_sub g t [49] a z)
        omega
    · have e1 := hits_found g w t a h1
      have e2 := count_split a g w hw
      have hg := lm_sub g t [48] a ha
      have h5 := h3 a hg
      have h6 := h5.2 ((zero_iff _ _ _).mp ha)
      omega
end Gm

namespace Gm
/-! ### ways to go on, counted by listing -/
def sufs : List (List Nat) → List (List Nat)
  | [] => [[]]
  | a :: al => a.flatMap fun c => (sufs al).map fun s => c :: s
def okc (ct : List Nat) (le gr us : List Int) (s : List Nat) : Bool := decide (∀ j, j < ct.length → le.getD j 0 ≤ us.getD j 0 + (s.count (ct.getD j 0) : Int) ∧ us.getD j 0 + (s.count (ct.getD j 0) : Int) ≤ gr.getD j 0)
theorem okc_iff {ct : List Nat} {le gr us : List Int} {s : List Nat} : okc ct le gr us s = true ↔ ∀ j, j < ct.length → le.getD j 0 ≤ us.getD j 0 + (s.count (ct.getD j 0) : Int) ∧ us.getD j 0 + (s.count (ct.getD j 0) : Int) ≤ gr.getD j 0 := decide_eq_true_iff
theorem sufs_len : ∀ {al : List (List Nat)} {s : List Nat}, s ∈ sufs al → s.length = al.length
  | [], s, h => by
    have h : s ∈ [[]] := h
    rw [List.mem_singleton.mp h]; rfl
  | a :: al, s, h => by
    obtain ⟨c, _, h⟩ := List.mem_flatMap.mp h
    obtain ⟨r, hr, rfl⟩ := List.mem_map.mp h
    rw [List.length_cons, List.length_cons, sufs_len hr]
theorem mem_sufs : ∀ {al : List (List Nat)} {s : List Nat}, s ∈ sufs al ↔ s.length = al.length ∧ ∀ i c, s[i]? = some c → c ∈ al.getD i []
  | [], s => by
    constructor
    · intro h
      have h : s ∈ [[]] := h
      rw [List.mem_singleton.mp h]
      exact ⟨rfl, fun i c h => by simp at h⟩
    · rintro ⟨h, _⟩
      show s ∈ [[]]
      rw [List.length_eq_zero_iff.mp h]
      exact List.mem_singleton.mpr rfl
  | a :: al, s => by
    constructor
    · intro h
      obtain ⟨c, hc, h⟩ := List.mem_flatMap.mp h
      obtain ⟨r, hr, rfl⟩ := List.mem_map.mp h
      obtain ⟨h1, h2⟩ := mem_sufs.mp hr
      refine ⟨by rw [List.length_cons, List.length_cons, h1], fun i x hx => ?_⟩
      cases i with
      | zero =>
        have : c = x := by simpa using hx
        subst this
        simpa using hc
      | succ i =>
        have := h2 i x (by simpa using hx)
        simpa using this
    · rintro ⟨h1, h2⟩
      cases s with
      | nil => simp at h1
      | cons c r =>
        refine List.mem_flatMap.mpr ⟨c, by simpa using h2 0 c rfl, List.mem_map.mpr ⟨r, mem_sufs.mpr ⟨by simpa using h1, fun i x hx => ?_⟩, rfl⟩⟩
        have := h2 (i + 1) x (by simpa using hx)
        simpa using this
theorem flat_sum (p : List Nat → Bool) (S : List (List Nat)) : ∀ a : List Nat, (((a.flatMap fun c => S.map fun s => c :: s).filter p).length : Int) = (a.map fun c => ((S.filter fun s => p (c :: s)).length : Int)).sum
  | [] => rfl
  | c :: a => by
    rw [List.flatMap_cons, List.filter_append, List.length_append, List.map_cons, List.sum_cons, ← flat_sum p S a]
    have e : ((S.map fun s => c :: s).filter p).length = (S.filter fun s => p (c :: s)).length := by
      rw [List.filter_map, List.length_map]
      rfl
    rw [e]
    omega
theorem sum_split (ct : List Nat) (f : Nat → Int) (W : Int) : ∀ a : List Nat, (a.map fun c => if c ∈ ct then f c else W).sum = ((cc a ct).map f).sum + ((a.length : Int) - ((cc a ct).length : Int)) * W
  | [] => by simp [cc]
  | c :: a => by
    rw [List.map_cons, List.sum_cons, sum_split ct f W a]
    unfold cc
    rw [List.filter_cons]
    by_cases h : c ∈ ct
    · rw [if_pos h, if_pos (decide_eq_true h), List.map_cons, List.sum_cons, List.length_cons, List.length_cons]
      have : ((a.length + 1 : Nat) : Int) - (((a.filter fun c => decide (c ∈ ct)).length + 1 : Nat) : Int) = (a.length : Int) - ((a.filter fun c => decide (c ∈ ct)).length : Int) := by omega
      rw [this]
      omega
    · rw [if_neg h, if_neg (fun z => h (of_decide_eq_true z)), List.length_cons]
      have : ((a.length + 1 : Nat) : Int) - ((a.filter fun c => decide (c ∈ ct)).length : Int) = ((a.length : Int) - ((a.filter fun c => decide (c ∈ ct)).length : Int)) + 1 := by omega
      rw [this, Int.add_mul]
      omega
/-! ### what is owed -/
theorem owed_nil (us : List Int) : owedI [] us = 0 := by simp [owedI]
theorem owed_cons (x y : Int) (le us : List Int) : owedI (x :: le) (y :: us) = (if x - y > 0 then x - y else 0) + owedI le us := by
  simp [owedI]
theorem owed_nonneg : ∀ le us : List Int, 0 ≤ owedI le us
  | [], us => by rw [owed_nil]; omega
  | x :: le, [] => by simp [owedI]
  | x :: le, y :: us => by
    have ih := owed_nonneg le us
    rw [owed_cons]
    split <;> omega
theorem flen (ct : List Nat) (d : Nat) (s : List Nat) : ((d :: s).filter fun c => decide (c ∈ ct)).length = (s.filter fun c => decide (c ∈ ct)).length + (if d ∈ ct then 1 else 0) := by
  rw [List.filter_cons]
  by_cases h : d ∈ ct <;> simp [h]
theorem owed_le : ∀ (ct : List Nat) (le us : List Int) (s : List Nat), ct.Nodup → le.length = ct.length → us.length = ct.length → (∀ j, j < ct.length → le.getD j 0 ≤ us.getD j 0 + (s.count (ct.getD j 0) : Int)) → owedI le us ≤ ((s.filter fun c => decide (c ∈ ct)).length : Int)
  | [], [], us, s, _, _, _, _ => by rw [owed_nil]; omega
  | c :: ct, x :: le, y :: us, s, hn, h1, h2, h => by
    have hn' := List.nodup_cons.mp hn
    have ih := owed_le ct le us s hn'.2 (by simpa using h1) (by simpa using h2) fun j hj => by simpa using h (j + 1) (by simpa using hj)
    have h0 := h 0 (by simp)
    simp only [List.getD_cons_zero] at h0
    rw [owed_cons]
    have e : (s.filter fun d => decide (d ∈ c :: ct)).length = s.count c + (s.filter fun d => decide (d ∈ ct)).length := by
      clear ih h0 h
      induction s with
      | nil => rfl
      | cons d s ih =>
        rw [flen, flen, cnt_cons, ih]
        by_cases e1 : d = c
        · subst e1
          rw [if_pos (List.mem_cons_self ..), if_pos rfl, if_neg hn'.1]
          omega
        · rw [if_neg e1]
          by_cases e2 : d ∈ ct
          · rw [if_pos (List.mem_cons_of_mem _ e2), if_pos e2]
            omega
          · rw [if_neg (fun z => (List.mem_cons.mp z).elim e1 e2), if_neg e2]
            omega
    rw [e]
    split <;> omega
theorem owed_zero : ∀ (le us : List Int), le.length = us.length → owedI le us ≤ 0 → ∀ j, j < le.length → le.getD j 0 ≤ us.getD j 0
  | [], us, _, _, j, hj => by simp at hj
  | x :: le, y :: us, hl, h, j, hj => by
    have h1 := owed_nonneg le us
    rw [owed_cons] at h
    cases j with
    | zero =>
      simp only [List.getD_cons_zero]
      split at h <;> omega
    | succ j =>
      simp only [List.getD_cons_succ]
      refine owed_zero le us (by simpa using hl) ?_ j (by simpa using hj)
      split at h <;> omega
theorem bump_at {us : List Int} {j : Nat} (h : j < us.length) (i : Nat) : (bump us j).getD i 0 = us.getD i 0 + if i = j then 1 else 0 := by
  unfold bump
  simp only [List.getD_eq_getElem?_getD]
  rcases Nat.lt_trichotomy i j with c | c | c
  · rw [List.append_assoc, List.getElem?_append_left (by rw [List.length_take]; omega), List.getElem?_take, if_pos c, if_neg (by omega)]
    omega
  · subst c
    rw [List.append_assoc, List.getElem?_append_right (by rw [List.length_take]; omega), List.length_take, Nat.min_eq_left (by omega), Nat.sub_self, if_pos rfl]
    rfl
  · rw [List.getElem?_append_right (by rw [List.length_append, List.length_take]; simp; omega), List.length_append, List.length_take, Nat.min_eq_left (by omega), List.getElem?_drop, if_neg (by omega)]
    have : j + 1 + (i - (j + ([us[j]?.getD 0 + 1] : List Int).length)) = i := by
      show j + 1 + (i - (j + 1)) = i
      omega
    rw [this]
    omega
theorem at_idx {ct : List Nat} {c : Nat} (h : c ∈ ct) : ct.getD (ct.idxOf c) 0 = c := by
  have hi := List.idxOf_lt_length_of_mem h
  rw [List.getD_eq_getElem?_getD, List.getElem?_eq_getElem hi, List.getElem_idxOf hi]
  rfl
theorem idx_of {ct : List Nat} (hn : ct.Nodup) {j : Nat} (hj : j < ct.length) {c : Nat} : ct.getD j 0 = c ↔ c ∈ ct ∧ j = ct.idxOf c := by
  constructor
  · intro h
    have e : ct[j]? = some c := by
      rw [List.getElem?_eq_getElem hj]
      rw [List.getD_eq_getElem?_getD, List.getElem?_eq_getElem hj] at h
      exact congrArg some h
    have m := List.mem_of_getElem? e
    refine ⟨m, ?_⟩
    have hi := List.idxOf_lt_length_of_mem m
    have e2 : ct[ct.idxOf c]? = some c := by rw [List.getElem?_eq_getElem hi, List.getElem_idxOf hi]
    exact (List.getElem?_inj hj hn).mp (e.trans e2.symm)
  · rintro ⟨m, rfl⟩
    exact at_idx m
theorem okc_in {ct : List Nat} {le gr us : List Int} (hn : ct.Nodup) (hu : us.length = ct.length) {c : Nat} (h : c ∈ ct) (s : List Nat) : okc ct le gr us (c :: s) = okc ct le gr (bump us (ct.idxOf c)) s := by
  have hi : ct.idxOf c < us.length := by rw [hu]; exact List.idxOf_lt_length_of_mem h
  rw [Bool.eq_iff_iff, okc_iff, okc_iff]
  have key : ∀ j, j < ct.length → us.getD j 0 + ((c :: s).count (ct.getD j 0) : Int) = (bump us (ct.idxOf c)).getD j 0 + (s.count (ct.getD j 0) : Int) := fun j hj => by
    rw [bump_at hi, cnt_cons]
    by_cases e : j = ct.idxOf c
    · have := (idx_of hn hj).mpr ⟨h, e⟩
      rw [if_pos e, if_pos this.symm]
      omega
    · have : ¬ c = ct.getD j 0 := fun z => e ((idx_of hn hj).mp z.symm).2
      rw [if_neg e, if_neg this]
      omega
  constructor
  · intro x j hj
    rw [← key j hj]
    exact x j hj
  · intro x j hj
    rw [key j hj]
    exact x j hj
theorem okc_out {ct : List Nat} {le gr us : List Int} {c : Nat} (h : ¬ c ∈ ct) (s : List Nat) : okc ct le gr us (c :: s) = okc ct le gr us s := by
  rw [Bool.eq_iff_iff, okc_iff, okc_iff]
  have key : ∀ j, j < ct.length → (c :: s).count (ct.getD j 0) = s.count (ct.getD j 0) := fun j hj => by
    have : ¬ c = ct.getD j 0 := fun z => h (by rw [z, List.getD_eq_getElem?_getD, List.getElem?_eq_getElem hj]; exact List.getElem_mem hj)
    rw [cnt_cons, if_neg this]
    rfl
  constructor
  · intro x j hj
    rw [← key j hj]
    exact x j hj
  · intro x j hj
    rw [key j hj]
    exact x j hj
theorem way_count {ct : List Nat} {le gr : List Int} (hn : ct.Nodup) (hl : le.length = ct.length) : ∀ (al : List (List Nat)) (us : List Int), us.length = ct.length → (∀ j, j < ct.length → us.getD j 0 ≤ gr.getD j 0) → wayF ct le gr al us = (((sufs al).filter (okc ct le gr us)).length : Int)
  | [], us, hu, hg => by
    rw [wayF]
    show _ = (((([[]] : List (List Nat))).filter (okc ct le gr us)).length : Int)
    rw [List.filter_cons, List.filter_nil]
    by_cases c : owedI le us > 0
    · rw [if_pos c, if_neg]
      · rfl
      · intro z
        have z := okc_iff.mp z
        have := owed_le ct le us [] hn hl hu fun j hj => (z j hj).1
        simp at this
        omega
    · rw [if_neg c, if_pos]
      · rfl
      · refine okc_iff.mpr fun j hj => ?_
        have h1 := owed_zero le us (by rw [hl, hu]) (by omega) j (by omega)
        have h2 := hg j hj
        simp only [List.count_nil]
        omega
  | a :: al, us, hu, hg => by
    rw [wayF_cons]
    by_cases c : owedI le us > ((al.length + 1 : Nat) : Int)
    · rw [if_pos c]
      have e : (sufs (a :: al)).filter (okc ct le gr us) = [] := by
        refine List.filter_eq_nil_iff.mpr fun s hs z => ?_
        have z := okc_iff.mp z
        have h1 := owed_le ct le us s hn hl hu fun j hj => (z j hj).1
        have h2 := List.length_filter_le (fun d => decide (d ∈ ct)) s
        have h3 := sufs_len hs
        rw [List.length_cons] at h3
        omega
      rw [e]
      rfl
    · rw [if_neg c]
      show _ = (((a.flatMap fun c => (sufs al).map fun s => c :: s).filter (okc ct le gr us)).length : Int)
      rw [flat_sum]
      have e : (a.map fun c => (((sufs al).filter fun s => okc ct le gr us (c :: s)).length : Int)) = a.map fun c => if c ∈ ct then withF ct le gr al us c else wayF ct le gr al us := by
        refine List.map_congr_left fun c _ => ?_
        by_cases h : c ∈ ct
        · rw [if_pos h]
          have hi : ct.idxOf c < ct.length := List.idxOf_lt_length_of_mem h
          unfold withF bumpC
          rw [if_pos h]
          by_cases q : us.getD (ct.idxOf c) 0 = gr.getD (ct.idxOf c) 0
          · rw [if_pos ⟨h, q⟩]
            have e0 : ((sufs al).filter fun s => okc ct le gr us (c :: s)) = [] := by
              refine List.filter_eq_nil_iff.mpr fun s _ z => ?_
              have := (okc_iff.mp z _ hi).2
              rw [at_idx h, List.count_cons_self] at this
              omega
            rw [e0]
            rfl
          · rw [if_neg (fun z => q z.2), way_count hn hl al _ (by rw [bump_len (by omega)]; exact hu) fun j hj => ?_]
            · rw [List.filter_congr fun s _ => okc_in hn hu h s]
            · rw [bump_at (by omega)]
              have := hg j hj
              by_cases e : j = ct.idxOf c
              · rw [if_pos e]
                rw [e] at this ⊢
                omega
              · rw [if_neg e]
                omega
        · rw [if_neg h, way_count hn hl al us hu hg, List.filter_congr fun s _ => okc_out h s]
      rw [e, sum_split]
      congr 1
      have := cc_le a ct
      by_cases q : (a.length : Int) - ((cc a ct).length : Int) > 0
      · rw [if_pos q]
      · have : (a.length : Int) - ((cc a ct).length : Int) = 0 := by omega
        rw [if_neg q, this]
        omega
end Gm

namespace Gm
/-! ### what the bounds keep -/
def alOk (b : BS) (w : List Nat) : Prop := ∀ i c, w[i]? = some c → c ∈ b.al.getD i []
def cntOk (b : BS) (l : List Nat) (w : List Nat) : Prop := ∀ c ∈ l, b.le c ≤ (w.count c : Int) ∧ (w.count c : Int) ≤ b.gr c
theorem modify_getD {al : List (List Nat)} {k : Nat} (f : List Nat → List Nat) (hk : k < al.length) (i : Nat) : (al.modify k f).getD i [] = if i = k then f (al.getD k []) else al.getD i [] := by
  simp only [List.getD_eq_getElem?_getD, List.getElem?_modify]
  by_cases e : i = k
  · subst e
    rw [if_pos rfl, List.getElem?_eq_getElem hk]
    simp
  · rw [if_neg e]
    have : ¬ k = i := fun z => e z.symm
    simp [this]
def hitOk (g t : List Nat) (i c : Nat) : Prop := if t[i]? = some 50 then c = g.getD i 0 else c ≠ g.getD i 0
theorem place_mem (g t : List Nat) (b : BS) : ∀ k, k ≤ b.al.length → ∀ i c, c ∈ (placeB g t k b).al.getD i [] ↔ c ∈ b.al.getD i [] ∧ (i < k → hitOk g t i c)
  | 0, _, i, c => by
    show c ∈ b.al.getD i [] ↔ _
    exact ⟨fun h => ⟨h, fun z => absurd z (Nat.not_lt_zero _)⟩, fun h => h.1⟩
  | k + 1, hk, i, c => by
    have ih := place_mem g t b k (by omega)
    have hl : k < (placeB g t k b).al.length := by rw [placeB_al]; omega
    rw [placeB]
    by_cases e50 : t[k]? = some 50
    · rw [if_pos e50]
      show c ∈ ((placeB g t k b).al.modify k fun x => if g.getD k 0 ∈ x then [g.getD k 0] else []).getD i [] ↔ _
      rw [modify_getD _ hl]
      by_cases e : i = k
      · subst e
        rw [if_pos rfl]
        constructor
        · intro h
          split at h
          · rename_i m
            have hc := List.mem_singleton.mp h
            rw [hc]
            exact ⟨((ih i _).mp m).1, fun _ => by unfold hitOk; rw [if_pos e50]⟩
          · cases h
        · rintro ⟨h1, h2⟩
          have h3 := h2 (by omega)
          unfold hitOk at h3
          rw [if_pos e50] at h3
          subst h3
          rw [if_pos ((ih i _).mpr ⟨h1, fun z => absurd z (Nat.lt_irrefl _)⟩)]
          exact List.mem_singleton.mpr rfl
      · rw [if_neg e, ih i c]
        exact and_congr_right fun _ => ⟨fun h z => h (by omega), fun h z => h (by omega)⟩
    · rw [if_neg e50]
      show c ∈ ((placeB g t k b).al.modify k (rid (g.getD k 0))).getD i [] ↔ _
      rw [modify_getD _ hl]
      by_cases e : i = k
      · subst e
        rw [if_pos rfl, mem_rid, ih i c]
        constructor
        · rintro ⟨⟨h1, _⟩, h2⟩
          exact ⟨h1, fun _ => by unfold hitOk; rw [if_neg e50]; exact h2⟩
        · rintro ⟨h1, h2⟩
          have h3 := h2 (by omega)
          unfold hitOk at h3
          rw [if_neg e50] at h3
          exact ⟨⟨h1, fun z => absurd z (Nat.lt_irrefl _)⟩, h3⟩
      · rw [if_neg e, ih i c]
        exact and_congr_right fun _ => ⟨fun h z => h (by omega), fun h z => h (by omega)⟩
theorem place_le (g t : List Nat) (b : BS) : ∀ k, (placeB g t k b).le = b.le ∧ (placeB g t k b).gr = b.gr
  | 0 => ⟨rfl, rfl⟩
  | k + 1 => by
    have ih := place_le g t b k
    rw [placeB]
    split
    · exact ih
    · exact ih
def numOk (g t w : List Nat) (a : Nat) : Prop := fd g t a ≤ w.count a ∧ (48 ∈ mgv g t a → w.count a ≤ fd g t a)
theorem count_step {g t l w : List Nat} {b : BS} {a : Nat} (ha : a ∈ l) : cntOk (countB g t b a) l w ↔ cntOk b l w ∧ numOk g t w a := by
  unfold countB
  simp only
  rw [fd_eq]
  unfold numOk
  have least : cntOk (leastB b a (fd g t a : Int)) l w ↔ cntOk b l w ∧ fd g t a ≤ w.count a := by
    constructor
    · intro h
      refine ⟨fun c hc => ?_, ?_⟩
      · have := h c hc
        unfold leastB setF at this
        simp only at this
        by_cases e : c = a
        · subst e
          rw [if_pos rfl] at this
          split at this <;> omega
        · rw [if_neg e] at this
          exact this
      · have := h a ha
        unfold leastB setF at this
        simp only [if_true] at this
        split at this <;> omega
    · rintro ⟨h1, h2⟩ c hc
      have := h1 c hc
      unfold leastB setF
      simp only
      by_cases e : c = a
      · subst e
        rw [if_pos rfl]
        split <;> omega
      · rw [if_neg e]
        exact this
  have most : ∀ b' : BS, cntOk (mostB b' a (fd g t a : Int)) l w ↔ cntOk b' l w ∧ w.count a ≤ fd g t a := fun b' => by
    constructor
    · intro h
      refine ⟨fun c hc => ?_, ?_⟩
      · have := h c hc
        unfold mostB setF at this
        simp only at this
        by_cases e : c = a
        · subst e
          rw [if_pos rfl] at this
          split at this <;> omega
        · rw [if_neg e] at this
          exact this
      · have := h a ha
        unfold mostB setF at this
        simp only [if_true] at this
        split at this <;> omega
    · rintro ⟨h1, h2⟩ c hc
      have := h1 c hc
      unfold mostB setF
      simp only
      by_cases e : c = a
      · subst e
        rw [if_pos rfl]
        split <;> omega
      · rw [if_neg e]
        exact this
  by_cases z : 48 ∈ mgv g t a
  · rw [if_pos z, most, least]
    constructor
    · rintro ⟨⟨h1, h2⟩, h3⟩
      exact ⟨h1, h2, fun _ => h3⟩
    · rintro ⟨h1, h2, h3⟩
      exact ⟨⟨h1, h2⟩, h3 z⟩
  · rw [if_neg z, least]
    constructor
    · rintro ⟨h1, h2⟩
      exact ⟨h1, h2, fun y => absurd y z⟩
    · rintro ⟨h1, h2, _⟩
      exact ⟨h1, h2⟩
theorem count_fold {g t l w : List Nat} : ∀ (cs : List Nat) (b : BS), (∀ c ∈ cs, c ∈ l) → (cntOk (cs.foldl (countB g t) b) l w ↔ cntOk b l w ∧ ∀ a ∈ cs, numOk g t w a)
  | [], b, _ => ⟨fun h => ⟨h, fun _ z => by cases z⟩, fun h => h.1⟩
  | c :: cs, b, h => by
    rw [List.foldl_cons, count_fold cs _ fun x hx => h x (List.mem_cons_of_mem _ hx), count_step (h c (List.mem_cons_self ..))]
    constructor
    · rintro ⟨⟨h1, h2⟩, h3⟩
      refine ⟨h1, fun a ha => ?_⟩
      rcases List.mem_cons.mp ha with rfl | ha
      · exact h2
      · exact h3 a ha
    · rintro ⟨h1, h2⟩
      exact ⟨⟨h1, h2 c (List.mem_cons_self ..)⟩, fun a ha => h2 a (List.mem_cons_of_mem _ ha)⟩
theorem hits_iff : ∀ (g w t : List Nat), g.length = w.length → g.length = t.length → Marks t → (Hits g w t ↔ ∀ i c, w[i]? = some c → hitOk g t i c)
  | [], [], [], _, _, _ => ⟨fun _ i c h => by simp at h, fun _ => trivial⟩
  | a :: g, b :: w, m :: t, h1, h2, hm => by
    have ih := hits_iff g w t (by simpa using h1) (by simpa using h2) fun x hx => hm x (List.mem_cons_of_mem _ hx)
    constructor
    · rintro ⟨e, _, r⟩ i c hc
      cases i with
      | zero =>
        have : b = c := by simpa using hc
        subst this
        unfold hitOk
        simp only [List.getElem?_cons_zero, List.getD_cons_zero]
        by_cases q : m = 50
        · rw [if_pos (by rw [q])]; exact (e.mp q).symm
        · rw [if_neg (fun z => q (Option.some.inj z))]; exact fun z => q (e.mpr z.symm)
      | succ i =>
        have := ih.mp r i c (by simpa using hc)
        unfold hitOk at this ⊢
        simpa using this
    · intro h
      refine ⟨?_, hm m (List.mem_cons_self ..), ih.mpr fun i c hc => ?_⟩
      · have := h 0 b rfl
        unfold hitOk at this
        simp only [List.getElem?_cons_zero, List.getD_cons_zero] at this
        by_cases q : m = 50
        · rw [if_pos (by rw [q])] at this; exact ⟨fun _ => this.symm, fun _ => q⟩
        · rw [if_neg (fun z => q (Option.some.inj z))] at this; exact ⟨fun z => absurd z q, fun z => absurd z.symm this⟩
      · have := h (i + 1) c (by simpa using hc)
        unfold hitOk at this ⊢
        simpa using this
theorem row_keeps {n : Nat} {l w : List Nat} {b : BS} {r : Row} (hw : w.length = n) (hb : b.al.length = n) (hg : r.1.length = n) (ht : r.2.length = n) (hm : Marks r.2) (hs : ∀ c ∈ r.1, c ∈ l) :
    (alOk (rowB b r) w ∧ cntOk (rowB b r) l w) ↔ (alOk b w ∧ cntOk b l w) ∧ Hits r.1 w r.2 ∧ ∀ a ∈ r.1, numOk r.1 r.2 w a := by
  have e1 : alOk (rowB b r) w ↔ alOk b w ∧ Hits r.1 w r.2 := by
    rw [hits_iff r.1 w r.2 (by omega) (by omega) hm]
    unfold alOk
    rw [rowB_al]
    constructor
    · intro h
      refine ⟨fun i c hc => ((place_mem r.1 r.2 b _ (by omega) i c).mp (h i c hc)).1, fun i c hc => ((place_mem r.1 r.2 b _ (by omega) i c).mp (h i c hc)).2 ?_⟩
      have := (List.getElem?_eq_some_iff.mp hc).1
      omega
    · rintro ⟨h1, h2⟩ i c hc
      exact (place_mem r.1 r.2 b _ (by omega) i c).mpr ⟨h1 i c hc, fun _ => h2 i c hc⟩
  have e2 : cntOk (rowB b r) l w ↔ cntOk b l w ∧ ∀ a ∈ r.1, numOk r.1 r.2 w a := by
    unfold rowB
    rw [count_fold r.1 _ hs]
    have pl := place_le r.1 r.2 b r.1.length
    unfold cntOk
    rw [pl.1, pl.2]
  rw [e1, e2]
  constructor
  · rintro ⟨⟨h1, h2⟩, h3, h4⟩
    exact ⟨⟨h1, h3⟩, h2, h4⟩
  · rintro ⟨⟨h1, h3⟩, h2, h4⟩
    exact ⟨⟨h1, h2⟩, h3, h4⟩
theorem marks_of_wd {n : Int} {t : List Nat} (h : Wd [48, 49, 50] n t) : Marks t := fun m hm => by
  have := h.2 m hm
  simpa using this
theorem rows_keep {n : Int} {l w : List Nat} (hw : (w.length : Int) = n) : ∀ (rows : List Row) (b : BS), (b.al.length : Int) = n → (∀ r ∈ rows, RowOk l n r) →
    ((alOk (rows.foldl rowB b) w ∧ cntOk (rows.foldl rowB b) l w) ↔ (alOk b w ∧ cntOk b l w) ∧ ∀ r ∈ rows, Hits r.1 w r.2 ∧ ∀ a ∈ r.1, numOk r.1 r.2 w a)
  | [], b, _, _ => ⟨fun h => ⟨h, fun _ z => by cases z⟩, fun h => h.1⟩
  | r :: rows, b, hb, hr => by
    have rk := hr r (List.mem_cons_self ..)
    have g1 := rk.1.1
    have g2 := rk.2.1
    rw [List.foldl_cons, rows_keep hw rows (rowB b r) (by rw [rowB_al, placeB_al]; exact hb) fun x hx => hr x (List.mem_cons_of_mem _ hx), row_keeps (n := w.length) rfl (by omega) (by omega) (by omega) (marks_of_wd rk.2) rk.1.2]
    constructor
    · rintro ⟨⟨h1, h2⟩, h3⟩
      refine ⟨h1, fun x hx => ?_⟩
      rcases List.mem_cons.mp hx with rfl | hx
      · exact h2
      · exact h3 x hx
    · rintro ⟨h1, h2⟩
      exact ⟨⟨h1, h2 r (List.mem_cons_self ..)⟩, fun x hx => h2 x (List.mem_cons_of_mem _ hx)⟩
/-- a word over l of length n keeps to the bounds, and all rows are in order, exactly if it gives all rows their marks -/
theorem fits_keep {n : Int} {l w : List Nat} {rows : List Row} (n0 : 0 ≤ n) (hw : (w.length : Int) = n) (hr : ∀ r ∈ rows, RowOk l n r) :
    (alOk (bsOf l n.toNat rows) w ∧ cntOk (bsOf l n.toNat rows) l w ∧ rows.all (fun r => ordOk r.1 r.2) = true) ↔ (∀ c ∈ w, c ∈ l) ∧ ∀ r ∈ rows, mk r.1 w = r.2 := by
  have k := rows_keep hw rows (bs0 l n.toNat) (by show ((List.replicate n.toNat l).length : Int) = n; rw [List.length_replicate]; omega) hr
  have k0 : (alOk (bs0 l n.toNat) w ∧ cntOk (bs0 l n.toNat) l w) ↔ ∀ c ∈ w, c ∈ l := by
    constructor
    · rintro ⟨h, _⟩ c hc
      obtain ⟨i, hi⟩ := List.mem_iff_getElem?.mp hc
      have := h i c hi
      have lt := (List.getElem?_eq_some_iff.mp hi).1
      have e : (bs0 l n.toNat).al.getD i [] = l := by
        show (List.replicate n.toNat l).getD i [] = l
        rw [List.getD_eq_getElem?_getD, List.getElem?_replicate, if_pos (by omega)]
        rfl
      rw [e] at this
      exact this
    · intro h
      refine ⟨fun i c hi => ?_, fun c _ => ⟨?_, ?_⟩⟩
      · have lt := (List.getElem?_eq_some_iff.mp hi).1
        have e : (bs0 l n.toNat).al.getD i [] = l := by
          show (List.replicate n.toNat l).getD i [] = l
          rw [List.getD_eq_getElem?_getD, List.getElem?_replicate, if_pos (by omega)]
          rfl
        rw [e]
        exact h c (List.mem_of_getElem? hi)
      · show (0 : Int) ≤ _
        omega
      · show _ ≤ ((n.toNat : Nat) : Int)
        have : w.count c ≤ w.length := List.count_le_length
        omega
  have k1 : (alOk (bsOf l n.toNat rows) w ∧ cntOk (bsOf l n.toNat rows) l w) ↔ (∀ c ∈ w, c ∈ l) ∧ ∀ r ∈ rows, Hits r.1 w r.2 ∧ ∀ a ∈ r.1, numOk r.1 r.2 w a := by
    rw [← k0]
    exact k
  rw [← and_assoc, k1, List.all_eq_true]
  constructor
  · rintro ⟨⟨h1, h2⟩, h3⟩
    refine ⟨h1, fun r hr' => ?_⟩
    have rk := hr r hr'
    have g1 := rk.1.1
    exact (fits_iff (by omega)).mpr ⟨(h2 r hr').1, h3 r hr', (h2 r hr').2⟩
  · rintro ⟨h1, h2⟩
    have f := fun r hr' => (fits_iff (g := r.1) (w := w) (t := r.2) (by have := (hr r hr').1.1; omega)).mp (h2 r hr')
    exact ⟨⟨h1, fun r hr' => ⟨(f r hr').1, (f r hr').2.2⟩⟩, fun r hr' => (f r hr').2.1⟩
end Gm

/-! all words of a length -/
namespace Gm
def wds (l : List Nat) : Nat → List (List Nat)
  | 0 => [[]]
  | n + 1 => (wds l n).flatMap fun w => l.map fun c => w ++ [c]
theorem flat_len (xs : List (List Nat)) (l : List Nat) : (xs.flatMap fun w => l.map fun c => w ++ [c]).length = xs.length * l.length := by
  induction xs with
  | nil => simp
  | cons a xs ih => rw [List.flatMap_cons, List.length_append, ih, List.length_map, List.length_cons, Nat.add_mul]; omega
theorem wds_len (l : List Nat) : ∀ n, (wds l n).length = l.length ^ n
  | 0 => rfl
  | n + 1 => by rw [wds, flat_len, wds_len l n, Nat.pow_succ]
theorem wds_le {l : List Nat} (h : l.length ≤ 4) {n : Nat} (hn : n ≤ 4) : (wds l n).length ≤ 256 := by
  rw [wds_len]
  have h1 : l.length ^ n ≤ 4 ^ n := Nat.pow_le_pow_left h n
  have h2 : 4 ^ n ≤ 4 ^ 4 := Nat.pow_le_pow_right (by omega) hn
  exact Nat.le_trans h1 h2
theorem mem_wds (l : List Nat) : ∀ (n : Nat) (w : List Nat), w ∈ wds l n ↔ w.length = n ∧ ∀ c ∈ w, c ∈ l
  | 0, w => by
    show w ∈ [[]] ↔ _
    rw [List.mem_singleton]
    constructor
    · rintro rfl
      exact ⟨rfl, fun c h => by cases h⟩
    · rintro ⟨h, _⟩
      exact List.length_eq_zero_iff.mp h
  | n + 1, w => by
    show w ∈ (wds l n).flatMap _ ↔ _
    rw [List.mem_flatMap]
    constructor
    · rintro ⟨u, hu, hw⟩
      obtain ⟨c, hc, rfl⟩ := List.mem_map.mp hw
      obtain ⟨h1, h2⟩ := (mem_wds l n u).mp hu
      refine ⟨by rw [List.length_append, h1]; rfl, fun a ha => ?_⟩
      rcases List.mem_append.mp ha with h | h
      · exact h2 a h
      · rw [List.mem_singleton.mp h]; exact hc
    · rintro ⟨h1, h2⟩
      have hne : w ≠ [] := fun e => by rw [e] at h1; cases h1
      refine ⟨w.dropLast, (mem_wds l n _).mpr ⟨by rw [List.length_dropLast, h1]; rfl, fun c hc => h2 c ((List.dropLast_sublist w).subset hc)⟩, List.mem_map.mpr ⟨w.getLast hne, h2 _ (List.getLast_mem hne), List.dropLast_concat_getLast hne⟩⟩
/-- can_come against the list of all marks -/
theorem come_mem {l g t : List Nat} (hm : Marks t) (hl : g.length = t.length) (hg : ∀ c ∈ g, c ∈ l) : comeB l g t = decide (t ∈ (wds l g.length).map fun w => mk g w) := by
  rw [Bool.eq_iff_iff, come_iff hl hm hg, decide_eq_true_iff, List.mem_map]
  constructor
  · rintro ⟨w, h1, h2, h3⟩
    exact ⟨w, (mem_wds l _ w).mpr ⟨h1, h2⟩, h3⟩
  · rintro ⟨w, h1, h3⟩
    obtain ⟨h1, h2⟩ := (mem_wds l _ w).mp h1
    exact ⟨w, h1, h2, h3⟩
end Gm

namespace Gm
theorem gr_count {g t : List Nat} {b : BS} {a : Nat} (h : ∀ c, 0 ≤ b.gr c) : ∀ c, 0 ≤ (countB g t b a).gr c := by
  intro c
  unfold countB
  simp only
  rw [fd_eq]
  have h1 := h c
  have h2 := h a
  split
  · unfold mostB setF leastB
    simp only
    split
    · split <;> omega
    · exact h1
  · exact h1
theorem gr_fold {g t : List Nat} : ∀ (cs : List Nat) (b : BS), (∀ c, 0 ≤ b.gr c) → ∀ c, 0 ≤ (cs.foldl (countB g t) b).gr c
  | [], _, h => h
  | x :: cs, b, h => gr_fold cs _ (gr_count h)
theorem gr_rows : ∀ (rows : List Row) (b : BS), (∀ c, 0 ≤ b.gr c) → ∀ c, 0 ≤ (rows.foldl rowB b).gr c
  | [], _, h => h
  | r :: rows, b, h => gr_rows rows _ (gr_fold r.1 _ (by rw [(place_le r.1 r.2 b r.1.length).2]; exact h))
theorem gr_nonneg (l : List Nat) (n : Nat) (rows : List Row) (c : Nat) : 0 ≤ (bsOf l n rows).gr c := gr_rows rows _ (fun _ => Int.natCast_nonneg n) c
theorem map_getD {ct : List Nat} (f : Nat → Int) {j : Nat} (hj : j < ct.length) : (ct.map f).getD j 0 = f (ct.getD j 0) := by
  simp only [List.getD_eq_getElem?_getD, List.getElem?_map, List.getElem?_eq_getElem hj]
  rfl
theorem zeros_getD (k j : Nat) : (List.replicate k (0 : Int)).getD j 0 = 0 := by
  rw [List.getD_eq_getElem?_getD, List.getElem?_replicate]
  split <;> rfl
theorem at_mem {ct : List Nat} {j : Nat} (hj : j < ct.length) : ct.getD j 0 ∈ ct := by
  rw [List.getD_eq_getElem?_getD, List.getElem?_eq_getElem hj]
  exact List.getElem_mem hj
def fitW (rows : List Row) (w : List Nat) : Prop := ∀ r ∈ rows, mk r.1 w = r.2
theorem way_mem {l : List Nat} {n : Int} {rows : List Row} (n1 : 1 ≤ n) (hr : ∀ r ∈ rows, RowOk l n r) (s : List Nat) :
    s ∈ (sufs (wdOf l n rows).al).filter (okc (wdOf l n rows).ct (wdOf l n rows).le (wdOf l n rows).gr (List.replicate (wdOf l n rows).ct.length 0)) ↔ (s.length : Int) = n ∧ (∀ c ∈ s, c ∈ l) ∧ fitW rows s := by
  have bl : (bsOf l n.toNat rows).al.length = n.toNat := by
    have k : ∀ (rs : List Row) (b : BS), (rs.foldl rowB b).al.length = b.al.length := fun rs => by
      induction rs with
      | nil => exact fun b => rfl
      | cons r rs ih => exact fun b => by rw [List.foldl_cons, ih, rowB_al, placeB_al]
    show (rows.foldl rowB (bs0 l n.toNat)).al.length = _
    rw [k]
    exact List.length_replicate ..
  have gn := gr_nonneg l n.toNat rows
  rw [List.mem_filter, mem_sufs, okc_iff]
  show (s.length = ((bsOf l n.toNat rows).al.map fun t => cc t (usOf l (bsOf l n.toNat rows) rows)).length ∧ ∀ i c, s[i]? = some c → c ∈ ((bsOf l n.toNat rows).al.map fun t => cc t (usOf l (bsOf l n.toNat rows) rows)).getD i []) ∧
    (∀ j, j < (ctOf l n (bsOf l n.toNat rows)).length → ((ctOf l n (bsOf l n.toNat rows)).map (bsOf l n.toNat rows).le).getD j 0 ≤ (List.replicate (ctOf l n (bsOf l n.toNat rows)).length (0 : Int)).getD j 0 + (s.count ((ctOf l n (bsOf l n.toNat rows)).getD j 0) : Int) ∧
      (List.replicate (ctOf l n (bsOf l n.toNat rows)).length (0 : Int)).getD j 0 + (s.count ((ctOf l n (bsOf l n.toNat rows)).getD j 0) : Int) ≤ ((ctOf l n (bsOf l n.toNat rows)).map (bsOf l n.toNat rows).gr).getD j 0) ↔ _
  rw [List.length_map, bl]
  have keep : (s.length : Int) = n → _ := fun hs => fits_keep (l := l) (w := s) (rows := rows) (by omega) hs hr
  unfold fitW
  generalize bsOf l n.toNat rows = B at keep bl gn ⊢
  have cell : ∀ i, (B.al.map fun t => cc t (usOf l B rows)).getD i [] = cc (B.al.getD i []) (usOf l B rows) := fun i => by
    simp only [List.getD_eq_getElem?_getD, List.getElem?_map]
    cases B.al[i]? with
    | none => rfl
    | some t => rfl
  constructor
  · rintro ⟨⟨h1, h2⟩, h3⟩
    have hs : (s.length : Int) = n := by omega
    refine ⟨hs, ?_⟩
    rw [← keep hs]
    have h2' : ∀ i c, s[i]? = some c → c ∈ B.al.getD i [] ∧ c ∈ usOf l B rows := fun i c hc => by
      have := h2 i c hc
      rw [cell] at this
      exact cc_mem.mp this
    have inUs : ∀ c ∈ s, c ∈ usOf l B rows := fun c hc => by
      obtain ⟨i, hi⟩ := List.mem_iff_getElem?.mp hc
      exact (h2' i c hi).2
    have ord : rows.all (fun r => ordOk r.1 r.2) = true := by
      cases z : rows.all fun r => ordOk r.1 r.2 with
      | true => rfl
      | false =>
        cases s with
        | nil => simp at h1; omega
        | cons c r =>
          have := inUs c (List.mem_cons_self ..)
          unfold usOf at this
          rw [if_neg (by rw [z]; exact Bool.false_ne_true)] at this
          cases this
    have us : ∀ c ∈ s, 0 < B.gr c := fun c hc => by
      have := inUs c hc
      unfold usOf at this
      rw [if_pos ord] at this
      exact of_decide_eq_true (List.mem_filter.mp this).2
    refine ⟨fun i c hc => (h2' i c hc).1, fun c hc => ?_, ord⟩
    by_cases m : c ∈ ctOf l n B
    · have hi := List.idxOf_lt_length_of_mem m
      have := h3 _ hi
      rw [map_getD _ hi, map_getD _ hi, zeros_getD, at_idx m] at this
      omega
    · have m' : ¬ (0 < B.le c ∨ (0 < B.gr c ∧ B.gr c < n)) := fun z => m (List.mem_filter.mpr ⟨hc, by
        rcases z with z | z
        · simp [z]
        · simp [z.1, z.2]⟩)
      have c1 : s.count c ≤ s.length := List.count_le_length
      have g0 := gn c
      by_cases z : 0 < B.gr c
      · omega
      · have : s.count c = 0 := List.count_eq_zero.mpr fun y => z (us c y)
        omega
  · rintro ⟨hs, h⟩
    obtain ⟨h1, h2, h3⟩ := (keep hs).mpr h
    refine ⟨⟨by omega, fun i c hc => ?_⟩, fun j hj => ?_⟩
    · rw [cell]
      refine cc_mem.mpr ⟨h1 i c hc, ?_⟩
      unfold usOf
      rw [if_pos h3]
      have hm := List.mem_of_getElem? hc
      have hl := h.1 c hm
      refine List.mem_filter.mpr ⟨hl, decide_eq_true ?_⟩
      have := (h2 c hl).2
      have : 0 < s.count c := List.count_pos_iff.mpr hm
      omega
    · rw [map_getD _ hj, map_getD _ hj, zeros_getD]
      have := h2 _ (ct_sub (at_mem hj))
      omega
theorem ways_eq {l : List Nat} {n : Int} {rows : List Row} (nd : l.Nodup) : ways (wdOf l n rows) 0 (List.replicate (wdOf l n rows).ct.length 0) =
    (((sufs (wdOf l n rows).al).filter (okc (wdOf l n rows).ct (wdOf l n rows).le (wdOf l n rows).gr (List.replicate (wdOf l n rows).ct.length 0))).length : Int) := by
  unfold ways
  rw [List.drop_zero]
  refine way_count (nd.filter _) (List.length_map ..) _ _ (List.length_replicate ..) fun j hj => ?_
  rw [zeros_getD]
  have e : (wdOf l n rows).gr.getD j 0 = (bsOf l n.toNat rows).gr ((ctOf l n (bsOf l n.toNat rows)).getD j 0) := map_getD _ hj
  rw [e]
  exact gr_nonneg ..
/-- has_word's answer -/
theorem has_iff {l : List Nat} {n : Int} {rows : List Row} (n1 : 1 ≤ n) (nd : l.Nodup) (hr : ∀ r ∈ rows, RowOk l n r) : 0 < ways (wdOf l n rows) 0 (List.replicate (wdOf l n rows).ct.length 0) ↔ ∃ w, (w.length : Int) = n ∧ (∀ c ∈ w, c ∈ l) ∧ fitW rows w := by
  rw [ways_eq nd]
  constructor
  · intro h
    have h : 0 < ((sufs (wdOf l n rows).al).filter (okc (wdOf l n rows).ct (wdOf l n rows).le (wdOf l n rows).gr (List.replicate (wdOf l n rows).ct.length 0))).length := by omega
    obtain ⟨s, hs⟩ := List.exists_mem_of_length_pos h
    exact ⟨s, (way_mem n1 hr s).mp hs⟩
  · rintro ⟨w, hw⟩
    have := List.length_pos_of_mem ((way_mem n1 hr w).mpr hw)
    omega
theorem sufs_nodup : ∀ {al : List (List Nat)}, (∀ a ∈ al, a.Nodup) → (sufs al).Nodup
  | [], _ => List.nodup_cons.mpr ⟨List.not_mem_nil, List.nodup_nil⟩
  | a :: al, h => by
    have ih := sufs_nodup fun x hx => h x (List.mem_cons_of_mem _ hx)
    have ha := h a (List.mem_cons_self ..)
    show (a.flatMap fun c => (sufs al).map fun s => c :: s).Nodup
    clear h
    induction a with
    | nil => exact List.nodup_nil
    | cons c a ia =>
      obtain ⟨h1, h2⟩ := List.nodup_cons.mp ha
      rw [List.flatMap_cons]
      refine List.nodup_append.mpr ⟨?_, ia h2, fun x hx y hy e => ?_⟩
      · exact List.pairwise_map.mpr (List.Pairwise.imp (fun h e => h (List.cons.inj e).2) ih)
      · obtain ⟨s, _, rfl⟩ := List.mem_map.mp hx
        obtain ⟨d, hd, hy⟩ := List.mem_flatMap.mp hy
        obtain ⟨s', _, rfl⟩ := List.mem_map.mp hy
        exact h1 (by rw [(List.cons.inj e).1]; exact hd)
end Gm

namespace Gm
open PySem L2
section
variable {P : Program} {w : World} {K : PySem.W.Frag} {mg : Str → Option Value} {base : Heap}
/-- the recursion of the words, at every number of places left -/
theorem ok_words {fA fW fF fU fC C : Addr} {fdA fdW fdF fdU fdC : FuncData} (T : TxN K mg C) (FF : Fun K "many_from" "Words.many_from" sManyF fF fdF) (FA : Fun K "add_ways" "Words.add_ways" sAddW fA fdA) (FW : Fun K "many_with" "Words.many_with" sManyW fW fdW)
    (mF : Meth K C "many_from" fF) (bF : Binds K fdF ["self", "place", "used"] []) (mA : Meth K C "add_ways" fA) (bA : Binds K fdA ["self", "place", "used"] []) (mW : Meth K C "many_with" fW) (bW : Binds K fdW ["self", "place", "used", "letter"] [])
    (mU : Meth K C "used_with" fU) (GU : FnOk P w K mg base CX0 1 fU fdU ["self", "used", "letter"] (spUsed C)) (bU : Binds K fdU ["self", "used", "letter"] []) (GC : FnOk P w K mg base CX0 1 fC fdC ["letters", "others"] spComm) (DC : Df K mg "common_letters" fC fdC ["letters", "others"]) :
    ∀ r, FnOk P w K mg base CX0 (3 * r + 1) fF fdF ["self", "place", "used"] (spManyF P w C r)
  | 0 => ok_manyF (n0 := 0) FF T mA ⟨fun _ _ _ _ h => h.elim, fun _ _ _ _ _ _ _ _ _ _ _ _ _ h => h.elim⟩ bA
  | r + 1 => ok_manyF (n0 := 3 * r + 3) FF T mA (ok_addW (n0 := 3 * r) FA T GC DC mW (ok_manyW (n0 := 3 * r) FW T mU GU bU mF (ok_words T FF FA FW mF bF mA bA mW bW mU GU bU GC DC r) bF) bW mF (ok_words T FF FA FW mF bF mA bA mW bW mU GU bU GC DC r) bF) bA
end
end Gm

/-! how many words the program counts: as many as the list of all words keeps -/
namespace Gm
open PySem L2
theorem nd_modify {f : List Nat → List Nat} (hf : ∀ t, t.Nodup → (f t).Nodup) {al : List (List Nat)} (h : ∀ x ∈ al, x.Nodup) (i : Nat) : ∀ x ∈ al.modify i f, x.Nodup := by
  intro x hx
  rcases mem_modify hx with hx | ⟨y, hy, rfl⟩
  · exact h x hx
  · exact hf y (h y hy)
theorem placeB_nd (g t : List Nat) (b : BS) (h : ∀ x ∈ b.al, x.Nodup) : ∀ k, ∀ x ∈ (placeB g t k b).al, x.Nodup
  | 0 => h
  | k + 1 => by
    unfold placeB
    split
    · refine nd_modify (fun t _ => ?_) (placeB_nd g t b h k) k
      split
      · exact List.nodup_cons.mpr ⟨List.not_mem_nil, List.nodup_nil⟩
      · exact List.nodup_nil
    · exact nd_modify (fun t ht => ht.filter _) (placeB_nd g t b h k) k
theorem rows_nd : ∀ (rows : List Row) (b : BS), (∀ x ∈ b.al, x.Nodup) → ∀ x ∈ (rows.foldl rowB b).al, x.Nodup
  | [], _, h => h
  | r :: rows, b, h => rows_nd rows (rowB b r) (by rw [rowB_al]; exact placeB_nd r.1 r.2 b h r.1.length)
theorem wd_nd {l : List Nat} {n : Int} {rows : List Row} (nd : l.Nodup) : ∀ a ∈ (wdOf l n rows).al, a.Nodup := by
  intro a ha
  obtain ⟨t, ht, rfl⟩ := List.mem_map.mp ha
  have h : ∀ x ∈ (bsOf l n.toNat rows).al, x.Nodup := rows_nd rows (bs0 l n.toNat) fun x hx => by
    have hx : x ∈ List.replicate n.toNat l := hx
    rw [(List.mem_replicate.mp hx).2]
    exact nd
  exact (h t ht).filter _
theorem wds_nd {l : List Nat} (nd : l.Nodup) : ∀ n, (wds l n).Nodup
  | 0 => List.nodup_cons.mpr ⟨List.not_mem_nil, List.nodup_nil⟩
  | n + 1 => by
    have ih := wds_nd nd n
    show ((wds l n).flatMap fun w => l.map fun c => w ++ [c]).Nodup
    generalize wds l n = ws at ih
    induction ws with
    | nil => exact List.nodup_nil
    | cons w ws ia =>
      obtain ⟨h1, h2⟩ := List.nodup_cons.mp ih
      rw [List.flatMap_cons]
      refine List.nodup_append.mpr ⟨?_, ia h2, fun x hx y hy e => ?_⟩
      · exact List.pairwise_map.mpr (List.Pairwise.imp (fun h e => h (List.cons.inj (List.append_cancel_left e)).1) nd)
      · obtain ⟨s, _, rfl⟩ := List.mem_map.mp hx
        obtain ⟨d, hd, hy⟩ := List.mem_flatMap.mp hy
        obtain ⟨s', _, rfl⟩ := List.mem_map.mp hy
        have : w = d := (List.append_inj' e rfl).1
        exact h1 (by rw [this]; exact hd)
def cntW (l : List Nat) (n : Int) (rows : List Row) : Int := ways (wdOf l n rows) 0 (List.replicate (wdOf l n rows).ct.length 0)
/-- the words that stand -/
def leftL (l : List Nat) (n : Int) (rows : List Row) : List (List Nat) := (wds l n.toNat).filter (fitsB rows)
theorem fitsB_iff {rows : List Row} {w : List Nat} : fitsB rows w = true ↔ fitW rows w := by
  unfold fitsB fitW
  rw [List.all_eq_true]
  exact ⟨fun h r hr => of_decide_eq_true (h r hr), fun h r hr => decide_eq_true (h r hr)⟩
theorem mem_leftL {l : List Nat} {n : Int} (n0 : 0 ≤ n) {rows : List Row} {w : List Nat} : w ∈ leftL l n rows ↔ (w.length : Int) = n ∧ (∀ c ∈ w, c ∈ l) ∧ fitW rows w := by
  unfold leftL
  rw [List.mem_filter, mem_wds, fitsB_iff]
  constructor
  · rintro ⟨⟨h1, h2⟩, h3⟩
    exact ⟨by omega, h2, h3⟩
  · rintro ⟨h1, h2, h3⟩
    exact ⟨⟨by omega, h2⟩, h3⟩
theorem cnt_eq {l : List Nat} {n : Int} {rows : List Row} (n1 : 1 ≤ n) (nd : l.Nodup) (hr : ∀ r ∈ rows, RowOk l n r) : cntW l n rows = ((leftL l n rows).length : Int) := by
  unfold cntW
  rw [ways_eq nd]
  congr 1
  refine List.Perm.length_eq ((List.perm_ext_iff_of_nodup ((sufs_nodup (wd_nd nd)).filter _) ((wds_nd nd _).filter _)).mpr fun s => ?_)
  rw [way_mem n1 hr s]
  exact (mem_leftL (by omega)).symm
theorem fitsB_app (a b : List Row) (w : List Nat) : fitsB (a ++ b) w = (fitsB a w && fitsB b w) := List.all_append
theorem left_app (l : List Nat) (n : Int) (a b : List Row) : leftL l n (a ++ b) = (leftL l n a).filter (fitsB b) := by
  unfold leftL
  rw [List.filter_filter]
  exact List.filter_congr fun w _ => by rw [fitsB_app, Bool.and_comm]
theorem left_comm (l : List Nat) (n : Int) (a b : List Row) : leftL l n (a ++ b) = leftL l n (b ++ a) := by
  unfold leftL
  exact List.filter_congr fun w _ => by rw [fitsB_app, fitsB_app, Bool.and_comm]
theorem left_same {l : List Nat} {n : Int} {a b : List Row} (n1 : 1 ≤ n) (nd : l.Nodup) (ha : ∀ r ∈ a, RowOk l n r) (hb : ∀ r ∈ b, RowOk l n r) :
    (decide (cntW l n a = cntW l n (a ++ b)) && decide (cntW l n b = cntW l n (a ++ b))) = decide (leftL l n a = leftL l n b) := by
  have hab : ∀ r ∈ a ++ b, RowOk l n r := fun r hr => by
    rcases List.mem_append.mp hr with h | h
    · exact ha r h
    · exact hb r h
  rw [cnt_eq n1 nd ha, cnt_eq n1 nd hb, cnt_eq n1 nd hab, Bool.eq_iff_iff, Bool.and_eq_true, decide_eq_true_iff, decide_eq_true_iff, decide_eq_true_iff]
  have e1 := left_app l n a b
  have e2 : leftL l n (a ++ b) = (leftL l n b).filter (fitsB a) := (left_comm l n a b).trans (left_app l n b a)
  constructor
  · rintro ⟨h1, h2⟩
    have q1 : leftL l n (a ++ b) = leftL l n a := by
      rw [e1]
      exact List.Sublist.eq_of_length List.filter_sublist (by rw [← e1]; omega)
    have q2 : leftL l n (a ++ b) = leftL l n b := by
      rw [e2]
      exact List.Sublist.eq_of_length List.filter_sublist (by rw [← e2]; omega)
    rw [← q1, q2]
  · intro h
    have q1 : leftL l n (a ++ b) = leftL l n a := by
      rw [e1]
      refine List.filter_eq_self.mpr fun w hw => ?_
      rw [h] at hw
      exact (List.mem_filter.mp hw).2
    rw [q1, ← h]
    exact ⟨rfl, rfl⟩
end Gm

/-! len and truth of an instance with its own __len__ -/
namespace PySem.W
open PySem PySem.Spec PySem.Calls PyProof.Rows Builtin
section
variable {prog : Program} {w : World} {A : Around} {E : Value → Shared → Prop} {s : Shared} {K : Frag} {x C f L : Addr} {ox : Obj} {od : Option Obj} {h₀ : Heap} {m : Str → Option Value}
theorem gm_lenBody {Q : Value → Shared → Prop} (X : K.In s.heap) (I : InstAt s.heap x ox C od) (hs : findIn K (.ref C) "__len__" = some (some (.ref f))) (hf : isFn K (.ref f) = true)
    (h : wpAny (model prog w) A (call (.ref f) [.ref x]) (LenBack Q) E s) : wpAny (model prog w) A (Builtin.«len» ⟨[.ref x], []⟩) (fun fin s' => ∃ r, fin = .done (.ret r) ∧ Q r s') E s := by
  unfold Builtin.«len»
  refine wpAny_bind (m := oneArg "len" _) (wpAny_pure ?_)
  refine wpAny_bind (m := callSpecial? (.ref x) (Str.ofString "__len__")) (special_fn X I hs (beq_iff_eq.mp hf) (wpAny_mono h (fun r s' hr => ?_) fun _ _ y => y))
  cases r <;> first | exact hr.elim | skip
  rename_i n u
  obtain ⟨⟨h0, h1⟩, hq⟩ := hr
  refine wpAny_bind (wpAny_holding (wpAny_pure ?_))
  refine wpAny_bind (wpAny_letGo ?_)
  show wpAny _ _ (if n < 0 then _ else _) _ _ _
  rw [if_neg (by omega)]
  show wpAny _ _ (if n ≥ 2 ^ 63 then _ else _) _ _ _
  rw [if_neg (by omega)]
  exact wpAny_bind (wpAny_mkInt (wpAny_pure ⟨_, rfl, hq⟩))
theorem gm_truthyLen {Q : Bool → Shared → Prop} (X : K.In s.heap) (I : InstAt s.heap x ox C od) (hb : findIn K (.ref C) "__bool__" = some none) (hs : findIn K (.ref C) "__len__" = some (some (.ref f))) (hf : isFn K (.ref f) = true)
    (h : wpAny (model prog w) A.in1 (call (.ref f) [.ref x]) (LenBack fun v s' => ∃ n u, v = .int n u ∧ Q (n != 0) s') E s) : wpAny (model prog w) A (truthy (.ref x)) Q E s := by
  unfold truthy
  refine wpAny_bind (m := callSpecial? (.ref x) (Str.ofString "__bool__")) (wpAny_bind (wpAny_bind (I.type.here ((looks_findIn X hb).here (wpAny_pure ?_)))))
  refine wpAny_bind (wpAny_bind (I.type.here ((looks_findIn X hs).here ?_)))
  show wpAny _ _ (if (some (Value.ref f)).isNone = true then _ else _) _ _ _
  rw [if_neg (by simp)]
  have key : wpAny (model prog w) A (runValue (.builtin "len" ⟨[.ref x], []⟩)) (fun v s' => ∃ n u, v = .int n u ∧ Q (n != 0) s') E s := by
    refine wpAny_runValue (codeAny_builtin entry_len ?_)
    rw [Around.under_plainId plain_len _]
    exact wpAny_mono (gm_lenBody (Q := fun v s' => ∃ n u, v = .int n u ∧ Q (n != 0) s') X I hs hf h) (fun fin s' h' => by obtain ⟨r, rfl, hq⟩ := h'; exact hq) fun _ _ e => e
  exact wpAny_bind (wpAny_mono key (fun r s' h' => by obtain ⟨n, u, rfl, hq⟩ := h'; exact wpAny_pure hq) fun _ _ e => e)
theorem gm_boolLen {Q : Value → Shared → Prop} (X : K.In s.heap) (I : InstAt s.heap x ox C od) (hb : findIn K (.ref C) "__bool__" = some none) (hs : findIn K (.ref C) "__len__" = some (some (.ref f))) (hf : isFn K (.ref f) = true)
    (h : wpAny (model prog w) A.in1.in1.in1 (call (.ref f) [.ref x]) (LenBack fun v s' => ∃ n u, v = .int n u ∧ Q (.bool (n != 0)) s') E s) : wpAny (model prog w) A (call (.type "bool") [.ref x]) Q E s := by
  refine callType_codes (T := "bool") (Bi := Builtin.«object.__init__») (Q₁ := fun r s₁ => ∃ b, r = .bool b ∧ Q r s₁) PySem.F.called_bool (PySem.F.typeCall_bool_1 _) PySem.F.entry_object_init ?_ ?_
  · refine codeAny_of_tree ?_
    show wpAny _ A.in1.in1 (do checkBuiltinCall "bool.__new__" ⟨[.type "bool", .ref x], []⟩; again (.builtin "bool.__new__" ⟨[.type "bool", .ref x], []⟩)) _ _ s
    refine wpAny_bind (wpAny_of_eq (PySem.F.newCall_bool_1 _) (wpAny_pure ⟨plainId_quiet (by decide +kernel) _, codeAny_builtin PySem.F.entry_bool_new ?_⟩))
    rw [Around.under_plainId (by decide +kernel) _]
    unfold Builtin.«bool.__new__»
    refine wpAny_bind (wpAny_pure ?_)
    refine wpAny_bind (wpAny_of_eq PySem.F.conv_sub_bool ?_)
    refine wpAny_bind (wpAny_pure ?_)
    exact wpAny_bind (wpAny_mono (gm_truthyLen (Q := fun b s₁ => Q (.bool b) s₁) X I hb hs hf h) (fun b s₁ hq => wpAny_pure ⟨_, rfl, hq⟩) fun _ _ y => y)
  · rintro obj s₁ ⟨b, rfl, hq⟩
    exact ⟨typeIs_bool _ _, PySem.F.args_object_init_2 _ _, object_init_meets PySem.F.called_bool.init.lookup PySem.F.called_bool.made (by decide) prog w A.in1 _ s₁ ⟨typeIs_bool _ _, rfl, hq⟩⟩
end
end PySem.W
namespace L2
open PySem PySem.Spec PyProof.Rows
section
variable {X : Cx} {n : Nat} {pins : List (Addr × Obj)} {σ : St} {H : Hp} {s : Shared}
/-- len(x), bool(x) by the class's own __len__ -/
def rLenO (C : Addr) (sp : Sp) (E : XK) (g : Int → V) : List V → Hp → VK → Prop := fun xs H Q => ∃ a dx fs, xs = [.ref a] ∧ H a = some (.ins C dx fs) ∧ sp [.ref a] H (fun v H' => ∃ i : Int, v = .int i ∧ 0 ≤ i ∧ i < 1073741824 ∧ Q (g i) H') E
theorem call_lenOwn {CX : CXT} {C f : Addr} {fd : FuncData} {ps : List Str} {sp : Sp} {E : XK} (hr : Room (n + 1) X.A) (F : FnOk X.prog X.w X.K X.mg X.base CX n f fd ps sp) (hs : PySem.W.findIn X.K (.ref C) "__len__" = some (some (.ref f))) (hf : PySem.W.isFn X.K (.ref f) = true)
    (hb : Binds X.K fd ps []) (hx : Passes CX X E) : CallR X (.builtin "len") (rLenO C sp E .int) := by
  intro pins s σ H xs us Q I r h
  obtain ⟨a, dx, fs, rfl, ha, hsp⟩ := h
  obtain ⟨mA, J, _⟩ := ins_get I.hok ha
  obtain ⟨od, J, _⟩ := J.look
  obtain ⟨m, hF⟩ := I.fr
  cases r with
  | cons r1 r2 =>
    cases r2
    cases r1
    refine PySem.W.len_K hF I.ok.mod.kin J hs hf ?_
    refine wpAny_mono (gm_call ⟨hr.in1, rfl⟩ I F hb hx (vs := [.ref a]) (us := [.ref a]) (.cons rfl .nil) hsp) (fun z s' hz => ?_) fun _ _ e => e
    obtain ⟨z', H', I', rz, i, rfl, h0, h1, q⟩ := hz
    obtain ⟨t, rfl⟩ := rz
    exact ⟨⟨h0, by omega⟩, .int i, H', I'.tok _, ⟨_, rfl⟩, q⟩
theorem call_boolOwn {CX : CXT} {C f : Addr} {fd : FuncData} {ps : List Str} {sp : Sp} {E : XK} (hr : Room (n + 3) X.A) (F : FnOk X.prog X.w X.K X.mg X.base CX n f fd ps sp) (hb0 : PySem.W.findIn X.K (.ref C) "__bool__" = some none) (hs : PySem.W.findIn X.K (.ref C) "__len__" = some (some (.ref f))) (hf : PySem.W.isFn X.K (.ref f) = true)
    (hb : Binds X.K fd ps []) (hx : Passes CX X E) : CallR X (.type "bool") (rLenO C sp E fun i => .bl (i != 0)) := by
  intro pins s σ H xs us Q I r h
  obtain ⟨a, dx, fs, rfl, ha, hsp⟩ := h
  obtain ⟨mA, J, _⟩ := ins_get I.hok ha
  obtain ⟨od, J, _⟩ := J.look
  cases r with
  | cons r1 r2 =>
    cases r2
    cases r1
    refine PySem.W.gm_boolLen I.kIn J hb0 hs hf ?_
    refine wpAny_mono (gm_call ⟨hr.in1.in1.in1, rfl⟩ I F hb hx (vs := [.ref a]) (us := [.ref a]) (.cons rfl .nil) hsp) (fun z s' hz => ?_) fun _ _ e => e
    obtain ⟨z', H', I', rz, i, rfl, h0, h1, q⟩ := hz
    obtain ⟨t, rfl⟩ := rz
    exact ⟨⟨h0, by omega⟩, _, _, rfl, .bl (i != 0), H', I'.tok _, rfl, q⟩
end
end L2

/-! rows as data; len of a history, a history without a row -/
namespace Gm
open PySem L2
abbrev sWo : Stmt := inClass (top 48) 2
abbrev sHLen : Stmt := inClass (top 48) 5
/-! ### rows as data -/
def rowD (r : Row) : PyData := .tuple [.str (tx r.1), .str (tx r.2)]
theorem Rws.dp {K : PySem.W.Frag} {H : Hp} {vs : List V} {rs : List Row} (h : Rws H vs rs) : DpAll K H vs (rs.map rowD) := by
  induction h with
  | nil => exact .nil
  | cons a _ ih => exact .cons (.tup (SqT.of a) (.cons (.str _) (.cons (.str _) .nil))) ih
theorem Rws.dq {K : PySem.W.Frag} {H : Hp} {vs : List V} {rs : List Row} (h : Rws H vs rs) : DqAll K H vs (rs.map rowD) := by
  induction h with
  | nil => exact .nil
  | cons a _ ih => exact .cons (.tup (SqT.of a) (.cons (.str _) (.cons (.str _) .nil))) ih
theorem tx_inj {a b : List Nat} (h : tx a = tx b) : a = b := by
  have := congrArg (fun s : Str => s.cps.toList) h
  simpa using this
theorem eqv_row (a b : Row) : PyData.eqv (rowD a) (rowD b) = decide (a = b) := by
  unfold rowD
  simp only [PyData.eqv, PyData.eqvAll, Bool.and_true]
  rw [Bool.eq_iff_iff, Bool.and_eq_true, beq_iff_eq, beq_iff_eq, decide_eq_true_iff]
  exact ⟨fun h => Prod.ext (tx_inj h.1) (tx_inj h.2), fun h => by rw [h]; exact ⟨rfl, rfl⟩⟩
theorem eqv_rows : ∀ a b : List Row, PyData.eqvAll (a.map rowD) (b.map rowD) = decide (a = b)
  | [], [] => by simp [PyData.eqvAll]
  | [], _ :: _ => by simp [PyData.eqvAll]
  | _ :: _, [] => by simp [PyData.eqvAll]
  | x :: xs, y :: ys => by
    rw [List.map_cons, List.map_cons, PyData.eqvAll, eqv_row, eqv_rows xs ys, Bool.eq_iff_iff]
    simp
def Sm (l : List Nat) : Prop := ∀ c ∈ l, c < 128
def SmR (r : Row) : Prop := Sm r.1 ∧ Sm r.2
theorem SmR.of {l : List Nat} {n : Int} {r : Row} (h : RowOk l n r) (s : Sm l) : SmR r := ⟨fun c hc => s c (h.1.2 c hc), fun c hc => by
  have := h.2.2 c hc
  simp only [List.mem_cons, List.not_mem_nil, or_false] at this
  omega⟩
theorem can_tx {l : List Nat} (h : Sm l) : PyData.canLay0 (.str (tx l)) = true := by
  show (tx l).cps.all (fun c => decide (c < 0x110000)) = true
  rw [← Array.all_toList, List.all_eq_true]
  intro c hc
  have := h c (by simpa using hc)
  exact decide_eq_true (by omega)
theorem can_rows : ∀ rs : List Row, (∀ r ∈ rs, SmR r) → PyData.canLayAll0 (rs.map rowD) = true
  | [], _ => by simp only [List.map_nil, PyData.canLayAll0]
  | r :: rs, h => by
    have h1 := can_tx (h r (List.mem_cons_self ..)).1
    have h2 := can_tx (h r (List.mem_cons_self ..)).2
    have ih := can_rows rs fun x hx => h x (List.mem_cons_of_mem _ hx)
    simp only [List.map_cons, PyData.canLayAll0, rowD]
    simp only [PyData.canLay0, PyData.canLayAll0] at h1 h2 ih ⊢
    rw [h1, h2, ih]
    rfl
theorem depth_rows : ∀ rs : List Row, PyData.depthAll (rs.map rowD) ≤ 2
  | [] => by simp only [List.map_nil, PyData.depthAll]; omega
  | r :: rs => by
    have ih := depth_rows rs
    simp only [List.map_cons, PyData.depthAll, rowD, PyData.depth] at ih ⊢
    omega
theorem shaped_tup {rs : List Row} (h : ∀ r ∈ rs, SmR r) : SeqAt.shaped (.tuple (rs.map rowD)) = true := by
  unfold SeqAt.shaped
  have d := depth_rows rs
  have e : PyData.canLay0 (.tuple (rs.map rowD)) = true := by simp only [PyData.canLay0]; exact can_rows rs h
  rw [e, Bool.true_and]
  exact decide_eq_true (by simp only [PyData.depth]; omega)
theorem shaped_lst {rs : List Row} (h : ∀ r ∈ rs, SmR r) : SeqAt.shaped (.list (rs.map rowD)) = true := by
  unfold SeqAt.shaped
  have d := depth_rows rs
  have e : PyData.canLay0 (.list (rs.map rowD)) = true := by simp only [PyData.canLay0]; exact can_rows rs h
  rw [e, Bool.true_and]
  exact decide_eq_true (by simp only [PyData.depth]; omega)
def spWo (C CH : Addr) : Sp := fun vs H Q _ => ∃ (p : Addr) (l : List Nat) (n : Int) (rows : List Row) (k : Nat), vs = [.ref p, .int (k : Int)] ∧ HistAt C CH H p l n rows ∧ k < rows.length ∧
  ∀ H' q, Same H H' → H q = none → HistAt C CH H' q l n (rows.take k ++ rows.drop (k + 1)) → Q (.ref q) H'
def spHLen (C CH : Addr) : Sp := fun vs H Q _ => ∃ (p : Addr) (l : List Nat) (n : Int) (rows : List Row), vs = [.ref p] ∧ HistAt C CH H p l n rows ∧ Q (.int rows.length) H
theorem Rws.take {H : Hp} {vs : List V} {rs : List Row} (h : Rws H vs rs) : ∀ k, Rws H (vs.take k) (rs.take k) := by
  induction h with
  | nil => intro k; rw [List.take_nil, List.take_nil]; exact .nil
  | cons a _ ih =>
    intro k
    cases k with
    | zero => exact .nil
    | succ k => exact .cons a (ih k)
theorem Rws.drop {H : Hp} {vs : List V} {rs : List Row} (h : Rws H vs rs) : ∀ k, Rws H (vs.drop k) (rs.drop k) := by
  induction h with
  | nil => intro k; rw [List.drop_nil, List.drop_nil]; exact .nil
  | cons a r ih =>
    intro k
    cases k with
    | zero => exact .cons a r
    | succ k => exact ih k
theorem cutV_pre (xs : List V) (k : Nat) (h : k ≤ xs.length) : cutV xs none (some (k : Int)) = xs.take k := by
  unfold cutV
  rw [HT.sIx_none, HT.sIx_nat, Nat.min_eq_left h, List.drop_zero, Nat.sub_zero]
theorem cutV_suf (xs : List V) (k : Nat) (h : k ≤ xs.length) : cutV xs (some (k : Int)) none = xs.drop k := by
  unfold cutV
  rw [HT.sIx_none, HT.sIx_nat, Nat.min_eq_left h]
  exact List.take_of_length_le (by rw [List.length_drop]; omega)
section
variable {P : Program} {w : World} {K : PySem.W.Frag} {mg : Str → Option Value} {base : Heap}
theorem scHLen : FnScope ["self"] ["self"] (defScope sHLen) := ⟨rfl, rfl, rfl, by decide +kernel, rfl, by decide +kernel, by decide +kernel⟩
theorem ok_hlen {f C CH : Addr} {fd : FuncData} (F : Fun K "__len__" "History.__len__" sHLen f fd) (TH : TxH K mg CH) (tl : mg "len" = none) : FnOk P w K mg base CX0 1 f fd ["self"] (spHLen C CH) := by
  refine F.ok scHLen (fun vs H Q E h => ?_) (fun cdv A outer s H vs Q E hr h => ?_)
  · obtain ⟨p, l, n, rows, rfl, _⟩ := h
    rfl
  · obtain ⟨p, l, n, rows, rfl, ⟨dx, b, r, hp, hb, ⟨vs, hv, hw⟩, ok⟩, q⟩ := h
    refine ⟨_, pss_one (ps_ret (pe_callB call_len_seq (by rfl) tl PySem.boot_len (pa_cons (pe_fld (pv 0) rfl) pa_nil))), ?_⟩
    refine ⟨_, rfl, p, CH, dx, _, _, rfl, hp, TH.cl, TH.nR, hf_rows b r, r, _, rfl, .inr (SqT.of hv), ?_⟩
    rw [hw.len]
    exact q
abbrev nWo : List Str := ["self", "place", "others"]
theorem scWo : FnScope nWo ["self", "place"] (defScope sWo) := ⟨rfl, rfl, rfl, by decide +kernel, rfl, by decide +kernel, by decide +kernel⟩
theorem ok_wo {f C CH fW fI : Addr} {fd fdW : FuncData} (F : Fun K "without" "History.without" sWo f fd) (TH : TxH K mg CH) (tl : mg "len" = none)
    (GW : FnOk P w K mg base CX0 1 fW fdW ["value", "least", "most"] (spWithin K)) (DW : Df K mg "is_integer_within" fW fdW ["value", "least", "most"])
    (GI : FnR P w K mg base CX0 5 fI (spHInitR C CH)) (M : Mk K CH fI) : FnOk P w K mg base CX0 7 f fd ["self", "place"] (spWo C CH) := by
  refine F.ok scWo (fun vs H Q E h => ?_) (fun cdv A outer s H vs Q E hr h => ?_)
  · obtain ⟨p, l, n, rows, k, rfl, _⟩ := h
    rfl
  · obtain ⟨p, l, n, rows, k, rfl, ⟨dx, b, r, hp, hb, ⟨vs, hv, hw⟩, ok⟩, hk, q⟩ := h
    have hline : sizeLine = 16777216 := sizeLine_eq
    have nd := scWo.nd
    have hr1 : Room 1 _ := hr.mono (by decide)
    have hl := hw.len
    have h20 := ok.2
    refine ⟨_, pss_cons (ps_if (pt_not (pt_val (pe_call GW hr1 (by rfl) DW.mg DW.kp DW.b .nil pass0 (pa_cons (pv 1) (pa_cons pe_int (pa_cons (pe_op op_sub (pe_callB call_len_seq (by rfl) tl PySem.boot_len (pa_cons (pe_fld (pv 0) rfl) pa_nil)) pe_int) pa_nil)))))) (pss_one ps_never) pss_nil)
      (pss_cons (ps_set (i := 2) nd rfl (Or.inl rfl) (pe_op op_catA (pe_slice sl_tup (pe_fld (pv 0) rfl) po_none (po_some (pv 1))) (pe_slice sl_tup (pe_fld (pv 0) rfl) (po_some (pe_op op_add (pv 1) pe_int)) po_none)))
      (pss_one (ps_ret (pe_makeS2 M GI hr (by rfl) TH.mgC pass0 (pa_cons (pe_fld (pv 0) rfl) (StX.pa_star (pv 2) pa_nil)))))), ?_⟩
    refine ⟨_, rfl, _, rfl, p, CH, dx, _, _, rfl, hp, TH.cl, TH.nR, hf_rows b r, r, _, rfl, .inr (SqT.of hv), _, _, rfl, rfl, ?_⟩
    refine ⟨_, _, _, rfl, .inl ⟨_, rfl, _, rfl, ?_⟩⟩
    rw [decide_eq_true (show (0 : Int) ≤ (k : Int) ∧ (k : Int) ≤ ((vs.length : Nat) : Int) - 1 from ⟨by omega, by omega⟩)]
    refine iteF ?_
    refine ⟨_, rfl, p, CH, dx, _, _, rfl, hp, TH.cl, TH.nR, hf_rows b r, _, rfl, _, rfl, r, vs, rfl, SqT.of hv, fun e => ?_, fun A zA => ?_⟩
    · have := e.2
      rw [HT.sIx_nat] at this
      omega
    have sA := same_upd (o := HO.tup (cutV vs none (some (k : Int)))) zA
    refine ⟨_, rfl, p, CH, dx, _, _, rfl, sA _ _ hp, TH.cl, TH.nR, hf_rows b r, _, rfl, _, _, rfl, rfl, _, rfl, r, vs, rfl, SqT.of (sA _ _ hv), fun e => ?_, fun B zB => ?_⟩
    · have e1 := e.1
      have e2 : HT.sIx vs.length 0 (some ((k : Int) + 1)) = min (k + 1) vs.length := HT.sIx_nat vs.length 0 (k + 1)
      rw [e2] at e1
      omega
    have eA : cutV vs none (some (k : Int)) = vs.take k := cutV_pre vs k (by omega)
    have eB : cutV vs (some ((k : Int) + 1)) none = vs.drop (k + 1) := cutV_suf vs (k + 1) (by omega)
    have sB := sm_tr sA (same_upd (o := HO.tup (cutV vs (some ((k : Int) + 1)) none)) zB)
    have hA : upd (upd H A (.tup (cutV vs none (some (k : Int))))) B (.tup (cutV vs (some ((k : Int) + 1)) none)) A = some (.tup (vs.take k)) := by
      rw [← eA]
      exact same_upd zB _ _ upd_same
    have hB : upd (upd H A (.tup (cutV vs none (some (k : Int))))) B (.tup (cutV vs (some ((k : Int) + 1)) none)) B = some (.tup (vs.drop (k + 1))) := by
      rw [← eB]
      exact upd_same
    have okr : RowsOk l n (rows.take k ++ rows.drop (k + 1)) := ⟨fun x hx => by
      rcases List.mem_append.mp hx with hx | hx
      · exact ok.1 x (List.mem_of_mem_take hx)
      · exact ok.1 x (List.mem_of_mem_drop hx), by
      rw [List.length_append, List.length_take, List.length_drop]
      omega⟩
    have hww : Rws H (vs.take k ++ vs.drop (k + 1)) (rows.take k ++ rows.drop (k + 1)) := (hw.take k).app (hw.drop (k + 1))
    generalize upd (upd H A (.tup (cutV vs none (some (k : Int))))) B (.tup (cutV vs (some ((k : Int) + 1)) none)) = G at sB hA hB ⊢
    refine ⟨A, B, _, _, rfl, rfl, SqT.of hA, SqT.of hB, by rw [List.length_take, List.length_drop]; omega, fun e => ?_, fun _ e => ?_, fun _ _ O zO => ?_⟩
    · refine ⟨_, rfl, p, CH, dx, _, _, rfl, sB _ _ hp, TH.cl, TH.nB, hf_board b r, _, rfl, B, _, rfl, .inl (SqT.of hB), ?_⟩
      rw [e, List.nil_append] at hww
      exact hist_made (hb.same sB) (by rw [List.append_nil]; exact hww.same sB) okr fun H' x s4 nx hh => q H' x (sm_tr sB s4) (sB.free nx) hh
    · refine ⟨_, rfl, p, CH, dx, _, _, rfl, sB _ _ hp, TH.cl, TH.nB, hf_board b r, _, rfl, A, _, rfl, .inl (SqT.of hA), ?_⟩
      rw [e, List.append_nil] at hww
      exact hist_made (hb.same sB) (by rw [List.append_nil]; exact hww.same sB) okr fun H' x s4 nx hh => q H' x (sm_tr sB s4) (sB.free nx) hh
    · have sO := sm_tr sB (same_upd (o := HO.tup (vs.take k ++ vs.drop (k + 1))) zO)
      refine ⟨_, rfl, p, CH, dx, _, _, rfl, sO _ _ hp, TH.cl, TH.nB, hf_board b r, _, rfl, O, _, rfl, .inl (SqT.of upd_same), ?_⟩
      exact hist_made (hb.same sO) (by rw [List.append_nil]; exact hww.same sO) okr fun H' x s4 nx hh => q H' x (sm_tr sO s4) (sO.free nx) hh
/-- facts of the class -/
structure TxE (K : PySem.W.Frag) (C CH : Addr) : Prop where
  ac : PySem.W.findIn K (.ref CH) "__class__" = some (some (.builtin "object.__class__"))
  gt : PySem.W.specialIn K (.builtin "object.__class__") "__get__" = some (some (.builtin "getset_descriptor.__get__"))
  tk : PySem.W.takesIn K (.builtin "object.__class__") = some true
  ob : PySem.W.mroIn K CH (.type "object") = some true
  own : PySem.W.kitOne K (.ref CH) (.ref CH) = some true
  ne : PySem.W.findIn K (.ref CH) "__ne__" = some (some (.builtin "object.__ne__"))
  nb : PySem.W.findIn K (.ref CH) "__bool__" = some none
  kT : PySem.W.kitOne K (.type "tuple") (.ref CH) = some false
  fT : PySem.W.notFirst K CH (.type "tuple") = true
  fH : PySem.W.notFirst K CH (.ref CH) = true
  fB : PySem.W.notFirst K C (.ref C) = true
end
end Gm

/-! games: what stands, what comes; histories that grow and shrink, or refuse to -/
namespace Gm
open PySem L2 LamX




abbrev sDropR : Stmt := inClass (top 53) 9

/-- an own error without attribute comes out -/
def Bare (E : XK) (H : Hp) (C : Addr) : Prop := ∀ H', Same H H' → E (.ref C) none H'
theorem Bare.same {E : XK} {H H1 : Hp} {C : Addr} (h : Bare E H C) (s : Same H H1) : Bare E H1 C := fun H' s' => h H' (fun b o x => s' _ _ (s _ _ x))
def gameF (b : Addr) (st : Bool) (h : Addr) (bz : Bool) (pa : V) : List (Str × V) := [("board", .ref b), ("strict", .bl st), ("history", .ref h), ("busy", .bl bz), ("past", pa)]
def momF (h : Addr) (pa : V) : List (Str × V) := [("history", .ref h), ("past", pa)]
theorem gf_board (b : Addr) (st : Bool) (h : Addr) (bz : Bool) (pa : V) : (gameF b st h bz pa).lookup ("board" : Str) = some (.ref b) := rfl
theorem gf_ne {x y : Str} {v : V} {fs : List (Str × V)} (h : (x == y) = false) : ((y, v) :: fs).lookup x = fs.lookup x := by rw [List.lookup_cons, h]
theorem gf_strict (b : Addr) (st : Bool) (h : Addr) (bz : Bool) (pa : V) : (gameF b st h bz pa).lookup ("strict" : Str) = some (.bl st) := by
  unfold gameF
  rw [gf_ne (by decide +kernel)]; rfl
theorem gf_history (b : Addr) (st : Bool) (h : Addr) (bz : Bool) (pa : V) : (gameF b st h bz pa).lookup ("history" : Str) = some (.ref h) := by
  unfold gameF
  rw [gf_ne (by decide +kernel), gf_ne (by decide +kernel)]; rfl
theorem gf_busy (b : Addr) (st : Bool) (h : Addr) (bz : Bool) (pa : V) : (gameF b st h bz pa).lookup ("busy" : Str) = some (.bl bz) := by
  unfold gameF
  rw [gf_ne (by decide +kernel), gf_ne (by decide +kernel), gf_ne (by decide +kernel)]; rfl
theorem gf_past (b : Addr) (st : Bool) (h : Addr) (bz : Bool) (pa : V) : (gameF b st h bz pa).lookup ("past" : Str) = some pa := by
  unfold gameF
  rw [gf_ne (by decide +kernel), gf_ne (by decide +kernel), gf_ne (by decide +kernel), gf_ne (by decide +kernel)]; rfl
theorem gf_none (b : Addr) (st : Bool) (h : Addr) (bz : Bool) (pa : V) {x : Str} (hx : (["board", "strict", "history", "busy", "past"] : List Str).all (fun y => !(x == y)) = true) : (gameF b st h bz pa).lookup x = none := by
  simp only [List.all_cons, List.all_nil, Bool.and_true, Bool.and_eq_true, Bool.not_eq_true'] at hx
  obtain ⟨h1, h2, h3, h4, h5⟩ := hx
  unfold gameF
  rw [gf_ne h1, gf_ne h2, gf_ne h3, gf_ne h4, gf_ne h5]; rfl
theorem mf_history (h : Addr) (pa : V) : (momF h pa).lookup ("history" : Str) = some (.ref h) := rfl
theorem mf_past (h : Addr) (pa : V) : (momF h pa).lookup ("past" : Str) = some pa := by
  unfold momF
  rw [gf_ne (by decide +kernel)]; rfl
theorem pf_ne {x y : Str} {v z : V} {fs : List (Str × V)} (h : ¬ y = x) : putF x v ((y, z) :: fs) = (y, z) :: putF x v fs := if_neg h
theorem pf_eq {x : Str} {v z : V} {fs : List (Str × V)} : putF x v ((x, z) :: fs) = (x, v) :: fs := if_pos rfl
theorem gp_history (b : Addr) (st : Bool) (h h2 : Addr) (bz : Bool) (pa : V) : putF "history" (.ref h2) (gameF b st h bz pa) = gameF b st h2 bz pa := by
  unfold gameF
  rw [pf_ne (by decide +kernel), pf_ne (by decide +kernel), pf_eq]
theorem gp_busy (b : Addr) (st : Bool) (h : Addr) (bz b2 : Bool) (pa : V) : putF "busy" (.bl b2) (gameF b st h bz pa) = gameF b st h b2 pa := by
  unfold gameF
  rw [pf_ne (by decide +kernel), pf_ne (by decide +kernel), pf_ne (by decide +kernel), pf_eq]
theorem gp_past (b : Addr) (st : Bool) (h : Addr) (bz : Bool) (pa p2 : V) : putF "past" p2 (gameF b st h bz pa) = gameF b st h bz p2 := by
  unfold gameF
  rw [pf_ne (by decide +kernel), pf_ne (by decide +kernel), pf_ne (by decide +kernel), pf_ne (by decide +kernel), pf_eq]
theorem mp_all (h : Addr) (pa : V) : putF "past" pa (putF "history" (.ref h) []) = momF h pa := by
  unfold momF
  show putF "past" pa [("history", .ref h)] = _
  rw [pf_ne (by decide +kernel)]; rfl
/-- the moments before a game's present -/
inductive PastAt (C CH CM : Addr) (H : Hp) (l : List Nat) (n : Int) : V → List (List Row) → Prop
  | nil : PastAt C CH CM H l n .non []
  | cons {m dx h : Addr} {v : V} {rows : List Row} {past : List (List Row)} : H m = some (.ins CM dx (momF h v)) → HistAt C CH H h l n rows → PastAt C CH CM H l n v past → PastAt C CH CM H l n (.ref m) (rows :: past)
def GameAt (C CH CM CG : Addr) (H : Hp) (g : Addr) (l : List Nat) (n : Int) (st bz : Bool) (rows : List Row) (past : List (List Row)) : Prop :=
  ∃ dx b h v, H g = some (.ins CG dx (gameF b st h bz v)) ∧ Bd C H b l n ∧ HistAt C CH H h l n rows ∧ PastAt C CH CM H l n v past
/-- tuples, and instances that are no games, stand as they stood -/
def Still (o : HO) : Prop := (∃ CC dx fs, o = .ins CC dx fs ∧ fs.length ≤ 3) ∨ ∃ xs, o = .tup xs
def Kt (H H' : Hp) : Prop := ∀ b o, Still o → H b = some o → H' b = some o
theorem Kt.of {H H' : Hp} (s : Same H H') : Kt H H' := fun b o _ e => s b o e
theorem Kt.trans {H H1 H2 : Hp} (a : Kt H H1) (b : Kt H1 H2) : Kt H H2 := fun c o k e => b c o k (a c o k e)
theorem Kt.but {H H' : Hp} {g : Addr} {C dx : Addr} {fs : List (Str × V)} (s : But g H H') (e : H g = some (.ins C dx fs)) (l : 3 < fs.length) : Kt H H' := fun b o k eb => s b o (fun z => by
  subst z
  rw [e] at eb
  cases eb
  rcases k with ⟨_, _, _, h, l'⟩ | ⟨_, h⟩
  · cases h; omega
  · cases h) eb
theorem still_tup (xs : List V) : Still (.tup xs) := .inr ⟨_, rfl⟩
theorem still_ins {C dx : Addr} {fs : List (Str × V)} (h : fs.length ≤ 3) : Still (.ins C dx fs) := .inl ⟨_, _, _, rfl, h⟩
theorem Rws.kt {H H' : Hp} {vs : List V} {rs : List Row} (h : Rws H vs rs) (k : Kt H H') : Rws H' vs rs := by
  induction h with
  | nil => exact .nil
  | cons ha _ ih => exact .cons (k _ _ (still_tup _) ha) ih
theorem Bd.kt {C : Addr} {H H' : Hp} {p : Addr} {l : List Nat} {n : Int} (h : Bd C H p l n) (k : Kt H H') : Bd C H' p l n :=
  let ⟨⟨dx, e⟩, r⟩ := h
  ⟨⟨dx, k _ _ (still_ins (by rw [bf_eq]; show 3 ≤ 3; decide)) e⟩, r⟩
theorem HistAt.kt {C CH : Addr} {H H' : Hp} {p : Addr} {l : List Nat} {n : Int} {rows : List Row} (h : HistAt C CH H p l n rows) (k : Kt H H') : HistAt C CH H' p l n rows := by
  obtain ⟨dx, b, r, e, hb, ⟨vs, ev, kv⟩, ok⟩ := h
  exact ⟨dx, b, r, k _ _ (still_ins (by rw [hf_eq]; show 2 ≤ 3; decide)) e, hb.kt k, ⟨vs, k _ _ (still_tup _) ev, kv.kt k⟩, ok⟩
theorem PastAt.kt {C CH CM : Addr} {H H' : Hp} {l : List Nat} {n : Int} {v : V} {past : List (List Row)} (h : PastAt C CH CM H l n v past) (k : Kt H H') : PastAt C CH CM H' l n v past := by
  induction h with
  | nil => exact .nil
  | cons e hh _ ih => exact .cons (k _ _ (still_ins (by show 2 ≤ 3; decide)) e) (hh.kt k) ih
theorem GameAt.same {C CH CM CG : Addr} {H H' : Hp} {g : Addr} {l : List Nat} {n : Int} {st bz : Bool} {rows : List Row} {past : List (List Row)} (h : GameAt C CH CM CG H g l n st bz rows past) (s : Same H H') : GameAt C CH CM CG H' g l n st bz rows past := by
  obtain ⟨dx, b, hh, v, e, hb, hs, hp⟩ := h
  exact ⟨dx, b, hh, v, s _ _ e, hb.kt (Kt.of s), hs.kt (Kt.of s), hp.kt (Kt.of s)⟩
structure TxG (K : PySem.W.Frag) (mg : Str → Option Value) (CG : Addr) : Prop where
  cl : Cls K CG
  mgC : mg "Game" = some (.ref CG)
  nB : NoAttr K CG "board"
  nS : NoAttr K CG "strict"
  nH : NoAttr K CG "history"
  nZ : NoAttr K CG "busy"
  nP : NoAttr K CG "past"
structure TxM (K : PySem.W.Frag) (mg : Str → Option Value) (CM : Addr) : Prop where
  cl : Cls K CM
  mgC : mg "Moment" = some (.ref CM)
  nH : NoAttr K CM "history"
  nP : NoAttr K CM "past"
/-- a class of errors without attribute -/
structure ErrN (K : PySem.W.Frag) (mg : Str → Option Value) (x : Str) (C : Addr) : Prop where
  gC : mg x = some (.ref C)
  ex : PySem.W.excIn K C [.type "LookupError", .type "Exception", .type "BaseException", .type "object"] "LookupError.__new__" = true
  kp : PySem.W.keepIn K (.ref C) = true
  eb : PySem.W.subIn K (.ref C) (.type "BaseException") = some true
  ty : PySem.W.typeIn K (.ref C) = some (.type "type")
def spThenU (C CH CT : Addr) : Sp := fun vs H Q E => ∃ (p : Addr) (l g t : List Nat) (n : Int) (rows : List Row), vs = [.ref p, .str (tx g), .str (tx t)] ∧ HistAt C CH H p l n rows ∧ RowOk l n (g, t) ∧
  ((rows.length < 20 ∧ ∀ H' q, Same H H' → H q = none → HistAt C CH H' q l n (rows ++ [(g, t)]) → Q (.ref q) H') ∨ (rows.length = 20 ∧ Comes E H CT "limit" (.int 20)))
def spWoU (K : PySem.W.Frag) (C CH CP : Addr) : Sp := fun vs H Q E => ∃ (p : Addr) (l : List Nat) (n : Int) (rows : List Row) (v : V), vs = [.ref p, v] ∧ HistAt C CH H p l n rows ∧
  ((∃ k : Nat, v = .int (k : Int) ∧ k < rows.length ∧ ∀ H' q, Same H H' → H q = none → HistAt C CH H' q l n (rows.eraseIdx k) → Q (.ref q) H') ∨
   (((∃ i : Int, v = .int i ∧ ¬ (0 ≤ i ∧ i ≤ (rows.length : Int) - 1)) ∨ (∃ t, TyX K H v t ∧ NoInt K t)) ∧ Comes E H CP "value" v))
def spChkL (C CH CN : Addr) : Sp := fun vs H Q E => ∃ (p : Addr) (l : List Nat) (n : Int) (rows : List Row), vs = [.ref p] ∧ HistAt C CH H p l n rows ∧ l.Nodup ∧
  ((leftL l n rows ≠ [] ∧ ∀ H', Same H H' → Q .non H') ∨ (leftL l n rows = [] ∧ Bare E H CN))
def spFree (CG CB : Addr) : Sp := fun vs H Q E => ∃ (g dx b h : Addr) (st bz : Bool) (pa : V), vs = [.ref g] ∧ H g = some (.ins CG dx (gameF b st h bz pa)) ∧ ((bz = false ∧ Q .non H) ∨ (bz = true ∧ Bare E H CB))
def spMoInit (CM : Addr) : Sp := fun vs H Q _ => ∃ (m dx h : Addr) (v : V), vs = [.ref m, .ref h, v] ∧ H m = some (.ins CM dx []) ∧ ∀ H' dx', But m H H' → H' m = some (.ins CM dx' (momF h v)) → Q .non H'
def spMove (CM CG : Addr) : Sp := fun vs H Q _ => ∃ (g dx b h h2 : Addr) (st bz : Bool) (pa : V), vs = [.ref g, .ref h2] ∧ H g = some (.ins CG dx (gameF b st h bz pa)) ∧
  ∀ H' m dxm, But g H H' → H m = none → H' m = some (.ins CM dxm (momF h pa)) → H' g = some (.ins CG dx (gameF b st h2 bz (.ref m))) → Q .non H'
section
variable {P : Program} {w : World} {K : PySem.W.Frag} {mg : Str → Option Value} {base : Heap}
theorem raises_N {X : Cx} {x : Str} {C : Addr} (E : ErrN X.K X.mg x C) : Raises X (.ref C) := raises_own E.eb E.ty
theorem ok_thenU {f C CH CW CM CT fW fM fI eT : Addr} {fd fdW fdM fdT : FuncData} (F : Fun K "then" "History.then" sThen f fd) (TH : TxH K mg CH) (tl : mg "len" = none) (tm : ∃ t, mg "MOST_ROWS" = some (.int 20 t))
    (GW : FnOk P w K mg base (L2N.CX P w) 3 fW fdW ["board", "word"] (spChkWX K C CW none)) (DW : Df K mg "check_word" fW fdW ["board", "word"]) (GM : FnOk P w K mg base (L2N.CX P w) 3 fM fdM ["board", "told"] (spChkWX K C CM (some [48, 49, 50]))) (DM : Df K mg "check_marks" fM fdM ["board", "told"])
    (GI : FnR P w K mg base L2.CX0 5 fI (spHInitR C CH)) (M : Mk K CH fI)
    (ET : ErrB K mg "TooManyRows" "limit" CT eT) (GE : FnOk P w K mg base L2.CX0 1 eT fdT ["self", "limit"] (spErr CT "limit")) (bE : Binds K fdT ["self", "limit"] []) : FnOk P w K mg base (L2N.CX P w) 7 f fd ["self", "guess", "told"] (spThenU C CH CT) := by
  refine F.okN scTh (fun vs H Q E h => ?_) (fun cdv A outer s H vs Q E hr h => ?_)
  · obtain ⟨p, l, g, t, n, rows, rfl, _⟩ := h
    rfl
  · obtain ⟨p, l, g, t, n, rows, rfl, ⟨dx, b, r, hp, hb, ⟨vs, hv, hw⟩, ok⟩, rok, h⟩ := h
    have nd := scTh.nd
    obtain ⟨t20, m20⟩ := tm
    have hr3 : Room 3 _ := hr.mono (by decide)
    have hr2 : Room 2 _ := hr.mono (by decide)
    refine ⟨_, pss_cons (ps_expr (pe_call GW hr3 (by rfl) DW.mg DW.kp DW.b .nil (L2N.passes_call (L2N.takes_of rfl rfl rfl rfl) fun _ _ _ _ h => h) (pa_cons (pe_fld (pv 0) rfl) (pa_cons (pv 1) pa_nil))))
      (pss_cons (ps_expr (pe_call GM hr3 (by rfl) DM.mg DM.kp DM.b .nil (L2N.passes_call (L2N.takes_of rfl rfl rfl rfl) fun _ _ _ _ h => h) (pa_cons (pe_fld (pv 0) rfl) (pa_cons (pv 2) pa_nil))))
      (pss_cons (ps_if (pt_cmpR op_eq (pe_callB call_len_seq (by rfl) tl PySem.boot_len (pa_cons (pe_fld (pv 0) rfl) pa_nil)) (pe_glob (v := .int 20) (by rfl) m20 ⟨_, rfl⟩) (nomark _))
        (pss_one (L2N.ps_raise rfl (L2N.takes_of rfl rfl rfl rfl) (pmkN_oexB ET.ox ET.iC ET.tI GE hr2 bE L2.pass0 (by rfl) ET.gC (pa_cons (pe_glob (v := .int 20) (by rfl) m20 ⟨_, rfl⟩) pa_nil)))) pss_nil)
      (pss_one (ps_ret (pe_makeS2 M GI hr (by rfl) TH.mgC L2.pass0 (pa_cons (pe_fld (pv 0) rfl) (StX.pa_star (pe_fld (pv 0) rfl) (pa_cons (pe_tup (pa_cons (pv 1) (pa_cons (pv 2) pa_nil))) pa_nil)))))))), ?_⟩
    have hl := hw.len
    refine ⟨_, rfl, p, CH, dx, _, _, rfl, hp, TH.cl, TH.nB, hf_board b r, _, rfl, b, l, n, _, true, rfl, hb, .inl ⟨g, rfl, by have : (g.length : Int) = n := rok.1.1; have := hb.2.2.2; omega, (decide_eq_true rok.1).symm⟩, .inl ⟨rfl, fun H1 s1 => ?_⟩⟩
    have hp1 := s1 _ _ hp
    refine ⟨_, rfl, p, CH, dx, _, _, rfl, hp1, TH.cl, TH.nB, hf_board b r, _, rfl, b, l, n, _, true, rfl, hb.same s1, .inl ⟨t, rfl, by have : (t.length : Int) = n := rok.2.1; have := hb.2.2.2; omega, (decide_eq_true rok.2).symm⟩, .inl ⟨rfl, fun H2 s2 => ?_⟩⟩
    have hp2 := s2 _ _ hp1
    have s02 := sm_tr s1 s2
    have hv2 := s02 _ _ hv
    refine ⟨_, rfl, p, CH, dx, _, _, rfl, hp2, TH.cl, TH.nR, hf_rows b r, r, _, rfl, .inr (SqT.of hv2), rfl, _, rfl, ?_⟩
    rcases h with ⟨lt, q⟩ | ⟨h20, ex⟩
    · rw [decide_eq_false (show ¬ V.int ((vs.length : Nat) : Int) = V.int 20 from fun e => by have := V.int.inj e; omega)]
      refine iteF ?_
      refine ⟨_, rfl, p, CH, dx, _, _, rfl, hp2, TH.cl, TH.nB, hf_board b r, ?_⟩
      refine ⟨_, rfl, p, CH, dx, _, _, rfl, hp2, TH.cl, TH.nR, hf_rows b r, r, vs, rfl, .inl (SqT.of hv2), ?_⟩
      refine ⟨_, rfl, _, rfl, by show 2 ≤ sizeLine; decide, fun T zT => ?_⟩
      have s3 := sm_tr s02 (same_upd (o := .tup [.str (tx g), .str (tx t)]) zT)
      refine hist_made (hb.same s3) ((hw.same s3).app (.cons (r := (g, t)) upd_same .nil)) ⟨fun x hx => ?_, by rw [List.length_append]; show rows.length + 1 ≤ 20; omega⟩ fun H' x s4 nx hh => q H' x (sm_tr s3 s4) (s3.free nx) hh
      rcases List.mem_append.mp hx with hx | hx
      · exact ok.1 x hx
      · rw [List.mem_singleton.mp hx]
        exact rok
    · rw [decide_eq_true (show V.int ((vs.length : Nat) : Int) = V.int 20 from by rw [hl, h20]; rfl)]
      exact iteT (mkErr (ex.same s02))
theorem scCL : FnScope ["history"] ["history"] (defScope sChkL) := ⟨rfl, rfl, rfl, by decide +kernel, rfl, by decide +kernel, by decide +kernel⟩
theorem ok_chkL {n0 : Nat} {f C CH CN fH : Addr} {fd fdH : FuncData} (F : Fun K "check_word_left" "check_word_left" sChkL f fd) (TH : TxH K mg CH) (EN : ErrN K mg "NoWord" CN)
    (GH : FnOk P w K mg base L2.CX0 (n0 + 2) fH fdH ["board", "rows", "facts"] (spHas C)) (DH : Df K mg "has_word" fH fdH ["board", "rows", "facts"]) : FnOk P w K mg base (L2N.CX P w) (n0 + 3) f fd ["history"] (spChkL C CH CN) := by
  refine F.okN scCL (fun vs H Q E h => ?_) (fun cdv A outer s H vs Q E hr h => ?_)
  · obtain ⟨p, l, n, rows, rfl, _⟩ := h
    rfl
  · obtain ⟨p, l, n, rows, rfl, hh, lnd, h⟩ := h
    obtain ⟨dx, b, r, hp, hb, hrw, ok⟩ := hh
    refine ⟨_, pss_one (ps_if (pt_not (pt_val (pe_call GH hr (by rfl) DH.mg DH.kp DH.b .nil L2.pass0 (pa_cons (pe_fld (pv 0) rfl) (pa_cons (pe_fld (pv 0) rfl) (pa_cons (pe_tup pa_nil) pa_nil))))))
      (pss_one (L2N.ps_raise rfl (L2N.takes_of rfl rfl rfl rfl) (pmkN_own0 PySem.F.excBase_LookupError EN.ex EN.gC EN.kp (raises_own EN.eb EN.ty) (by rfl)))) pss_nil), ?_⟩
    refine ⟨_, rfl, p, CH, dx, _, _, rfl, hp, TH.cl, TH.nB, hf_board b r, _, rfl, p, CH, dx, _, _, rfl, hp, TH.cl, TH.nR, hf_rows b r, by show 0 ≤ sizeLine; decide, fun e1 z1 => ?_⟩
    have s2 := same_upd (o := .tup []) z1
    have r20 := ok.2
    refine ⟨b, r, e1, l, n, rows, rfl, ⟨hb.same s2, lnd⟩, hrw.same s2, ok.1, by omega, upd_same, fun H3 s3 => ⟨_, rfl, ?_⟩⟩
    have e := cnt_eq hb.2.2.1 lnd ok.1
    unfold cntW at e
    rw [e]
    rcases h with ⟨ne, q⟩ | ⟨em, ex⟩
    · have : 0 < (leftL l n rows).length := List.length_pos_iff.mpr ne
      rw [decide_eq_true (by omega)]
      exact iteF (q _ (sm_tr s2 s3))
    · rw [em, decide_eq_false (by show ¬ (0 : Int) < ((0 : Nat) : Int); decide)]
      exact iteT (ex _ (sm_tr s2 s3))
theorem scFr : FnScope ["self"] ["self"] (defScope sFree) := ⟨rfl, rfl, rfl, by decide +kernel, rfl, by decide +kernel, by decide +kernel⟩
theorem ok_free {f CG CB : Addr} {fd : FuncData} (F : Fun K "check_free" "Game.check_free" sFree f fd) (TG : TxG K mg CG) (EN : ErrN K mg "Busy" CB) : FnOk P w K mg base (L2N.CX P w) 2 f fd ["self"] (spFree CG CB) := by
  refine F.okN scFr (fun vs H Q E h => ?_) (fun cdv A outer s H vs Q E hr h => ?_)
  · obtain ⟨g, dx, b, h, st, bz, pa, rfl, _⟩ := h
    rfl
  · obtain ⟨g, dx, b, h, st, bz, pa, rfl, hg, q⟩ := h
    refine ⟨_, pss_one (ps_if (pt_val (pe_fld (pv 0) rfl)) (pss_one (L2N.ps_raise rfl (L2N.takes_of rfl rfl rfl rfl) (pmkN_own0 PySem.F.excBase_LookupError EN.ex EN.gC EN.kp (raises_own EN.eb EN.ty) (by rfl)))) pss_nil), ?_⟩
    refine ⟨_, rfl, g, CG, dx, _, _, rfl, hg, TG.cl, TG.nZ, gf_busy _ _ _ _ _, _, rfl, ?_⟩
    rcases q with ⟨rfl, q⟩ | ⟨rfl, ex⟩
    · exact iteF q
    · exact iteT (ex _ (Same.refl H))
end
end Gm

/-! games: rows added and dropped, what was taken back -/
namespace Gm
open PySem L2 LamX
/-- the classes of errors that a game may raise -/
structure EC where
  W : Addr
  M : Addr
  G : Addr
  T : Addr
  N : Addr
  P : Addr
  U : Addr
  B : Addr
/-- what comes of a deed: the rows and the moments before, or an error -/
inductive Out
  | ok (rows : List Row) (past : List (List Row))
  | bad (C : Addr) (f : Str) (v : V)
  | bare (C : Addr)
def AddIs (K : PySem.W.Frag) (X : EC) (H : Hp) (l : List Nat) (n : Int) (st : Bool) (rows : List Row) (past : List (List Row)) (a t : V) (o : Out) : Prop :=
  (AsW K H a l n false ∧ o = .bad X.W "value" a) ∨ ∃ w : List Nat, a = .str (tx w) ∧ Wd l n w ∧ ((AsW K H t [48, 49, 50] n false ∧ o = .bad X.M "value" t) ∨ ∃ m : List Nat, t = .str (tx m) ∧ Wd [48, 49, 50] n m ∧
    ((st = true ∧ fitsB rows w = false ∧ o = .bad X.G "value" a) ∨ ((st = false ∨ fitsB rows w = true) ∧ ((rows.length = 20 ∧ o = .bad X.T "limit" (.int 20)) ∨ (rows.length < 20 ∧
      ((leftL l n (rows ++ [(w, m)]) = [] ∧ o = .bare X.N) ∨ (leftL l n (rows ++ [(w, m)]) ≠ [] ∧ o = .ok (rows ++ [(w, m)]) (rows :: past))))))))
def DropIs (K : PySem.W.Frag) (X : EC) (H : Hp) (rows : List Row) (past : List (List Row)) (v : V) (o : Out) : Prop :=
  (∃ k : Nat, v = .int (k : Int) ∧ k < rows.length ∧ o = .ok (rows.eraseIdx k) (rows :: past)) ∨
  (((∃ i : Int, v = .int i ∧ ¬ (0 ≤ i ∧ i ≤ (rows.length : Int) - 1)) ∨ (∃ t, TyX K H v t ∧ NoInt K t)) ∧ o = .bad X.P "value" v)
def UndoIs (X : EC) : List (List Row) → Out
  | [] => .bare X.U
  | r :: past => .ok r past
def Does (C CH CM CG : Addr) (H : Hp) (g : Addr) (l : List Nat) (n : Int) (st bz : Bool) (Q : VK) (E : XK) : Out → Prop
  | .ok rows past => ∀ H', But g H H' → GameAt C CH CM CG H' g l n st bz rows past → Q .non H'
  | .bad CE f v => Comes E H CE f v
  | .bare CE => Bare E H CE
theorem Does.same {C CH CM CG : Addr} {H H1 : Hp} {g : Addr} {l : List Nat} {n : Int} {st bz : Bool} {Q : VK} {E : XK} {o : Out} (d : Does C CH CM CG H g l n st bz Q E o) (s : Same H H1) : Does C CH CM CG H1 g l n st bz Q E o := by
  cases o with
  | ok rows past => exact fun H' b k => d H' (fun c o nc e => b c o nc (s _ _ e)) k
  | bad CE f v => exact Comes.same d s
  | bare CE => exact Bare.same d s
theorem AddIs.same {K : PySem.W.Frag} {X : EC} {H H' : Hp} {l : List Nat} {n : Int} {st : Bool} {rows : List Row} {past : List (List Row)} {a t : V} {o : Out} (h : AddIs K X H l n st rows past a t o) (s : Same H H') : AddIs K X H' l n st rows past a t o := by
  rcases h with ⟨h, e⟩ | ⟨w, e, hw, h⟩
  · exact .inl ⟨h.same s, e⟩
  · refine .inr ⟨w, e, hw, ?_⟩
    rcases h with ⟨h, e⟩ | h
    · exact .inl ⟨h.same s, e⟩
    · exact .inr h
def spAddR (K : PySem.W.Frag) (X : EC) (C CH CM CG : Addr) : Sp := fun vs H Q E => ∃ (g : Addr) (l : List Nat) (n : Int) (st bz : Bool) (rows : List Row) (past : List (List Row)) (a t : V) (o : Out), vs = [.ref g, a, t] ∧ GameAt C CH CM CG H g l n st bz rows past ∧ l.Nodup ∧ AddIs K X H l n st rows past a t o ∧ Does C CH CM CG H g l n st bz Q E o
def spDropR (K : PySem.W.Frag) (X : EC) (C CH CM CG : Addr) : Sp := fun vs H Q E => ∃ (g : Addr) (l : List Nat) (n : Int) (st bz : Bool) (rows : List Row) (past : List (List Row)) (v : V) (o : Out), vs = [.ref g, v] ∧ GameAt C CH CM CG H g l n st bz rows past ∧ DropIs K X H rows past v o ∧ Does C CH CM CG H g l n st bz Q E o
def spAdd (K : PySem.W.Frag) (X : EC) (C CH CM CG : Addr) : Sp := fun vs H Q E => ∃ (g : Addr) (l : List Nat) (n : Int) (st : Bool) (rows : List Row) (past : List (List Row)) (a t : V) (o : Out), vs = [.ref g, a, t] ∧ GameAt C CH CM CG H g l n st false rows past ∧ l.Nodup ∧ AddIs K X H l n st rows past a t o ∧ Does C CH CM CG H g l n st false Q E o
def spDrop (K : PySem.W.Frag) (X : EC) (C CH CM CG : Addr) : Sp := fun vs H Q E => ∃ (g : Addr) (l : List Nat) (n : Int) (st : Bool) (rows : List Row) (past : List (List Row)) (v : V) (o : Out), vs = [.ref g, v] ∧ GameAt C CH CM CG H g l n st false rows past ∧ DropIs K X H rows past v o ∧ Does C CH CM CG H g l n st false Q E o
def spUndo (X : EC) (C CH CM CG : Addr) : Sp := fun vs H Q E => ∃ (g : Addr) (l : List Nat) (n : Int) (st : Bool) (rows : List Row) (past : List (List Row)), vs = [.ref g] ∧ GameAt C CH CM CG H g l n st false rows past ∧ Does C CH CM CG H g l n st false Q E (UndoIs X past)
section
variable {P : Program} {w : World} {K : PySem.W.Frag} {mg : Str → Option Value} {base : Heap}
theorem scMIn : FnScope ["self", "history", "past"] ["self", "history", "past"] (defScope sMoInit) := ⟨rfl, rfl, rfl, by decide +kernel, rfl, by decide +kernel, by decide +kernel⟩
theorem ok_moInit {f CM : Addr} {fd : FuncData} (F : Fun K "__init__" "Moment.__init__" sMoInit f fd) (TM : TxM K mg CM) : FnOk P w K mg base L2.CX0 1 f fd ["self", "history", "past"] (spMoInit CM) := by
  refine F.ok scMIn (fun vs H Q E h => ?_) (fun cdv A outer s H vs Q E hr h => ?_)
  · obtain ⟨m, dx, h, v, rfl, _⟩ := h
    rfl
  · obtain ⟨m, dx, h, v, rfl, hm, q⟩ := h
    refine ⟨_, pss_cons (ps_fld (pv 0) (pv 1) rfl) (pss_one (ps_fld (pv 0) (pv 2) rfl)), ?_⟩
    refine ⟨_, rfl, _, rfl, m, CM, dx, _, rfl, hm, TM.cl, TM.nH, by decide, ?_⟩
    refine ⟨_, rfl, _, rfl, m, CM, dx, _, rfl, upd_same, TM.cl, TM.nP, by show 1 < 1000; decide, ?_⟩
    refine q _ dx (fun b o nb e => ?_) ?_
    · rw [upd_ne nb, upd_ne nb]; exact e
    · rw [upd_same, mp_all]
theorem scMv : FnScope ["self", "history"] ["self", "history"] (defScope sMove) := ⟨rfl, rfl, rfl, by decide +kernel, rfl, by decide +kernel, by decide +kernel⟩
theorem ok_move {f CM CG fM : Addr} {fd fdM : FuncData} (F : Fun K "move_to" "Game.move_to" sMove f fd) (TG : TxG K mg CG) (TM : TxM K mg CM) (M : Mk K CM fM) (GM : FnOk P w K mg base L2.CX0 1 fM fdM ["self", "history", "past"] (spMoInit CM)) (bM : Binds K fdM ["self", "history", "past"] []) :
    FnOk P w K mg base L2.CX0 3 f fd ["self", "history"] (spMove CM CG) := by
  refine F.ok scMv (fun vs H Q E h => ?_) (fun cdv A outer s H vs Q E hr h => ?_)
  · obtain ⟨g, dx, b, h, h2, st, bz, pa, rfl, _⟩ := h
    rfl
  · obtain ⟨g, dx, b, h, h2, st, bz, pa, rfl, hg, q⟩ := h
    refine ⟨_, pss_cons (ps_fld (pv 0) (pe_make M GM hr (by rfl) TM.mgC bM .nil L2.pass0 (pa_cons (pe_fld (pv 0) rfl) (pa_cons (pe_fld (pv 0) rfl) pa_nil))) rfl) (pss_one (ps_fld (pv 0) (pv 1) rfl)), ?_⟩
    refine ⟨_, rfl, g, CG, dx, _, _, rfl, hg, TG.cl, TG.nH, gf_history _ _ _ _ _, _, rfl, g, CG, dx, _, _, rfl, hg, TG.cl, TG.nP, gf_past _ _ _ _ _, fun m dm zm zd nd => ?_⟩
    refine ⟨m, dm, h, pa, rfl, upd_same, fun H1 dx1 b1 e1 => ⟨rfl, ?_⟩⟩
    have s1 : Same H H1 := fun b o e => b1 b o (ne_of_none e zm) (by rw [upd_ne (ne_of_none e zm), upd_ne (ne_of_none e zd)]; exact e)
    have g1 := s1 _ _ hg
    have nmg : m ≠ g := fun z => by rw [z] at zm; rw [hg] at zm; cases zm
    refine ⟨_, rfl, g, CG, dx, _, rfl, g1, TG.cl, TG.nP, by show 5 < 1000; decide, ?_⟩
    rw [gp_past]
    refine ⟨_, rfl, _, rfl, g, CG, dx, _, rfl, upd_same, TG.cl, TG.nH, by show 5 < 1000; decide, ?_⟩
    rw [gp_history]
    refine q _ m dx1 (fun b o nb e => ?_) zm ?_ upd_same
    · rw [upd_ne nb, upd_ne nb]; exact s1 _ _ e
    · rw [upd_ne nmg, upd_ne nmg]; exact e1
/-- the heap behind a move -/
theorem moved {C CH CM CG g m dx dxm b h h2 : Addr} {H H1 H' : Hp} {l : List Nat} {n : Int} {st bz : Bool} {pa : V} {rows rows2 : List Row} {past : List (List Row)} (hg : H g = some (.ins CG dx (gameF b st h bz pa))) (hb : Bd C H b l n) (hh : HistAt C CH H h l n rows) (hp : PastAt C CH CM H l n pa past)
    (s1 : Same H H1) (h2' : HistAt C CH H1 h2 l n rows2) (bt : But g H1 H') (em : H' m = some (.ins CM dxm (momF h pa))) (eg : H' g = some (.ins CG dx (gameF b st h2 bz (.ref m)))) : But g H H' ∧ GameAt C CH CM CG H' g l n st bz rows2 (rows :: past) := by
  have k1 : Kt H1 H' := Kt.but bt (s1 _ _ hg) (by show 3 < 5; decide)
  have k : Kt H H' := (Kt.of s1).trans k1
  exact ⟨fun c o nc e => bt c o nc (s1 _ _ e), dx, b, h2, _, eg, hb.kt k, h2'.kt k1, .cons em (hh.kt k) (hp.kt k)⟩
theorem scAR : FnScope ["self", "guess", "told", "following"] ["self", "guess", "told"] (defScope sAddR) := ⟨rfl, rfl, rfl, by decide +kernel, rfl, by decide +kernel, by decide +kernel⟩
theorem ok_addR {k : Nat} {X : EC} {f C CH CM CG fW fM fF fT fL fV eG : Addr} {fd fdW fdM fdF fdT fdL fdV fdG : FuncData} (F : Fun K "add_row" "Game.add_row" sAddR f fd) (TG : TxG K mg CG) (TH : TxH K mg CH)
    (GW : FnOk P w K mg base (L2N.CX P w) 3 fW fdW ["board", "word"] (spChkWX K C X.W none)) (DW : Df K mg "check_word" fW fdW ["board", "word"]) (GM : FnOk P w K mg base (L2N.CX P w) 3 fM fdM ["board", "told"] (spChkWX K C X.M (some [48, 49, 50]))) (DM : Df K mg "check_marks" fM fdM ["board", "told"])
    (GF : FnOk P w K mg base L2.CX0 4 fF fdF ["self", "word"] (spFits C CH)) (mF : Meth K CH "fits" fF) (bF_ : Binds K fdF ["self", "word"] [])
    (GT : FnOk P w K mg base (L2N.CX P w) 7 fT fdT ["self", "guess", "told"] (spThenU C CH X.T)) (mT : Meth K CH "then" fT) (bT : Binds K fdT ["self", "guess", "told"] [])
    (GL : FnOk P w K mg base (L2N.CX P w) (k + 8) fL fdL ["history"] (spChkL C CH X.N)) (DL : Df K mg "check_word_left" fL fdL ["history"])
    (GV : FnOk P w K mg base L2.CX0 3 fV fdV ["self", "history"] (spMove CM CG)) (mV : Meth K CG "move_to" fV) (bV : Binds K fdV ["self", "history"] [])
    (EG : ErrB K mg "GuessNotLeft" "value" X.G eG) (GE : FnOk P w K mg base L2.CX0 1 eG fdG ["self", "value"] (spErr X.G "value")) (bE : Binds K fdG ["self", "value"] []) :
    FnOk P w K mg base (L2N.CX P w) (k + 9) f fd ["self", "guess", "told"] (spAddR K X C CH CM CG) := by
  refine F.okN scAR (fun vs H Q E h => ?_) (fun cdv A outer s H vs Q E hr h => ?_)
  · obtain ⟨g, l, n, st, bz, rows, past, a, t, o, rfl, _⟩ := h
    rfl
  · obtain ⟨g, l, n, st, bz, rows, past, a, t, o, rfl, ⟨dx, b, h, pa, hg, hb, hh, hp⟩, lnd, is, does⟩ := h
    have nd := scAR.nd
    have hr7 : Room 7 _ := hr.mono (by omega)
    have hr4 : Room 4 _ := hr.mono (by omega)
    have hr3 : Room 3 _ := hr.mono (by omega)
    have hr2 : Room 2 _ := hr.mono (by omega)
    refine ⟨_, pss_cons (ps_expr (pe_call GW hr3 (by rfl) DW.mg DW.kp DW.b .nil (L2N.passes_call (L2N.takes_of rfl rfl rfl rfl) fun _ _ _ _ h => h) (pa_cons (pe_fld (pv 0) rfl) (pa_cons (pv 1) pa_nil))))
      (pss_cons (ps_expr (pe_call GM hr3 (by rfl) DM.mg DM.kp DM.b .nil (L2N.passes_call (L2N.takes_of rfl rfl rfl rfl) fun _ _ _ _ h => h) (pa_cons (pe_fld (pv 0) rfl) (pa_cons (pv 2) pa_nil))))
      (C8.pss_cut (ps_if (PW.pt (pw_and (pt_val (pe_fld (pv 0) rfl)) (pw_and1 (pt_not (pt_val (pe_meth (pe_fld (pv 0) rfl) TH.cl mF GF hr4 bF_ .nil L2.pass0 (pa_cons (pv 1) pa_nil)))))))
        (pss_one (L2N.ps_raise rfl (L2N.takes_of rfl rfl rfl rfl) (pmkN_oexB EG.ox EG.iC EG.tI GE hr2 bE L2.pass0 (by rfl) EG.gC (pa_cons (pv 1) pa_nil)))) pss_nil)
      (pss_cons (ps_set (i := 3) nd rfl (Or.inl rfl) (pe_meth (pe_fld (pv 0) rfl) TH.cl mT GT hr7 bT .nil (L2N.passes_call (L2N.takes_of rfl rfl rfl rfl) fun _ _ _ _ h => h) (pa_cons (pv 1) (pa_cons (pv 2) pa_nil))))
      (pss_cons (ps_expr (pe_call GL hr (by rfl) DL.mg DL.kp DL.b .nil (L2N.passes_call (L2N.takes_of rfl rfl rfl rfl) fun _ _ _ _ h => h) (pa_cons (pv 3) pa_nil)))
      (pss_one (ps_expr (pe_meth (pv 0) TG.cl mV GV hr3 bV .nil L2.pass0 (pa_cons (pv 3) pa_nil)))))))), ?_⟩
    refine ⟨_, rfl, g, CG, dx, _, _, rfl, hg, TG.cl, TG.nB, gf_board _ _ _ _ _, _, rfl, ?_⟩
    rcases is with ⟨ha, rfl⟩ | ⟨wd, rfl, hw, is⟩
    · exact ⟨b, l, n, a, false, rfl, hb, ha, .inr ⟨rfl, does⟩⟩
    refine ⟨b, l, n, _, true, rfl, hb, .inl ⟨wd, rfl, by have := hw.1; have := hb.2.2.2; omega, (decide_eq_true hw).symm⟩, .inl ⟨rfl, fun H1 s1 => ?_⟩⟩
    refine ⟨_, rfl, g, CG, dx, _, _, rfl, s1 _ _ hg, TG.cl, TG.nB, gf_board _ _ _ _ _, _, rfl, ?_⟩
    rcases is with ⟨ht, rfl⟩ | ⟨m, rfl, hm, is⟩
    · exact ⟨b, l, n, t, false, rfl, hb.same s1, ht.same s1, .inr ⟨rfl, Comes.same does s1⟩⟩
    refine ⟨b, l, n, _, true, rfl, hb.same s1, .inl ⟨m, rfl, by have := hm.1; have := hb.2.2.2; omega, (decide_eq_true hm).symm⟩, .inl ⟨rfl, fun H2 s2 => ?_⟩⟩
    have s02 := sm_tr s1 s2
    have g2 := s02 _ _ hg
    obtain ⟨dxh, bh, rh, eh, _⟩ := _root_.id hh
    have goH : ∀ H3, Same H2 H3 → H3 h = some (.ins CH dxh (histF bh rh)) := fun H3 s3 => s3 _ _ (s02 _ _ eh)
    rcases is with ⟨rfl, hf, rfl⟩ | ⟨free, is⟩
    · refine ⟨fun _ _ => False, ?_, fun _ _ z => z.elim⟩
      refine ⟨_, rfl, g, CG, dx, _, _, rfl, g2, TG.cl, TG.nS, gf_strict _ _ _ _ _, _, rfl, iteT ?_⟩
      refine ⟨_, rfl, g, CG, dx, _, _, rfl, g2, TG.cl, TG.nH, gf_history _ _ _ _ _, h, dxh, _, rfl, goH _ (Same.refl _), hf_none _ _ (by decide +kernel) (by decide +kernel), _, rfl, h, l, wd, n, rows, rfl, hh.same s02, hw, fun H3 s3 => ⟨_, rfl, ?_⟩⟩
      rw [hf]
      exact iteT ⟨_, rfl, mkErr (Comes.same does (sm_tr s02 s3))⟩
    refine ⟨fun σ' H' => σ' = [some (.ref g), some (.str (tx wd)), some (.str (tx m)), none] ∧ Same H2 H', ?_, ?_⟩
    · refine ⟨_, rfl, g, CG, dx, _, _, rfl, g2, TG.cl, TG.nS, gf_strict _ _ _ _ _, _, rfl, ?_⟩
      cases st with
      | false => exact iteF ⟨rfl, Same.refl _⟩
      | true =>
        refine iteT ?_
        refine ⟨_, rfl, g, CG, dx, _, _, rfl, g2, TG.cl, TG.nH, gf_history _ _ _ _ _, h, dxh, _, rfl, goH _ (Same.refl _), hf_none _ _ (by decide +kernel) (by decide +kernel), _, rfl, h, l, wd, n, rows, rfl, hh.same s02, hw, fun H3 s3 => ⟨_, rfl, ?_⟩⟩
        rw [free.resolve_left (fun z => nomatch z)]
        exact iteF ⟨rfl, s3⟩
    rintro _ H3 ⟨rfl, s3⟩
    have s03 := sm_tr s02 s3
    refine ⟨_, rfl, g, CG, dx, _, _, rfl, s03 _ _ hg, TG.cl, TG.nH, gf_history _ _ _ _ _, h, dxh, _, rfl, goH _ s3, hf_none _ _ (by decide +kernel) (by decide +kernel), _, rfl, _, rfl, h, l, wd, m, n, rows, rfl, hh.same s03, ⟨hw, hm⟩, ?_⟩
    rcases is with ⟨h20, rfl⟩ | ⟨lt, is⟩
    · exact .inr ⟨h20, Comes.same does s03⟩
    refine .inl ⟨lt, fun H4 q s4 zq hq => ?_⟩
    have s04 := sm_tr s03 s4
    refine ⟨_, rfl, q, l, n, rows ++ [(wd, m)], rfl, hq, lnd, ?_⟩
    rcases is with ⟨em, rfl⟩ | ⟨ne, rfl⟩
    · exact .inr ⟨em, Bare.same does s04⟩
    refine .inl ⟨ne, fun H5 s5 => ?_⟩
    have s05 := sm_tr s04 s5
    refine ⟨_, rfl, g, dx, _, rfl, s05 _ _ hg, gf_none _ _ _ _ _ (by decide +kernel), _, rfl, g, dx, b, h, q, st, bz, pa, rfl, s05 _ _ hg, fun H6 m6 dx6 b6 z6 em eg => ?_⟩
    obtain ⟨bt, ga⟩ := moved hg hb hh hp s05 (hq.same s5) b6 em eg
    exact does H6 bt ga
end
end Gm

/-! games: made, rows dropped, changes taken back, shown -/
namespace Gm
open PySem L2 LamX

abbrev sDrop : Stmt := inClass (top 53) 2
abbrev sUndo : Stmt := inClass (top 53) 4

def spGInit (C CH CM CG : Addr) : Sp := fun vs H Q _ => ∃ (g dx b : Addr) (l : List Nat) (n : Int) (st : Bool), vs = [.ref g, .ref b, .bl st] ∧ H g = some (.ins CG dx []) ∧ Bd C H b l n ∧ ∀ H', But g H H' → GameAt C CH CM CG H' g l n st false [] [] → Q .non H'
def g1F (b : Addr) : List (Str × V) := [("board", .ref b)]
def g2F (b : Addr) (st : Bool) : List (Str × V) := [("board", .ref b), ("strict", .bl st)]
def g3F (b h : Addr) (st : Bool) : List (Str × V) := [("board", .ref b), ("strict", .bl st), ("history", .ref h)]
def g4F (b h : Addr) (st : Bool) : List (Str × V) := [("board", .ref b), ("strict", .bl st), ("history", .ref h), ("busy", .bl false)]
theorem gi1 (b : Addr) : putF "board" (.ref b) [] = g1F b := rfl
theorem gi2 (b : Addr) (st : Bool) : putF "strict" (.bl st) (g1F b) = g2F b st := by unfold g1F g2F; rw [pf_ne (by decide +kernel)]; rfl
theorem gi3 (b h : Addr) (st : Bool) : putF "history" (.ref h) (g2F b st) = g3F b h st := by unfold g2F g3F; rw [pf_ne (by decide +kernel), pf_ne (by decide +kernel)]; rfl
theorem gi4 (b h : Addr) (st : Bool) : putF "busy" (.bl false) (g3F b h st) = g4F b h st := by unfold g3F g4F; rw [pf_ne (by decide +kernel), pf_ne (by decide +kernel), pf_ne (by decide +kernel)]; rfl
theorem gi5 (b h : Addr) (st : Bool) : putF "past" .non (g4F b h st) = gameF b st h false .non := by unfold g4F gameF; rw [pf_ne (by decide +kernel), pf_ne (by decide +kernel), pf_ne (by decide +kernel), pf_ne (by decide +kernel)]; rfl
section
variable {P : Program} {w : World} {K : PySem.W.Frag} {mg : Str → Option Value} {base : Heap}
theorem ok_woU {f C CH CP fW fI eP : Addr} {fd fdW fdP : FuncData} (F : Fun K "without" "History.without" sWo f fd) (TH : TxH K mg CH) (tl : mg "len" = none) (GW : FnOk P w K mg base L2.CX0 1 fW fdW ["value", "least", "most"] (spWithin K)) (DW : Df K mg "is_integer_within" fW fdW ["value", "least", "most"])
    (GI : FnR P w K mg base L2.CX0 5 fI (spHInitR C CH)) (M : Mk K CH fI)
    (EP_ : ErrB K mg "InvalidPlace" "value" CP eP) (GE : FnOk P w K mg base L2.CX0 1 eP fdP ["self", "value"] (spErr CP "value")) (bE : Binds K fdP ["self", "value"] []) : FnOk P w K mg base (L2N.CX P w) 7 f fd ["self", "place"] (spWoU K C CH CP) := by
  refine F.okN scWo (fun vs H Q E h => ?_) (fun cdv A outer s H vs Q E hr h => ?_)
  · obtain ⟨p, l, n, rows, v, rfl, _⟩ := h
    rfl
  · obtain ⟨p, l, n, rows, v, rfl, ⟨dx, b, r, hp, hb, ⟨vs, hv, hw⟩, ok⟩, h⟩ := h
    have hline : sizeLine = 16777216 := sizeLine_eq
    have nd := scWo.nd
    have hr2 : Room 2 _ := hr.mono (by decide)
    have hr1 : Room 1 _ := hr.mono (by decide)
    have hl := hw.len
    have h20 := ok.2
    refine ⟨_, pss_cons (ps_if (pt_not (pt_val (pe_call GW hr1 (by rfl) DW.mg DW.kp DW.b .nil L2.pass0 (pa_cons (pv 1) (pa_cons pe_int (pa_cons (pe_op op_sub (pe_callB call_len_seq (by rfl) tl PySem.boot_len (pa_cons (pe_fld (pv 0) rfl) pa_nil)) pe_int) pa_nil))))))
        (pss_one (L2N.ps_raise rfl (L2N.takes_of rfl rfl rfl rfl) (pmkN_oexB EP_.ox EP_.iC EP_.tI GE hr2 bE L2.pass0 (by rfl) EP_.gC (pa_cons (pv 1) pa_nil)))) pss_nil)
      (pss_cons (ps_set (i := 2) nd rfl (Or.inl rfl) (pe_op op_catA (pe_slice sl_tup (pe_fld (pv 0) rfl) po_none (po_some (pv 1))) (pe_slice sl_tup (pe_fld (pv 0) rfl) (po_some (pe_op op_add (pv 1) pe_int)) po_none)))
      (pss_one (ps_ret (pe_makeS2 M GI hr (by rfl) TH.mgC L2.pass0 (pa_cons (pe_fld (pv 0) rfl) (StX.pa_star (pv 2) pa_nil)))))), ?_⟩
    refine ⟨_, rfl, _, rfl, p, CH, dx, _, _, rfl, hp, TH.cl, TH.nR, hf_rows b r, r, _, rfl, .inr (SqT.of hv), _, _, rfl, rfl, ?_⟩
    refine ⟨_, _, _, rfl, ?_⟩
    rcases h with ⟨k, rfl, hk, q⟩ | ⟨⟨i, rfl, no⟩ | ⟨t, ty, no⟩, ex⟩
    · refine .inl ⟨_, rfl, _, rfl, ?_⟩
      rw [decide_eq_true (show (0 : Int) ≤ (k : Int) ∧ (k : Int) ≤ ((vs.length : Nat) : Int) - 1 from ⟨by omega, by omega⟩)]
      refine iteF ?_
      refine ⟨_, rfl, p, CH, dx, _, _, rfl, hp, TH.cl, TH.nR, hf_rows b r, _, rfl, _, rfl, r, vs, rfl, SqT.of hv, fun e => ?_, fun A zA => ?_⟩
      · have := e.2
        rw [HT.sIx_nat] at this
        omega
      have sA := same_upd (o := HO.tup (cutV vs none (some (k : Int)))) zA
      refine ⟨_, rfl, p, CH, dx, _, _, rfl, sA _ _ hp, TH.cl, TH.nR, hf_rows b r, _, rfl, _, _, rfl, rfl, _, rfl, r, vs, rfl, SqT.of (sA _ _ hv), fun e => ?_, fun B zB => ?_⟩
      · have e1 := e.1
        have e2 : HT.sIx vs.length 0 (some ((k : Int) + 1)) = min (k + 1) vs.length := HT.sIx_nat vs.length 0 (k + 1)
        rw [e2] at e1
        omega
      have eA : cutV vs none (some (k : Int)) = vs.take k := cutV_pre vs k (by omega)
      have eB : cutV vs (some ((k : Int) + 1)) none = vs.drop (k + 1) := cutV_suf vs (k + 1) (by omega)
      have sB := sm_tr sA (same_upd (o := HO.tup (cutV vs (some ((k : Int) + 1)) none)) zB)
      have hA : upd (upd H A (.tup (cutV vs none (some (k : Int))))) B (.tup (cutV vs (some ((k : Int) + 1)) none)) A = some (.tup (vs.take k)) := by
        rw [← eA]
        exact same_upd zB _ _ upd_same
      have hB : upd (upd H A (.tup (cutV vs none (some (k : Int))))) B (.tup (cutV vs (some ((k : Int) + 1)) none)) B = some (.tup (vs.drop (k + 1))) := by
        rw [← eB]
        exact upd_same
      have eq : rows.take k ++ rows.drop (k + 1) = rows.eraseIdx k := (List.eraseIdx_eq_take_drop_succ rows k).symm
      have okr : RowsOk l n (rows.take k ++ rows.drop (k + 1)) := ⟨fun x hx => by
        rcases List.mem_append.mp hx with hx | hx
        · exact ok.1 x (List.mem_of_mem_take hx)
        · exact ok.1 x (List.mem_of_mem_drop hx), by
        rw [List.length_append, List.length_take, List.length_drop]
        omega⟩
      have hww : Rws H (vs.take k ++ vs.drop (k + 1)) (rows.take k ++ rows.drop (k + 1)) := (hw.take k).app (hw.drop (k + 1))
      rw [eq] at okr hww
      generalize upd (upd H A (.tup (cutV vs none (some (k : Int))))) B (.tup (cutV vs (some ((k : Int) + 1)) none)) = G at sB hA hB ⊢
      refine ⟨A, B, _, _, rfl, rfl, SqT.of hA, SqT.of hB, by rw [List.length_take, List.length_drop]; omega, fun e => ?_, fun _ e => ?_, fun _ _ O zO => ?_⟩
      · refine ⟨_, rfl, p, CH, dx, _, _, rfl, sB _ _ hp, TH.cl, TH.nB, hf_board b r, _, rfl, B, _, rfl, .inl (SqT.of hB), ?_⟩
        rw [e, List.nil_append] at hww
        exact hist_made (hb.same sB) (by rw [List.append_nil]; exact hww.same sB) okr fun H' x s4 nx hh => q H' x (sm_tr sB s4) (sB.free nx) hh
      · refine ⟨_, rfl, p, CH, dx, _, _, rfl, sB _ _ hp, TH.cl, TH.nB, hf_board b r, _, rfl, A, _, rfl, .inl (SqT.of hA), ?_⟩
        rw [e, List.append_nil] at hww
        exact hist_made (hb.same sB) (by rw [List.append_nil]; exact hww.same sB) okr fun H' x s4 nx hh => q H' x (sm_tr sB s4) (sB.free nx) hh
      · have sO := sm_tr sB (same_upd (o := HO.tup (vs.take k ++ vs.drop (k + 1))) zO)
        refine ⟨_, rfl, p, CH, dx, _, _, rfl, sO _ _ hp, TH.cl, TH.nB, hf_board b r, _, rfl, O, _, rfl, .inl (SqT.of upd_same), ?_⟩
        exact hist_made (hb.same sO) (by rw [List.append_nil]; exact hww.same sO) okr fun H' x s4 nx hh => q H' x (sm_tr sO s4) (sO.free nx) hh
    · refine .inl ⟨i, rfl, _, rfl, ?_⟩
      rw [decide_eq_false (show ¬ ((0 : Int) ≤ i ∧ i ≤ ((vs.length : Nat) : Int) - 1) from by rw [hl]; exact no)]
      exact iteT ⟨_, rfl, mkErr ex⟩
    · exact .inr ⟨t, ty, no, _, rfl, iteT ⟨_, rfl, mkErr ex⟩⟩
theorem scDR' : FnScope ["self", "place"] ["self", "place"] (defScope sDropR) := ⟨rfl, rfl, rfl, by decide +kernel, rfl, by decide +kernel, by decide +kernel⟩
theorem ok_dropR {X : EC} {f C CH CM CG fO fV : Addr} {fd fdO fdV : FuncData} (F : Fun K "drop_row" "Game.drop_row" sDropR f fd) (TG : TxG K mg CG) (TH : TxH K mg CH)
    (GO : FnOk P w K mg base (L2N.CX P w) 7 fO fdO ["self", "place"] (spWoU K C CH X.P)) (mO : Meth K CH "without" fO) (bO : Binds K fdO ["self", "place"] [])
    (GV : FnOk P w K mg base L2.CX0 3 fV fdV ["self", "history"] (spMove CM CG)) (mV : Meth K CG "move_to" fV) (bV : Binds K fdV ["self", "history"] []) :
    FnOk P w K mg base (L2N.CX P w) 8 f fd ["self", "place"] (spDropR K X C CH CM CG) := by
  refine F.okN scDR' (fun vs H Q E h => ?_) (fun cdv A outer s H vs Q E hr h => ?_)
  · obtain ⟨g, l, n, st, bz, rows, past, v, o, rfl, _⟩ := h
    rfl
  · obtain ⟨g, l, n, st, bz, rows, past, v, o, rfl, ⟨dx, b, h, pa, hg, hb, hh, hp⟩, is, does⟩ := h
    have hr3 : Room 3 _ := hr.mono (by decide)
    refine ⟨_, pss_one (ps_expr (pe_meth (pv 0) TG.cl mV GV hr3 bV .nil L2.pass0 (pa_cons (pe_meth (pe_fld (pv 0) rfl) TH.cl mO GO hr bO .nil (L2N.passes_call (L2N.takes_of rfl rfl rfl rfl) fun _ _ _ _ h => h) (pa_cons (pv 1) pa_nil)) pa_nil))), ?_⟩
    obtain ⟨dxh, bh, rh, eh, _⟩ := _root_.id hh
    refine ⟨_, rfl, g, dx, _, rfl, hg, gf_none _ _ _ _ _ (by decide +kernel), _, rfl, g, CG, dx, _, _, rfl, hg, TG.cl, TG.nH, gf_history _ _ _ _ _, h, dxh, _, rfl, eh, hf_none _ _ (by decide +kernel) (by decide +kernel), _, rfl, h, l, n, rows, v, rfl, hh, ?_⟩
    rcases is with ⟨k, rfl, hk, rfl⟩ | ⟨no, rfl⟩
    · refine .inl ⟨k, rfl, hk, fun H1 q s1 zq hq => ?_⟩
      refine ⟨g, dx, b, h, q, st, bz, pa, rfl, s1 _ _ hg, fun H2 m2 dx2 b2 z2 em eg => ?_⟩
      obtain ⟨bt, ga⟩ := moved hg hb hh hp s1 hq b2 em eg
      exact does H2 bt ga
    · exact .inr ⟨no, does⟩
theorem scAd : FnScope ["self", "guess", "told"] ["self", "guess", "told"] (defScope sAdd) := ⟨rfl, rfl, rfl, by decide +kernel, rfl, by decide +kernel, by decide +kernel⟩
theorem ok_add {k : Nat} {X : EC} {f C CH CM CG fF fA : Addr} {fd fdF fdA : FuncData} (F : Fun K "add" "Game.add" sAdd f fd) (TG : TxG K mg CG)
    (GF : FnOk P w K mg base (L2N.CX P w) 2 fF fdF ["self"] (spFree CG X.B)) (mF : Meth K CG "check_free" fF) (bF_ : Binds K fdF ["self"] [])
    (GA : FnOk P w K mg base (L2N.CX P w) (k + 9) fA fdA ["self", "guess", "told"] (spAddR K X C CH CM CG)) (mA : Meth K CG "add_row" fA) (bA : Binds K fdA ["self", "guess", "told"] []) :
    FnOk P w K mg base (L2N.CX P w) (k + 10) f fd ["self", "guess", "told"] (spAdd K X C CH CM CG) := by
  refine F.okN scAd (fun vs H Q E h => ?_) (fun cdv A outer s H vs Q E hr h => ?_)
  · obtain ⟨g, l, n, st, rows, past, a, t, o, rfl, _⟩ := h
    rfl
  · obtain ⟨g, l, n, st, rows, past, a, t, o, rfl, hg, lnd, is, does⟩ := h
    have hr2 : Room 2 _ := hr.mono (by omega)
    refine ⟨_, pss_cons (ps_expr (pe_meth0 (pv 0) TG.cl mF GF hr2 bF_ .nil (L2N.passes_call (L2N.takes_of rfl rfl rfl rfl) fun _ _ _ _ h => h)))
      (pss_one (ps_expr (pe_meth (pv 0) TG.cl mA GA hr bA .nil (L2N.passes_call (L2N.takes_of rfl rfl rfl rfl) fun _ _ _ _ h => h) (pa_cons (pv 1) (pa_cons (pv 2) pa_nil))))), ?_⟩
    obtain ⟨dx, b, h, pa, eg, _⟩ := _root_.id hg
    refine ⟨_, rfl, g, dx, _, rfl, eg, gf_none _ _ _ _ _ (by decide +kernel), g, dx, b, h, st, false, pa, rfl, eg, .inl ⟨rfl, ?_⟩⟩
    exact ⟨_, rfl, g, dx, _, rfl, eg, gf_none _ _ _ _ _ (by decide +kernel), _, rfl, _, rfl, g, l, n, st, false, rows, past, a, t, o, rfl, hg, lnd, is, does⟩
theorem scDp : FnScope ["self", "place"] ["self", "place"] (defScope sDrop) := ⟨rfl, rfl, rfl, by decide +kernel, rfl, by decide +kernel, by decide +kernel⟩
theorem ok_drop {X : EC} {f C CH CM CG fF fA : Addr} {fd fdF fdA : FuncData} (F : Fun K "drop" "Game.drop" sDrop f fd) (TG : TxG K mg CG)
    (GF : FnOk P w K mg base (L2N.CX P w) 2 fF fdF ["self"] (spFree CG X.B)) (mF : Meth K CG "check_free" fF) (bF_ : Binds K fdF ["self"] [])
    (GA : FnOk P w K mg base (L2N.CX P w) 8 fA fdA ["self", "place"] (spDropR K X C CH CM CG)) (mA : Meth K CG "drop_row" fA) (bA : Binds K fdA ["self", "place"] []) :
    FnOk P w K mg base (L2N.CX P w) 9 f fd ["self", "place"] (spDrop K X C CH CM CG) := by
  refine F.okN scDp (fun vs H Q E h => ?_) (fun cdv A outer s H vs Q E hr h => ?_)
  · obtain ⟨g, l, n, st, rows, past, v, o, rfl, _⟩ := h
    rfl
  · obtain ⟨g, l, n, st, rows, past, v, o, rfl, hg, is, does⟩ := h
    have hr2 : Room 2 _ := hr.mono (by omega)
    refine ⟨_, pss_cons (ps_expr (pe_meth0 (pv 0) TG.cl mF GF hr2 bF_ .nil (L2N.passes_call (L2N.takes_of rfl rfl rfl rfl) fun _ _ _ _ h => h)))
      (pss_one (ps_expr (pe_meth (pv 0) TG.cl mA GA hr bA .nil (L2N.passes_call (L2N.takes_of rfl rfl rfl rfl) fun _ _ _ _ h => h) (pa_cons (pv 1) pa_nil)))), ?_⟩
    obtain ⟨dx, b, h, pa, eg, _⟩ := _root_.id hg
    refine ⟨_, rfl, g, dx, _, rfl, eg, gf_none _ _ _ _ _ (by decide +kernel), g, dx, b, h, st, false, pa, rfl, eg, .inl ⟨rfl, ?_⟩⟩
    exact ⟨_, rfl, g, dx, _, rfl, eg, gf_none _ _ _ _ _ (by decide +kernel), _, rfl, g, l, n, st, false, rows, past, v, o, rfl, hg, is, does⟩
theorem scGI : FnScope ["self", "board", "strict"] ["self", "board", "strict"] (defScope sGInit) := ⟨rfl, rfl, rfl, by decide +kernel, rfl, by decide +kernel, by decide +kernel⟩
theorem ok_ginit {f C CH CM CG fB fI : Addr} {fd fdB : FuncData} (F : FunD K "__init__" "Game.__init__" (defArgs sGInit) (defBody sGInit) (defScope sGInit) [] [("strict", .bl false)] f fd) (TG : TxG K mg CG) (TH : TxH K mg CH)
    (GB : FnOk P w K mg base L2.CX0 1 fB fdB ["board"] (spChkB C)) (DB : Df K mg "check_board" fB fdB ["board"]) (GI : FnR P w K mg base L2.CX0 5 fI (spHInitR C CH)) (M : Mk K CH fI) :
    FnOk P w K mg base L2.CX0 7 f fd ["self", "board", "strict"] (spGInit C CH CM CG) := by
  refine F.ok scGI (fun vs H Q E h => ?_) (fun cdv A outer s H vs Q E hr h => ?_)
  · obtain ⟨g, dx, b, l, n, st, rfl, _⟩ := h
    rfl
  · obtain ⟨g, dx, b, l, n, st, rfl, hg, hb, q⟩ := h
    have hr1 : Room 1 _ := hr.mono (by decide)
    refine ⟨_, pss_cons (ps_expr (pe_call GB hr1 (by rfl) DB.mg DB.kp DB.b .nil L2.pass0 (pa_cons (pv 1) pa_nil)))
      (pss_cons (ps_fld (pv 0) (pv 1) rfl)
      (pss_cons (ps_fld (pv 0) (pv 2) rfl)
      (pss_cons (ps_fld (pv 0) (StX.pe_makeR M GI hr (by rfl) TH.mgC L2.pass0 (pa_cons (pv 1) pa_nil)) rfl)
      (pss_cons (ps_fld (pv 0) pe_bl rfl)
      (pss_one (ps_fld (pv 0) pe_non rfl)))))), ?_⟩
    obtain ⟨⟨dxb, eb⟩, _⟩ := _root_.id hb
    have nbg : b ≠ g := fun z => by rw [z, hg] at eb; have := congrArg (fun o : Option HO => match o with | some (.ins _ _ fs) => fs.length | _ => 0) eb; rw [bf_eq] at this; exact absurd this (by show ¬ (0 = 3); decide)
    have keep : ∀ {G : Hp} {fs : List (Str × V)}, Bd C G b l n → Bd C (upd G g (.ins CG dx fs)) b l n := fun {G fs} x => let ⟨⟨d, e⟩, r⟩ := x; ⟨⟨d, (upd_ne nbg).trans e⟩, r⟩
    refine ⟨_, rfl, b, l, n, rfl, hb, ?_⟩
    refine ⟨_, rfl, _, rfl, g, CG, dx, _, rfl, hg, TG.cl, TG.nB, by decide, ?_⟩
    rw [gi1]
    have b1 := keep (fs := g1F b) hb
    refine ⟨_, rfl, _, rfl, g, CG, dx, _, rfl, upd_same, TG.cl, TG.nS, by show 1 < 1000; decide, ?_⟩
    rw [gi2]
    have b2 := keep (fs := g2F b st) b1
    have bt2 : But g H (upd (upd H g (.ins CG dx (g1F b))) g (.ins CG dx (g2F b st))) := fun c o nc e => by rw [upd_ne nc, upd_ne nc]; exact e
    have g2 : upd (upd H g (.ins CG dx (g1F b))) g (.ins CG dx (g2F b st)) g = some (.ins CG dx (g2F b st)) := upd_same
    generalize upd (upd H g (.ins CG dx (g1F b))) g (.ins CG dx (g2F b st)) = H2 at b2 bt2 g2 ⊢
    refine ⟨_, rfl, hist_made (vs := []) (rows := []) b2 .nil ⟨fun r m => (by cases m), Nat.zero_le _⟩ fun H3 x s3 nx hx => ?_⟩
    refine ⟨_, rfl, g, CG, dx, _, rfl, s3 _ _ g2, TG.cl, TG.nH, by show 2 < 1000; decide, ?_⟩
    rw [gi3]
    refine ⟨_, rfl, g, CG, dx, _, rfl, upd_same, TG.cl, TG.nZ, by show 3 < 1000; decide, ?_⟩
    rw [gi4]
    refine ⟨_, rfl, g, CG, dx, _, rfl, upd_same, TG.cl, TG.nP, by show 4 < 1000; decide, ?_⟩
    rw [gi5]
    have bt3 : But g H3 (upd (upd (upd H3 g (.ins CG dx (g3F b x st))) g (.ins CG dx (g4F b x st))) g (.ins CG dx (gameF b st x false .non))) := fun c o nc e => by rw [upd_ne nc, upd_ne nc, upd_ne nc]; exact e
    have nxg : x ≠ g := fun z => by rw [z, g2] at nx; cases nx
    have hb3 : Bd C H3 b l n := b2.same s3
    have kt : ∀ {G G' : Hp} {c : Addr} {o : HO}, But g G G' → c ≠ g → G c = some o → G' c = some o := fun bt nc e => bt _ _ nc e
    refine q _ (fun c o nc e => bt3 c o nc (s3 _ _ (bt2 c o nc e))) ⟨dx, b, x, .non, upd_same, ?_, ?_, .nil⟩
    · exact keep (keep (keep hb3))
    · obtain ⟨dxx, bx, rx, ex, hbx, ⟨us, eu, ku⟩, okx⟩ := hx
      have np : ∀ {c : Addr} {o : HO}, H3 c = some o → (∀ d, o ≠ .ins CG d (g2F b st)) → c ≠ g := fun {c o} e h z => by rw [z, s3 _ _ g2] at e; exact h dx (Option.some.inj e).symm
      cases ku
      obtain ⟨⟨dy, ey⟩, ry⟩ := hbx
      refine ⟨dxx, bx, rx, bt3 _ _ nxg ex, ⟨⟨dy, bt3 _ _ (np ey fun d z => ?_) ey⟩, ry⟩, ⟨[], bt3 _ _ (np eu fun d z => by cases z) eu, .nil⟩, okx⟩
      have := congrArg (fun o : HO => match o with | .ins _ _ fs => fs.length | _ => 0) z
      rw [bf_eq] at this
      exact absurd this (by show ¬ (3 = 2); decide)
end
end Gm

/-! games: len, repr and truth of a game; the law's `_law_same` (made by gen_gs.py) -/
namespace Gm
open PySem PySem.Spec PyProof.Rows L2 LamX
def LRows (H : Hp) (a : Addr) (rows : List Row) : Prop := ∃ vs, H a = some (.lst vs) ∧ Rws H vs rows
theorem LRows.same {H H' : Hp} {a : Addr} {rows : List Row} (h : LRows H a rows) (s : Same H H') : LRows H' a rows := let ⟨vs, e, k⟩ := h; ⟨vs, s _ _ e, k.same s⟩


theorem GameAt.kt {C CH CM CG : Addr} {H H' : Hp} {g : Addr} {l : List Nat} {n : Int} {st bz : Bool} {rows : List Row} {past : List (List Row)} (h : GameAt C CH CM CG H g l n st bz rows past) (k : Kt H H') (e : ∀ o, H g = some o → H' g = some o) : GameAt C CH CM CG H' g l n st bz rows past := by
  obtain ⟨dx, b, x, pa, hg, hb, hh, hp⟩ := h
  exact ⟨dx, b, x, pa, e _ hg, hb.kt k, hh.kt k, hp.kt k⟩
theorem kt_stir {H H' : Hp} {p : Addr} (hp : BowlAt H p) (R : Stir p H H') : Kt H H' := fun b o st e => R.1 b o (fun z => by
  obtain ⟨x, y, v, h⟩ := hp
  rw [z, h] at e
  cases e
  rcases st with ⟨_, _, _, z, _⟩ | ⟨_, z⟩ <;> cases z) e
theorem kt_game {C CH CM CG : Addr} {H H' : Hp} {g : Addr} {l : List Nat} {n : Int} {st bz : Bool} {rows : List Row} {past : List (List Row)} (h : GameAt C CH CM CG H g l n st bz rows past) (b : But g H H') : Kt H H' := by
  obtain ⟨dx, bb, x, pa, hg, _⟩ := h
  exact Kt.but b hg (by show 3 < 5; decide)
theorem LRows.ne_p {H : Hp} {L p : Addr} {rows : List Row} (h : LRows H L rows) (hp : BowlAt H p) : L ≠ p := by
  rintro rfl
  obtain ⟨vs, e, hw⟩ := h
  obtain ⟨x, y, v, e2⟩ := hp
  rw [e] at e2
  cases e2
  cases hw
theorem LRows.ne_g {C CH CM CG : Addr} {H : Hp} {L g : Addr} {l : List Nat} {n : Int} {st bz : Bool} {rows rows' : List Row} {past : List (List Row)} (h : LRows H L rows) (hg : GameAt C CH CM CG H g l n st bz rows' past) : L ≠ g := by
  rintro rfl
  obtain ⟨vs, e, hw⟩ := h
  obtain ⟨dx, bb, x, pa, e2, _⟩ := hg
  rw [e] at e2
  cases e2
theorem LRows.kt {H H' : Hp} {L : Addr} {rows : List Row} (h : LRows H L rows) (k : Kt H H') (e : ∀ o, H L = some o → H' L = some o) : LRows H' L rows := by
  obtain ⟨vs, e1, hw⟩ := h
  exact ⟨vs, e _ e1, hw.kt k⟩
theorem alph_low {l : List Nat} (h : Alph (tx l)) : l.Pairwise (· < ·) ∧ ∀ c ∈ l, c ∈ low := by
  have e : l = pick (tx l) := h.2.2
  rw [e]
  exact ⟨low_sorted.sublist List.filter_sublist, fun c hc => (List.mem_filter.mp hc).1⟩
theorem low_small : ∀ c ∈ low, c < 128 := by decide +kernel
theorem sh_word {l wd : List Nat} {n : Int} (hl : ∀ c ∈ l, c ∈ low) (h : Wd l n wd) (n6 : n ≤ 6) : Sh (.str (tx wd)) 16777216 60 := Sh.str _ (by
  have h1 : (reprText (tx wd)).length ≤ 10 * (tx wd).length + 2 := StrLaws.reprText_len (tx wd) fun c hc => (by
    have hc' : c ∈ wd := by simpa using hc
    have := low_small c (hl c (h.2 c hc'))
    have e : (16 : Nat) ^ 8 = 4294967296 := by decide
    omega)
  have h2 := h.1
  have h3 : (reprText (tx wd)).length ≤ 62 := by
    refine Nat.le_trans h1 ?_
    rw [tx_len]
    omega
  exact Nat.le_trans h3 (by decide))
theorem ch_small : ∀ q ∈ [39, 34], ∀ c ∈ low, ∀ d ∈ PySem.Builtin.Str.reprChar q c, d < 0x110000 := by decide +kernel
theorem fold_small {q : Nat} (hq : q ∈ [39, 34]) : ∀ (l : List Nat) (acc : Array Nat), (∀ c ∈ l, c ∈ low) → (∀ d ∈ acc.toList, d < 0x110000) → ∀ d ∈ (l.foldl (fun out c => out ++ (PySem.Builtin.Str.reprChar q c).toArray) acc).toList, d < 0x110000
  | [], acc, _, h => h
  | c :: l, acc, hl, h => fold_small hq l _ (fun x hx => hl x (List.mem_cons_of_mem _ hx)) fun d hd => by
    rw [Array.toList_append, List.mem_append] at hd
    rcases hd with hd | hd
    · exact h d hd
    · exact ch_small q hq c (hl c (List.mem_cons_self ..)) d (by simpa using hd)
theorem repr_ok {wd : List Nat} (h : ∀ c ∈ wd, c ∈ low) : PyData.strOk (reprText (tx wd)) = true := by
  have hq : reprQuote (tx wd) ∈ [39, 34] := by
    unfold reprQuote
    split <;> simp
  show (reprText (tx wd)).cps.all (fun c => decide (c < 0x110000)) = true
  rw [← Array.all_toList, List.all_eq_true]
  intro d hd
  refine decide_eq_true ?_
  unfold reprText at hd
  rw [Array.toList_push, List.mem_append, ← Array.foldl_toList] at hd
  rcases hd with hd | hd
  · refine fold_small hq _ _ (fun c hc => h c (by simpa using hc)) (fun d hd => ?_) d hd
    have : d = reprQuote (tx wd) := by simpa using hd
    subst this
    simp only [List.mem_cons, List.not_mem_nil, or_false] at hq
    omega
  · have : d = reprQuote (tx wd) := by simpa using hd
    subst this
    simp only [List.mem_cons, List.not_mem_nil, or_false] at hq
    omega

theorem wd_marks {g w : List Nat} {n : Int} (h : g.length = w.length) (hn : (g.length : Int) = n) : Wd [48, 49, 50] n (mk g w) := ⟨by rw [mk_len h]; exact hn, fun c hc => by
  have := mk_marks h c hc
  simp only [List.mem_cons, List.not_mem_nil, or_false]
  omega⟩
theorem sm_alph {l : List Nat} (h : Alph (tx l)) : Sm l := fun c hc => low_small c ((alph_low h).2 c hc)
theorem nd_alph {l : List Nat} (h : Alph (tx l)) : l.Nodup := (alph_low h).1.imp fun h => Nat.ne_of_lt h
theorem ofs_ok (s : String) : PyData.strOk (Str.ofString s) = true := by
  show (Str.ofString s).cps.all (fun c => decide (c < 0x110000)) = true
  rw [← Array.all_toList, List.all_eq_true]
  intro d hd
  refine decide_eq_true ?_
  rw [Str.ofString_eq_toList] at hd
  obtain ⟨c, _, rfl⟩ := List.mem_map.mp (show d ∈ s.toList.map Char.toNat by simpa using hd)
  have := c.valid
  show c.val.toNat < 0x110000
  rcases this with h | ⟨_, h⟩
  · have : c.val.toNat < 0xd800 := h
    omega
  · exact h
def ans3 (s r : Str) : PyData := .tuple [.str s, .str r, .bool true]
theorem eqv_a3 (s r : Str) : PyData.eqv (ans3 s r) (ans3 s r) = true := by simp [ans3, PyData.eqv, PyData.eqvAll]
theorem shp_a3 {s r : Str} (h1 : PyData.strOk s = true) (h2 : PyData.strOk r = true) : SeqAt.shaped (ans3 s r) = true := by
  simp [ans3, SeqAt.shaped, PyData.canLay0, PyData.canLayAll0, PyData.depth, PyData.depthAll, h1, h2]
theorem dp_a3 {K : PySem.W.Frag} {H : Hp} {T : Addr} {s r : Str} (h : H T = some (.tup [.str s, .str r, .bl true])) : Dp K H (.ref T) (ans3 s r) := .tup (SqT.of h) (.cons (.str _) (.cons (.str _) (.cons (.bl _) .nil)))
theorem eqv_tupR (a b : List Row) : PyData.eqv (.tuple (a.map rowD)) (.tuple (b.map rowD)) = decide (a = b) := by
  simp only [PyData.eqv]
  exact eqv_rows a b
def numT (n : Int) : Str := (toString n : String)
theorem num_len {n : Int} (h0 : 0 ≤ n) (h1 : n ≤ 20) : (numT n).length ≤ 2 := by
  have : n = 0 ∨ n = 1 ∨ n = 2 ∨ n = 3 ∨ n = 4 ∨ n = 5 ∨ n = 6 ∨ n = 7 ∨ n = 8 ∨ n = 9 ∨ n = 10 ∨ n = 11 ∨ n = 12 ∨ n = 13 ∨ n = 14 ∨ n = 15 ∨ n = 16 ∨ n = 17 ∨ n = 18 ∨ n = 19 ∨ n = 20 := by omega
  rcases this with rfl | rfl | rfl | rfl | rfl | rfl | rfl | rfl | rfl | rfl | rfl | rfl | rfl | rfl | rfl | rfl | rfl | rfl | rfl | rfl | rfl <;> decide +kernel
theorem num_log {n : Int} (h0 : 0 ≤ n) (h1 : n ≤ 20) : n.natAbs.log2 < 1920 := by
  have : n.natAbs.log2 ≤ n.natAbs := Nat.log2_le_self _
  omega
def SmT (s : Str) : Prop := ∀ c ∈ s.cps.toList, c < 128
theorem SmT.app {a b : Str} (h : SmT a) (k : SmT b) : SmT (a ++ b) := fun c hc => by
  have e : (a ++ b).cps.toList = a.cps.toList ++ b.cps.toList := TL.tl_append a b
  rw [e] at hc
  rcases List.mem_append.mp hc with hc | hc
  · exact h c hc
  · exact k c hc
theorem num_sm {n : Int} (h0 : 0 ≤ n) (h1 : n ≤ 20) : SmT (numT n) := by
  have : n = 0 ∨ n = 1 ∨ n = 2 ∨ n = 3 ∨ n = 4 ∨ n = 5 ∨ n = 6 ∨ n = 7 ∨ n = 8 ∨ n = 9 ∨ n = 10 ∨ n = 11 ∨ n = 12 ∨ n = 13 ∨ n = 14 ∨ n = 15 ∨ n = 16 ∨ n = 17 ∨ n = 18 ∨ n = 19 ∨ n = 20 := by omega
  unfold SmT
  rcases this with rfl | rfl | rfl | rfl | rfl | rfl | rfl | rfl | rfl | rfl | rfl | rfl | rfl | rfl | rfl | rfl | rfl | rfl | rfl | rfl | rfl <;> decide +kernel
theorem sh_T {s : Str} {n m : Nat} (h : SmT s) (hn : 10 * s.length + 2 ≤ n) : Sh (.str s) n m := Sh.str _ (Nat.le_trans (StrLaws.reprText_len _ fun c hc => by
  have := h c hc
  have e : (16 : Nat) ^ 8 = 4294967296 := by decide
  omega) hn)
def gameT (n : Nat) : Str := Str.ofString "Game(" ++ numT n ++ Str.ofString " rows)"
def spGLen (C CH CM CG : Addr) : Sp := fun vs H Q _ => ∃ (g : Addr) (l : List Nat) (n : Int) (st bz : Bool) (rows : List Row) (past : List (List Row)), vs = [.ref g] ∧ GameAt C CH CM CG H g l n st bz rows past ∧ Q (.int (rows.length : Nat)) H
def spGRepr (C CH CM CG : Addr) : Sp := fun vs H Q _ => ∃ (g : Addr) (l : List Nat) (n : Int) (st bz : Bool) (rows : List Row) (past : List (List Row)), vs = [.ref g] ∧ GameAt C CH CM CG H g l n st bz rows past ∧ Q (.str (gameT rows.length)) H
theorem scGLen : FnScope ["self"] ["self"] (defScope sGLen) := ⟨rfl, rfl, rfl, by decide +kernel, rfl, by decide +kernel, by decide +kernel⟩
theorem scGRepr : FnScope ["self"] ["self"] (defScope sGRepr) := ⟨rfl, rfl, rfl, by decide +kernel, rfl, by decide +kernel, by decide +kernel⟩
structure TxGS (mg : Str → Option Value) : Prop where
  len : mg "len" = none
  repr : mg "repr" = none
  str : mg "str" = none
  tup : mg "tuple" = none
  bool : mg "bool" = none
section
variable {P : Program} {w : World} {K : PySem.W.Frag} {mg : Str → Option Value} {base : Heap}
theorem ok_glen {f C CH CM CG : Addr} {fd : FuncData} (F : Fun K "__len__" "Game.__len__" sGLen f fd) (TG : TxG K mg CG) (TH : TxH K mg CH) (tl : mg "len" = none) : FnOk P w K mg base CX0 1 f fd ["self"] (spGLen C CH CM CG) := by
  refine F.ok scGLen (fun vs H Q E h => ?_) (fun cdv A outer s H vs Q E hr h => ?_)
  · obtain ⟨g, l, n, st, bz, rows, past, rfl, _⟩ := h
    rfl
  · obtain ⟨g, l, n, st, bz, rows, past, rfl, ⟨dx, b, h, pa, hg, hb, hh, hp⟩, q⟩ := h
    obtain ⟨dxh, bh, rh, eh, hbh, ⟨vs, hv, hw⟩, ok⟩ := hh
    refine ⟨_, pss_one (ps_ret (pe_callB call_len_seq (by rfl) tl PySem.boot_len (pa_cons (pe_fld (pe_fld (pv 0) rfl) rfl) pa_nil))), ?_⟩
    refine ⟨_, rfl, g, CG, dx, _, _, rfl, hg, TG.cl, TG.nH, gf_history _ _ _ _ _, h, CH, dxh, _, _, rfl, eh, TH.cl, TH.nR, hf_rows bh rh, rh, _, rfl, .inr (SqT.of hv), ?_⟩
    rw [hw.len]
    exact q
theorem ok_grepr {f C CH CM CG : Addr} {fd : FuncData} (F : Fun K "__repr__" "Game.__repr__" sGRepr f fd) (TG : TxG K mg CG) (TH : TxH K mg CH) (tl : mg "len" = none) : FnOk P w K mg base CX0 1 f fd ["self"] (spGRepr C CH CM CG) := by
  refine F.ok scGRepr (fun vs H Q E h => ?_) (fun cdv A outer s H vs Q E hr h => ?_)
  · obtain ⟨g, l, n, st, bz, rows, past, rfl, _⟩ := h
    rfl
  · obtain ⟨g, l, n, st, bz, rows, past, rfl, ⟨dx, b, h, pa, hg, hb, hh, hp⟩, q⟩ := h
    obtain ⟨dxh, bh, rh, eh, hbh, ⟨vs, hv, hw⟩, ok⟩ := hh
    have hline : sizeLine = 16777216 := sizeLine_eq
    have n20 := ok.2
    refine ⟨_, pss_one (ps_ret (pe_joined (.cons pe_str (.cons (pe_fmt (pe_callB call_len_seq (by rfl) tl PySem.boot_len (pa_cons (pe_fld (pe_fld (pv 0) rfl) rfl) pa_nil))) (.cons pe_str .nil))))), ?_⟩
    have l2 : (Str.ofString "Game(").length = 5 := rfl
    have l3 : (Str.ofString " rows)").length = 6 := rfl
    have d := num_len (n := (rows.length : Int)) (by omega) (by omega)
    refine ⟨_, rfl, by rw [empty_app, l2]; omega, ?_⟩
    refine ⟨_, rfl, g, CG, dx, _, _, rfl, hg, TG.cl, TG.nH, gf_history _ _ _ _ _, h, CH, dxh, _, _, rfl, eh, TH.cl, TH.nR, hf_rows bh rh, rh, _, rfl, .inr (SqT.of hv), ?_⟩
    rw [hw.len]
    refine .inr ⟨_, rfl, num_log (by omega) (by omega), numT rows.length, rfl, by rw [empty_app, app_len, l2]; omega, ?_⟩
    refine ⟨_, rfl, by rw [empty_app, app_len, app_len, l2, l3]; omega, ?_⟩
    show Q (.str (Str.empty ++ Str.ofString "Game(" ++ numT rows.length ++ Str.ofString " rows)")) H
    rw [empty_app]
    exact q
theorem game_sm (n : Nat) (h : n ≤ 20) : SmT (gameT n) := SmT.app (SmT.app (by unfold SmT; decide +kernel) (num_sm (by omega) (by omega))) (by unfold SmT; decide +kernel)
theorem can_T {s : Str} (h : SmT s) : PyData.strOk s = true := by
  show s.cps.all (fun c => decide (c < 0x110000)) = true
  rw [← Array.all_toList, List.all_eq_true]
  intro c hc
  have := h c hc
  exact decide_eq_true (by omega)
def sameD (rows : List Row) : PyData := .list [.int rows.length, .str (gameT rows.length), .tuple (rows.map rowD)]
theorem same_eqv (rows : List Row) : PyData.eqv (sameD rows) (sameD rows) = true := by
  have e : PyData.eqv (.tuple (rows.map rowD)) (.tuple (rows.map rowD)) = true := by rw [eqv_tupR, decide_eq_true rfl]
  unfold sameD
  simp only [PyData.eqv, PyData.eqvAll] at e ⊢
  simp [e]
theorem same_shp {rows : List Row} (h : ∀ r ∈ rows, SmR r) (h20 : rows.length ≤ 20) : SeqAt.shaped (sameD rows) = true := by
  have d := depth_rows rows
  have c := can_rows rows h
  have s := can_T (game_sm rows.length h20)
  unfold SeqAt.shaped sameD
  simp only [PyData.canLay0, PyData.canLayAll0, c, s, Bool.and_true, Bool.true_and, Bool.and_self]
  exact decide_eq_true (by simp only [PyData.depth, PyData.depthAll]; omega)
end
end Gm

/-! the third book's draws: one of a text, alphabets, words -/
namespace Gm
open PySem L2



structure TxS (mg : Str → Option Value) : Prop where
  len : mg "len" = none
  range : mg "range" = none
def spSigns : Sp := fun vs H Q _ => ∃ (p : Addr) (lo hi : Int), vs = [.ref p, .int lo, .int hi] ∧ BowlAt H p ∧ 2 ≤ lo ∧ lo ≤ hi ∧ hi ≤ 26 ∧
  ∀ H' l, Stir p H H' → Alph (tx l) → lo ≤ l.length → l.length ≤ hi → Q (.str (tx l)) H'
def spOne : Sp := fun vs H Q _ => ∃ (p : Addr) (l : List Nat), vs = [.ref p, .str (tx l)] ∧ BowlAt H p ∧ 0 < l.length ∧ l.length ≤ 1000 ∧ ∀ H' c, Stir p H H' → c ∈ l → Q (.str (one c)) H'
def spText : Sp := fun vs H Q _ => ∃ (p : Addr) (l : List Nat) (n : Int), vs = [.ref p, .str (tx l), .int n] ∧ BowlAt H p ∧ 0 < l.length ∧ l.length ≤ 1000 ∧ 0 ≤ n ∧ n ≤ 6 ∧
  ∀ H' ws, Stir p H H' → ws.length = n.toNat → (∀ c ∈ ws, c ∈ l) → Q (.str (tx ws)) H'
section
variable {P : Program} {w : World} {K : PySem.W.Frag} {mg : Str → Option Value} {base : Heap}
abbrev nSg : List Str := ["_law_well_here", "_law_least", "_law_most", "_law_many", "_law_rest", "_law_turn", "_law_at"]
theorem scSg : FnScope nSg ["_law_well_here", "_law_least", "_law_most"] (defScope sSigns) := ⟨rfl, rfl, rfl, by decide +kernel, rfl, by decide +kernel, by decide +kernel⟩
theorem ok_signs {f fD : Addr} {fd fdD : FuncData} (F : Fun K "_law_signs" "_law_signs" sSigns f fd) (T : TxS mg) (GD : FnOk P w K mg base CX0 1 fD fdD ["_law_well_here", "_law_many"] spDip) (DD : Df K mg "_law_draw" fD fdD ["_law_well_here", "_law_many"]) :
    FnOk P w K mg base CX0 2 f fd ["_law_well_here", "_law_least", "_law_most"] spSigns := by
  refine F.ok scSg (fun vs H Q E h => ?_) (fun cdv A outer s H vs Q E hr h => ?_)
  · obtain ⟨p, lo, hi, rfl, _⟩ := h
    rfl
  · obtain ⟨p, lo, hi, rfl, hp, h2, hlh, h26, q⟩ := h
    have nd := scSg.nd
    have hline : sizeLine = 16777216 := sizeLine_eq
    refine ⟨_, pss_cons (ps_par (i := 3) (j := 4) (by rfl) nd rfl rfl (by decide) rfl rfl
        (pa_cons (pe_op op_add (pv 1) (pe_call GD hr (by rfl) DD.mg DD.kp DD.b .nil pass0 (pa_cons (pv 0) (pa_cons (pe_op op_add (pe_op op_sub (pv 2) (pv 1)) pe_int) pa_nil)))) (pa_cons pe_str pa_nil)) (by rfl))
      (pss_cons (ps_if (pt_cmpR op_eq (pe_call GD hr (by rfl) DD.mg DD.kp DD.b .nil pass0 (pa_cons (pv 0) (pa_cons pe_int pa_nil))) pe_int (nomark _))
        (pss_one (ps_ret (pe_slice sl_str (pv 4) po_none (po_some (pv 3))))) pss_nil)
      (pss_cons (ps_for PassesOwn.never rfl (pi_range1 (by rfl) T.range (pa_cons (pe_op op_sub pe_int (pv 3)) pa_nil)) (pg_name (i := 5) nd rfl (Or.inl rfl))
        (pss_cons (ps_set (i := 6) nd rfl (Or.inl rfl) (pe_call GD hr (by rfl) DD.mg DD.kp DD.b .nil pass0 (pa_cons (pv 0) (pa_cons (pe_callB call_len_str (by rfl) T.len PySem.boot_len (pa_cons (pv 4) pa_nil)) pa_nil))))
        (pss_one (ps_set (i := 4) nd rfl (Or.inl rfl) (pe_op op_add_str (pe_slice sl_str (pv 4) po_none (po_some (pv 6))) (pe_slice sl_str (pv 4) (po_some (pe_op op_add (pv 6) pe_int)) po_none))))))
      (pss_one (ps_ret (pv 4))))), ?_⟩
    refine ⟨_, rfl, _, rfl, _, rfl, _, rfl, _, _, rfl, rfl, _, _, rfl, rfl, p, _, rfl, hp, by omega, by omega, fun H1 d R1 d0 d1 => ?_⟩
    refine ⟨_, _, rfl, rfl, _, _, rfl, ?_⟩
    obtain ⟨m, hm⟩ : ∃ m : Nat, lo + d = (m : Int) := ⟨(lo + d).toNat, by omega⟩
    refine ⟨_, rfl, p, _, rfl, R1.2, by decide, by decide, fun H3 e R3 e0 e1 => ⟨rfl, _, rfl, ite2 (fun h => ?_) (fun h => ?_)⟩⟩
    · refine ⟨_, rfl, _, rfl, _, rfl, lowTxt, rfl, by have : lowTxt.length = 26 := rfl; omega, ?_⟩
      have hz : lowTxt.length = 26 := rfl
      have ec : cutS lowTxt none (some (lo + d)) = tx (low.take m) := by
        rw [hm]
        exact cut_pre lowTxt m (by omega)
      show Q (.str (cutS lowTxt none (some (lo + d)))) H3
      rw [ec]
      have ln : (low.take m).length = m := by rw [List.length_take, low_len]; omega
      exact q _ _ (R1.trans R3) (alph_take ⟨m, by omega⟩ (by show 2 ≤ m; omega)) (by rw [ln]; omega) (by rw [ln]; omega)
    · refine ⟨_, rfl, _, _, rfl, rfl, _, rfl, by omega, by omega, for_range (n := (26 - (lo + d)).toNat) (fun i σ H' => ∃ (lf : List Nat) (v5 v6 : Option V), σ = [some (.ref p), some (.int lo), some (.int hi), some (.int (lo + d)), some (.str (tx lf)), v5, v6] ∧ Stir p H H' ∧
        lf.Sublist low ∧ lf.length + i = 26) ⟨low, none, none, rfl, R1.trans R3, List.Sublist.refl _, low_len⟩ ?_ ?_⟩
      · rintro i σ H' hi' ⟨lf, v5, v6, rfl, R, sl, hlen⟩
        have tl : (tx lf).length = lf.length := tx_len lf
        refine ⟨_, rfl, _, rfl, _, rfl, by omega, p, _, rfl, R.2, by omega, by omega, fun H4 a R4 a0 a1 => ?_⟩
        obtain ⟨j, rfl⟩ := Int.eq_ofNat_of_zero_le a0
        have hj : j < lf.length := by omega
        refine ⟨_, rfl, _, rfl, _, rfl, tx lf, rfl, by omega, _, rfl, _, rfl, _, _, rfl, rfl, _, rfl, tx lf, rfl, by omega, _, _, rfl, rfl, ?_⟩
        have e1 : cutS (tx lf) none (some ((j : Nat) : Int)) = tx (lf.take j) := cut_pre _ _ (by omega)
        have e2 : cutS (tx lf) (some (((j : Nat) : Int) + 1)) none = tx (lf.drop (j + 1)) := cut_suf _ (j + 1) (by omega)
        have e3 : tx (lf.take j) ++ tx (lf.drop (j + 1)) = tx (lf.eraseIdx j) := by rw [List.eraseIdx_eq_take_drop_succ]; exact TL.ext_tl (TL.tl_append _ _)
        show (cutS (tx lf) none (some ((j : Nat) : Int))).length + (cutS (tx lf) (some (((j : Nat) : Int) + 1)) none).length ≤ sizeLine ∧ _
        rw [e1, e2]
        refine ⟨by rw [tx_len, tx_len, List.length_take, List.length_drop]; omega, lf.eraseIdx j, some (.int (0 + (i : Nat))), some (.int (j : Nat)), by rw [← e3]; rfl, R.trans R4, (List.eraseIdx_sublist lf j).trans sl, by rw [List.length_eraseIdx_of_lt hj]; omega⟩
      · rintro σ H' ⟨lf, v5, v6, rfl, R, sl, hlen⟩
        exact ⟨_, rfl, q _ _ R (alph_of (low_sorted.sublist sl) (fun c hc => sl.subset hc) (by omega) (by omega)) (by omega) (by omega)⟩
theorem scOf : FnScope ["_law_well_here", "_law_things"] ["_law_well_here", "_law_things"] (defScope sOne) := ⟨rfl, rfl, rfl, by decide +kernel, rfl, by decide +kernel, by decide +kernel⟩
theorem ok_one {f fD : Addr} {fd fdD : FuncData} (F : Fun K "_law_one" "_law_one" sOne f fd) (T : TxS mg) (GD : FnOk P w K mg base CX0 1 fD fdD ["_law_well_here", "_law_many"] spDip) (DD : Df K mg "_law_draw" fD fdD ["_law_well_here", "_law_many"]) :
    FnOk P w K mg base CX0 2 f fd ["_law_well_here", "_law_things"] spOne := by
  refine F.ok scOf (fun vs H Q E h => ?_) (fun cdv A outer s H vs Q E hr h => ?_)
  · obtain ⟨p, l, rfl, _⟩ := h
    rfl
  · obtain ⟨p, l, rfl, hp, l0, l1, q⟩ := h
    have hline : sizeLine = 16777216 := sizeLine_eq
    have tl : (tx l).length = l.length := tx_len l
    refine ⟨_, pss_one (ps_ret (pe_ix ix_str (pv 1) (pe_call GD hr (by rfl) DD.mg DD.kp DD.b .nil pass0 (pa_cons (pv 0) (pa_cons (pe_callB call_len_str (by rfl) T.len PySem.boot_len (pa_cons (pv 1) pa_nil)) pa_nil))) (fun _ _ => rfl))), ?_⟩
    refine ⟨_, rfl, _, rfl, _, rfl, _, rfl, by omega, p, _, rfl, hp, by omega, by omega, fun H1 d R d0 d1 => ?_⟩
    obtain ⟨j, rfl⟩ := Int.eq_ofNat_of_zero_le d0
    have hj : j < l.length := by omega
    exact ⟨tx l, _, l[j], rfl, rfl, by omega, atI_nat (List.getElem?_eq_getElem hj), q H1 _ R (List.getElem_mem hj)⟩
abbrev nW : List Str := ["_law_well_here", "_law_signs_here", "_law_size", "_law_few", "_law_k"]
theorem scWd : FnScope nW ["_law_well_here", "_law_signs_here", "_law_size"] (defScope sText) := ⟨rfl, rfl, rfl, by decide +kernel, rfl, by decide +kernel, by decide +kernel⟩
theorem ok_text {f fD fO : Addr} {fd fdD fdO : FuncData} (F : Fun K "_law_text" "_law_text" sText f fd) (T : TxS mg) (GD : FnOk P w K mg base CX0 1 fD fdD ["_law_well_here", "_law_many"] spDip) (DD : Df K mg "_law_draw" fD fdD ["_law_well_here", "_law_many"])
    (GO : FnOk P w K mg base CX0 2 fO fdO ["_law_well_here", "_law_things"] spOne) (DO : Df K mg "_law_one" fO fdO ["_law_well_here", "_law_things"]) :
    FnOk P w K mg base CX0 3 f fd ["_law_well_here", "_law_signs_here", "_law_size"] spText := by
  refine F.ok scWd (fun vs H Q E h => ?_) (fun cdv A outer s H vs Q E hr h => ?_)
  · obtain ⟨p, l, n, rfl, _⟩ := h
    rfl
  · obtain ⟨p, l, n, rfl, hp, l0, l1, n0, n6, q⟩ := h
    have nd := scWd.nd
    have hr1 : Room 1 _ := hr.mono (by decide)
    have hline : sizeLine = 16777216 := sizeLine_eq
    refine ⟨_, pss_cons (ps_set (i := 3) nd rfl (Or.inr rfl) (pv 1))
      (C8.pss_cut (ps_if (pt_cmpR op_eq (pe_call GD hr1 (by rfl) DD.mg DD.kp DD.b .nil pass0 (pa_cons (pv 0) (pa_cons pe_int pa_nil))) pe_int (nomark _))
        (pss_one (ps_set (i := 3) nd rfl (Or.inr rfl) (pe_op op_add_str (pe_call GO hr (by rfl) DO.mg DO.kp DO.b .nil pass0 (pa_cons (pv 0) (pa_cons (pv 1) pa_nil))) (pe_call GO hr (by rfl) DO.mg DO.kp DO.b .nil pass0 (pa_cons (pv 0) (pa_cons (pv 1) pa_nil)))))) pss_nil)
      (pss_one (ps_ret (pe_join pe_str (pe_lc (own := [("_law_k", 4)]) (g := gName 4) (by rfl) nd (pi_range1 (by rfl) T.range (pa_cons (pv 2) pa_nil)) (blkOk_by (own := [("_law_k", 4)]) (N := nW) (sc := defScope sText) (by decide +kernel))
        (fun _ _ _ _ _ => pg_name (i := 4) nd rfl (Or.inl rfl)) (fun _ _ _ _ _ => pts_nil)
        (fun _ _ _ _ _ => pe_call GO hr (by rfl) DO.mg DO.kp DO.b .nil pass0 (pa_cons (pv 0) (pa_cons (pv 3) pa_nil)))))))), ?_⟩
    refine ⟨_, rfl, fun σ' H' => ∃ zs : List Nat, σ' = [some (.ref p), some (.str (tx l)), some (.int n), some (.str (tx zs)), none] ∧ Stir p H H' ∧ 0 < zs.length ∧ zs.length ≤ 1000 ∧ ∀ c ∈ zs, c ∈ l, ?_, ?_⟩
    · refine ⟨_, rfl, p, _, rfl, hp, by decide, by decide, fun H1 d R d0 d1 => ⟨rfl, _, rfl, ?_⟩⟩
      refine ite2 (fun h => ?_) (fun h => ?_)
      · refine ⟨_, rfl, _, rfl, p, l, rfl, R.2, l0, l1, fun H2 a R2 ha => ?_⟩
        refine ⟨_, rfl, _, rfl, p, l, rfl, R2.2, l0, l1, fun H3 b R3 hb => ?_⟩
        refine ⟨_, _, rfl, rfl, by show 1 + 1 ≤ sizeLine; omega, [a, b], ?_, (R.trans R2).trans R3, by show 0 < 2; omega, by show 2 ≤ 1000; omega, fun c hc => ?_⟩
        · have e : one a ++ one b = tx [a, b] := TL.ext_tl (TL.tl_append _ _)
          rw [← e]
          rfl
        · simp only [List.mem_cons, List.not_mem_nil, or_false] at hc
          rcases hc with rfl | rfl
          · exact ha
          · exact hb
      · exact ⟨l, rfl, R, l0, l1, fun c hc => hc⟩
    · rintro σ' H' ⟨zs, rfl, R, z0, z1, hz⟩
      refine ⟨⟨_, rfl⟩, _, rfl, n, rfl, by omega, by omega, fun D hD => ?_⟩
      refine lc_range (lo := 0) (n := n.toNat) (fun i H2 => ∃ ws : List Nat, Stir p H H2 ∧ (∀ b o, b ≠ p → b ≠ D → H' b = some o → H2 b = some o) ∧ H2 D = some (.lst (ws.map fun c => V.str (one c))) ∧ ws.length = i ∧ ∀ c ∈ ws, c ∈ l)
        ⟨[], R.same (same_upd hD), fun b o _ n2 e => by rw [upd_ne n2]; exact e, upd_same, rfl, fun c hc => by cases hc⟩ ?_ ?_
      · rintro i H2 hi ⟨ws, R2, k2, h2, hw, hl⟩
        have nDp : D ≠ p := by
          obtain ⟨x, y, z, e⟩ := R.2
          exact fun q => by rw [q, e] at hD; cases hD
        refine ⟨rfl, ⟨_, rfl, _, rfl, p, zs, rfl, R2.2, z0, z1, fun H3 c R3 hc => ⟨_, R3.1 D _ nDp h2, by rw [List.length_map]; omega, ws ++ [c], ?_, fun b o n1 n2 e => ?_, ?_, by rw [List.length_append, hw]; rfl, fun a ha => ?_⟩⟩⟩
        · refine ⟨fun b o n e => ?_, ?_⟩
          · rw [upd_ne]
            · exact R3.1 b o n (R2.1 b o n e)
            · intro q
              have := R.1 b o n e
              rw [q, hD] at this
              cases this
          · obtain ⟨x, y, z, e⟩ := R3.2
            exact ⟨x, y, z, by rw [upd_ne nDp.symm]; exact e⟩
        · rw [upd_ne n2]
          exact R3.1 b o n1 (k2 b o n1 n2 e)
        · rw [upd_same, List.map_append]
          rfl
        · rcases List.mem_append.mp ha with ha | ha
          · exact hl a ha
          · rw [List.mem_singleton.mp ha]
            exact hz c hc
      · rintro H2 ⟨ws, R2, k2, h2, hw, hl⟩
        refine ⟨_, D, ws.map one, rfl, rfl, .inl (SqL.of (by rw [List.map_map]; exact h2)), ?_, ?_⟩
        · rw [sum_one, List.length_map]
          show ws.length + ws.length * 0 ≤ 16777216
          omega
        · show Q (.str (Txt.join (Str.ofString "") (ws.map one))) H2
          rw [join_one]
          exact q H2 ws R2 hw hl
end
end Gm

/-! marks by ranks: the third book's way to work a reply out -/
namespace Gm
def PR (a : Nat) (p : Nat × Nat) : Bool := decide (p.1 = a) && !decide (a = p.2)
def PF (a : Nat) (p : Nat × Nat) : Bool := decide (p.2 = a) && !decide (a = p.1)
theorem go_rank : ∀ (ps : List (Nat × Nat)) (u : List Nat) (k a b : Nat), ps[k]? = some (a, b) → (go ps u)[k]? = some (if a = b then 50 else if (ps.take (k + 1)).countP (PR a) ≤ u.count a then 49 else 48)
  | [], _, _, _, _, h => by simp at h
  | (c, d) :: r, u, 0, a, b, h => by
    obtain ⟨rfl, rfl⟩ : c = a ∧ d = b := by simpa using h
    rw [go]
    by_cases e : c = d
    · rw [if_pos e, if_pos e]
      rfl
    · rw [if_neg e, if_neg e]
      have n1 : (List.take (0 + 1) ((c, d) :: r)).countP (PR c) = 1 := by simp [PR, e]
      rw [n1]
      by_cases m : c ∈ u
      · rw [if_pos m, if_pos (show 1 ≤ u.count c from mem_cnt.mp m)]
        rfl
      · rw [if_neg m, if_neg (fun z : 1 ≤ u.count c => m (mem_cnt.mpr z))]
        rfl
  | (c, d) :: r, u, k + 1, a, b, h => by
    have h : r[k]? = some (a, b) := by simpa using h
    rw [go, List.take_succ_cons, List.countP_cons]
    by_cases e : c = d
    · rw [if_pos e]
      have n0 : PR a (c, d) = false := by
        subst e
        unfold PR
        by_cases q : c = a <;> simp [q] 
      rw [n0, List.getElem?_cons_succ, go_rank r u k a b h]
      rfl
    · rw [if_neg e]
      by_cases ab : a = b
      · by_cases m : c ∈ u
        · rw [if_pos m, List.getElem?_cons_succ, go_rank r _ k a b h, if_pos ab, if_pos ab]
        · rw [if_neg m, List.getElem?_cons_succ, go_rank r _ k a b h, if_pos ab, if_pos ab]
      have pos : 0 < (r.take (k + 1)).countP (PR a) := List.countP_pos_iff.mpr ⟨(a, b), List.mem_of_getElem? (i := k) (by rw [List.getElem?_take_of_lt (by omega)]; exact h), by simp [PR, ab]⟩
      by_cases m : c ∈ u
      · rw [if_pos m, List.getElem?_cons_succ, go_rank r _ k a b h, if_neg ab, if_neg ab, cnt_erase]
        have mc := mem_cnt.mp m
        by_cases q : c = a
        · subst q
          have n1 : PR c (c, d) = true := by simp [PR, e]
          rw [n1, if_pos rfl, if_pos rfl]
          by_cases z : (r.take (k + 1)).countP (PR c) + 1 ≤ u.count c
          · rw [if_pos z, if_pos (by omega)]
          · rw [if_neg z, if_neg (by omega)]
        · have n1 : PR a (c, d) = false := by simp [PR, q]
          rw [n1, if_neg q]
          rfl
      · rw [if_neg m, List.getElem?_cons_succ, go_rank r _ k a b h, if_neg ab, if_neg ab]
        by_cases q : c = a
        · subst q
          have c0 : ¬ 0 < u.count c := fun z => m (mem_cnt.mpr z)
          rw [if_neg (by omega), if_neg (by omega)]
        · have n1 : PR a (c, d) = false := by simp [PR, q]
          rw [n1]
          rfl
theorem un_cnt (a : Nat) : ∀ g w : List Nat, (un g w).count a = (g.zip w).countP (PF a)
  | [], _ => rfl
  | _ :: _, [] => rfl
  | c :: g, d :: w => by
    rw [un_cons, List.zip_cons_cons, List.countP_cons, ← un_cnt a g w]
    by_cases e : c = d
    · rw [if_pos e]
      have n0 : PF a (c, d) = false := by
        subst e
        unfold PF
        by_cases q : c = a <;> simp [q]
      rw [n0]
      rfl
    · rw [if_neg e, cnt_cons]
      by_cases q : d = a
      · subst q
        have : ¬ d = c := fun z => e z.symm
        simp [PF, this]
      · simp [PF, q]
theorem mk_rank {g w : List Nat} {k a b : Nat} (h : (g.zip w)[k]? = some (a, b)) : (mk g w)[k]? = some (if a = b then 50 else if ((g.zip w).take (k + 1)).countP (PR a) ≤ (g.zip w).countP (PF a) then 49 else 48) := by
  unfold mk
  rw [go_rank _ _ k a b h, un_cnt]
end Gm

/-! the third book's reply: marks by ranks -/
namespace Gm
open PySem L2

theorem take_snoc1 {α : Type} {xs : List α} {i : Nat} {x : α} (h : xs[i]? = some x) : xs.take (i + 1) = xs.take i ++ [x] := by
  rw [List.take_succ_eq_append_getElem (List.getElem?_eq_some_iff.mp h).1, (List.getElem?_eq_some_iff.mp h).2]
theorem cntP_snoc {ps : List (Nat × Nat)} {j : Nat} {x : Nat × Nat} (p : Nat × Nat → Bool) (h : ps[j]? = some x) : (ps.take (j + 1)).countP p = (ps.take j).countP p + if p x = true then 1 else 0 := by
  rw [take_snoc1 h, List.countP_append, List.countP_singleton]
section
variable {P : Program} {w : World} {K : PySem.W.Frag} {mg : Str → Option Value} {base : Heap}
abbrev nRp : List Str := ["_law_asked", "_law_hidden", "_law_found", "_law_k", "_law_own", "_law_mark", "_law_rank", "_law_free", "_law_j"]
theorem scRp : FnScope nRp ["_law_asked", "_law_hidden"] (defScope sReply) := ⟨rfl, rfl, rfl, by decide +kernel, rfl, by decide +kernel, by decide +kernel⟩
theorem ok_reply {f : Addr} {fd : FuncData} (F : Fun K "_law_reply" "_law_reply" sReply f fd) (len : mg "len" = none) (range : mg "range" = none) : FnOk P w K mg base CX0 1 f fd ["_law_asked", "_law_hidden"] spMarksOf := by
  refine F.ok scRp (fun vs H Q E h => ?_) (fun cdv A outer s H vs Q E hr h => ?_)
  · obtain ⟨g, w, rfl, _⟩ := h
    rfl
  · obtain ⟨g, w', rfl, hl, h6, q⟩ := h
    have nd := scRp.nd
    have hline : sizeLine = 16777216 := sizeLine_eq
    refine ⟨_, pss_cons (ps_set (i := 2) nd rfl (Or.inl rfl) pe_str)
      (pss_cons (ps_for PassesOwn.never rfl (pi_range1 (by rfl) range (pa_cons (pe_callB call_len_str (by rfl) len PySem.boot_len (pa_cons (pv 0) pa_nil)) pa_nil)) (pg_name (i := 3) nd rfl (Or.inl rfl))
        (pss_cons (ps_asg (pe_tup (pa_cons (pe_ix ix_str (pv 0) (pv 3) (fun _ _ => rfl)) (pa_cons pe_str pa_nil))) (pg_tup (by rfl) (pgs_cons (pg_name (i := 4) nd rfl (Or.inr rfl)) (pgs_cons (pg_name (i := 5) nd rfl (Or.inl rfl)) pgs_nil))))
        (pss_cons (ps_if (pt_cmpR op_ne (pe_ix ix_str (pv 1) (pv 3) (fun _ _ => rfl)) (pv 4) (nomark _))
          (pss_cons (ps_set (i := 6) nd rfl (Or.inl rfl) (pe_callB call_len_seq (by rfl) len PySem.boot_len (pa_cons (pe_lc (own := [("_law_j", 8)]) (g := gName 8) (by rfl) nd
              (pi_range1 (by rfl) range (pa_cons (pe_op op_add (pv 3) pe_int) pa_nil)) (blkOk_by (own := [("_law_j", 8)]) (N := nRp) (sc := defScope sReply) (by decide +kernel))
              (fun _ _ _ _ _ => pg_name (i := 8) nd rfl (Or.inl rfl))
              (fun _ _ _ _ _ => pts_one (pt_chain op_eq op_ne (pe_ix ix_str (pv 0) (pv 8) (fun _ _ => rfl)) (pv 4) (pe_ix ix_str (pv 1) (pv 8) (fun _ _ => rfl))))
              (fun _ _ _ _ _ => pv 8)) pa_nil)))
          (pss_cons (ps_set (i := 7) nd rfl (Or.inl rfl) (pe_callB call_len_seq (by rfl) len PySem.boot_len (pa_cons (pe_lc (own := [("_law_j", 8)]) (g := gName 8) (by rfl) nd
              (pi_range1 (by rfl) range (pa_cons (pe_callB call_len_str (by rfl) len PySem.boot_len (pa_cons (pv 1) pa_nil)) pa_nil)) (blkOk_by (own := [("_law_j", 8)]) (N := nRp) (sc := defScope sReply) (by decide +kernel))
              (fun _ _ _ _ _ => pg_name (i := 8) nd rfl (Or.inl rfl))
              (fun _ _ _ _ _ => pts_one (pt_chain op_eq op_ne (pe_ix ix_str (pv 1) (pv 8) (fun _ _ => rfl)) (pv 4) (pe_ix ix_str (pv 0) (pv 8) (fun _ _ => rfl))))
              (fun _ _ _ _ _ => pv 8)) pa_nil)))
          (pss_one (ps_set (i := 5) nd rfl (Or.inl rfl) (pe_ifExp (pt_cmpR op_le (pv 6) (pv 7) (nomark _)) pe_str pe_str))))) pss_nil)
        (pss_one (ps_set (i := 2) nd rfl (Or.inl rfl) (pe_op op_add_str (pv 2) (pv 5)))))))
      (pss_one (ps_ret (pv 2)))), ?_⟩
    have tg : (tx g).length = g.length := tx_len g
    have tw : (tx w').length = w'.length := tx_len w'
    have zl : (g.zip w').length = g.length := by rw [List.length_zip]; omega
    have ml : (mk g w').length = g.length := mk_len hl
    refine ⟨_, rfl, _, rfl, by omega, _, rfl, by omega, by omega, for_range (n := g.length) (fun i σ H' => ∃ v3 v4 v5 v6 v7 : Option V, σ = [some (.str (tx g)), some (.str (tx w')), some (.str (tx ((mk g w').take i))), v3, v4, v5, v6, v7, none] ∧ Same H H') ⟨_, _, _, _, _, rfl, Same.refl H⟩ ?_ ?_⟩
    · rintro i σ H1 hi ⟨v3, v4, v5, v6, v7, rfl, sm⟩
      rw [show (0 : Int) + (i : Nat) = (i : Nat) from Int.zero_add _]
      have hw : i < w'.length := by omega
      have hz : (g.zip w')[i]? = some (g[i], w'[i]) := zip_at (List.getElem?_eq_getElem hi) (List.getElem?_eq_getElem hw)
      have tk : (mk g w').take (i + 1) = (mk g w').take i ++ [if g[i] = w'[i] then 50 else if ((g.zip w').take (i + 1)).countP (PR g[i]) ≤ (g.zip w').countP (PF g[i]) then 49 else 48] := take_snoc1 (mk_rank hz)
      refine ⟨_, rfl, _, rfl, tx g, _, g[i], rfl, rfl, by omega, atI_nat (List.getElem?_eq_getElem hi), by show 2 ≤ sizeLine; decide, fun T zT => ?_⟩
      have s1 := sm.trans (same_upd (o := .tup [.str (one g[i]), .str (Str.ofString "2")]) zT)
      refine ⟨T, _, rfl, SqT.of upd_same, rfl, _, _, rfl, _, _, rfl, rfl, ?_⟩
      generalize upd H1 T (.tup [.str (one g[i]), .str (Str.ofString "2")]) = H2 at s1
      refine ⟨_, rfl, _, rfl, tx w', _, w'[i], rfl, rfl, by omega, atI_nat (List.getElem?_eq_getElem hw), _, rfl, rfl, _, rfl, ?_⟩
      have e2 : decide (V.str (one w'[i]) = V.str (one g[i])) = decide (g[i] = w'[i]) := decide_eq_decide.mpr ⟨fun e => (ones_inj (V.str.inj e)).symm, fun e => by rw [e]⟩
      rw [e2]
      have le : ((mk g w').take i).length ≤ 6 := by rw [List.length_take]; omega
      refine ite2 (fun h => ?_) (fun h => ?_)
      · have ne : ¬ g[i] = w'[i] := fun e => by rw [decide_eq_true e] at h; cases h
        rw [if_neg ne] at tk
        refine ⟨_, rfl, _, _, rfl, rfl, _, rfl, by omega, by omega, fun D hD => ?_⟩
        refine lc_range (lo := 0) (n := i + 1) (fun j H' => Same H2 H' ∧ ∃ xs, H' D = some (.lst xs) ∧ xs.length = ((g.zip w').take j).countP (PR g[i])) ⟨same_upd hD, [], upd_same, rfl⟩ ?_ ?_
        · rintro j H4 hj ⟨s4, xs, hx, lx⟩
          have hj1 : j < g.length := by omega
          have hj2 : j < w'.length := by omega
          have hzj : (g.zip w')[j]? = some (g[j], w'[j]) := zip_at (List.getElem?_eq_getElem hj1) (List.getElem?_eq_getElem hj2)
          have cs := cntP_snoc (PR g[i]) hzj
          have le : ((g.zip w').take j).countP (PR g[i]) ≤ 6 := Nat.le_trans List.countP_le_length (by rw [List.length_take]; omega)
          rw [show (0 : Int) + (j : Nat) = (j : Nat) from Int.zero_add _]
          refine ⟨rfl, ?_⟩
          refine ⟨_, rfl, _, rfl, tx g, _, g[j], rfl, rfl, by omega, atI_nat (List.getElem?_eq_getElem _), _, rfl, rfl, _, rfl, ?_⟩
          have d1 : decide (V.str (one g[j]) = V.str (one g[i])) = decide (g[j] = g[i]) := decide_eq_decide.mpr ⟨fun e => ones_inj (V.str.inj e), fun e => by rw [e]⟩
          have d2 : decide (V.str (one g[i]) = V.str (one w'[j])) = decide (g[i] = w'[j]) := decide_eq_decide.mpr ⟨fun e => ones_inj (V.str.inj e), fun e => by rw [e]⟩
          have px : PR g[i] (g[j], w'[j]) = (decide (g[j] = g[i]) && !decide (g[i] = w'[j])) := rfl
          rw [d1]
          refine ite2 (fun h => ?_) (fun h => ?_)
          · refine ⟨_, rfl, _, rfl, tx w', _, w'[j], rfl, rfl, by omega, atI_nat (List.getElem?_eq_getElem _), rfl, _, rfl, ?_⟩
            rw [d2]
            refine ite2 (fun h' => ?_) (fun h' => ?_)
            · rw [px, h, h'] at cs
              refine ⟨_, rfl, xs, hx, by omega, fun b o e => ?_, _, upd_same, by rw [List.length_append, lx, cs]; rfl⟩
              rw [upd_ne (ne_of_none e hD)]
              exact s4 b o e
            · have h' := Bool.eq_false_iff.mpr h'
              rw [px, h, h'] at cs
              exact ⟨s4, xs, hx, by rw [lx, cs]; rfl⟩
          · have h := Bool.eq_false_iff.mpr h
            rw [px, h] at cs
            exact ⟨_, rfl, iteF ⟨s4, xs, hx, by rw [lx, cs]; rfl⟩⟩
        rintro H3 ⟨s3, xss3, hx3, lx3⟩
        refine ⟨D, _, rfl, .inl (SqL.of hx3), ?_⟩
        refine ⟨_, rfl, _, rfl, by omega, _, rfl, by omega, by omega, fun D2 hD2 => ?_⟩
        refine lc_range (lo := 0) (n := w'.length) (fun j H' => Same H3 H' ∧ ∃ xs, H' D2 = some (.lst xs) ∧ xs.length = ((g.zip w').take j).countP (PF g[i])) ⟨same_upd hD2, [], upd_same, rfl⟩ ?_ ?_
        · rintro j H4 hj ⟨s4, xs, hx, lx⟩
          have hj1 : j < g.length := by omega
          have hj2 : j < w'.length := by omega
          have hzj : (g.zip w')[j]? = some (g[j], w'[j]) := zip_at (List.getElem?_eq_getElem hj1) (List.getElem?_eq_getElem hj2)
          have cs := cntP_snoc (PF g[i]) hzj
          have le : ((g.zip w').take j).countP (PF g[i]) ≤ 6 := Nat.le_trans List.countP_le_length (by rw [List.length_take]; omega)
          rw [show (0 : Int) + (j : Nat) = (j : Nat) from Int.zero_add _]
          refine ⟨rfl, ?_⟩
          refine ⟨_, rfl, _, rfl, tx w', _, w'[j], rfl, rfl, by omega, atI_nat (List.getElem?_eq_getElem _), _, rfl, rfl, _, rfl, ?_⟩
          have d1 : decide (V.str (one w'[j]) = V.str (one g[i])) = decide (w'[j] = g[i]) := decide_eq_decide.mpr ⟨fun e => ones_inj (V.str.inj e), fun e => by rw [e]⟩
          have d2 : decide (V.str (one g[i]) = V.str (one g[j])) = decide (g[i] = g[j]) := decide_eq_decide.mpr ⟨fun e => ones_inj (V.str.inj e), fun e => by rw [e]⟩
          have px : PF g[i] (g[j], w'[j]) = (decide (w'[j] = g[i]) && !decide (g[i] = g[j])) := rfl
          rw [d1]
          refine ite2 (fun h => ?_) (fun h => ?_)
          · refine ⟨_, rfl, _, rfl, tx g, _, g[j], rfl, rfl, by omega, atI_nat (List.getElem?_eq_getElem _), rfl, _, rfl, ?_⟩
            rw [d2]
            refine ite2 (fun h' => ?_) (fun h' => ?_)
            · rw [px, h, h'] at cs
              refine ⟨_, rfl, xs, hx, by omega, fun b o e => ?_, _, upd_same, by rw [List.length_append, lx, cs]; rfl⟩
              rw [upd_ne (ne_of_none e hD2)]
              exact s4 b o e
            · have h' := Bool.eq_false_iff.mpr h'
              rw [px, h, h'] at cs
              exact ⟨s4, xs, hx, by rw [lx, cs]; rfl⟩
          · have h := Bool.eq_false_iff.mpr h
            rw [px, h] at cs
            exact ⟨_, rfl, iteF ⟨s4, xs, hx, by rw [lx, cs]; rfl⟩⟩
        rintro H5 ⟨s5, xss5, hx5, lx5⟩
        refine ⟨D2, _, rfl, .inl (SqL.of hx5), ?_⟩
        have tkz : (g.zip w').take w'.length = g.zip w' := List.take_of_length_le (by omega)
        rw [tkz] at lx5
        have s15 := s1.trans (s3.trans s5)
        refine ⟨_, rfl, _, rfl, _, _, rfl, rfl, _, rfl, ?_⟩
        refine ite2 (fun h' => ?_) (fun h' => ?_)
        · have hc : ((g.zip w').take (i + 1)).countP (PR g[i]) ≤ (g.zip w').countP (PF g[i]) := by
            have := of_decide_eq_true h'
            omega
          rw [if_pos hc] at tk
          have et : tx ((mk g w').take (i + 1)) = tx ((mk g w').take i) ++ Str.ofString "1" := by
            rw [tk, ← tx_app]
            rfl
          rw [et]
          exact ⟨_, rfl, _, rfl, _, _, rfl, rfl, by rw [tx_len]; show _ + 1 ≤ sizeLine; omega, _, _, _, _, _, rfl, s15⟩
        · have hc : ¬ ((g.zip w').take (i + 1)).countP (PR g[i]) ≤ (g.zip w').countP (PF g[i]) := fun c => h' (decide_eq_true (by omega))
          rw [if_neg hc] at tk
          have et : tx ((mk g w').take (i + 1)) = tx ((mk g w').take i) ++ Str.ofString "0" := by
            rw [tk, ← tx_app]
            rfl
          rw [et]
          exact ⟨_, rfl, _, rfl, _, _, rfl, rfl, by rw [tx_len]; show _ + 1 ≤ sizeLine; omega, _, _, _, _, _, rfl, s15⟩
      · have eq : g[i] = w'[i] := by
          refine Decidable.byContradiction fun e => h ?_
          rw [decide_eq_false e]
          rfl
        rw [if_pos eq] at tk
        have et : tx ((mk g w').take (i + 1)) = tx ((mk g w').take i) ++ Str.ofString "2" := by
          rw [tk, ← tx_app]
          rfl
        rw [et]
        exact ⟨_, rfl, _, rfl, _, _, rfl, rfl, by rw [tx_len]; show _ + 1 ≤ sizeLine; omega, _, _, _, _, _, rfl, s1⟩
    · rintro σ H1 ⟨v3, v4, v5, v6, v7, rfl, sm⟩
      refine ⟨_, rfl, ?_⟩
      have e : (mk g w').take g.length = mk g w' := List.take_of_length_le (by omega)
      rw [e]
      exact q _ sm
end
end Gm

/-! == and != of two instances of one class without an own __eq__ -/
namespace HN
open PySem PySem.Spec PyProof.Rows PySem.SeqAt
section
variable {M : Model} {prog : Program} {w : World} {A : Around} {E : Value → Shared → Prop} {s : Shared} {K : PySem.W.Frag} {x y C : Addr} {ox oy : Obj} {od od2 : Option Obj}
theorem inst_noTuple (I : PySem.W.InstAt s.heap x ox C od) : ox.cls ≠ .type "tuple" := by
  rw [I.cls]
  intro e
  cases e
theorem call_objEqS (X : K.In s.heap) (I : PySem.W.InstAt s.heap x ox C od) (hm : PySem.W.mroIn K C (.type "object") = some true) {Q : Value → Shared → Prop} (hq : Q (.bool true) s) :
    wpAny (model prog w) A (call (.builtin "object.__eq__") [.ref x, .ref x]) Q E s :=
  wpAny_call (codeAny_call_builtin F.cmp_object.eq.plain F.cmpEntry_eq (PySem.W.check_slot F.cmpKind_eq F.cmpSplit_eq (I.type.andThen (PySem.W.looks_mroIn X hm)) (F.cmpArgs_eq _ _) (objEq_entry_same hq)))
theorem call_objEqO (X : K.In s.heap) (I : PySem.W.InstAt s.heap x ox C od) (hy : s.heap.get? y = some oy) (hxy : x ≠ y) (hm : PySem.W.mroIn K C (.type "object") = some true) {Q : Value → Shared → Prop} (hq : Q .notImplemented s) :
    wpAny (model prog w) A (call (.builtin "object.__eq__") [.ref x, .ref y]) Q E s :=
  wpAny_call (codeAny_call_builtin F.cmp_object.eq.plain F.cmpEntry_eq (PySem.W.check_slot F.cmpKind_eq F.cmpSplit_eq (I.type.andThen (PySem.W.looks_mroIn X hm)) (F.cmpArgs_eq _ _) (objEq_entry_other hxy I.at_ hy (inst_noTuple I) hq)))
theorem tc_same (X : K.In s.heap) (I : PySem.W.InstAt s.heap x ox C od) (hm : PySem.W.mroIn K C (.type "object") = some true) (hs : PySem.W.findIn K (.ref C) "__eq__" = some (some (.builtin "object.__eq__"))) : wpAny (model prog w) A (tryCompare (.ref x) "__eq__" (.ref x)) (fun r s' => r = some (.bool true) ∧ s' = s) E s := by
  unfold tryCompare
  exact wpAny_bind (ifBound_objEq X I hs (call_objEqS X I hm (wpAny_pure ⟨rfl, rfl⟩)))
theorem tc_other (X : K.In s.heap) (I : PySem.W.InstAt s.heap x ox C od) (hy : s.heap.get? y = some oy) (hxy : x ≠ y) (hm : PySem.W.mroIn K C (.type "object") = some true) (hs : PySem.W.findIn K (.ref C) "__eq__" = some (some (.builtin "object.__eq__"))) : wpAny (model prog w) A (tryCompare (.ref x) "__eq__" (.ref y)) (fun r s' => r = none ∧ s' = s) E s := by
  unfold tryCompare
  exact wpAny_bind (ifBound_objEq X I hs (call_objEqO X I hy hxy hm (wpAny_pure ⟨rfl, rfl⟩)))
theorem rc_same (hu : A.units < cLine) (X : K.In s.heap) (I : PySem.W.InstAt s.heap x ox C od) (hm : PySem.W.mroIn K C (.type "object") = some true) (hs : PySem.W.findIn K (.ref C) "__eq__" = some (some (.builtin "object.__eq__"))) : RcAt A s (.ref x) (.ref x) true := fun prog w E Q h => by
  simp only [richCompare, cmpInfo_Eq, oneThing_ref]
  refine wpAny_holding (wpAny_bind (wpAny_cRoomFor hu ?_))
  refine wpAny_bind (I.type.here ?_)
  refine wpAny_bind (I.type.here ?_)
  rw [if_neg (by simp)]
  refine wpAny_bind (wpAny_pure ?_)
  simp only [Bool.false_eq_true, if_false]
  refine wpAny_bind (m := tryCompare (.ref x) _ (.ref x)) (wpAny_mono (tc_same X I hm hs) (fun r s1 z => ?_) fun _ _ e => e)
  obtain ⟨z1, z2⟩ := z
  subst z1
  subst z2
  exact wpAny_pure h
theorem rc_other (hu : A.units < cLine) (X : K.In s.heap) (I : PySem.W.InstAt s.heap x ox C od) (J : PySem.W.InstAt s.heap y oy C od2) (hxy : x ≠ y) (hm : PySem.W.mroIn K C (.type "object") = some true) (hs : PySem.W.findIn K (.ref C) "__eq__" = some (some (.builtin "object.__eq__"))) : RcAt A s (.ref x) (.ref y) false := fun prog w E Q h => by
  simp only [richCompare, cmpInfo_Eq, oneThing_ref]
  refine wpAny_holding (wpAny_bind (wpAny_cRoomFor hu ?_))
  refine wpAny_bind (I.type.here ?_)
  refine wpAny_bind (J.type.here ?_)
  rw [if_neg (by simp)]
  refine wpAny_bind (wpAny_pure ?_)
  simp only [Bool.false_eq_true, if_false, Bool.not_false, if_true]
  refine wpAny_bind (m := tryCompare (.ref x) _ (.ref y)) (wpAny_mono (tc_other X I J.at_ hxy hm hs) (fun r s1 z => ?_) fun _ _ e => e)
  obtain ⟨z1, z2⟩ := z
  subst z1
  subst z2
  refine wpAny_bind (m := tryCompare (.ref y) _ (.ref x)) (wpAny_mono (tc_other X J I.at_ hxy.symm hm hs) (fun r s2 z => ?_) fun _ _ e => e)
  obtain ⟨z1, z2⟩ := z
  subst z1
  subst z2
  refine wpAny_bind (wpAny_rule (wpAny_bind (wpAny_isSame_ref_other hxy I.at_ J.at_ (inst_noTuple I) (wpAny_pure h))))
theorem neEntryS (hu : A.units < cLine) (X : K.In s.heap) (I : PySem.W.InstAt s.heap x ox C od) (hm : PySem.W.mroIn K C (.type "object") = some true) (hs : PySem.W.findIn K (.ref C) "__eq__" = some (some (.builtin "object.__eq__"))) {Q : Fin → Shared → Prop} (hq : Q (.done (.ret (.bool false))) s) :
    wpAny (model prog w) A (Builtin.«object.__ne__» ⟨[.ref x, .ref x], []⟩) Q E s := by
  unfold Builtin.«object.__ne__»
  repeat (first | with_reducible refine wpAny_cRoomFor hu ?_ | with_reducible refine ifBound_objEq X I hs (call_objEqS X I hm ?_) | wp_step)
  exact hq
theorem neEntryO (hu : A.units < cLine) (X : K.In s.heap) (I : PySem.W.InstAt s.heap x ox C od) (hy : s.heap.get? y = some oy) (hxy : x ≠ y) (hm : PySem.W.mroIn K C (.type "object") = some true) (hs : PySem.W.findIn K (.ref C) "__eq__" = some (some (.builtin "object.__eq__"))) {Q : Fin → Shared → Prop} (hq : Q (.done (.ret .notImplemented)) s) :
    wpAny (model prog w) A (Builtin.«object.__ne__» ⟨[.ref x, .ref y], []⟩) Q E s := by
  unfold Builtin.«object.__ne__»
  repeat (first | with_reducible refine wpAny_cRoomFor hu ?_ | with_reducible refine ifBound_objEq X I hs (call_objEqO X I hy hxy hm ?_) | wp_step)
  exact hq
theorem call_objNeS (hu : A.units + 1 < cLine) (X : K.In s.heap) (I : PySem.W.InstAt s.heap x ox C od) (hm : PySem.W.mroIn K C (.type "object") = some true) (hs : PySem.W.findIn K (.ref C) "__eq__" = some (some (.builtin "object.__eq__"))) {Q : Value → Shared → Prop} (hq : Q (.bool false) s) :
    wpAny (model prog w) A (call (.builtin "object.__ne__") [.ref x, .ref x]) Q E s :=
  wpAny_call (codeAny_call_builtin F.cmp_object.ne.plain F.cmpEntry_ne (PySem.W.check_slot F.cmpKind_ne F.cmpSplit_ne (I.type.andThen (PySem.W.looks_mroIn X hm)) (F.cmpArgs_ne _ _) (neEntryS (A := A.in1) hu X I hm hs hq)))
theorem call_objNeO (hu : A.units + 1 < cLine) (X : K.In s.heap) (I : PySem.W.InstAt s.heap x ox C od) (hy : s.heap.get? y = some oy) (hxy : x ≠ y) (hm : PySem.W.mroIn K C (.type "object") = some true) (hs : PySem.W.findIn K (.ref C) "__eq__" = some (some (.builtin "object.__eq__"))) {Q : Value → Shared → Prop} (hq : Q .notImplemented s) :
    wpAny (model prog w) A (call (.builtin "object.__ne__") [.ref x, .ref y]) Q E s :=
  wpAny_call (codeAny_call_builtin F.cmp_object.ne.plain F.cmpEntry_ne (PySem.W.check_slot F.cmpKind_ne F.cmpSplit_ne (I.type.andThen (PySem.W.looks_mroIn X hm)) (F.cmpArgs_ne _ _) (neEntryO (A := A.in1) hu X I hy hxy hm hs hq)))
theorem ifBound_objNe {args : List Value} {Q : Option Value → Shared → Prop} (X : K.In s.heap) (I : PySem.W.InstAt s.heap x ox C od) (hs : PySem.W.findIn K (.ref C) "__ne__" = some (some (.builtin "object.__ne__")))
    (h : wpAny M A (call (.builtin "object.__ne__") (.ref x :: args)) (fun v => Q (some v)) E s) : wpAny M A (callSpecialIfBound? (.ref x) "__ne__" args) Q E s := by
  simp only [callSpecialIfBound?, bindSpecialIfBound?]
  refine wpAny_holding (wpAny_bind (wpAny_bind (wpAny_bind (I.type.here ((PySem.W.looks_findIn X hs).here ?_)))))
  refine wpAny_bind (wpAny_askSetting (wpAny_ite ?_))
  have fin : wpAny M A (call (.builtin "object.__ne__") ([.ref x] ++ args) >>= fun v => pure (some v)) Q E s := wpAny_bind (wpAny_mono h (fun v s' h' => wpAny_pure h') fun _ _ h' => h')
  split
  · exact wpAny_bind (wpAny_of_eq (F.cmp_object.ne.bind _) (wpAny_pure (by exact fin)))
  · exact wpAny_tryCatch (wpAny_bind (wpAny_of_eq (F.cmp_object.ne.bind _) (wpAny_pure (by exact fin))))
theorem tn_same (hu : A.units + 1 < cLine) (X : K.In s.heap) (I : PySem.W.InstAt s.heap x ox C od) (hm : PySem.W.mroIn K C (.type "object") = some true) (hs : PySem.W.findIn K (.ref C) "__eq__" = some (some (.builtin "object.__eq__"))) (hn : PySem.W.findIn K (.ref C) "__ne__" = some (some (.builtin "object.__ne__"))) :
    wpAny (model prog w) A (tryCompare (.ref x) "__ne__" (.ref x)) (fun r s' => r = some (.bool false) ∧ s' = s) E s := by
  unfold tryCompare
  exact wpAny_bind (ifBound_objNe X I hn (call_objNeS hu X I hm hs (wpAny_pure ⟨rfl, rfl⟩)))
theorem tn_other (hu : A.units + 1 < cLine) (X : K.In s.heap) (I : PySem.W.InstAt s.heap x ox C od) (hy : s.heap.get? y = some oy) (hxy : x ≠ y) (hm : PySem.W.mroIn K C (.type "object") = some true) (hs : PySem.W.findIn K (.ref C) "__eq__" = some (some (.builtin "object.__eq__"))) (hn : PySem.W.findIn K (.ref C) "__ne__" = some (some (.builtin "object.__ne__"))) :
    wpAny (model prog w) A (tryCompare (.ref x) "__ne__" (.ref y)) (fun r s' => r = none ∧ s' = s) E s := by
  unfold tryCompare
  exact wpAny_bind (ifBound_objNe X I hn (call_objNeO hu X I hy hxy hm hs (wpAny_pure ⟨rfl, rfl⟩)))
theorem rn_same (hu : A.units + 1 < cLine) (X : K.In s.heap) (I : PySem.W.InstAt s.heap x ox C od) (hm : PySem.W.mroIn K C (.type "object") = some true) (hs : PySem.W.findIn K (.ref C) "__eq__" = some (some (.builtin "object.__eq__"))) (hn : PySem.W.findIn K (.ref C) "__ne__" = some (some (.builtin "object.__ne__"))) {Q : Value → Shared → Prop} (h : Q (.bool false) s) :
    wpAny (model prog w) A (richCompare .NotEq (.ref x) (.ref x)) Q E s := by
  simp only [richCompare, cmpInfo_NotEq, oneThing_ref]
  refine wpAny_holding (wpAny_bind (wpAny_cRoomFor (Nat.lt_of_succ_lt hu) ?_))
  refine wpAny_bind (I.type.here ?_)
  refine wpAny_bind (I.type.here ?_)
  rw [if_neg (by simp)]
  refine wpAny_bind (wpAny_pure ?_)
  simp only [Bool.false_eq_true, if_false]
  refine wpAny_bind (m := tryCompare (.ref x) _ (.ref x)) (wpAny_mono (tn_same hu X I hm hs hn) (fun r s1 z => ?_) fun _ _ e => e)
  obtain ⟨z1, z2⟩ := z
  subst z1
  subst z2
  exact wpAny_pure h
theorem rn_other (hu : A.units + 1 < cLine) (X : K.In s.heap) (I : PySem.W.InstAt s.heap x ox C od) (J : PySem.W.InstAt s.heap y oy C od2) (hxy : x ≠ y) (hm : PySem.W.mroIn K C (.type "object") = some true) (hs : PySem.W.findIn K (.ref C) "__eq__" = some (some (.builtin "object.__eq__"))) (hn : PySem.W.findIn K (.ref C) "__ne__" = some (some (.builtin "object.__ne__"))) {Q : Value → Shared → Prop} (h : Q (.bool true) s) :
    wpAny (model prog w) A (richCompare .NotEq (.ref x) (.ref y)) Q E s := by
  simp only [richCompare, cmpInfo_NotEq, oneThing_ref]
  refine wpAny_holding (wpAny_bind (wpAny_cRoomFor (Nat.lt_of_succ_lt hu) ?_))
  refine wpAny_bind (I.type.here ?_)
  refine wpAny_bind (J.type.here ?_)
  rw [if_neg (by simp)]
  refine wpAny_bind (wpAny_pure ?_)
  simp only [Bool.false_eq_true, if_false, Bool.not_false, if_true]
  refine wpAny_bind (m := tryCompare (.ref x) _ (.ref y)) (wpAny_mono (tn_other hu X I J.at_ hxy hm hs hn) (fun r s1 z => ?_) fun _ _ e => e)
  obtain ⟨z1, z2⟩ := z
  subst z1
  subst z2
  refine wpAny_bind (m := tryCompare (.ref y) _ (.ref x)) (wpAny_mono (tn_other hu X J I.at_ hxy.symm hm hs hn) (fun r s2 z => ?_) fun _ _ e => e)
  obtain ⟨z1, z2⟩ := z
  subst z1
  subst z2
  refine wpAny_bind (wpAny_rule (wpAny_bind (wpAny_isSame_ref_other hxy I.at_ J.at_ (inst_noTuple I) (wpAny_pure h))))
end
end HN

namespace L2
open PySem PySem.Spec PyProof.Rows
/-- an instance of C, whose == is that of objects -/
def PlainAt (K : PySem.W.Frag) (C : Addr) (H : Hp) (a : Addr) : Prop := ∃ dx fs, H a = some (.ins C dx fs)
structure PlainC (K : PySem.W.Frag) (C : Addr) : Prop where
  ob : PySem.W.mroIn K C (.type "object") = some true
  eq : PySem.W.findIn K (.ref C) "__eq__" = some (some (.builtin "object.__eq__"))
  ne : PySem.W.findIn K (.ref C) "__ne__" = some (some (.builtin "object.__ne__"))
def rPlain (K : PySem.W.Frag) (C : Addr) (g : Bool → Bool) : R2 := fun x y H Q => ∃ a b, x = .ref a ∧ y = .ref b ∧ PlainAt K C H a ∧ PlainAt K C H b ∧ Q (.bl (g (decide (a = b)))) H
section
variable {X : Cx} {C : Addr}
theorem op_eqPlain (hu : X.A.units + 1 < cLine) (T : PlainC X.K C) : OpR X (compareOp .Eq) (rPlain X.K C _root_.id) := by
  intro pins s σ H x y u v Q I rx ry ⟨a, b, ex, ey, ⟨dx, fs, ha⟩, ⟨dy, fs2, hb⟩, q⟩
  subst ex
  subst ey
  cases rx
  cases ry
  obtain ⟨mA, O, _⟩ := ins_get I.hok ha
  obtain ⟨od, J, _⟩ := O.look
  obtain ⟨mB, O2, _⟩ := ins_get I.hok hb
  obtain ⟨od2, J2, _⟩ := O2.look
  by_cases e : a = b
  · subst e
    rw [decide_eq_true rfl] at q
    exact HN.rc_same (Nat.lt_of_succ_lt hu) I.kIn J T.ob T.eq X.prog X.w _ _ ⟨.bl true, H, I, rfl, q⟩
  · rw [decide_eq_false e] at q
    exact HN.rc_other (Nat.lt_of_succ_lt hu) I.kIn J J2 e T.ob T.eq X.prog X.w _ _ ⟨.bl false, H, I, rfl, q⟩
theorem op_nePlain (hu : X.A.units + 1 < cLine) (T : PlainC X.K C) : OpR X (compareOp .NotEq) (rPlain X.K C not) := by
  intro pins s σ H x y u v Q I rx ry ⟨a, b, ex, ey, ⟨dx, fs, ha⟩, ⟨dy, fs2, hb⟩, q⟩
  subst ex
  subst ey
  cases rx
  cases ry
  obtain ⟨mA, O, _⟩ := ins_get I.hok ha
  obtain ⟨od, J, _⟩ := O.look
  obtain ⟨mB, O2, _⟩ := ins_get I.hok hb
  obtain ⟨od2, J2, _⟩ := O2.look
  by_cases e : a = b
  · subst e
    rw [decide_eq_true rfl] at q
    exact HN.rn_same hu I.kIn J T.ob T.eq T.ne ⟨.bl false, H, I, rfl, q⟩
  · rw [decide_eq_false e] at q
    exact HN.rn_other hu I.kIn J J2 e T.ob T.eq T.ne ⟨.bl true, H, I, rfl, q⟩
end
end L2

/-! x != None, x an instance without an own __eq__ -/
namespace HN
open PySem PySem.Spec PyProof.Rows PySem.SeqAt
section
variable {M : Model} {prog : Program} {w : World} {A : Around} {E : Value → Shared → Prop} {s : Shared} {K : PySem.W.Frag} {x y C : Addr} {ox oy : Obj} {od od2 : Option Obj}
theorem neEntryN (hu : A.units < cLine) (X : K.In s.heap) (I : PySem.W.InstAt s.heap x ox C od) (hm : PySem.W.mroIn K C (.type "object") = some true) (hs : PySem.W.findIn K (.ref C) "__eq__" = some (some (.builtin "object.__eq__"))) {Q : Fin → Shared → Prop} (hq : Q (.done (.ret .notImplemented)) s) :
    wpAny (model prog w) A (Builtin.«object.__ne__» ⟨[.ref x, .none], []⟩) Q E s := by
  unfold Builtin.«object.__ne__»
  repeat (first | with_reducible refine wpAny_cRoomFor hu ?_ | with_reducible refine ifBound_objEq X I hs (call_objEq X I hm ?_) | wp_step)
  exact hq
theorem call_objNeN (hu : A.units + 1 < cLine) (X : K.In s.heap) (I : PySem.W.InstAt s.heap x ox C od) (hm : PySem.W.mroIn K C (.type "object") = some true) (hs : PySem.W.findIn K (.ref C) "__eq__" = some (some (.builtin "object.__eq__"))) {Q : Value → Shared → Prop} (hq : Q .notImplemented s) :
    wpAny (model prog w) A (call (.builtin "object.__ne__") [.ref x, .none]) Q E s :=
  wpAny_call (codeAny_call_builtin F.cmp_object.ne.plain F.cmpEntry_ne (PySem.W.check_slot F.cmpKind_ne F.cmpSplit_ne (I.type.andThen (PySem.W.looks_mroIn X hm)) (F.cmpArgs_ne _ _) (neEntryN (A := A.in1) hu X I hm hs hq)))
theorem tn_none (hu : A.units + 1 < cLine) (X : K.In s.heap) (I : PySem.W.InstAt s.heap x ox C od) (hm : PySem.W.mroIn K C (.type "object") = some true) (hs : PySem.W.findIn K (.ref C) "__eq__" = some (some (.builtin "object.__eq__"))) (hn : PySem.W.findIn K (.ref C) "__ne__" = some (some (.builtin "object.__ne__"))) :
    wpAny (model prog w) A (tryCompare (.ref x) "__ne__" .none) (fun r s' => r = none ∧ s' = s) E s := by
  unfold tryCompare
  exact wpAny_bind (ifBound_objNe X I hn (call_objNeN hu X I hm hs (wpAny_pure ⟨rfl, rfl⟩)))
theorem rn_none (hu : A.units + 1 < cLine) (X : K.In s.heap) (I : PySem.W.InstAt s.heap x ox C od) (hm : PySem.W.mroIn K C (.type "object") = some true) (hs : PySem.W.findIn K (.ref C) "__eq__" = some (some (.builtin "object.__eq__"))) (hn : PySem.W.findIn K (.ref C) "__ne__" = some (some (.builtin "object.__ne__"))) {Q : Value → Shared → Prop} (h : Q (.bool true) s) :
    wpAny (model prog w) A (richCompare .NotEq (.ref x) .none) Q E s := by
  have two : wpAny (model prog w) A (tryCompare .none "__ne__" (.ref x)) (fun r s' => r = none ∧ s' = s) E s :=
    wpAny_tryCompare_declines (show s.TypeIs .none "NoneType" from rfl) F.slot_NoneType_ne_refl (call_gives F.slot_NoneType_ne_refl rfl F.entry_NoneType_ne (F.args_NoneType_ne_2 _ _) (NoneType___ne___none_ref_0 x) ⟨rfl, rfl, rfl⟩)
  simp only [richCompare, cmpInfo_NotEq, oneThing_ref]
  refine wpAny_holding (wpAny_bind (wpAny_cRoomFor (Nat.lt_of_succ_lt hu) ?_))
  refine wpAny_bind (I.type.here ?_)
  refine wpAny_bind (wpAny_typeOf (show s.TypeIs .none "NoneType" from rfl) ?_)
  split
  · refine wpAny_bind ((PySem.W.looks_subIn X sub_none).here ?_)
    simp only [Bool.false_eq_true, if_false, Bool.not_false, if_true]
    refine wpAny_bind (m := tryCompare (.ref x) _ .none) (wpAny_mono (tn_none hu X I hm hs hn) (fun r s1 z => ?_) fun _ _ e => e)
    obtain ⟨z1, z2⟩ := z
    subst z1
    subst z2
    refine wpAny_bind (m := tryCompare .none _ (.ref x)) (wpAny_mono two (fun r s2 z => ?_) fun _ _ e => e)
    obtain ⟨z1, z2⟩ := z
    subst z1
    subst z2
    exact wpAny_bind (wpAny_rule (wpAny_bind (wpAny_of_eq (rfl : isSame (.ref x) .none = pure false) (wpAny_pure h))))
  · rename_i q
    exact absurd (by simp) q
end
end HN

/-! x in [..], x != y: x an instance without an own __eq__, the others None, texts, instances with an own __eq__ -/
namespace HN
open PySem PySem.Spec PyProof.Rows PySem.SeqAt GQ
open AutoSeq1 (wpAny_loadPart')
open MeetsSeq MeetsSeq2 MeetsSeq3 SeqRoads2
section
variable {prog : Program} {w : World} {A : Around} {R : Result → Shared → Prop}
/-- no item is found equal; the list is read anew at each turn -/
def ListN (prog : Program) (w : World) (A : Around) (E : Value → Shared → Prop) (l : Addr) (x : Value) (N : Nat) (I : Nat → Shared → Prop) : Prop :=
  ∀ i s, I i s → ∃ (items : Array Value) (n : Nat) (dd : Option Addr) (sl : Array (Option Value)), s.heap.get? l = some { cls := .type "list", dict := dd, data := .seq items n, slots := sl } ∧ items.size = N ∧
    ∀ (h1 : i < items.size), wpAny (model prog w) A.in1 (eqBool items[i] x) (fun r s' => r = false ∧ I (i + 1) s') E s
theorem in_loopN (l : Addr) (x : Value) (N : Nat) (I : Nat → Shared → Prop) (hl : ListN prog w A (fun e s' => R (.error e) s') l x N I)
    (fin : ∀ s, I N s → R (.ok (.ret (.bool false))) s) (k : Nat) :
    ∀ i : Nat, N - i = k → i ≤ N → ∀ s, I i s →
      wpAny (model prog w) A.in1 (Builtin.«list.__contains__.loop» ⟨[.ref l, x, rawInt i], []⟩) (FinOf prog w A R) (fun e s' => R (.error e) s') s := by
  induction k with
  | zero =>
    intro i hk hi s h
    obtain ⟨items, n, dd, sl, hl1, hs1, _⟩ := hl _ _ h
    have hi' : i = N := by omega
    have hR : R (.ok (.ret (.bool false))) s := fin s (hi' ▸ h)
    obtain ⟨hp, g, d, tk, os⟩ := s
    wp_walk using wpAny_loadPart' hl1
    have hi1 : items[((i : Nat) : Int).toNat]? = none := by simp; omega
    rw [hi1]
    wp_walk
    exact hR
  | succ k ih =>
    intro i hk hi s h
    obtain ⟨items, n, dd, sl, hl1, hs1, turn⟩ := hl _ _ h
    have hlt : i < items.size := by omega
    have ht := turn hlt
    obtain ⟨hp, g, d, tk, os⟩ := s
    wp_walk using wpAny_loadPart' hl1
    have hi1 : items[((i : Nat) : Int).toNat]? = some items[i] := by simp [hlt]
    have hc : ((i : Int) + 1) = ((i + 1 : Nat) : Int) := by omega
    rw [hi1]
    refine wpAny_bind (wpAny_mono ht (fun r s2 h2 => ?_) fun _ _ x => x)
    obtain ⟨hr, h2⟩ := h2
    subst hr
    have hrec := ih (i + 1) (by omega) (by omega) s2 h2
    obtain ⟨hp2, g2, d2, tk2, os2⟩ := s2
    wp_walk
    rw [hc]
    exact ⟨plainId_quiet plain_contains_loop _, codeAny_builtin entry_contains_loop (by
      rw [Around.under_plainId plain_contains_loop _]
      exact hrec)⟩
theorem in_listN (l : Addr) (x : Value) (N : Nat) (I : Nat → Shared → Prop) (hl : ListN prog w A (fun e s' => R (.error e) s') l x N I)
    (fin : ∀ s, I N s → R (.ok (.ret (.bool false))) s) {s : Shared} (h : I 0 s) :
    wpAny (model prog w) A.in1 (Builtin.«list.__contains__» ⟨[.ref l, x], []⟩) (FinOf prog w A R) (fun e s' => R (.error e) s') s := by
  obtain ⟨items, n, dd, sl, hl1, hs1, _⟩ := hl _ _ h
  have hrec := in_loopN (A := A) (R := R) l x N I hl fin _ 0 rfl (Nat.zero_le _) s h
  obtain ⟨hp, g, d, tk, os⟩ := s
  wp_walk using wpAny_loadPart' hl1
  exact ⟨plainId_quiet plain_contains_loop _, codeAny_builtin entry_contains_loop (by
    rw [Around.under_plainId plain_contains_loop _]
    exact hrec)⟩
end
section
variable {prog : Program} {w : World} {A : Around} {E : Value → Shared → Prop} {s : Shared}
theorem op_inN {l : Addr} {x : Value} {N : Nat} {Q : Value → Shared → Prop} (I : Nat → Shared → Prop) (hl : ListN prog w A E l x N I)
    (fin : ∀ s, I N s → Q (.bool false) s) (h : I 0 s) : wpAny (model prog w) A (compareOp .In x (.ref l)) Q E s := by
  obtain ⟨items, n, dd, sl, hl1, _, _⟩ := hl _ _ h
  show wpAny _ A (do return .bool (← contains (.ref l) x)) Q E s
  refine wpAny_bind (wpAny_contains_slot ⟨_, hl1, rfl⟩ F.slot_list_contains (wpAny_mono (call_here F.slot_list_contains ⟨_, hl1, rfl⟩ F.entry_list_contains (F.args_list_contains_2 _ _) (Q := fun v s' => v = .bool false ∧ Q (.bool false) s') ?_) (fun v s' hv => ?_) fun _ _ e => e))
  · exact in_listN (R := wants (fun v s' => v = .bool false ∧ Q (.bool false) s') E) l x N I hl (fun s' q => ⟨rfl, fin s' q⟩) h
  · obtain ⟨rfl, hq⟩ := hv
    exact wpAny_truthy_bool (wpAny_pure hq)
end
section
variable {M : Model} {prog : Program} {w : World} {A : Around} {E : Value → Shared → Prop} {s : Shared} {K : PySem.W.Frag} {x y C D : Addr} {ox oy : Obj} {od od2 : Option Obj} {t : Str} {u : Tok}
/-- str.__eq__, str.__ne__ decline an instance that is no text -/
theorem call_strEq (hx : s.heap.get? x = some ox) (hd : ox.data = .plain) : wpAny (model prog w) A (call (.builtin "str.__eq__") [.str t u, .ref x]) (fun v s' => v = .notImplemented ∧ s' = s) E s := by
  refine call_here F.slot_str_eq_refl (typeIs_str s t u) F.entry_str_eq (F.args_str_eq_2 _ _) ?_
  obtain ⟨hp, g, d, tk, os⟩ := s
  wp_walk using wpAny_load' hx
  rw [hd]
  wp_walk
  exact ⟨rfl, rfl⟩
theorem call_strNe (hx : s.heap.get? x = some ox) (hd : ox.data = .plain) : wpAny (model prog w) A (call (.builtin "str.__ne__") [.str t u, .ref x]) (fun v s' => v = .notImplemented ∧ s' = s) E s := by
  refine call_here F.slot_str_ne_refl (typeIs_str s t u) F.entry_str_ne (F.args_str_ne_2 _ _) ?_
  obtain ⟨hp, g, d, tk, os⟩ := s
  wp_walk using wpAny_load' hx
  rw [hd]
  wp_walk
  exact ⟨rfl, rfl⟩
/-- what object.__eq__ declines -/
def Apart (x : Addr) (v : Value) : Prop := isSame (.ref x) v = pure false
theorem apart_non : Apart x .none := rfl
theorem apart_str : Apart x (.str t u) := rfl
theorem entry_ap {v : Value} (ap : Apart x v) {Q : Fin → Shared → Prop} (hq : Q (.done (.ret .notImplemented)) s) : wpAny M A (Builtin.«object.__eq__» ⟨[.ref x, v], []⟩) Q E s := by
  have is : ∀ {R : Bool → Shared → Prop}, R false s → wpAny M A (isSame (.ref x) v) R E s := fun h => wpAny_of_eq ap h
  unfold Builtin.«object.__eq__»
  repeat (first | with_reducible refine is ?_ | wp_step)
  exact hq
theorem call_objEqA {v : Value} (ap : Apart x v) {Q : Value → Shared → Prop} (X : K.In s.heap) (I : PySem.W.InstAt s.heap x ox C od) (hm : PySem.W.mroIn K C (.type "object") = some true) (hq : Q .notImplemented s) :
    wpAny (model prog w) A (call (.builtin "object.__eq__") [.ref x, v]) Q E s :=
  wpAny_call (codeAny_call_builtin F.cmp_object.eq.plain F.cmpEntry_eq (PySem.W.check_slot F.cmpKind_eq F.cmpSplit_eq (I.type.andThen (PySem.W.looks_mroIn X hm)) (F.cmpArgs_eq _ _) (entry_ap ap hq)))
theorem tc_ap {v : Value} (ap : Apart x v) (X : K.In s.heap) (I : PySem.W.InstAt s.heap x ox C od) (hm : PySem.W.mroIn K C (.type "object") = some true) (hs : PySem.W.findIn K (.ref C) "__eq__" = some (some (.builtin "object.__eq__"))) : wpAny (model prog w) A (tryCompare (.ref x) "__eq__" v) (fun r s' => r = none ∧ s' = s) E s := by
  unfold tryCompare
  exact wpAny_bind (ifBound_objEq X I hs (call_objEqA ap X I hm (wpAny_pure ⟨rfl, rfl⟩)))
theorem neEntryA {v : Value} (ap : Apart x v) (hu : A.units < cLine) (X : K.In s.heap) (I : PySem.W.InstAt s.heap x ox C od) (hm : PySem.W.mroIn K C (.type "object") = some true) (hs : PySem.W.findIn K (.ref C) "__eq__" = some (some (.builtin "object.__eq__"))) {Q : Fin → Shared → Prop} (hq : Q (.done (.ret .notImplemented)) s) :
    wpAny (model prog w) A (Builtin.«object.__ne__» ⟨[.ref x, v], []⟩) Q E s := by
  unfold Builtin.«object.__ne__»
  repeat (first | with_reducible refine wpAny_cRoomFor hu ?_ | with_reducible refine ifBound_objEq X I hs (call_objEqA ap X I hm ?_) | wp_step)
  exact hq
theorem call_objNeA {v : Value} (ap : Apart x v) (hu : A.units + 1 < cLine) (X : K.In s.heap) (I : PySem.W.InstAt s.heap x ox C od) (hm : PySem.W.mroIn K C (.type "object") = some true) (hs : PySem.W.findIn K (.ref C) "__eq__" = some (some (.builtin "object.__eq__"))) {Q : Value → Shared → Prop} (hq : Q .notImplemented s) :
    wpAny (model prog w) A (call (.builtin "object.__ne__") [.ref x, v]) Q E s :=
  wpAny_call (codeAny_call_builtin F.cmp_object.ne.plain F.cmpEntry_ne (PySem.W.check_slot F.cmpKind_ne F.cmpSplit_ne (I.type.andThen (PySem.W.looks_mroIn X hm)) (F.cmpArgs_ne _ _) (neEntryA (A := A.in1) ap hu X I hm hs hq)))
theorem tn_ap {v : Value} (ap : Apart x v) (hu : A.units + 1 < cLine) (X : K.In s.heap) (I : PySem.W.InstAt s.heap x ox C od) (hm : PySem.W.mroIn K C (.type "object") = some true) (hs : PySem.W.findIn K (.ref C) "__eq__" = some (some (.builtin "object.__eq__"))) (hn : PySem.W.findIn K (.ref C) "__ne__" = some (some (.builtin "object.__ne__"))) :
    wpAny (model prog w) A (tryCompare (.ref x) "__ne__" v) (fun r s' => r = none ∧ s' = s) E s := by
  unfold tryCompare
  exact wpAny_bind (ifBound_objNe X I hn (call_objNeA ap hu X I hm hs (wpAny_pure ⟨rfl, rfl⟩)))
/-- None == x, a text == x: the left side declines, then x -/
theorem rcL_ap {T : String} {v : Value} (ap : isSame v (.ref x) = pure false) (ap2 : Apart x v) (one : oneThing? .Eq v (.ref x) = none) (hT : s.TypeIs v T) (hu : A.units < cLine) (X : K.In s.heap) (I : PySem.W.InstAt s.heap x ox C od) (hm : PySem.W.mroIn K C (.type "object") = some true) (hs : PySem.W.findIn K (.ref C) "__eq__" = some (some (.builtin "object.__eq__")))
    (hsub : PySem.W.subIn K (.ref C) (.type T) = some false) (two : ∀ E, wpAny (model prog w) A (tryCompare v "__eq__" (.ref x)) (fun r s' => r = none ∧ s' = s) E s)
    {Q : Value → Shared → Prop} (h : Q (.bool false) s) : wpAny (model prog w) A (richCompare .Eq v (.ref x)) Q E s := by
  simp only [richCompare, cmpInfo_Eq, one]
  refine wpAny_holding (wpAny_bind (wpAny_cRoomFor hu ?_))
  refine wpAny_bind (wpAny_typeOf hT ?_)
  refine wpAny_bind (I.type.here ?_)
  split
  · refine wpAny_bind ((PySem.W.looks_subIn X hsub).here ?_)
    simp only [Bool.false_eq_true, if_false, Bool.not_false, if_true]
    refine wpAny_bind (m := tryCompare v _ (.ref x)) (wpAny_mono (two _) (fun r s1 z => ?_) fun _ _ e => e)
    obtain ⟨z1, z2⟩ := z
    subst z1
    subst z2
    refine wpAny_bind (m := tryCompare (.ref x) _ v) (wpAny_mono (tc_ap ap2 X I hm hs) (fun r s2 z => ?_) fun _ _ e => e)
    obtain ⟨z1, z2⟩ := z
    subst z1
    subst z2
    exact wpAny_bind (wpAny_rule (wpAny_bind (wpAny_of_eq ap (wpAny_pure h))))
  · rename_i q
    exact absurd (by simp) q
/-- x != a text -/
theorem rn_str (hd : ox.data = .plain) (hu : A.units + 1 < cLine) (X : K.In s.heap) (I : PySem.W.InstAt s.heap x ox C od) (hm : PySem.W.mroIn K C (.type "object") = some true) (hs : PySem.W.findIn K (.ref C) "__eq__" = some (some (.builtin "object.__eq__"))) (hn : PySem.W.findIn K (.ref C) "__ne__" = some (some (.builtin "object.__ne__")))
    (hsub : PySem.W.subIn K (.type "str") (.ref C) = some false) {Q : Value → Shared → Prop} (h : Q (.bool true) s) :
    wpAny (model prog w) A (richCompare .NotEq (.ref x) (.str t u)) Q E s := by
  have two : wpAny (model prog w) A (tryCompare (.str t u) "__ne__" (.ref x)) (fun r s' => r = none ∧ s' = s) E s :=
    wpAny_tryCompare_declines (typeIs_str s t u) F.slot_str_ne_refl (wpAny_mono (call_strNe I.at_ hd) (fun v s' z => ⟨z.1, rfl, z.2⟩) fun _ _ e => e)
  simp only [richCompare, cmpInfo_NotEq, oneThing_ref]
  refine wpAny_holding (wpAny_bind (wpAny_cRoomFor (Nat.lt_of_succ_lt hu) ?_))
  refine wpAny_bind (I.type.here ?_)
  refine wpAny_bind (wpAny_typeOf (typeIs_str s t u) ?_)
  split
  · refine wpAny_bind ((PySem.W.looks_subIn X hsub).here ?_)
    simp only [Bool.false_eq_true, if_false, Bool.not_false, if_true]
    refine wpAny_bind (m := tryCompare (.ref x) _ (.str t u)) (wpAny_mono (tn_ap apart_str hu X I hm hs hn) (fun r s1 z => ?_) fun _ _ e => e)
    obtain ⟨z1, z2⟩ := z
    subst z1
    subst z2
    refine wpAny_bind (m := tryCompare (.str t u) _ (.ref x)) (wpAny_mono two (fun r s2 z => ?_) fun _ _ e => e)
    obtain ⟨z1, z2⟩ := z
    subst z1
    subst z2
    exact wpAny_bind (wpAny_rule (wpAny_bind (wpAny_of_eq (rfl : isSame (.ref x) (.str t u) = pure false) (wpAny_pure h))))
  · rename_i q
    exact absurd (by simp) q
/-- x != y, y with an own __eq__: x declines, then y is asked -/
theorem rn_own {f : Addr} {Q : Value → Shared → Prop} (hu : A.units + 1 < cLine) (X : K.In s.heap) (I : PySem.W.InstAt s.heap x ox C od) (J : PySem.W.InstAt s.heap y oy D od2) (hCD : C ≠ D) (hm : PySem.W.mroIn K C (.type "object") = some true) (hs : PySem.W.findIn K (.ref C) "__eq__" = some (some (.builtin "object.__eq__"))) (hn : PySem.W.findIn K (.ref C) "__ne__" = some (some (.builtin "object.__ne__")))
    (hsub : PySem.W.subIn K (.ref D) (.ref C) = some false) (hN : PySem.W.findIn K (.ref D) "__ne__" = some (some (.builtin "object.__ne__"))) (hmD : PySem.W.mroIn K D (.type "object") = some true)
    (hsD : PySem.W.findIn K (.ref D) "__eq__" = some (some (.ref f))) (hf : PySem.W.isFn K (.ref f) = true)
    (h : wpAny (model prog w) A.in1 (call (.ref f) [.ref y, .ref x]) (PySem.W.NeBack Q) E s) : wpAny (model prog w) A (richCompare .NotEq (.ref x) (.ref y)) Q E s := by
  have hxy : x ≠ y := fun z => hCD (by
    subst z
    have e := I.at_.symm.trans J.at_
    cases e
    have c := I.cls.symm.trans J.cls
    cases c
    rfl)
  have two : wpAny (model prog w) A (tryCompare (.ref y) "__ne__" (.ref x)) (fun r s' => ∃ v, r = some v ∧ Q v s') E s := by
    unfold tryCompare
    refine wpAny_bind <| PySem.W.gm_ifBound X J hN PySem.F.cmp_object.ne.bind ?_
    refine wpAny_mono (PySem.W.gm_objNe (Q := fun v s' => (∃ r, v = .bool r) ∧ Q v s') hu X J hmD hsD hf (wpAny_mono h (fun v s' hv => ?_) fun _ _ e => e)) (fun v s' hv => ?_) fun _ _ e => e
    · obtain ⟨r, e, hv⟩ := hv
      exact ⟨r, e, ⟨_, rfl⟩, hv⟩
    · obtain ⟨⟨r, rfl⟩, hv⟩ := hv
      exact wpAny_pure ⟨_, rfl, hv⟩
  simp only [richCompare, cmpInfo_NotEq, oneThing_ref]
  refine wpAny_holding (wpAny_bind (wpAny_cRoomFor (Nat.lt_of_succ_lt hu) ?_))
  refine wpAny_bind (I.type.here ?_)
  refine wpAny_bind (J.type.here ?_)
  split
  · refine wpAny_bind ((PySem.W.looks_subIn X hsub).here ?_)
    simp only [Bool.false_eq_true, if_false, Bool.not_false, if_true]
    refine wpAny_bind (m := tryCompare (.ref x) _ (.ref y)) (wpAny_mono (tn_other hu X I J.at_ hxy hm hs hn) (fun r s1 z => ?_) fun _ _ e => e)
    obtain ⟨z1, z2⟩ := z
    subst z1
    subst z2
    refine wpAny_bind (m := tryCompare (.ref y) _ (.ref x)) (wpAny_mono two (fun r s2 z => ?_) fun _ _ e => e)
    obtain ⟨v, z1, z2⟩ := z
    subst z1
    exact wpAny_pure z2
  · rename_i q
    exact absurd (by simp [hCD]) q
end
end HN

/-! x in [..], x != y, x an instance without an own __eq__: readings -/
namespace L2
open PySem PySem.Spec PyProof.Rows
/-- == gives False for what D says, and only makes objects -/
def NeG (X : Cx) (n : Nat) (D : Eqv) : Prop :=
  ∀ (A : Around) (pins : List (Addr × Obj)) (s : Shared) (σ : St) (H : Hp) (x y : V) (u v : Value), Sub X n A → Inv X pins σ H s → RelV x u → RelV y v → D x y H →
    wpAny (model X.prog X.w) A (eqBool u v) (fun r s' => r = false ∧ ∃ H', Inv X pins σ H' s' ∧ Ext H H') X.xe s
theorem NeG.or {X : Cx} {n : Nat} {D D' : Eqv} (h : NeG X n D) (h' : NeG X n D') : NeG X n (fun x y H => D x y H ∨ D' x y H) := fun A pins s σ H x y u v sb I rx ry d => by
  rcases d with d | d
  · exact h A pins s σ H x y u v sb I rx ry d
  · exact h' A pins s σ H x y u v sb I rx ry d
/-- != gives True for an instance of C and what D says -/
def NrG (X : Cx) (C : Addr) (D : Eqv) : Prop :=
  ∀ (pins : List (Addr × Obj)) (s : Shared) (σ : St) (H : Hp) (a : Addr) (y : V) (u : Value), Inv X pins σ H s → PlainAt X.K C H a → RelV y u → D y (.ref a) H →
    wpAny (model X.prog X.w) X.A (richCompare .NotEq (.ref a) u) (fun v s' => v = .bool true ∧ ∃ H', Inv X pins σ H' s' ∧ Ext H H') X.xe s
theorem NrG.or {X : Cx} {C : Addr} {D D' : Eqv} (h : NrG X C D) (h' : NrG X C D') : NrG X C (fun x y H => D x y H ∨ D' x y H) := fun pins s σ H a y u I p r d => by
  rcases d with d | d
  · exact h pins s σ H a y u I p r d
  · exact h' pins s σ H a y u I p r d
structure PlainT (K : PySem.W.Frag) (C : Addr) : Prop where
  tN : PySem.W.subIn K (.ref C) (.type "NoneType") = some false
  tS : PySem.W.subIn K (.ref C) (.type "str") = some false
  sS : PySem.W.subIn K (.type "str") (.ref C) = some false
/-- None or a text, and an instance of C -/
def DFlat0 (K : PySem.W.Frag) (C : Addr) : Eqv := fun x y H => (x = .non ∨ ∃ t, x = .str t) ∧ ∃ a, y = .ref a ∧ PlainAt K C H a
/-- an instance of D, whose own == gives False, and an instance of C -/
def DOwn (K : PySem.W.Frag) (C D : Addr) (sp : Sp) : Eqv := fun x y H => ∃ b dx fs a, x = .ref b ∧ H b = some (.ins D dx fs) ∧ y = .ref a ∧ PlainAt K C H a ∧ ∀ H', Ext H H' → sp [.ref b, .ref a] H' (fun v H'' => v = .bl false ∧ Ext H' H'') (fun _ _ _ => False)
theorem PlainAt.ext {K : PySem.W.Frag} {C : Addr} {H H' : Hp} {a : Addr} (h : PlainAt K C H a) (e : Ext H H') : PlainAt K C H' a := let ⟨dx, fs, q⟩ := h; ⟨dx, fs, e _ _ q⟩
theorem mon_flat0 {K : PySem.W.Frag} {C : Addr} : Mon (DFlat0 K C) := fun x y H H' e ⟨h, a, ey, p⟩ => ⟨h, a, ey, p.ext e⟩
theorem mon_own {K : PySem.W.Frag} {C D : Addr} {sp : Sp} : Mon (DOwn K C D sp) := fun x y H H' e ⟨b, dx, fs, a, ex, hb, ey, p, q⟩ => ⟨b, dx, fs, a, ex, e _ _ hb, ey, p.ext e, fun H2 e2 => q H2 (e.trans e2)⟩
section
variable {X : Cx} {C D : Addr} {n : Nat}
theorem neG_flat0 (T : PlainC X.K C) (T2 : PlainT X.K C) : NeG X 0 (DFlat0 X.K C) := by
  intro A pins s σ H x y u v sb I rx ry d
  obtain ⟨hx, a, ey, dx, fs, ha⟩ := d
  subst ey
  cases ry
  obtain ⟨mA, O, _⟩ := ins_get I.hok ha
  obtain ⟨od, J, _⟩ := O.look
  have hu := sb.room.units0
  rcases hx with rfl | ⟨t, rfl⟩
  · cases rx
    unfold eqBool
    refine wpAny_holding ?_
    refine wpAny_ite_split (fun hab => absurd (eq_of_beq hab) nofun) (fun _ => ?_)
    exact wpAny_bind (HN.rcL_ap (T := "NoneType") rfl HN.apart_non ((show s.TypeIs .none "NoneType" from rfl).oneThing_none _ _) (show s.TypeIs .none "NoneType" from rfl) hu I.kIn J T.ob T.eq T2.tN
      (fun E => wpAny_tryCompare_declines (show s.TypeIs .none "NoneType" from rfl) F.slot_NoneType_eq_refl (call_gives F.slot_NoneType_eq_refl rfl F.entry_NoneType_eq (F.args_NoneType_eq_2 _ _) (SeqAt.NoneType___eq___none_ref_0 a) ⟨rfl, rfl, rfl⟩))
      (wpAny_truthy_bool ⟨rfl, H, I, Ext.rfl'⟩))
  · obtain ⟨k, rfl⟩ := rx
    unfold eqBool
    refine wpAny_holding ?_
    refine wpAny_ite_split (fun hab => absurd (eq_of_beq hab) nofun) (fun _ => ?_)
    exact wpAny_bind (HN.rcL_ap (T := "str") rfl HN.apart_str ((typeIs_str s t k).oneThing_none _ _) (typeIs_str s t k) hu I.kIn J T.ob T.eq T2.tS
      (fun E => wpAny_tryCompare_declines (typeIs_str s t k) F.slot_str_eq_refl (wpAny_mono (HN.call_strEq J.at_ rfl) (fun v s' z => ⟨z.1, rfl, z.2⟩) fun _ _ e => e))
      (wpAny_truthy_bool ⟨rfl, H, I, Ext.rfl'⟩))
theorem nrG_flat0 (hu : X.A.units + 1 < cLine) (T : PlainC X.K C) (T2 : PlainT X.K C) : NrG X C (DFlat0 X.K C) := by
  intro pins s σ H a y u I p r d
  obtain ⟨hx, _, _, _⟩ := d
  obtain ⟨dx, fs, ha⟩ := p
  obtain ⟨mA, O, _⟩ := ins_get I.hok ha
  obtain ⟨od, J, _⟩ := O.look
  rcases hx with rfl | ⟨t, rfl⟩
  · cases r
    exact HN.rn_none hu I.kIn J T.ob T.eq T.ne ⟨rfl, H, I, Ext.rfl'⟩
  · obtain ⟨k, rfl⟩ := r
    exact HN.rn_str rfl hu I.kIn J T.ob T.eq T.ne T2.sS ⟨rfl, H, I, Ext.rfl'⟩
theorem neG_own {CX : CXT} {f : Addr} {fd : FuncData} {ps : List Str} {sp : Sp} (G : FnOk X.prog X.w X.K X.mg X.base CX n f fd ps sp) (hs : PySem.W.findIn X.K (.ref D) "__eq__" = some (some (.ref f))) (hf : PySem.W.isFn X.K (.ref f) = true)
    (hb : Binds X.K fd ps []) (hx : Passes CX X (fun _ _ _ => False)) (hn : PySem.W.notFirst X.K D (.ref C) = true) (hCD : D ≠ C) : NeG X n (DOwn X.K C D sp) := by
  intro A pins s σ H x y u v sb I rx ry d
  obtain ⟨b, dx, fs, a, ex, hb', ey, ⟨dy, fs2, ha⟩, q⟩ := d
  subst ex
  subst ey
  cases rx
  cases ry
  obtain ⟨mA, O, _⟩ := ins_get I.hok hb'
  obtain ⟨od, J, _⟩ := O.look
  obtain ⟨mB, O2, _⟩ := ins_get I.hok ha
  obtain ⟨od2, J2, _⟩ := O2.look
  obtain ⟨m, hF⟩ := I.fr
  have hne : b ≠ a := fun z => by
    subst z
    rw [hb'] at ha
    cases ha
    exact hCD rfl
  refine GQ.eqBool_refG hne ?_
  refine PySem.W.cmp_K (op := .Eq) sb.room.units0 hF I.ok.mod.kin J J2.type hn hs hf ?_
  refine wpAny_mono (gm_call sb I G hb hx (vs := [.ref b, .ref a]) (us := [.ref b, .ref a]) (.cons rfl (.cons rfl .nil)) (q H Ext.rfl')) (fun z s' hz => ?_) fun _ _ e => e
  obtain ⟨z', H', I', rz, e1, e2⟩ := hz
  subst e1
  cases rz
  exact ⟨false, rfl, rfl, H', I', e2⟩
theorem nrG_own {CX : CXT} {f : Addr} {fd : FuncData} {ps : List Str} {sp : Sp} (hr : Room (n + 1) X.A) (G : FnOk X.prog X.w X.K X.mg X.base CX n f fd ps sp) (hs : PySem.W.findIn X.K (.ref D) "__eq__" = some (some (.ref f))) (hf : PySem.W.isFn X.K (.ref f) = true)
    (hN : PySem.W.findIn X.K (.ref D) "__ne__" = some (some (.builtin "object.__ne__"))) (hm : PySem.W.mroIn X.K D (.type "object") = some true)
    (hb : Binds X.K fd ps []) (hx : Passes CX X (fun _ _ _ => False)) (hsub : PySem.W.subIn X.K (.ref D) (.ref C) = some false) (hCD : D ≠ C) (T : PlainC X.K C) : NrG X C (DOwn X.K C D sp) := by
  intro pins s σ H a y u I p r d
  obtain ⟨b, dx, fs, a', ey, hb', ea, _, q⟩ := d
  cases ea
  subst ey
  cases r
  obtain ⟨dy, fs2, ha⟩ := p
  obtain ⟨mA, O, _⟩ := ins_get I.hok hb'
  obtain ⟨od, J, _⟩ := O.look
  obtain ⟨mB, O2, _⟩ := ins_get I.hok ha
  obtain ⟨od2, J2, _⟩ := O2.look
  refine HN.rn_own (f := f) (by have := hr.units; omega) I.kIn J2 J (Ne.symm hCD) T.ob T.eq T.ne hsub hN hm hs hf ?_
  refine wpAny_mono (gm_call ⟨hr.in1, rfl⟩ I G hb hx (vs := [.ref b, .ref a]) (us := [.ref b, .ref a]) (.cons rfl (.cons rfl .nil)) (q H Ext.rfl')) (fun z s' hz => ?_) fun _ _ e => e
  obtain ⟨z', H', I', rz, e1, e2⟩ := hz
  subst e1
  cases rz
  exact ⟨false, rfl, rfl, H', I', e2⟩
/-- x in [..] where nothing is equal -/
def rInMix (D : Eqv) : R2 := fun x y H Q => ∃ p xs, y = .ref p ∧ H p = some (.lst xs) ∧ (∀ z ∈ xs, D z x H) ∧ ∀ H', Ext H H' → Q (.bl false) H'
theorem op_inMix {D : Eqv} (hr : Room (n + 1) X.A) (hN : NeG X n D) (hD : Mon D) : OpR X (compareOp .In) (rInMix D) := by
  intro pins s σ H x y u v Q I rx ry h
  obtain ⟨p, xs, rfl, hp, f, q⟩ := h
  cases ry
  refine HN.op_inN (N := xs.length) (fun _ s' => ∃ H', Inv X pins σ H' s' ∧ Ext H H') (fun i s' z => ?_) (fun s' z => ?_) ⟨H, I, Ext.rfl'⟩
  · obtain ⟨H', I', e⟩ := z
    obtain ⟨its, rv, hl, _⟩ := I'.list (SqL.of (e _ _ hp))
    obtain ⟨⟨cls, dd, data, sl⟩, ho, hc, m, hd⟩ := _root_.id hl.isList
    simp only at hc hd
    subst hc hd
    refine ⟨its.toArray, m, dd, sl, ho, by simpa using rv.length.symm, fun h1 => ?_⟩
    have h2 : i < its.length := by simpa using h1
    have h3 : i < xs.length := by rw [rv.length]; exact h2
    obtain ⟨u', e1, e2⟩ := rv.get (List.getElem?_eq_getElem h3)
    have e3 : its.toArray[i] = u' := by
      rw [List.getElem?_eq_getElem h2] at e1
      simpa using e1
    rw [e3]
    refine wpAny_mono (hN X.A.in1 pins s' σ H' xs[i] x u' u ⟨hr.in1, rfl⟩ I' e2 rx (hD _ _ _ _ e (f _ (List.getElem_mem h3)))) (fun r s2 z => ?_) fun _ _ x => x
    obtain ⟨z1, H2, I2, e4⟩ := z
    exact ⟨z1, H2, I2, e.trans e4⟩
  · obtain ⟨H', I', e⟩ := z
    exact ⟨.bl false, H', I', rfl, q _ e⟩
def rNeMix (K : PySem.W.Frag) (C : Addr) (D : Eqv) : R2 := fun x y H Q => ∃ a, x = .ref a ∧ PlainAt K C H a ∧ D y x H ∧ ∀ H', Ext H H' → Q (.bl true) H'
theorem op_neMix {D : Eqv} (hN : NrG X C D) : OpR X (compareOp .NotEq) (rNeMix X.K C D) := by
  intro pins s σ H x y u v Q I rx ry h
  obtain ⟨a, rfl, pa, d, q⟩ := h
  cases rx
  refine wpAny_mono (hN pins s σ H a y v I pa ry d) (fun r s2 z => ?_) fun _ _ x => x
  obtain ⟨z1, H2, I2, e4⟩ := z
  subst z1
  exact ⟨.bl true, H2, I2, rfl, q _ e4⟩
end
end L2

/-! repr of lists within lists, own instances among their leaves (the loop along the library's, its items' heaps told by Inv) -/
namespace PySem.W
open PySem PySem.Spec PySem.Calls PyProof.Rows Builtin
section
variable {prog : Program} {w : World} {A : Around} {E : Value → Shared → Prop} {s : Shared} {K : Frag} {x C f L : Addr} {ox : Obj} {od : Option Obj} {h₀ : Heap} {m : Str → Option Value}
theorem ifBoundBy_K {M : Model} {last : Value → List Value → Sem Value} {name : Str} {Q : Option Value → Shared → Prop} (X : K.In s.heap) (I : InstAt s.heap x ox C od) (hs : findIn K (.ref C) name = some (some (.ref f))) (hf : isFn K (.ref f) = true)
    (h : wpAny M A (last (.ref f) [.ref x]) (fun v => Q (some v)) E s) : wpAny M A (callSpecialIfBoundBy? last (.ref x) name) Q E s := by
  simp only [callSpecialIfBoundBy?, bindSpecialIfBound?]
  refine wpAny_holding (wpAny_bind (wpAny_bind (wpAny_bind (I.type.here ((looks_findIn X hs).here ?_)))))
  refine wpAny_bind (wpAny_askSetting (wpAny_ite ?_))
  have fin : wpAny M A (last (.ref f) [.ref x] >>= fun v => pure (some v)) Q E s := wpAny_bind (wpAny_mono h (fun v s' h' => wpAny_pure h') fun _ _ h' => h')
  split
  · exact wpAny_bind ((bind_fn X _ (beq_iff_eq.mp hf)).here (wpAny_pure (by exact fin)))
  · exact wpAny_tryCatch (wpAny_bind ((bind_fn X _ (beq_iff_eq.mp hf)).here (wpAny_pure (by exact fin))))
theorem reprUnder_K {base : Nat} {Q : Value → Shared → Prop} (hu : A.units < cLine) (F : Fr h₀ L s.heap m) (X₀ : K.In h₀) (I : InstAt s.heap x ox C od) (hs : findIn K (.ref C) "__repr__" = some (some (.ref f))) (hf : isFn K (.ref f) = true)
    (h : wpAny (model prog w) A (call (.ref f) [.ref x]) (StrBack Q) E s) : wpAny (model prog w) A (pyReprObjUnder base (.ref x)) Q E s := by
  unfold pyReprObjUnder pyReprObjBy
  refine wpAny_bind (wpAny_cRoomFor hu ?_)
  refine wpAny_bind (wpAny_bind (I.type.here ((looks_findIn (X₀.keeps F.keep) hs).here ?_)))
  show wpAny _ _ (if (some (Value.ref f)).isNone = true then _ else _) _ _ _
  rw [if_neg (by simp)]
  refine wpAny_bind (ifBoundBy_K (name := Str.ofString "__repr__") (X₀.keeps F.keep) I hs hf ?_)
  show wpAny _ _ (call (.ref f) ([.ref x] ++ [])) _ _ _
  refine wpAny_mono h (fun r s' hr => ?_) fun _ _ y => y
  cases r <;> first | exact hr.elim | skip
  refine wpAny_bind (wpAny_isInstance (typeIs_str _ _ _) isSubtype_str_str ?_)
  first
    | exact wpAny_pure hr
    | (rw [if_pos rfl]; exact wpAny_pure hr)
    | (simp only [if_true]; exact wpAny_pure hr)
end
end PySem.W
namespace L2
open PySem PySem.Spec PyProof.Rows
/-- an own instance stands in it: it is no data -/
inductive Odd (H : Hp) : Addr → Prop
  | own {a C dx : Addr} {fs : List (Str × V)} : H a = some (.ins C dx fs) → Odd H a
  | lst {a b : Addr} {xs : List V} : H a = some (.lst xs) → V.ref b ∈ xs → Odd H b → Odd H a
theorem Odd.same {H H' : Hp} {a : Addr} (h : Odd H a) (s : Same H H') : Odd H' a := by
  induction h with
  | own e => exact .own (s _ _ e)
  | lst e m _ ih => exact .lst (s _ _ e) m ih
/-- whose lists are being shown: none of them is data -/
def GOk (g : List Code) (H : Hp) : Prop := ∀ id v rest kw, Code.builtin id ⟨v :: rest, kw⟩ ∈ g → ∃ a, v = .ref a ∧ Odd H a
theorem GOk.same {g : List Code} {H H' : Hp} (h : GOk g H) (s : Same H H') : GOk g H' := fun id v rest kw m => let ⟨a, e, o⟩ := h id v rest kw m; ⟨a, e, o.same s⟩
theorem GOk.nil {H : Hp} : GOk [] H := fun _ _ _ _ m => nomatch m
theorem GOk.cons {g : List Code} {H : Hp} {a : Addr} {id : String} {rest : List Value} {kw : List (Str × Value)} (h : GOk g H) (o : Odd H a) : GOk (.builtin id ⟨.ref a :: rest, kw⟩ :: g) H := by
  intro id' v rest' kw' m
  rcases List.mem_cons.mp m with e | m
  · cases e
    exact ⟨a, rfl, o⟩
  · exact h id' v rest' kw' m
section
variable {X : Cx} {pins : List (Addr × Obj)} {σ : St} {H : Hp} {s : Shared}
theorem reads_mem {h : Heap} {vs : List Value} {ds : List PyData} {as : List Addr} (r : ReadsAll h vs ds as) : ∀ {v}, v ∈ vs → ∃ d bs, Reads h v d bs := by
  induction vs generalizing ds as with
  | nil => intro v m; cases m
  | cons u vs ih =>
    intro v m
    cases r with
    | cons r1 r2 =>
      rcases List.mem_cons.mp m with e | m
      · exact ⟨_, _, e ▸ r1⟩
      · exact ih r2 m
theorem Odd.no {a : Addr} (h : Odd H a) (I : Inv X pins σ H s) : ∀ d as, ¬ Reads s.heap (.ref a) d as := by
  induction h with
  | @own a C dx fs e =>
    intro d as r
    obtain ⟨mA, J, _⟩ := ins_get I.hok e
    have hg := J.obj
    cases r with
    | list h1 h2 _ _ =>
      rw [hg] at h1; cases h1
      have z : Value.ref C = .type "list" := h2
      cases z
    | tuple h1 h2 _ _ =>
      rw [hg] at h1; cases h1
      have z : Value.ref C = .type "tuple" := h2
      cases z
    | dict h1 h2 _ _ _ =>
      rw [hg] at h1; cases h1
      have z : Value.ref C = .type "dict" := h2
      cases z
  | @lst a b xs e m _ ih =>
    intro d as r
    obtain ⟨its, rv, hl, _⟩ := I.list (.inl (.inl e))
    obtain ⟨i, hi⟩ := List.mem_iff_getElem?.mp m
    obtain ⟨u, hu, ru⟩ := rv.get hi
    cases ru
    obtain ⟨o, ho, hc, n, hd⟩ := hl.isList
    cases r with
    | list h1 h2 h3 h4 =>
      rw [ho] at h1; cases h1
      rw [hd] at h3; cases h3
      obtain ⟨d', bs, r'⟩ := reads_mem h4 (List.mem_of_getElem? hu)
      exact ih _ _ r'
    | tuple h1 h2 _ _ => rw [ho] at h1; cases h1; rw [hc] at h2; exact absurd (Value.type.inj h2) (by decide)
    | dict h1 h2 _ _ _ => rw [ho] at h1; cases h1; rw [hc] at h2; exact absurd (Value.type.inj h2) (by decide)
/-- an item's text -/
def RepO (X : Cx) (k : Nat) (as : List Addr) (H : Hp) (x : V) (t : Str) : Prop :=
  ∀ (pins : List (Addr × Obj)) (s : Shared) (σ : St) (H1 : Hp) (u : Value) (A : Around) (g : List Code) (base : Nat) (E : Value → Shared → Prop) (Q : Str → Shared → Prop), Same H H1 → Inv X pins σ H1 s → RelV x u → Sub X k A → A.guards = some g → GOk g H1 → (∀ b ∈ as, Clear g b) → base + t.length ≤ sizeLine →
    (∀ s' H2, Same H1 H2 → Inv X pins σ H2 s' → Q t s') → wpAny (model X.prog X.w) A (pyReprUnder base u) Q E s
theorem RepO.same {k : Nat} {as : List Addr} {H H' : Hp} {x : V} {t : Str} (h : RepO X k as H x t) (e : Same H H') : RepO X k as H' x t :=
  fun pins s σ H1 u A g base E Q e1 => h pins s σ H1 u A g base E Q fun b o z => e1 b o (e b o z)
theorem Dq.same {K : PySem.W.Frag} {H H' : Hp} (e : Same H H') : ∀ {v d}, Dq K H v d → Dq K H' v d
  | _, _, .non => .non
  | _, _, .bl b => .bl b
  | _, _, .int i => .int i
  | _, _, .str x => .str x
  | _, _, .lst h1 h2 => .lst (h1.imp (fun z => z.imp (e _ _) fun ⟨o, z⟩ => ⟨o, e _ _ z⟩) id) (sameAll e h2)
  | _, _, .tup h1 h2 => .tup (h1.imp (fun z => z.imp (e _ _) fun ⟨o, z⟩ => ⟨o, e _ _ z⟩) id) (sameAll e h2)
  | _, _, .dic h1 => .dic (e _ _ h1)
where sameAll {K : PySem.W.Frag} {H H' : Hp} (e : Same H H') : ∀ {vs ds}, DqAll K H vs ds → DqAll K H' vs ds
  | _, _, .nil => .nil
  | _, _, .cons h1 h2 => .cons (Dq.same e h1) (sameAll e h2)
/-- data -/
theorem RepO.data {k : Nat} {H : Hp} {x : V} {d : PyData} (hm : ∃ mm, X.base.Ns sysModules mm) (hd : Dq X.K H x d) (hs : Sh d 16777216 60) : RepO X k [] H x d.shown := by
  intro pins s σ H1 u A g base E Q e I r sub hg hgo _ hb q
  obtain ⟨mm, hm⟩ := hm
  obtain ⟨as, rd, nm⟩ := Dq.reads (hm.keeps I.bk) I d _ _ (Dq.same e hd) r
  obtain ⟨bs, hbs, hk⟩ := ReprAllK.of_readsAll (prog := X.prog) (w := X.w) (.cons rd .nil) (by simpa [PyData.showableAll] using hs.ok) (fun _ => by simpa using nm) (fun t ht => by
    simp only [PyData.shownAll, List.mem_singleton] at ht
    rw [ht, sizeLine_eq]
    exact hs.long)
  simp only [PyData.shownAll] at hk
  cases hk with
  | cons h1 _ =>
    refine h1 base hb A g E s Q hg (fun b hbm => ?_) ?_ (fun _ _ z => z) fun h' tk kp => q _ H1 (fun _ _ z => z) (I.kept (t' := tk) kp)
    · obtain ⟨d', as', r', _⟩ := hbs b hbm
      intro id v rest kw m z
      obtain ⟨a, ea, o⟩ := hgo id v rest kw m
      rw [ea] at z
      cases z
      exact o.no I _ _ r'
    · have h1 := hs.deep
      have h2 := sub.room.un
      simp only [PyData.depthAll]
      omega
/-- an own instance whose class shows itself -/
theorem RepO.own {k n : Nat} {H : Hp} {C f a dx : Addr} {fs : List (Str × V)} {fd : FuncData} {ps : List Str} {sp : Sp} {t : Str} (F : FnOk X.prog X.w X.K X.mg X.base CX0 n f fd ps sp) (hk : n ≤ k) (hs : PySem.W.findIn X.K (.ref C) "__repr__" = some (some (.ref f))) (hf : PySem.W.isFn X.K (.ref f) = true)
    (hb : Binds X.K fd ps []) (ha : H a = some (.ins C dx fs)) (hsp : ∀ H1, Same H H1 → sp [.ref a] H1 (fun v H' => v = .str t ∧ Same H1 H') E0) : RepO X k [] H (.ref a) t := by
  intro pins s σ H1 u A g base E Q e I r sub hg hgo _ hbase q
  cases r
  have ha1 := e _ _ ha
  obtain ⟨mA, J, _⟩ := ins_get I.hok ha1
  obtain ⟨od, J, _⟩ := J.look
  obtain ⟨m, hF⟩ := I.fr
  refine wpAny_pyReprUnder_ref (by omega) (PySem.W.reprUnder_K sub.room.units0 hF I.ok.mod.kin J hs hf ?_)
  have e0 : Env0 X.prog X.w X.K X.mg X.base A X.stack s H1 := by
    have e := I.env0
    exact ⟨by rw [sub.fr]; exact e.frames, e.mod, e.bs, e.bsz, e.funs, e.frf, e.hok, e.bare⟩
  have hl := F.len _ _ _ _ (hsp H1 e)
  refine wpAny_call <| codeAny_mono (F.run A X.stack s H1 ⟨[.ref a], []⟩ [.ref a] [.ref a] _ E0 (sub.room.mono hk) e0 (by
    have := hb s [.ref a] I.kIn (by simpa using hl)
    simpa using this) (.cons rfl .nil) (hsp H1 e)) fun r s' hq => ?_
  cases r with
  | error e => exact hq.elim
  | ok fl =>
    cases fl with
    | ret w =>
      obtain ⟨v, H', I', rv, ev, sm⟩ := I.after hq
      subst ev
      obtain ⟨tk, rfl⟩ := rv
      exact ⟨_, _, rfl, q s' H' sm I'⟩
    | next => exact hq.elim
    | brk => exact hq.elim
    | cont => exact hq.elim
theorem sub_loop {k : Nat} {A : Around} {args : Args} (h : Sub X (k + 1) A) : Sub X k (A.under (.builtin "list.__repr__.loop" args)) := by
  have hd : (A.under (.builtin "list.__repr__.loop" args)).handled = A.handled := rfl
  have e1 : (A.under (.builtin "list.__repr__.loop" args)).depth ≤ A.depth + 1 := by
    first
      | exact Nat.le_succ _
      | exact Nat.le_refl _
      | simp [Around.under, Code.weight, Code.isCreation, Code.isGuard, Code.isCaller, Code.frames, Code.isFrame, guardIds]
  have e2 := units_under_list_loop A args
  have e3 : (A.under (.builtin "list.__repr__.loop" args)).frames = A.frames := by
    first
      | rfl
      | simp [Around.under, Code.envs, pushEnvs]
  obtain ⟨⟨h1, h2, h3⟩, h4⟩ := h
  exact ⟨⟨hd.trans h1, by omega, by rw [e2]; omega⟩, e3.trans h4⟩
/-- the loop over a list's items -/
theorem loopO {a P : Addr} {xs : List V} {ts : List Str} {as : List Addr} {k base : Nat} {A : Around} {g : List Code} (ha : H a = some (.lst xs)) (hodd : Odd H a) (hg : A.guards = some g) (hgo : GOk g H) (hcl : ∀ b ∈ as, Clear g b) (hS : Sub X (k + 1) A) (hna : a ∉ as) (hlen : ts.length = xs.length)
    (hT : ∀ (i : Nat) (x : V), xs[i]? = some x → ∃ t, ts[i]? = some t ∧ RepO X k as H x t) (hsz : base + (listText ts).length ≤ sizeLine) {R : Result → Shared → Prop} :
    ∀ (m i : Nat) (s : Shared) (H1 : Hp) (acc : Array Value) (c : Nat) (done : List (Str × Tok)), xs.length - i = m → i ≤ xs.length → Same H H1 → Inv X pins σ H1 s → FpOk X pins H1 P →
    s.heap.get? P = some { cls := .type "list", dict := none, data := .seq acc c, slots := #[] } → acc.toList = strValues done → done.map (·.1) = ts.take i →
    (∀ s' H2 u, Same H1 H2 → Inv X pins σ H2 s' → R (.ok (.ret (.str (listText ts) u))) s') →
    codeAny (model X.prog X.w) A (.builtin "list.__repr__.loop" ⟨[.ref a, rawInt i, .ref P, rawInt ((base + piled (ts.take i) : Nat) : Int)], []⟩) R s := by
  have hX : (listText ts).length = (textFrom 0 "[" ts).length + 1 := by
    show (textFrom 0 "[" ts ++ "]").length = _
    rw [strLen_append]; rfl
  have hL := textFrom_len ts 0 "["
  have hsz2 : ∀ t ∈ ts, t.length ≤ sizeLine := fun t ht => by
    have h2 := hL.2.1 t ht
    omega
  have hsz1 : ts.length ≤ sizeLine := by
    have h1 := hL.1
    rw [if_neg (Nat.lt_irrefl 0)] at h1
    omega
  have hsz3 : (listText ts).length ≤ sizeLine := by omega
  have hp3 := piled_le_listText ts
  intro m
  induction m with
  | zero =>
    intro i s H1 acc c done hk hi e I fP hP hacc hdone hR
    have hin : i = xs.length := by omega
    obtain ⟨its, rv, hl, _⟩ := I.list (.inl (.inl (e _ _ ha)))
    obtain ⟨o, ho, hc, n, hd⟩ := hl.isList
    have hli := rv.length
    refine codeAny_builtin F.entry_list_repr_loop ?_
    show wpAny _ _ (Builtin.«list.__repr__.loop» ⟨[.ref a, .int i 0, .ref P, .int ((base + piled (ts.take i) : Nat) : Int) 0], []⟩) _ _ s
    rw [repr_loop_tree]
    refine wpAny_bind (wpAny_listItems ho hd ?_)
    have hnone : (its.toArray)[(i : Int).toNat]? = none := by simp [hin]; omega
    simp only [hnone]
    unfold reprEnd
    refine wpAny_bind (wpAny_listItems hP rfl ?_)
    rw [hacc, repr_fold]
    refine wpAny_bind (wpAny_pure ?_)
    have hall : done.map (·.1) = ts := by rw [hdone, hin, ← hlen, List.take_length]
    rw [hall]
    refine wpAny_bind (wpAny_mkStr (wpAny_pure ?_) hsz3)
    exact hR _ H1 _ (fun _ _ z => z) (I.tok _)
  | succ m ih =>
    intro i s H1 acc c done hk hi e I fP hP hacc hdone hR
    have hlt : i < xs.length := by omega
    obtain ⟨its, rv, hl, _⟩ := I.list (.inl (.inl (e _ _ ha)))
    obtain ⟨o, ho, hc, n, hd⟩ := hl.isList
    have hx : xs[i]? = some xs[i] := List.getElem?_eq_getElem hlt
    obtain ⟨t, ht, hrep⟩ := hT i xs[i] hx
    obtain ⟨u, hu, ru⟩ := rv.get hx
    have hp1 := piled_take_succ ht
    have hp2 := piled_take_le ts (i + 1)
    refine codeAny_builtin F.entry_list_repr_loop ?_
    show wpAny _ _ (Builtin.«list.__repr__.loop» ⟨[.ref a, .int i 0, .ref P, .int ((base + piled (ts.take i) : Nat) : Int) 0], []⟩) _ _ s
    rw [repr_loop_tree]
    refine wpAny_bind (wpAny_listItems ho hd ?_)
    have hsome : (its.toArray)[(i : Int).toNat]? = some u := by simpa using hu
    simp only [hsome]
    rw [Int.toNat_natCast]
    have Ip := I.pinned (fp := [P]) (fun b hb => by rw [List.mem_singleton.mp hb]; exact fP) (fun b hb => by rw [List.mem_singleton.mp hb]; exact ⟨_, hP, fun v z => by cases z⟩)
    refine wpAny_bind (wpAny_holding (hrep _ s σ H1 u _ _ (base + piled (ts.take i) + 1) _ _ e Ip ru (sub_loop hS) (guards_under_guard (isGuard_list_loop _) hg) ((hgo.same e).cons (hodd.same e)) (fun b hb => (hcl b hb).cons (a := a) fun z => hna (z ▸ hb)) (by omega) fun s2 H2 e2 I2 => ?_))
    have pP := I2.pin (P, _) (List.mem_append_right _ (List.mem_append_right _ (mem_pinsAt (List.mem_singleton.mpr rfl) hP)))
    have I2' := I2.unpinned
    have f2 : FpOk X pins H2 P := ⟨pP.2.1, fP.2⟩
    refine wpAny_bind (wpAny_mkStr ?_ (hsz2 t (List.mem_of_getElem? ht)))
    refine wpAny_bind ?_
    show wpAny _ _ (updateSeq P _) _ _ _
    have hasz : acc.size ≤ sizeLine := by
      have e1 : acc.toList.length = acc.size := by simp
      have e2 : (strValues done).length = done.length := by simp [strValues]
      have e3 : done.length = (ts.take i).length := by rw [← hdone, List.length_map]
      have e4 : (ts.take i).length ≤ i := by rw [List.length_take]; omega
      rw [hacc] at e1; omega
    refine wpAny_updateSeq pP.1 rfl (wpAny_pure ⟨F.quiet_list_repr_loop _, ?_⟩) hasz
    have e1 : ((i : Int) + 1) = ((i + 1 : Nat) : Int) := by omega
    have e2' : base + piled (ts.take i) + (t.length + 2) = base + piled (ts.take (i + 1)) := by omega
    rw [e1, e2']
    refine ih (i + 1) _ H2 (acc.push (.str t s2.toks)) _ (done ++ [(t, s2.toks)]) (by omega) hlt (fun b o z => e2 b o (e b o z))
      (Inv.turnedL (ch := [P]) (I2'.tok (s2.toks + 1)) (fun b o nb z => (Heap.get?_update_other _ _ fun h : P = b => nb (by simp [h])).trans z) (fun b hb => by rw [List.mem_singleton.mp hb]; exact f2)) f2 (Heap.get?_update_self _ pP.1 rfl) (by simp [hacc, strValues]) (by simp [List.take_add_one, ht, hdone]) fun s' H3 u' e3 I3 => ?_
    exact hR s' H3 u' (fun b o z => e3 b o (e2 b o z)) I3
theorem reprAtO {a : Addr} {xs : List V} {ts : List Str} {as : List Addr} {k base : Nat} {A : Around} {g : List Code} {H1 : Hp} (ha : H a = some (.lst xs)) (hodd : Odd H a) (hne : xs ≠ []) (hg : A.guards = some g) (hgo : GOk g H) (hcl : ∀ b ∈ a :: as, Clear g b) (hS : Sub X (k + 1) A) (hna : a ∉ as) (hlen : ts.length = xs.length)
    (hT : ∀ (i : Nat) (x : V), xs[i]? = some x → ∃ t, ts[i]? = some t ∧ RepO X k as H x t) (hsz : base + (listText ts).length ≤ sizeLine) {R : Result → Shared → Prop} (e : Same H H1) (I : Inv X pins σ H1 s)
    (hR : ∀ s' H2 u, Same H1 H2 → Inv X pins σ H2 s' → R (.ok (.ret (.str (listText ts) u))) s') :
    wpAny (model X.prog X.w) A.in1 (Builtin.listReprAt base ⟨[.ref a], []⟩) (fun fin s' => match fin with | .done f => R (.ok f) s' | .again c' => c'.quiet = true ∧ codeAny (model X.prog X.w) A c' R s') (fun e s' => R (.error e) s') s := by
  have hca : Clear g a := hcl a (.head _)
  obtain ⟨its, rv, hl, _⟩ := I.list (.inl (.inl (e _ _ ha)))
  obtain ⟨o, ho, hc, n, hd⟩ := hl.isList
  cases its with
  | nil =>
    have := rv.length
    exact absurd (List.length_eq_zero_iff.mp this) hne
  | cons u l =>
    have hP : H1 s.heap.objs.size = none := I.hok.fresh (Nat.le_refl _)
    refine wpAny_list_repr_head (A := A.in1) hg (fun v rest kw hm => listSameRef_of_ne (hca _ _ _ _ hm)) ho hd ?_
    refine wpAny_bind (m := newList []) (wpAny_newObj_type ?_)
    refine wpAny_pure ⟨F.quiet_list_repr_loop _, ?_⟩
    have I2 := I.kept (h' := s.heap.push { cls := .type "list", dict := none, data := .seq #[] 0, slots := #[] }) (t' := s.toks) fun b o z => Heap.get?_push_of_some _ z
    exact loopO (P := s.heap.objs.size) ha hodd hg hgo (fun b hb => hcl b (.tail _ hb)) hS hna hlen hT hsz _ 0 _ H1 #[] _ [] rfl (Nat.zero_le _) e I2 (I.fpOk (Nat.le_refl _) hP) (Heap.get?_push_size _ rfl) rfl (by simp) fun s' H2 u' e2 I3 => hR s' H2 u' e2 I3
/-- a list with an own instance in it -/
theorem RepO.list {a : Addr} {xs : List V} {ts : List Str} {as : List Addr} {k : Nat} (ha : H a = some (.lst xs)) (hodd : Odd H a) (hne : xs ≠ []) (hna : a ∉ as) (hlen : ts.length = xs.length)
    (hT : ∀ (i : Nat) (x : V), xs[i]? = some x → ∃ t, ts[i]? = some t ∧ RepO X k as H x t) : RepO X (k + 1) (a :: as) H (.ref a) (listText ts) := by
  intro pins s σ H1 u A g base E Q e I r sub hg hgo hcl hb q
  cases r
  obtain ⟨its, rv, hl, _⟩ := I.list (.inl (.inl (e _ _ ha)))
  obtain ⟨o, ho, hc, n, hd⟩ := hl.isList
  refine wpAny_pyReprUnder_ref (by omega) (wpAny_pyReprObjUnder_twin (twin := "list.__repr__.under") ⟨o, ho, hc⟩ F.slot_list_repr.toG rfl sub.room.units0 ?_)
  refine call_twin_plain F.plain_list_repr_under F.entry_list_repr_under F.check_list_repr_under ⟨o, ho, hc⟩ F.slot_list_repr.toG (F.args_list_repr_1 _) ?_
  refine reprAtO (H := H1) (R := callEnd _ E) (e _ _ ha) (hodd.same e) hne hg hgo hcl sub hna hlen (fun i x hx => let ⟨t, h1, h2⟩ := hT i x hx; ⟨t, h1, h2.same e⟩) hb (fun _ _ z => z) I fun s' H2 u e2 I2 => ?_
  exact ⟨⟨_, _, rfl⟩, _, _, rfl, q s' H2 e2 I2⟩
/-- repr([..]), an own instance in it -/
def rReprO (X : Cx) (k : Nat) : List V → Hp → VK → Prop := fun vs H Q => ∃ (a : Addr) (xs : List V) (ts : List Str) (as : List Addr), vs = [.ref a] ∧ H a = some (.lst xs) ∧ Odd H a ∧ xs ≠ [] ∧ a ∉ as ∧ ts.length = xs.length ∧
  (∀ (i : Nat) (x : V), xs[i]? = some x → ∃ t, ts[i]? = some t ∧ RepO X k as H x t) ∧ (listText ts).length ≤ sizeLine ∧ ∀ H', Same H H' → Q (.str (listText ts)) H'
theorem call_reprO {k : Nat} (g : X.A.guards = some []) (hr : Room (k + 2) X.A) : CallR X (.builtin "repr") (rReprO X k) := by
  intro pins s σ H vs us Q I r h
  obtain ⟨a, xs, ts, as, rfl, ha, hodd, hne, hna, hlen, hT, hsz, q⟩ := h
  obtain rfl := Vals.ref1 r
  obtain ⟨its, rv, hl, _⟩ := I.list (.inl (.inl ha))
  obtain ⟨o, ho, hc, n, hd⟩ := hl.isList
  refine call_repr_slot hr.in1.units0 ⟨o, ho, hc⟩ F.slot_list_repr.toG ?_
  refine wpAny_call (codeAny_call_builtin F.slot_list_repr.plain F.entry_list_repr (F.slot_list_repr.check _ _ _ _ _ _ _ _ ⟨o, ho, hc⟩ (F.args_list_repr_1 _) ?_))
  refine reprAtO (A := X.A.in1) (base := 0) (R := callEnd _ _) (g := []) ha hodd hne g GOk.nil (fun b _ => Clear.nil b) ⟨hr.in1, rfl⟩ hna hlen hT (by omega) (fun _ _ z => z) I fun s' H2 u e2 I2 => ?_
  exact ⟨_, _, rfl, .str (listText ts), H2, I2, ⟨_, rfl⟩, q H2 e2⟩
end
end L2

/-! repr of a list of rows [name, value, True], the value a thing or an own instance or a list with one in it -/
namespace L2
open PySem PySem.Spec PyProof.Rows
section
variable {X : Cx} {H : Hp}
theorem RepO.more {k : Nat} {as bs : List Addr} {x : V} {t : Str} (h : RepO X k as H x t) (sub : ∀ b ∈ as, b ∈ bs) : RepO X k bs H x t :=
  fun pins s σ H1 u A g base E Q e I r sb hg hgo hcl hb q => h pins s σ H1 u A g base E Q e I r sb hg hgo (fun b hm => hcl b (sub b hm)) hb q
theorem RepO.up {j k : Nat} {as : List Addr} {x : V} {t : Str} (h : RepO X j as H x t) (l : j ≤ k) : RepO X k as H x t :=
  fun pins s σ H1 u A g base E Q e I r sb hg hgo hcl hb q => h pins s σ H1 u A g base E Q e I r (sb.mono l) hg hgo hcl hb q
/-- repr of a list that is data, or in which an own instance stands -/
def rReprU (X : Cx) (k : Nat) : List V → Hp → VK → Prop := fun xs H Q => (∃ (a : Addr) (d : PyData), xs = [.ref a] ∧ Dq X.K H (.ref a) d ∧ Sh d 16777216 60 ∧ Q (.str d.shown) H) ∨ rReprO X k xs H Q
theorem call_reprU {k : Nat} (g : X.A.guards = some []) (hr : Room (k + 2) X.A) (hm : ∃ mm, X.base.Ns sysModules mm) : CallR X (.builtin "repr") (rReprU X k) := by
  intro pins s σ H xs us Q I r h
  rcases h with h | h
  · exact call_reprD g hr.units hm pins s σ H xs us Q I r h
  · exact call_reprO g hr pins s σ H xs us Q I r h
/-- what is known of a value that is to be shown: data, or odd with its text -/
inductive Shw (X : Cx) (k : Nat) (as : List Addr) (H : Hp) (v : V) (t : Str) : Prop
  | data {d : PyData} : Dq X.K H v d → Sh d 300 2 → t = d.shown → Shw X k as H v t
  | odd {a : Addr} : v = .ref a → Odd H a → t.length ≤ 300 → RepO X k as H v t → Shw X k as H v t
def isOdd (H : Hp) (v : V) : Prop := ∃ a, v = .ref a ∧ Odd H a
def rowT (nm t : Str) : Str := listText [reprText nm, t, "True"]
theorem shown_str (x : Str) : (PyData.str x).shown = reprText x := by simp only [PyData.shown]
theorem shown_true : (PyData.bool true).shown = "True" := by simp only [PyData.shown]; rfl
theorem shown_row (nm : Str) (d : PyData) : (PyData.list [.str nm, d, .bool true]).shown = rowT nm d.shown := by
  simp only [PyData.shown, PyData.shownAll]
  rfl
/-- a row -/
theorem row_rep {k : Nat} {as : List Addr} {q : Addr} {nm t : Str} {v : V} (hm : ∃ mm, X.base.Ns sysModules mm) (hq : H q = some (.lst [.str nm, v, .bl true])) (hn : (reprText nm).length ≤ 100) (h : Shw X k as H v t) (na : q ∉ as) : RepO X (k + 1) (q :: as) H (.ref q) (rowT nm t) := by
  cases h with
  | @data d hd hs et =>
    subst et
    rw [← shown_row]
    refine (RepO.data hm (.lst (.inl (.inl hq)) (.cons (.str _) (.cons hd (.cons (.bl true) .nil)))) ?_).more fun _ z => nomatch z
    exact (Sh.lst (.cons (Sh.str nm hn) (.cons hs (.cons (Sh.bl true) .nil)))).le (by decide) (by decide)
  | @odd a ev o lt r =>
    subst ev
    refine RepO.list hq (.lst hq (by simp) o) (by simp) na rfl fun i x hx => ?_
    match i, hx with
    | 0, hx =>
      cases hx
      refine ⟨_, rfl, ?_⟩
      have := (RepO.data (X := X) (k := k) (H := H) hm (.str nm) ((Sh.str nm hn).le (n' := 16777216) (m' := 60) (m := 0) (by decide) (by decide))).more (bs := as) fun _ z => nomatch z
      rw [shown_str] at this
      exact this
    | 1, hx =>
      cases hx
      exact ⟨_, rfl, r⟩
    | 2, hx =>
      cases hx
      refine ⟨_, rfl, ?_⟩
      have := (RepO.data (X := X) (k := k) (H := H) hm (.bl true) ((Sh.bl true (m := 0)).le (n' := 16777216) (m' := 60) (by decide) (by decide))).more (bs := as) fun _ z => nomatch z
      rw [shown_true] at this
      exact this
    | i + 3, hx => simp at hx
structure RowS where
  q : Addr
  nm : Str
  v : V
  t : Str
theorem Shw.len {k : Nat} {as : List Addr} {v : V} {t : Str} (h : Shw X k as H v t) : t.length ≤ 300 := by
  cases h with
  | data hd hs e => rw [e]; exact hs.long
  | odd _ _ l _ => exact l
theorem rowT_len {nm t : Str} (h1 : (reprText nm).length ≤ 100) (h2 : t.length ≤ 300) : (rowT nm t).length ≤ 420 := by
  have b := listText_len_le [reprText nm, t, "True"]
  simp only [List.map_cons, List.map_nil, List.sum_cons, List.sum_nil, List.length_cons, List.length_nil] at b
  have e : (Str.ofString "True").length = 4 := rfl
  unfold rowT
  omega
theorem rows_len : ∀ {rs : List RowS}, (∀ r ∈ rs, (rowT r.nm r.t).length ≤ 420) → ((rs.map fun r => rowT r.nm r.t).map (·.length)).sum ≤ 420 * rs.length
  | [], _ => by simp
  | r :: rs, h => by
    have ih := rows_len (rs := rs) fun x hx => h x (List.mem_cons_of_mem _ hx)
    have h1 := h r List.mem_cons_self
    simp only [List.map_cons, List.sum_cons, List.length_cons]
    omega
theorem rows_data : ∀ {rs : List RowS}, (∀ r ∈ rs, H r.q = some (.lst [.str r.nm, r.v, .bl true]) ∧ (reprText r.nm).length ≤ 100 ∧ ∃ d, Dq X.K H r.v d ∧ Sh d 300 2 ∧ r.t = d.shown) →
    ∃ ds, DqAll X.K H (rs.map fun r => .ref r.q) ds ∧ ShAll ds (450 * rs.length) 5 ∧ PyData.shownAll ds = rs.map fun r => rowT r.nm r.t
  | [], _ => ⟨[], .nil, ShAll.nil, by simp [PyData.shownAll]⟩
  | r :: rs, h => by
    obtain ⟨ds, h1, h2, h3⟩ := rows_data (rs := rs) fun x hx => h x (List.mem_cons_of_mem _ hx)
    obtain ⟨hq, hn, d, hd, hs, et⟩ := h r List.mem_cons_self
    have sr : Sh (.list [.str r.nm, d, .bool true]) 448 5 := (Sh.lst (.cons (Sh.str r.nm hn) (.cons hs (.cons (Sh.bl true) .nil)))).le (by decide) (by decide)
    refine ⟨_ :: ds, .cons (.lst (.inl (.inl hq)) (.cons (.str _) (.cons hd (.cons (.bl true) .nil)))) h1, ?_, ?_⟩
    · have := ShAll.cons sr h2
      rw [List.length_cons, show 450 * (rs.length + 1) = 448 + 2 + 450 * rs.length by omega]
      exact this
    · simp only [PyData.shownAll, List.map_cons]
      rw [h3, et, ← shown_row]
/-- repr of the rows -/
theorem rows_show {k : Nat} {as : List Addr} {S : Addr} {rs : List RowS} {Q : VK} (hm : ∃ mm, X.base.Ns sysModules mm) (hS : H S = some (.lst (rs.map fun r => .ref r.q))) (hr : ∀ r ∈ rs, H r.q = some (.lst [.str r.nm, r.v, .bl true]) ∧ (reprText r.nm).length ≤ 100 ∧ Shw X k as H r.v r.t ∧ r.q ∉ as)
    (hn : S ∉ rs.map (·.q) ++ as) (r0 : rs ≠ []) (r1 : rs.length ≤ 1000) (q : ∀ H', Same H H' → Q (.str (listText (rs.map fun r => rowT r.nm r.t))) H') : rReprU X (k + 1) [.ref S] H Q := by
  by_cases hall : ∀ r ∈ rs, ∃ d, Dq X.K H r.v d ∧ Sh d 300 2 ∧ r.t = d.shown
  · obtain ⟨ds, h1, h2, h3⟩ := rows_data (X := X) (H := H) (rs := rs) fun r hx => ⟨(hr r hx).1, (hr r hx).2.1, hall r hx⟩
    refine .inl ⟨S, .list ds, rfl, .lst (.inl (.inl hS)) h1, (Sh.lst h2).le (by omega) (by decide), ?_⟩
    have e : (PyData.list ds).shown = listText (PyData.shownAll ds) := by simp only [PyData.shown]
    rw [e, h3]
    exact q H fun _ _ z => z
  · obtain ⟨r, hx, hno⟩ : ∃ r ∈ rs, ¬ ∃ d, Dq X.K H r.v d ∧ Sh d 300 2 ∧ r.t = d.shown := by
      refine Classical.byContradiction fun z => hall fun r hx => Classical.byContradiction fun y => z ⟨r, hx, y⟩
    obtain ⟨hq, hnm, hs, hna⟩ := hr r hx
    have hodd : Odd H r.q := by
      cases hs with
      | data hd hs e => exact absurd ⟨_, hd, hs, e⟩ hno
      | @odd a ev o _ _ => exact .lst hq (by rw [ev]; simp) o
    refine .inr ⟨S, _, rs.map fun r => rowT r.nm r.t, rs.map (·.q) ++ as, rfl, hS, .lst hS (List.mem_map.mpr ⟨r, hx, rfl⟩) hodd, by simpa using r0, hn, by simp, fun i x hi => ?_, ?_, q⟩
    · rw [List.getElem?_map] at hi
      obtain ⟨y, hy, rfl⟩ := Option.map_eq_some_iff.mp hi
      have my := List.mem_of_getElem? hy
      obtain ⟨a1, a2, a3, a4⟩ := hr y my
      refine ⟨rowT y.nm y.t, by rw [List.getElem?_map, hy]; rfl, (row_rep hm a1 a2 a3 a4).more fun b hb => ?_⟩
      rcases List.mem_cons.mp hb with e | hb
      · rw [e]
        exact List.mem_append_left _ (List.mem_map.mpr ⟨y, my, rfl⟩)
      · exact List.mem_append_right _ hb
    · have b := listText_len_le (rs.map fun r => rowT r.nm r.t)
      have c := rows_len (rs := rs) fun r hx => rowT_len (hr r hx).2.1 (hr r hx).2.2.1.len
      rw [List.length_map] at b
      rw [sizeLine_eq]
      omega
end
end L2

/-! k61: History's == and repr, a game that is refused, a history of rows -/
namespace Gm
open PySem PySem.Spec PyProof.Rows L2 LamX



def spHEq (K : PySem.W.Frag) (C CH : Addr) : Sp := fun vs H Q _ => ∃ (p : Addr) (l : List Nat) (n : Int) (rows : List Row) (y : V), vs = [.ref p, y] ∧ HistAt C CH H p l n rows ∧ Sm l ∧
  ((∃ q l' n' rows', y = .ref q ∧ HistAt C CH H q l' n' rows' ∧ Sm l' ∧ ∃ b, b = decide (l = l' ∧ n = n' ∧ rows = rows') ∧ Q (.bl b) H) ∨ (∃ t, TyX K H y t ∧ PySem.W.kitOne K t (.ref CH) = some false ∧ ∃ b, b = false ∧ Q (.bl b) H))
def spHRepr (C CH : Addr) : Sp := fun vs H Q _ => ∃ (p : Addr) (l : List Nat) (n : Int) (rows : List Row), vs = [.ref p] ∧ HistAt C CH H p l n rows ∧ Q (.str (Str.ofString "History(" ++ numT rows.length ++ Str.ofString " rows)")) H
structure TxEH (K : PySem.W.Frag) (C CH : Addr) : Prop where
  ac : PySem.W.findIn K (.ref CH) "__class__" = some (some (.builtin "object.__class__"))
  gt : PySem.W.specialIn K (.builtin "object.__class__") "__get__" = some (some (.builtin "getset_descriptor.__get__"))
  tk : PySem.W.takesIn K (.builtin "object.__class__") = some true
  ob : PySem.W.mroIn K CH (.type "object") = some true
  own : PySem.W.kitOne K (.ref CH) (.ref CH) = some true
  ne : PySem.W.findIn K (.ref CH) "__ne__" = some (some (.builtin "object.__ne__"))
  nb : PySem.W.findIn K (.ref CH) "__bool__" = some none
  kT : PySem.W.kitOne K (.type "tuple") (.ref CH) = some false
  fT : PySem.W.notFirst K CH (.type "tuple") = true
  fH : PySem.W.notFirst K CH (.ref CH) = true
  fB : PySem.W.notFirst K C (.ref C) = true
def spGInitX (K : PySem.W.Frag) (C CB : Addr) (CG : Addr) : Sp := fun vs H Q E => ∃ (g dx : Addr) (v : V) (t : Value) (st : Bool), vs = [.ref g, v, .bl st] ∧ TyX K H v t ∧ PySem.W.kitOne K t (.ref C) = some false ∧ Comes E H CB "value" v
def spStory (C CH : Addr) : Sp := fun vs H Q _ => ∃ (b L : Addr) (l : List Nat) (n : Int) (rows : List Row), vs = [.ref b, .ref L] ∧ Bd C H b l n ∧ LRows H L rows ∧ RowsOk l n rows ∧ ∀ H' x, Same H H' → H x = none → HistAt C CH H' x l n rows → Q (.ref x) H'
section
variable {P : Program} {w : World} {K : PySem.W.Frag} {mg : Str → Option Value} {base : Heap}
theorem scHRepr : FnScope ["self"] ["self"] (defScope sHRepr) := ⟨rfl, rfl, rfl, by decide +kernel, rfl, by decide +kernel, by decide +kernel⟩
theorem ok_hrepr {f C CH : Addr} {fd : FuncData} (F : Fun K "__repr__" "History.__repr__" sHRepr f fd) (TH : TxH K mg CH) (tl : mg "len" = none) : FnOk P w K mg base CX0 1 f fd ["self"] (spHRepr C CH) := by
  refine F.ok scHRepr (fun vs H Q E h => ?_) (fun cdv A outer s H vs Q E hr h => ?_)
  · obtain ⟨p, l, n, rows, rfl, _⟩ := h
    rfl
  · obtain ⟨p, l, n, rows, rfl, ⟨dx, b, r, hp, hb, ⟨vs, hv, hw⟩, ok⟩, q⟩ := h
    have hline : sizeLine = 16777216 := sizeLine_eq
    have n20 := ok.2
    refine ⟨_, pss_one (ps_ret (pe_joined (.cons pe_str (.cons (pe_fmt (pe_callB call_len_seq (by rfl) tl PySem.boot_len (pa_cons (pe_fld (pv 0) rfl) pa_nil))) (.cons pe_str .nil))))), ?_⟩
    have l2 : (Str.ofString "History(").length = 8 := rfl
    have l3 : (Str.ofString " rows)").length = 6 := rfl
    have d := num_len (n := (rows.length : Int)) (by omega) (by omega)
    refine ⟨_, rfl, by rw [empty_app, l2]; omega, ?_⟩
    refine ⟨_, rfl, p, CH, dx, _, _, rfl, hp, TH.cl, TH.nR, hf_rows b r, r, _, rfl, .inr (SqT.of hv), ?_⟩
    rw [hw.len]
    refine .inr ⟨_, rfl, num_log (by omega) (by omega), numT rows.length, rfl, by rw [empty_app, app_len, l2]; omega, ?_⟩
    refine ⟨_, rfl, by rw [empty_app, app_len, app_len, l2, l3]; omega, ?_⟩
    show Q (.str (Str.empty ++ Str.ofString "History(" ++ numT rows.length ++ Str.ofString " rows)")) H
    rw [empty_app]
    exact q
theorem ty_hist {C CH p dx : Addr} {H : Hp} {fs : List (Str × V)} (TH : TxH K mg CH) (TE : TxEH K C CH) (h : H p = some (.ins CH dx fs)) : TyX K H (.ref p) (.ref CH) := .base (.ins h TH.cl TE.ac TE.gt TE.tk TE.ob)
/-- a method of the class -/
structure Dm (K : PySem.W.Frag) (C : Addr) (x : Str) (f : Addr) (fd : FuncData) (ps : List Str) : Prop where
  at_ : PySem.W.findIn K (.ref C) x = some (some (.ref f))
  fn : PySem.W.isFn K (.ref f) = true
  b : Binds K fd ps []
theorem scHEq : FnScope ["self", "other"] ["self", "other"] (defScope sHEq) := ⟨rfl, rfl, rfl, by decide +kernel, rfl, by decide +kernel, by decide +kernel⟩
theorem ok_heq {f C CH fE : Addr} {fd fdE : FuncData} (F : Fun K "__eq__" "History.__eq__" sHEq f fd) (T : TxW mg) (TC : TxC K mg C) (TH : TxH K mg CH) (TE : TxEH K C CH)
    (GE : FnOk P w K mg base CX0 1 fE fdE ["self", "other"] (spEqB K C)) (DE : Dm K C "__eq__" fE fdE ["self", "other"]) : FnOk P w K mg base CX0 2 f fd ["self", "other"] (spHEq K C CH) := by
  refine F.ok scHEq (fun vs H Q E h => ?_) (fun cdv A outer s H vs Q E hr h => ?_)
  · obtain ⟨p, l, n, rows, y, rfl, _⟩ := h
    rfl
  · obtain ⟨p, l, n, rows, y, rfl, ⟨dx, b, r, hp, hb, ⟨vs, hv, hw⟩, ok⟩, sl, h⟩ := h
    refine ⟨_, pss_one (ps_ret (pe_and (pe_callB call_isi (by rfl) T.isi (by decide +kernel) (pa_cons (pv 1) (pa_cons (pe_glob (v := .ref CH) (by rfl) TH.mgC rfl) pa_nil)))
      (pe_and (pe_cmpR (op_eqOwn (n := 1) hr GE DE.at_ DE.fn DE.b pass0) (pe_fld (pv 0) rfl) (pe_fld (pv 1) rfl) (nomark _)) (pe_one (pe_cmpR (op_eqD hr.units) (pe_fld (pv 0) rfl) (pe_fld (pv 1) rfl) (nomark _)))))), ?_⟩
    rcases h with ⟨q, l', n', rows', rfl, ⟨dx', b', r', hq, hb', ⟨vs', hv', hw'⟩, ok'⟩, sl', _, rfl, k⟩ | ⟨t, ty, no, _, rfl, k⟩
    · obtain ⟨⟨db, eb⟩, l26, n1, n6⟩ := hb
      obtain ⟨⟨db', eb'⟩, l26', n1', n6'⟩ := hb'
      refine ⟨_, rfl, _, _, _, _, _, rfl, .own CH, ty_hist TH TE hq, TE.own, _, rfl, ?_⟩
      refine iteT ⟨_, rfl, p, CH, dx, _, _, rfl, hp, TH.cl, TH.nB, hf_board b r, _, rfl, q, CH, dx', _, _, rfl, hq, TH.cl, TH.nB, hf_board b' r', ?_⟩
      refine ⟨b, db, _, .ref C, rfl, eb, ty_board TC eb', TE.fB, b, tx l, n, .ref b', rfl, ⟨db, eb⟩, by rw [tx_len]; omega, .inl ⟨b', tx l', n', rfl, ⟨db', eb'⟩, by rw [tx_len]; omega, _, rfl, ?_⟩⟩
      refine ⟨_, rfl, ite2 (fun e => ?_) (fun e => ?_)⟩
      · have e : tx l = tx l' ∧ n = n' := of_decide_eq_true e
        refine ⟨_, rfl, p, CH, dx, _, _, rfl, hp, TH.cl, TH.nR, hf_rows b r, _, rfl, q, CH, dx', _, _, rfl, hq, TH.cl, TH.nR, hf_rows b' r', ?_⟩
        refine ⟨.tuple (rows.map rowD), .tuple (rows'.map rowD), .tup (SqT.of hv) hw.dp, .tup (SqT.of hv') hw'.dp, shaped_tup fun x hx => SmR.of (ok.1 x hx) sl, shaped_tup fun x hx => SmR.of (ok'.1 x hx) sl', ?_⟩
        have e2 : PyData.eqv (.tuple (rows.map rowD)) (.tuple (rows'.map rowD)) = decide (l = l' ∧ n = n' ∧ rows = rows') := by
          rw [PyData.eqv, eqv_rows]
          exact decide_eq_decide.mpr ⟨fun x => ⟨tx_inj e.1, e.2, x⟩, fun x => x.2.2⟩
        rw [e2]
        exact k
      · have e2 : decide (l = l' ∧ n = n' ∧ rows = rows') = false := decide_eq_false fun x => e (decide_eq_true ⟨by rw [x.1], x.2.1⟩)
        rw [e2] at k
        exact k
    · exact ⟨_, rfl, _, _, _, _, _, rfl, .own CH, ty, no, _, rfl, iteF k⟩
theorem ok_ginitX {f C CB CH CM CG fB : Addr} {fd fdB : FuncData} (F : FunD K "__init__" "Game.__init__" (defArgs sGInit) (defBody sGInit) (defScope sGInit) [] [("strict", .bl false)] f fd)
    (GB : FnOk P w K mg base (L2N.CX P w) 3 fB fdB ["board"] (spChkBX K C CB)) (DB : Df K mg "check_board" fB fdB ["board"]) :
    FnOk P w K mg base (L2N.CX P w) 4 f fd ["self", "board", "strict"] (spGInitX K C CB CG) := by
  refine F.ok scGI (fun vs H Q E h => ?_) (fun cdv A outer s H vs Q E hr h => ?_)
  · obtain ⟨g, dx, v, t, st, rfl, _⟩ := h
    rfl
  · obtain ⟨g, dx, v, t, st, rfl, ty, no, ex⟩ := h
    refine ⟨_, pss_cons (ps_expr (pe_call GB hr (by rfl) DB.mg DB.kp DB.b .nil (L2N.passes_call (L2N.takes_of rfl rfl rfl rfl) fun _ _ _ _ h => h) (pa_cons (pv 1) pa_nil)))
      (pss_cons (ps_fld (pv 0) (pv 1) rfl)
      (pss_cons (ps_fld (pv 0) (pv 2) rfl)
      (pss_cons ps_never
      (pss_cons ps_never
      (pss_one ps_never))))), ?_⟩
    exact ⟨_, rfl, v, t, rfl, ty, .inr ⟨no, ex⟩⟩
abbrev nSto : List Str := ["_law_box", "_law_some", "_law_story_here", "_law_asked", "_law_seen"]
theorem scSto : FnScope nSto ["_law_box", "_law_some"] (defScope sStory) := ⟨rfl, rfl, rfl, by decide +kernel, rfl, by decide +kernel, by decide +kernel⟩
theorem ok_story {f C CH fT fI : Addr} {fd fdT : FuncData} (F : Fun K "_law_story" "_law_story" sStory f fd) (TH : TxH K mg CH) (GT : FnOk P w K mg base CX0 7 fT fdT ["self", "guess", "told"] (spThen C CH)) (mT : Meth K CH "then" fT) (bT : Binds K fdT ["self", "guess", "told"] [])
    (GI : FnR P w K mg base CX0 5 fI (spHInitR C CH)) (M : Mk K CH fI) : FnOk P w K mg base CX0 8 f fd ["_law_box", "_law_some"] (spStory C CH) := by
  refine F.ok scSto (fun vs H Q E h => ?_) (fun cdv A outer s H vs Q E hr h => ?_)
  · obtain ⟨b, L, l, n, rows, rfl, _⟩ := h
    rfl
  · obtain ⟨b, L, l, n, rows, rfl, hb, ⟨vs, hv, hw⟩, ok, q⟩ := h
    have nd := scSto.nd
    have hr6 : Room 6 _ := hr.mono (by decide)
    refine ⟨_, pss_cons (ps_set (i := 2) nd rfl (Or.inl rfl) (StX.pe_makeR M GI hr6 (by rfl) TH.mgC pass0 (pa_cons (pv 0) pa_nil)))
      (pss_cons (ps_for PassesOwn.never rfl (pi_list (pv 1)) (pg_tup (by rfl) (pgs_cons (pg_name (i := 3) nd rfl (Or.inl rfl)) (pgs_cons (pg_name (i := 4) nd rfl (Or.inl rfl)) pgs_nil)))
        (pss_one (ps_set (i := 2) nd rfl (Or.inl rfl) (pe_meth (pv 2) TH.cl mT GT hr bT .nil pass0 (pa_cons (pv 3) (pa_cons (pv 4) pa_nil))))))
      (pss_one (ps_ret (pv 2)))), ?_⟩
    have hl := hw.len
    refine ⟨_, rfl, hist_made (CH := CH) (rows := []) hb .nil (show RowsOk l n [] from ⟨fun r m => (by cases m), Nat.zero_le _⟩) fun H1 x s1 nx hx => ?_⟩
    refine ⟨_, rfl, L, rfl, ⟨_, SqL.of (s1 _ _ hv)⟩, for_it walk_list (fun i σ H' => ∃ (x : Addr) (v3 v4 : Option V), σ = [some (.ref b), some (.ref L), some (.ref x), v3, v4] ∧ Same H H' ∧ H x = none ∧ HistAt C CH H' x l n (rows.take i)) ⟨x, _, _, rfl, s1, nx, hx⟩ (fun i σ H' _ ⟨_, _, _, _, sm, _⟩ => SqL.of (sm _ _ hv)) ?_ ?_⟩
    · rintro i y σ H2 H3 hi ⟨x, v3, v4, rfl, sm, nx, hx⟩ ⟨rfl, hy⟩
      obtain ⟨a', rw_, rfl, hrow, ha⟩ := hw.get hy
      have ha2 := sm _ _ ha
      refine ⟨a', _, rfl, SqT.of ha2, rfl, _, _, rfl, _, _, rfl, rfl, ?_⟩
      have lr := (List.getElem?_eq_some_iff.mp hrow).1
      obtain ⟨dx, b', r', e, hb', hr', ok'⟩ := _root_.id hx
      refine ⟨_, rfl, x, dx, _, rfl, e, hf_none _ _ (by decide +kernel) (by decide +kernel), _, rfl, _, rfl, x, l, rw_.1, rw_.2, n, _, rfl, hx, ok.1 _ (List.mem_of_getElem? hrow), by have := ok.2; rw [List.length_take]; omega, fun H4 x' s4 nx' hx' => ?_⟩
      exact ⟨x', _, _, rfl, sm_tr sm s4, sm.free nx', by rw [List.take_succ, hrow]; exact hx'⟩
    · rintro σ H2 ⟨x, v3, v4, rfl, sm, nx, hx⟩
      rw [hl, List.take_length] at hx
      exact ⟨_, rfl, q _ x sm nx hx⟩
end
end Gm

/-! lists, tuples and sums of lists, told by what stands after them -/
namespace L2
open PySem PySem.Spec PyProof.Rows
def rCatS : R2 := fun x y H Q => ∃ l b xs zs, x = .ref l ∧ y = .ref b ∧ H l = some (.lst xs) ∧ H b = some (.lst zs) ∧ xs.length + zs.length ≤ 1000 ∧ ∀ H3 p, Same H H3 → H3 p = some (.lst (xs ++ zs)) → Q (.ref p) H3
def tLstS (t : TA) : TE := fun σ H Q => t σ H fun xs H1 => xs.length ≤ 1000 ∧ ∀ H2 p, Same H1 H2 → H2 p = some (.lst xs) → Q (.ref p) H2
def tTupS (t : TA) : TE := fun σ H Q => t σ H fun xs H1 => xs.length ≤ 1000 ∧ ∀ H2 p, Same H1 H2 → H2 p = some (.tup xs) → Q (.ref p) H2
def rRepS : R2 := fun x y H Q => ∃ l v, ∃ n : Nat, x = .ref l ∧ y = .int (n : Nat) ∧ H l = some (.lst [v]) ∧ n ≤ 1000 ∧ ∀ H3 p, Same H H3 → H3 p = some (.lst (List.replicate n v)) → Q (.ref p) H3
section
variable {X : Cx} {a b : Expr} {ta tb : TE} {es : List Expr} {t : TA} {pos : Pos}
theorem pa_weak (h : PA X es t) : PA X es (fun σ H Q => ∃ R : List V → Hp → Prop, t σ H R ∧ ∀ v H', R v H' → Q v H') := ⟨fun pos pins s σ H Q I ⟨R, hr, k⟩ =>
  thn (h.run pos pins s σ H R I hr) fun u s' ⟨v, H', I', r, q⟩ => ⟨v, H', I', r, k _ _ q⟩⟩
theorem op_catS : OpR X (binaryOp .Add) rCatS := by
  intro pins s σ H x y v u Q I rx ry ⟨l, b, xs, zs, e1, e2, h1, h2, hz, q⟩
  exact op_cat pins s σ H x y v u Q I rx ry ⟨l, b, xs, zs, e1, e2, h1, h2, by rw [sizeLine_eq]; omega, fun p np => q _ p (same_upd0 np) upd_same⟩
theorem flat_rep (v : V) (n : Nat) : (List.replicate n [v]).flatten = List.replicate n v := by
  induction n with
  | zero => rfl
  | succ n ih => rw [List.replicate_succ, List.flatten_cons, ih, List.replicate_succ]; rfl
theorem op_repS : OpR X (binaryOp .Mult) rRepS := by
  intro pins s σ H x y v u Q I rx ry ⟨l, w, n, e1, e2, h1, hz, q⟩
  refine op_rep pins s σ H x y v u Q I rx ry ⟨l, _, _, e1, e2, h1, by omega, by omega, ?_, fun p np => ?_⟩
  · rw [sizeLine_eq]
    simp
    omega
  · refine q _ p (same_upd0 np) ?_
    rw [upd_same, Int.toNat_natCast, flat_rep]
theorem pe_lstS (hs : PA X es t) : PE X (.List es pos) (tLstS t) :=
  ⟨fun pins s σ H Q I h => (pe_lst (pa_weak hs)).run pins s σ H Q I ⟨_, h, fun xs H1 ⟨h1, q⟩ => ⟨by rw [sizeLine_eq]; omega, fun p np => q _ p (same_upd0 np) upd_same⟩⟩⟩
theorem pe_tupS {x1} (hs : PA X es t) : PE X (.Tuple es x1 pos) (tTupS t) :=
  ⟨fun pins s σ H Q I h => (pe_tup (pa_weak hs)).run pins s σ H Q I ⟨_, h, fun xs H1 ⟨h1, q⟩ => ⟨by rw [sizeLine_eq]; omega, fun p np => q _ p (same_upd0 np) upd_same⟩⟩⟩
end
/-- an error class without own __init__ -/
structure Mk0 (K : PySem.W.Frag) (mg : Str → Option Value) (x : Str) (C : Addr) : Prop where
  ex : ∃ (bmB : List Value) (B n1 n2 : String), ExcBaseFacts B n1 n2 bmB ∧ PySem.W.excIn K C bmB n1 = true
  gC : mg x = some (.ref C)
  kC : PySem.W.keepIn K (.ref C) = true
theorem pe_mkE0 {X : Cx} {x : Str} {C : Addr} {p pos : Pos} (T : Mk0 X.K X.mg x C) (hg : Gl X x) (hdb : (x == ("__debug__" : Str)) = false := by decide) :
    PE X (.Call (.Name x p) [] [] pos) (fun σ H Q => ∀ H' a, Same H H' → ErAt H' a C [] → Q (.ref a) H') := by
  obtain ⟨bmB, B, n1, n2, F, q⟩ := T.ex
  exact ⟨fun pins s σ H Q I h => (pe_mkV0 F q T.gC T.kC hg hdb).run pins s σ H Q I fun a na => h _ a (same_upd0 na) (.inl ⟨rfl, upd_same⟩)⟩
/-! data -/
theorem dq_rep {K : PySem.W.Frag} {H : Hp} {v : V} {d : PyData} (h : Dq K H v d) (n : Nat) : DqAll K H (List.replicate n v) (List.replicate n d) := by
  induction n with
  | zero => exact .nil
  | succ n ih => exact .cons h ih
theorem sh_rep {d : PyData} {n m : Nat} (h : Sh d n m) (k : Nat) : ShAll (List.replicate k d) (k * (n + 2)) m := by
  induction k with
  | zero => rw [Nat.zero_mul]; exact .nil
  | succ k ih =>
    rw [Nat.succ_mul, Nat.add_comm (k * (n + 2))]
    exact .cons h ih
end L2

/-! k61: what a game shows -/
namespace Gm
open PySem PySem.Spec PyProof.Rows L2 LamX

def spShown (C CH CM CG : Addr) : Sp := fun vs H Q _ => ∃ (g b L : Addr) (l : List Nat) (n : Int) (st : Bool) (rows : List Row) (past : List (List Row)), vs = [.ref g, .ref b, .bl st, .ref L] ∧ GameAt C CH CM CG H g l n st false rows past ∧ Bd C H b l n ∧ LRows H L rows ∧ Sm l ∧ ∀ H', Same H H' → Q (.bl true) H'
abbrev nShown : List Str := ["_law_it", "_law_box", "_law_firm", "_law_some"]
theorem scShown : FnScope nShown nShown (defScope sShown) := ⟨rfl, rfl, rfl, by decide +kernel, rfl, by decide +kernel, by decide +kernel⟩
def two (a b : Bool) : PyData := .tuple [.bool a, .bool b]
theorem dq_two {K : PySem.W.Frag} {H : Hp} {T : Addr} {a b : Bool} (h : H T = some (.tup [.bl a, .bl b])) : Dq K H (.ref T) (two a b) := .tup (SqT.of h) (.cons (.bl _) (.cons (.bl _) .nil))
theorem sh_two (a b : Bool) : Sh (two a b) 16777216 60 := (Sh.tup (.cons (Sh.bl (m := 1) a) (.cons (Sh.bl b) .nil))).le (by decide) (by decide)
/-- what the classes of a game and a history have -/
structure KitS (K : PySem.W.Frag) (C CH CG : Addr) (fE fEH fL fR : Addr) (fdE fdEH fdL fdR : FuncData) : Prop where
  eH : TxEH K C CH
  aE : PySem.W.findIn K (.ref C) "__eq__" = some (some (.ref fE))
  iE : PySem.W.isFn K (.ref fE) = true
  bE : L2.Binds K fdE ["self", "other"] []
  neC : PySem.W.findIn K (.ref C) "__ne__" = some (some (.builtin "object.__ne__"))
  aEH : PySem.W.findIn K (.ref CH) "__eq__" = some (some (.ref fEH))
  iEH : PySem.W.isFn K (.ref fEH) = true
  bEH : L2.Binds K fdEH ["self", "other"] []
  mL : Meth K CG "__len__" fL
  bL : L2.Binds K fdL ["self"] []
  mR : Meth K CG "__repr__" fR
  bR : L2.Binds K fdR ["self"] []
  nb : PySem.W.findIn K (.ref CG) "__bool__" = some none
section
variable {P : Program} {w : World} {K : PySem.W.Frag} {mg : Str → Option Value} {base : Heap}
theorem ok_shown {f C CH CM CG fE fEH fL fR fS : Addr} {fd fdE fdEH fdL fdR fdS : FuncData} (F : Fun K "_law_shown" "_law_shown" sShown f fd) (T : TxGS mg) (TC : TxC K mg C) (TH : TxH K mg CH) (TG : TxG K mg CG) (KS : KitS K C CH CG fE fEH fL fR fdE fdEH fdL fdR) (hM : ∃ mm, base.Ns sysModules mm)
    (GE : FnOk P w K mg base CX0 1 fE fdE ["self", "other"] (spEqB K C)) (GEH : FnOk P w K mg base CX0 2 fEH fdEH ["self", "other"] (spHEq K C CH))
    (GL : FnOk P w K mg base CX0 1 fL fdL ["self"] (spGLen C CH CM CG)) (GR : FnOk P w K mg base CX0 1 fR fdR ["self"] (spGRepr C CH CM CG))
    (GS : FnOk P w K mg base CX0 8 fS fdS ["_law_box", "_law_some"] (spStory C CH)) (DS : Df K mg "_law_story" fS fdS ["_law_box", "_law_some"]) : FnG P w K mg base CX0 9 f fd nShown (spShown C CH CM CG) := by
  refine F.okG scShown (fun vs H Q E h => ?_) (fun cdv A outer s H vs Q E g hr h => ?_)
  · obtain ⟨g, b, L, l, n, st, rows, past, rfl, _⟩ := h
    rfl
  · obtain ⟨gm, b, L, l, n, st, rows, past, rfl, ga, bd, hL, lsm, q⟩ := h
    have nd := scShown.nd
    have hu := hr.units
    have hr2 : Room 2 _ := hr.mono (by decide)
    have hr4 : Room 4 _ := hr.mono (by decide)
    have hline : sizeLine = 16777216 := sizeLine_eq
    refine ⟨_, pss_cons (ps_if (PW.pt (pw_or (pt_cmpR op_ne (pe_callB (call_reprD g hu hM) (by rfl) T.repr (by decide +kernel) (pa_cons (pe_tupS (pa_cons (pe_fld (pv 0) rfl) (pa_cons (pe_fld (pv 0) rfl) pa_nil))) pa_nil)) (pe_callB (call_reprD g hu hM) (by rfl) T.repr (by decide +kernel) (pa_cons (pe_tupS (pa_cons (pv 2) (pa_cons pe_bl pa_nil))) pa_nil)) (nomark _))
          (pw_or1 (pt_cmpR (op_neOwn (n := 1) hr2 GE KS.aE KS.iE KS.neC TC.ob KS.bE L2.pass0) (pe_fld (pv 0) rfl) (pv 1) (nomark _))))) (pss_one (ps_ret pe_bl)) pss_nil)
      (pss_cons (ps_if (pt_cmpR (op_neD hu) (pe_lstS (pa_cons (pe_callB (call_lenOwn (n := 1) hr2 GL KS.mL.at_ KS.mL.fn KS.bL pass0) (by rfl) T.len PySem.boot_len (pa_cons (pv 0) pa_nil)) (pa_cons (pe_callB (call_reprOwn (n := 1) hr2 GR KS.mR.at_ KS.mR.fn KS.bR pass0) (by rfl) T.repr (by decide +kernel) (pa_cons (pv 0) pa_nil)) (pa_cons (pe_fld (pe_fld (pv 0) rfl) rfl) pa_nil))))
        (pe_lstS (pa_cons (pe_callB call_len_seq (by rfl) T.len PySem.boot_len (pa_cons (pv 3) pa_nil)) (pa_cons (pe_op op_add_str (pe_op op_add_str pe_str (pe_callTy call_str_int (by rfl) T.str (by decide +kernel) (pa_cons (pe_callB call_len_seq (by rfl) T.len PySem.boot_len (pa_cons (pv 3) pa_nil)) pa_nil))) pe_str) (pa_cons (pe_callTy call_tuple_of (by rfl) T.tup (by decide +kernel) (pa_cons (pv 3) pa_nil)) pa_nil)))) (nomark _)) (pss_one (ps_ret pe_bl)) pss_nil)
      (pss_one (ps_ret (pe_and (pe_cmpR (op_eqOwn (n := 2) hr2 GEH KS.aEH KS.iEH KS.bEH L2.pass0) (pe_fld (pv 0) rfl) (pe_call GS hr (by rfl) DS.mg DS.kp DS.b .nil L2.pass0 (pa_cons (pv 1) (pa_cons (pv 3) pa_nil))) (nomark _))
        (pe_one (pe_cmpR op_eq (pe_callTy (call_boolOwn (n := 1) hr4 GL KS.nb KS.mL.at_ KS.mL.fn KS.bL pass0) (by rfl) T.bool (by decide +kernel) (pa_cons (pv 0) pa_nil)) (pe_cmpR op_gt (pe_callB call_len_seq (by rfl) T.len PySem.boot_len (pa_cons (pv 3) pa_nil)) pe_int (nomark _)) (nomark _))))))), ?_⟩
    obtain ⟨dx, b0, h, pa, eg, hb0, hh, hp⟩ := _root_.id ga
    obtain ⟨dxh, bh, rh, eh, hbh, ⟨vsF, hvF, hwF⟩, okF⟩ := _root_.id hh
    obtain ⟨vs, hv, hw⟩ := _root_.id hL
    have hvl := hw.len
    have h20 := okF.2
    have three : 3 ≤ 1000 := by decide
    refine ⟨_, rfl, gm, CG, dx, _, _, rfl, eg, TG.cl, TG.nS, gf_strict _ _ _ _ _, _, rfl, gm, CG, dx, _, _, rfl, eg, TG.cl, TG.nZ, gf_busy _ _ _ _ _, by show 2 ≤ 1000; decide, fun H1 T1 s1 e1 => ?_⟩
    refine ⟨T1, two st false, rfl, dq_two e1, sh_two _ _, ?_⟩
    refine ⟨_, rfl, by show 2 ≤ 1000; decide, fun H2 T2 s2 e2 => ?_⟩
    refine ⟨T2, two st false, rfl, dq_two e2, sh_two _ _, rfl, ?_⟩
    rw [decide_eq_true (rfl : V.str (two st false).shown = V.str (two st false).shown)]
    refine ⟨_, rfl, iteF ?_⟩
    have sa := sm_tr s1 s2
    have ga := ga.same sa
    have eg := sa _ _ eg
    have bd := bd.same sa
    have hb0 := hb0.same sa
    have hv := sa _ _ hv
    have hw := hw.same sa
    have eh := sa _ _ eh
    have hvF := sa _ _ hvF
    have hwF := hwF.same sa
    have hh := hh.same sa
    obtain ⟨⟨db0, eb0⟩, l0, n1, n6⟩ := hb0
    obtain ⟨⟨db, eb⟩, _⟩ := _root_.id bd
    refine ⟨_, rfl, gm, CG, dx, _, _, rfl, eg, TG.cl, TG.nB, gf_board _ _ _ _ _, _, rfl, ?_⟩
    refine ⟨b0, db0, _, .ref C, rfl, eb0, ty_board TC eb, KS.eH.fB, b0, tx l, n, .ref b, rfl, ⟨db0, eb0⟩, by rw [tx_len]; omega, .inl ⟨b, tx l, n, rfl, ⟨db, eb⟩, by rw [tx_len]; omega, _, rfl, ?_⟩⟩
    refine ⟨_, rfl, ?_⟩
    rw [decide_eq_true (⟨rfl, rfl⟩ : tx l = tx l ∧ n = n)]
    refine iteF ?_
    refine ⟨_, rfl, gm, dx, _, rfl, eg, gm, l, n, st, false, rows, past, rfl, ga, _, rfl, by omega, by omega, ?_⟩
    refine ⟨_, rfl, gm, dx, _, rfl, eg, gm, l, n, st, false, rows, past, rfl, ga, _, rfl, ?_⟩
    refine ⟨_, rfl, gm, CG, dx, _, _, rfl, eg, TG.cl, TG.nH, gf_history _ _ _ _ _, h, CH, dxh, _, _, rfl, eh, TH.cl, TH.nR, hf_rows bh rh, three, fun H3 A3 s3 e3 => ?_⟩
    refine ⟨_, rfl, L, vs, rfl, .inl (SqL.of (s3 _ _ hv)), ?_⟩
    refine ⟨_, rfl, L, vs, rfl, .inl (SqL.of (s3 _ _ hv)), ?_⟩
    rw [hvl]
    have d := num_len (n := (rows.length : Int)) (by omega) (by omega)
    have l2 : (Str.ofString "Game(").length = 5 := rfl
    have l3 : (Str.ofString " rows)").length = 6 := rfl
    refine ⟨_, rfl, num_log (by omega) (by omega), _, _, rfl, rfl, by show (Str.ofString "Game(").length + (numT rows.length).length ≤ sizeLine; omega, _, _, rfl, rfl, ?_, ?_⟩
    · show (Str.ofString "Game(" ++ numT rows.length).length + (Str.ofString " rows)").length ≤ sizeLine
      rw [app_len]
      omega
    refine ⟨_, rfl, L, vs, rfl, .inl ⟨SqL.of (s3 _ _ hv), fun U zU => ⟨three, fun H4 A4 s4' e4 => ?_⟩⟩⟩
    have sU := same_upd0 (o := .tup vs) zU
    have s4 := sm_tr sU s4'
    have hU := s4' _ _ (upd_same (H := H3) (a := U) (o := .tup vs))
    have smr : ∀ r ∈ rows, SmR r := fun r hr => SmR.of (okF.1 r hr) lsm
    have s34 := sm_tr s3 s4
    refine ⟨sameD rows, sameD rows, .lst (SqL.of (s4 _ _ e3)) (.cons (.int _) (.cons (.str _) (.cons (.tup (SqT.of (s34 _ _ hvF)) (hwF.same s34).dp) .nil))), .lst (SqL.of e4) (.cons (.int _) (.cons (.str _) (.cons (.tup (SqT.of hU) (hw.same s34).dp) .nil))), same_shp smr h20, same_shp smr h20, ?_⟩
    rw [same_eqv]
    refine ⟨_, rfl, iteF ?_⟩
    have ga := ga.same s34
    have eg := s34 _ _ eg
    have hh := hh.same s34
    have eh := s34 _ _ eh
    refine ⟨_, rfl, gm, CG, dx, _, _, rfl, eg, TG.cl, TG.nH, gf_history _ _ _ _ _, _, rfl, _, rfl, b, L, l, n, rows, rfl, bd.same s34, hL.same (sm_tr sa s34), okF, fun H5 x s5 zx hx => ?_⟩
    obtain ⟨dxx, bx, rx, ex, _⟩ := _root_.id hx
    refine ⟨h, dxh, _, .ref CH, rfl, s5 _ _ eh, ty_hist TH KS.eH ex, KS.eH.fH, h, l, n, rows, .ref x, rfl, hh.same s5, lsm, .inl ⟨x, l, n, rows, rfl, hx, lsm, _, rfl, _, rfl, _, rfl, ?_⟩⟩
    rw [decide_eq_true (⟨rfl, rfl, rfl⟩ : l = l ∧ n = n ∧ rows = rows)]
    have s25 := sm_tr s34 s5
    have ga := ga.same s5
    have eg := s5 _ _ eg
    refine iteT ⟨_, rfl, gm, dx, _, rfl, eg, gm, l, n, st, false, rows, past, rfl, ga, _, rfl, by omega, by omega, ?_⟩
    refine ⟨_, rfl, L, vs, rfl, .inl (SqL.of (s25 _ _ hv)), _, _, rfl, rfl, rfl, ?_⟩
    have e : decide (V.bl (((rows.length : Nat) : Int) != 0) = V.bl (decide ((0 : Int) < ((vs.length : Nat) : Int)))) = true := by
      rw [hvl]
      cases rows with
      | nil => decide
      | cons r rs =>
        have e1 : (((r :: rs).length : Nat) : Int) != 0 := by
          rw [List.length_cons]
          exact bne_iff_ne.mpr (by omega)
        rw [e1, decide_eq_true (show (0 : Int) < (((r :: rs).length : Nat) : Int) by rw [List.length_cons]; omega)]
        exact decide_eq_true rfl
    have q' := q _ (sm_tr sa s25)
    rw [← e] at q'
    exact q'
end
end Gm

/-! repr of lists within lists and of own instances while an error is handled (RO's loop, its calls by FnH) -/
namespace L2
open PySem PySem.Spec PyProof.Rows
theorem RoomH.in1' {k : Nat} {A : Around} (r : L2H.RoomH (k + 1) A) : L2H.RoomH k A.in1 :=
  ⟨by have := r.dp; show A.depth + 3 * k + 5 < _; omega, by have := r.un; show A.units + 1 + 16 * k + 200 < _; omega⟩
theorem RoomH.units0' {k : Nat} {A : Around} (r : L2H.RoomH k A) : A.units < cLine := by have := r.un; omega
structure SubH (X : Cx) (k : Nat) (A : Around) : Prop where
  room : L2H.RoomH k A
  fr : A.frames = X.A.frames
  hd : A.handled = X.A.handled
section
variable {X : Cx} {pins : List (Addr × Obj)} {σ : St} {H : Hp} {s : Shared}
/-- an item's text -/
def RepH (X : Cx) (k : Nat) (as : List Addr) (H : Hp) (x : V) (t : Str) : Prop :=
  ∀ (pins : List (Addr × Obj)) (s : Shared) (σ : St) (H1 : Hp) (u : Value) (A : Around) (g : List Code) (base : Nat) (E : Value → Shared → Prop) (Q : Str → Shared → Prop), Same H H1 → Inv X pins σ H1 s → RelV x u → SubH X k A → A.guards = some g → GOk g H1 → (∀ b ∈ as, Clear g b) → base + t.length ≤ sizeLine →
    (∀ s' H2, Same H1 H2 → Inv X pins σ H2 s' → Q t s') → wpAny (model X.prog X.w) A (pyReprUnder base u) Q E s
theorem RepH.same {k : Nat} {as : List Addr} {H H' : Hp} {x : V} {t : Str} (h : RepH X k as H x t) (e : Same H H') : RepH X k as H' x t :=
  fun pins s σ H1 u A g base E Q e1 => h pins s σ H1 u A g base E Q fun b o z => e1 b o (e b o z)
/-- data -/
theorem RepH.data {k : Nat} {H : Hp} {x : V} {d : PyData} (hm : ∃ mm, X.base.Ns sysModules mm) (hd : Dq X.K H x d) (hs : Sh d 16777216 60) : RepH X k [] H x d.shown := by
  intro pins s σ H1 u A g base E Q e I r sub hg hgo _ hb q
  obtain ⟨mm, hm⟩ := hm
  obtain ⟨as, rd, nm⟩ := Dq.reads (hm.keeps I.bk) I d _ _ (Dq.same e hd) r
  obtain ⟨bs, hbs, hk⟩ := ReprAllK.of_readsAll (prog := X.prog) (w := X.w) (.cons rd .nil) (by simpa [PyData.showableAll] using hs.ok) (fun _ => by simpa using nm) (fun t ht => by
    simp only [PyData.shownAll, List.mem_singleton] at ht
    rw [ht, sizeLine_eq]
    exact hs.long)
  simp only [PyData.shownAll] at hk
  cases hk with
  | cons h1 _ =>
    refine h1 base hb A g E s Q hg (fun b hbm => ?_) ?_ (fun _ _ z => z) fun h' tk kp => q _ H1 (fun _ _ z => z) (I.kept (t' := tk) kp)
    · obtain ⟨d', as', r', _⟩ := hbs b hbm
      intro id v rest kw m z
      obtain ⟨a, ea, o⟩ := hgo id v rest kw m
      rw [ea] at z
      cases z
      exact o.no I _ _ r'
    · have h1 := hs.deep
      have h2 := sub.room.un
      simp only [PyData.depthAll]
      omega
/-- an own instance whose class shows itself -/
theorem RepH.own {k n : Nat} {H : Hp} {C f a dx : Addr} {fs : List (Str × V)} {fd : FuncData} {ps : List Str} {sp : Sp} {t : Str} {p : Addr × Obj} (F : L2H.FnH X.prog X.w X.K X.mg X.base CX0 n f fd ps sp) (hot : L2H.Hot1 X.A p) (hpn : p ∈ X.pn) (st : X.stack = X.env :: X.outer) (fre : X.env.frame = some X.env.locals)
    (hk : n ≤ k) (hs : PySem.W.findIn X.K (.ref C) "__repr__" = some (some (.ref f))) (hf : PySem.W.isFn X.K (.ref f) = true)
    (hb : Binds X.K fd ps []) (ha : H a = some (.ins C dx fs)) (hsp : ∀ H1, Same H H1 → sp [.ref a] H1 (fun v H' => v = .str t ∧ Same H1 H') E0) : RepH X k [] H (.ref a) t := by
  intro pins s σ H1 u A g base E Q e I r sub hg hgo _ hbase q
  cases r
  have ha1 := e _ _ ha
  obtain ⟨mA, J, _⟩ := ins_get I.hok ha1
  obtain ⟨od, J, _⟩ := J.look
  obtain ⟨m, hF⟩ := I.fr
  refine wpAny_pyReprUnder_ref (by omega) (PySem.W.reprUnder_K (RoomH.units0' sub.room) hF I.ok.mod.kin J hs hf ?_)
  have e0 : Env0 X.prog X.w X.K X.mg X.base A X.stack s H1 := by
    have e := I.env0
    exact ⟨by rw [sub.fr]; exact e.frames, e.mod, e.bs, e.bsz, e.funs, e.frf, e.hok, e.bare⟩
  have hl := F.len _ _ _ _ (hsp H1 e)
  have hot' : L2H.Hot1 A p := ⟨sub.hd.trans hot.1, hot.2⟩
  refine wpAny_call <| codeAny_mono (F.run A X.stack s H1 ⟨[.ref a], []⟩ [.ref a] [.ref a] _ E0 p (sub.room.mono hk) hot' (pin_ok I hpn st fre) e0 (by
    have := hb s [.ref a] I.kIn (by simpa using hl)
    simpa using this) (.cons rfl .nil) (hsp H1 e)) fun r s' hq => ?_
  cases r with
  | error e => exact hq.elim
  | ok fl =>
    cases fl with
    | ret w =>
      obtain ⟨v, H', I', rv, ev, sm⟩ := I.after hq
      subst ev
      obtain ⟨tk, rfl⟩ := rv
      exact ⟨_, _, rfl, q s' H' sm I'⟩
    | next => exact hq.elim
    | brk => exact hq.elim
    | cont => exact hq.elim
theorem subH_loop {k : Nat} {A : Around} {args : Args} (h : SubH X (k + 1) A) : SubH X k (A.under (.builtin "list.__repr__.loop" args)) := by
  have hd : (A.under (.builtin "list.__repr__.loop" args)).handled = A.handled := rfl
  have e1 : (A.under (.builtin "list.__repr__.loop" args)).depth ≤ A.depth + 1 := by
    first
      | exact Nat.le_succ _
      | exact Nat.le_refl _
      | simp [Around.under, Code.weight, Code.isCreation, Code.isGuard, Code.isCaller, Code.frames, Code.isFrame, guardIds]
  have e2 := units_under_list_loop A args
  have e3 : (A.under (.builtin "list.__repr__.loop" args)).frames = A.frames := by
    first
      | rfl
      | simp [Around.under, Code.envs, pushEnvs]
  obtain ⟨⟨h2, h3⟩, h4, h5⟩ := h
  exact ⟨⟨by omega, by rw [e2]; omega⟩, e3.trans h4, hd.trans h5⟩
/-- the loop over a list's items -/
theorem loopH {a P : Addr} {xs : List V} {ts : List Str} {as : List Addr} {k base : Nat} {A : Around} {g : List Code} (ha : H a = some (.lst xs)) (hodd : Odd H a) (hg : A.guards = some g) (hgo : GOk g H) (hcl : ∀ b ∈ as, Clear g b) (hS : SubH X (k + 1) A) (hna : a ∉ as) (hlen : ts.length = xs.length)
    (hT : ∀ (i : Nat) (x : V), xs[i]? = some x → ∃ t, ts[i]? = some t ∧ RepH X k as H x t) (hsz : base + (listText ts).length ≤ sizeLine) {R : Result → Shared → Prop} :
    ∀ (m i : Nat) (s : Shared) (H1 : Hp) (acc : Array Value) (c : Nat) (done : List (Str × Tok)), xs.length - i = m → i ≤ xs.length → Same H H1 → Inv X pins σ H1 s → FpOk X pins H1 P →
    s.heap.get? P = some { cls := .type "list", dict := none, data := .seq acc c, slots := #[] } → acc.toList = strValues done → done.map (·.1) = ts.take i →
    (∀ s' H2 u, Same H1 H2 → Inv X pins σ H2 s' → R (.ok (.ret (.str (listText ts) u))) s') →
    codeAny (model X.prog X.w) A (.builtin "list.__repr__.loop" ⟨[.ref a, rawInt i, .ref P, rawInt ((base + piled (ts.take i) : Nat) : Int)], []⟩) R s := by
  have hX : (listText ts).length = (textFrom 0 "[" ts).length + 1 := by
    show (textFrom 0 "[" ts ++ "]").length = _
    rw [strLen_append]; rfl
  have hL := textFrom_len ts 0 "["
  have hsz2 : ∀ t ∈ ts, t.length ≤ sizeLine := fun t ht => by
    have h2 := hL.2.1 t ht
    omega
  have hsz1 : ts.length ≤ sizeLine := by
    have h1 := hL.1
    rw [if_neg (Nat.lt_irrefl 0)] at h1
    omega
  have hsz3 : (listText ts).length ≤ sizeLine := by omega
  have hp3 := piled_le_listText ts
  intro m
  induction m with
  | zero =>
    intro i s H1 acc c done hk hi e I fP hP hacc hdone hR
    have hin : i = xs.length := by omega
    obtain ⟨its, rv, hl, _⟩ := I.list (.inl (.inl (e _ _ ha)))
    obtain ⟨o, ho, hc, n, hd⟩ := hl.isList
    have hli := rv.length
    refine codeAny_builtin F.entry_list_repr_loop ?_
    show wpAny _ _ (Builtin.«list.__repr__.loop» ⟨[.ref a, .int i 0, .ref P, .int ((base + piled (ts.take i) : Nat) : Int) 0], []⟩) _ _ s
    rw [repr_loop_tree]
    refine wpAny_bind (wpAny_listItems ho hd ?_)
    have hnone : (its.toArray)[(i : Int).toNat]? = none := by simp [hin]; omega
    simp only [hnone]
    unfold reprEnd
    refine wpAny_bind (wpAny_listItems hP rfl ?_)
    rw [hacc, repr_fold]
    refine wpAny_bind (wpAny_pure ?_)
    have hall : done.map (·.1) = ts := by rw [hdone, hin, ← hlen, List.take_length]
    rw [hall]
    refine wpAny_bind (wpAny_mkStr (wpAny_pure ?_) hsz3)
    exact hR _ H1 _ (fun _ _ z => z) (I.tok _)
  | succ m ih =>
    intro i s H1 acc c done hk hi e I fP hP hacc hdone hR
    have hlt : i < xs.length := by omega
    obtain ⟨its, rv, hl, _⟩ := I.list (.inl (.inl (e _ _ ha)))
    obtain ⟨o, ho, hc, n, hd⟩ := hl.isList
    have hx : xs[i]? = some xs[i] := List.getElem?_eq_getElem hlt
    obtain ⟨t, ht, hrep⟩ := hT i xs[i] hx
    obtain ⟨u, hu, ru⟩ := rv.get hx
    have hp1 := piled_take_succ ht
    have hp2 := piled_take_le ts (i + 1)
    refine codeAny_builtin F.entry_list_repr_loop ?_
    show wpAny _ _ (Builtin.«list.__repr__.loop» ⟨[.ref a, .int i 0, .ref P, .int ((base + piled (ts.take i) : Nat) : Int) 0], []⟩) _ _ s
    rw [repr_loop_tree]
    refine wpAny_bind (wpAny_listItems ho hd ?_)
    have hsome : (its.toArray)[(i : Int).toNat]? = some u := by simpa using hu
    simp only [hsome]
    rw [Int.toNat_natCast]
    have Ip := I.pinned (fp := [P]) (fun b hb => by rw [List.mem_singleton.mp hb]; exact fP) (fun b hb => by rw [List.mem_singleton.mp hb]; exact ⟨_, hP, fun v z => by cases z⟩)
    refine wpAny_bind (wpAny_holding (hrep _ s σ H1 u _ _ (base + piled (ts.take i) + 1) _ _ e Ip ru (subH_loop hS) (guards_under_guard (isGuard_list_loop _) hg) ((hgo.same e).cons (hodd.same e)) (fun b hb => (hcl b hb).cons (a := a) fun z => hna (z ▸ hb)) (by omega) fun s2 H2 e2 I2 => ?_))
    have pP := I2.pin (P, _) (List.mem_append_right _ (List.mem_append_right _ (mem_pinsAt (List.mem_singleton.mpr rfl) hP)))
    have I2' := I2.unpinned
    have f2 : FpOk X pins H2 P := ⟨pP.2.1, fP.2⟩
    refine wpAny_bind (wpAny_mkStr ?_ (hsz2 t (List.mem_of_getElem? ht)))
    refine wpAny_bind ?_
    show wpAny _ _ (updateSeq P _) _ _ _
    have hasz : acc.size ≤ sizeLine := by
      have e1 : acc.toList.length = acc.size := by simp
      have e2 : (strValues done).length = done.length := by simp [strValues]
      have e3 : done.length = (ts.take i).length := by rw [← hdone, List.length_map]
      have e4 : (ts.take i).length ≤ i := by rw [List.length_take]; omega
      rw [hacc] at e1; omega
    refine wpAny_updateSeq pP.1 rfl (wpAny_pure ⟨F.quiet_list_repr_loop _, ?_⟩) hasz
    have e1 : ((i : Int) + 1) = ((i + 1 : Nat) : Int) := by omega
    have e2' : base + piled (ts.take i) + (t.length + 2) = base + piled (ts.take (i + 1)) := by omega
    rw [e1, e2']
    refine ih (i + 1) _ H2 (acc.push (.str t s2.toks)) _ (done ++ [(t, s2.toks)]) (by omega) hlt (fun b o z => e2 b o (e b o z))
      (Inv.turnedL (ch := [P]) (I2'.tok (s2.toks + 1)) (fun b o nb z => (Heap.get?_update_other _ _ fun h : P = b => nb (by simp [h])).trans z) (fun b hb => by rw [List.mem_singleton.mp hb]; exact f2)) f2 (Heap.get?_update_self _ pP.1 rfl) (by simp [hacc, strValues]) (by simp [List.take_add_one, ht, hdone]) fun s' H3 u' e3 I3 => ?_
    exact hR s' H3 u' (fun b o z => e3 b o (e2 b o z)) I3
theorem reprAtH {a : Addr} {xs : List V} {ts : List Str} {as : List Addr} {k base : Nat} {A : Around} {g : List Code} {H1 : Hp} (ha : H a = some (.lst xs)) (hodd : Odd H a) (hne : xs ≠ []) (hg : A.guards = some g) (hgo : GOk g H) (hcl : ∀ b ∈ a :: as, Clear g b) (hS : SubH X (k + 1) A) (hna : a ∉ as) (hlen : ts.length = xs.length)
    (hT : ∀ (i : Nat) (x : V), xs[i]? = some x → ∃ t, ts[i]? = some t ∧ RepH X k as H x t) (hsz : base + (listText ts).length ≤ sizeLine) {R : Result → Shared → Prop} (e : Same H H1) (I : Inv X pins σ H1 s)
    (hR : ∀ s' H2 u, Same H1 H2 → Inv X pins σ H2 s' → R (.ok (.ret (.str (listText ts) u))) s') :
    wpAny (model X.prog X.w) A.in1 (Builtin.listReprAt base ⟨[.ref a], []⟩) (fun fin s' => match fin with | .done f => R (.ok f) s' | .again c' => c'.quiet = true ∧ codeAny (model X.prog X.w) A c' R s') (fun e s' => R (.error e) s') s := by
  have hca : Clear g a := hcl a (.head _)
  obtain ⟨its, rv, hl, _⟩ := I.list (.inl (.inl (e _ _ ha)))
  obtain ⟨o, ho, hc, n, hd⟩ := hl.isList
  cases its with
  | nil =>
    have := rv.length
    exact absurd (List.length_eq_zero_iff.mp this) hne
  | cons u l =>
    have hP : H1 s.heap.objs.size = none := I.hok.fresh (Nat.le_refl _)
    refine wpAny_list_repr_head (A := A.in1) hg (fun v rest kw hm => listSameRef_of_ne (hca _ _ _ _ hm)) ho hd ?_
    refine wpAny_bind (m := newList []) (wpAny_newObj_type ?_)
    refine wpAny_pure ⟨F.quiet_list_repr_loop _, ?_⟩
    have I2 := I.kept (h' := s.heap.push { cls := .type "list", dict := none, data := .seq #[] 0, slots := #[] }) (t' := s.toks) fun b o z => Heap.get?_push_of_some _ z
    exact loopH (P := s.heap.objs.size) ha hodd hg hgo (fun b hb => hcl b (.tail _ hb)) hS hna hlen hT hsz _ 0 _ H1 #[] _ [] rfl (Nat.zero_le _) e I2 (I.fpOk (Nat.le_refl _) hP) (Heap.get?_push_size _ rfl) rfl (by simp) fun s' H2 u' e2 I3 => hR s' H2 u' e2 I3
/-- a list with an own instance in it -/
theorem RepH.list {a : Addr} {xs : List V} {ts : List Str} {as : List Addr} {k : Nat} (ha : H a = some (.lst xs)) (hodd : Odd H a) (hne : xs ≠ []) (hna : a ∉ as) (hlen : ts.length = xs.length)
    (hT : ∀ (i : Nat) (x : V), xs[i]? = some x → ∃ t, ts[i]? = some t ∧ RepH X k as H x t) : RepH X (k + 1) (a :: as) H (.ref a) (listText ts) := by
  intro pins s σ H1 u A g base E Q e I r sub hg hgo hcl hb q
  cases r
  obtain ⟨its, rv, hl, _⟩ := I.list (.inl (.inl (e _ _ ha)))
  obtain ⟨o, ho, hc, n, hd⟩ := hl.isList
  refine wpAny_pyReprUnder_ref (by omega) (wpAny_pyReprObjUnder_twin (twin := "list.__repr__.under") ⟨o, ho, hc⟩ F.slot_list_repr.toG rfl (RoomH.units0' sub.room) ?_)
  refine call_twin_plain F.plain_list_repr_under F.entry_list_repr_under F.check_list_repr_under ⟨o, ho, hc⟩ F.slot_list_repr.toG (F.args_list_repr_1 _) ?_
  refine reprAtH (H := H1) (R := callEnd _ E) (e _ _ ha) (hodd.same e) hne hg hgo hcl sub hna hlen (fun i x hx => let ⟨t, h1, h2⟩ := hT i x hx; ⟨t, h1, h2.same e⟩) hb (fun _ _ z => z) I fun s' H2 u e2 I2 => ?_
  exact ⟨⟨_, _, rfl⟩, _, _, rfl, q s' H2 e2 I2⟩
/-- repr([..]), an own instance in it -/
def rReprH (X : Cx) (k : Nat) : List V → Hp → VK → Prop := fun vs H Q => ∃ (a : Addr) (xs : List V) (ts : List Str) (as : List Addr), vs = [.ref a] ∧ H a = some (.lst xs) ∧ Odd H a ∧ xs ≠ [] ∧ a ∉ as ∧ ts.length = xs.length ∧
  (∀ (i : Nat) (x : V), xs[i]? = some x → ∃ t, ts[i]? = some t ∧ RepH X k as H x t) ∧ (listText ts).length ≤ sizeLine ∧ ∀ H', Same H H' → Q (.str (listText ts)) H'
theorem call_reprH {k : Nat} (g : X.A.guards = some []) (hr : L2H.RoomH (k + 2) X.A) : CallR X (.builtin "repr") (rReprH X k) := by
  intro pins s σ H vs us Q I r h
  obtain ⟨a, xs, ts, as, rfl, ha, hodd, hne, hna, hlen, hT, hsz, q⟩ := h
  obtain rfl := Vals.ref1 r
  obtain ⟨its, rv, hl, _⟩ := I.list (.inl (.inl ha))
  obtain ⟨o, ho, hc, n, hd⟩ := hl.isList
  refine call_repr_slot (RoomH.units0' (RoomH.in1' hr)) ⟨o, ho, hc⟩ F.slot_list_repr.toG ?_
  refine wpAny_call (codeAny_call_builtin F.slot_list_repr.plain F.entry_list_repr (F.slot_list_repr.check _ _ _ _ _ _ _ _ ⟨o, ho, hc⟩ (F.args_list_repr_1 _) ?_))
  refine reprAtH (A := X.A.in1) (base := 0) (R := callEnd _ _) (g := []) ha hodd hne g GOk.nil (fun b _ => Clear.nil b) ⟨RoomH.in1' hr, rfl, rfl⟩ hna hlen hT (by omega) (fun _ _ z => z) I fun s' H2 u e2 I2 => ?_
  exact ⟨_, _, rfl, .str (listText ts), H2, I2, ⟨_, rfl⟩, q H2 e2⟩
/-- repr of an own instance while an error is handled -/
theorem call_reprOwnH {C f : Addr} {fd : FuncData} {ps : List Str} {sp : Sp} {n : Nat} {p : Addr × Obj} (hr : L2H.RoomH (n + 1) X.A) (F : L2H.FnH X.prog X.w X.K X.mg X.base CX0 n f fd ps sp) (hot : L2H.Hot1 X.A p) (hpn : p ∈ X.pn) (st : X.stack = X.env :: X.outer) (fre : X.env.frame = some X.env.locals)
    (hs : PySem.W.findIn X.K (.ref C) "__repr__" = some (some (.ref f))) (hf : PySem.W.isFn X.K (.ref f) = true) (hb : Binds X.K fd ps []) : CallR X (.builtin "repr") (rTxt C sp E0) := by
  intro pins s σ H xs us Q I r h
  obtain ⟨a, dx, fs, rfl, ha, hsp⟩ := h
  obtain ⟨mA, J, _⟩ := ins_get I.hok ha
  obtain ⟨od, J, _⟩ := J.look
  obtain ⟨m, hF⟩ := I.fr
  cases r with
  | cons r1 r2 =>
    cases r2
    cases r1
    have r1 := RoomH.in1' hr
    refine PySem.W.repr_K (RoomH.units0' r1) hF I.ok.mod.kin J hs hf ?_
    have e0 : Env0 X.prog X.w X.K X.mg X.base X.A.in1 X.stack s H := by
      have e := I.env0
      exact ⟨e.frames, e.mod, e.bs, e.bsz, e.funs, e.frf, e.hok, e.bare⟩
    have hl := F.len _ _ _ _ hsp
    refine wpAny_call <| codeAny_mono (F.run X.A.in1 X.stack s H ⟨[.ref a], []⟩ [.ref a] [.ref a] _ E0 p r1 ⟨hot.1, hot.2⟩ (pin_ok I hpn st fre) e0 (by
      have := hb s [.ref a] I.kIn (by simpa using hl)
      simpa using this) (.cons rfl .nil) hsp) fun r s' hq => ?_
    cases r with
    | error e => exact hq.elim
    | ok fl =>
      cases fl with
      | ret w =>
        obtain ⟨v, H', I', rv, r, ev, q⟩ := I.after hq
        subst ev
        obtain ⟨tk, rfl⟩ := rv
        exact ⟨.str r, H', I', ⟨_, rfl⟩, q⟩
      | next => exact hq.elim
      | brk => exact hq.elim
      | cont => exact hq.elim
end
section
variable {P : Program} {w : World} {K : PySem.W.Frag} {mg : Str → Option Value} {base : Heap} {x qual : Str} {st : Stmt} {f : Addr} {fd : FuncData} {N ps : List Str} {k : Nat} {sp : Sp}
/-- a def that is called while an error is handled -/
theorem Fun.okC (F : Fun K x qual st f fd) (S : FnScope N ps (defScope st)) (many : ∀ vs H Q E, sp vs H Q E → vs.length = ps.length)
    (body : ∀ (cdv : Value) (A : Around) (outer : List Env) (s : Shared) (H : Hp) (vs : List V) (Q : VK) (E : XK) (p : Addr × Obj), L2H.Hot1 A p → L2H.RoomH k (A.deeper (envOfC qual (defScope st) s.heap.objs.size f cdv)) → sp vs H Q E →
      ∃ t, PSs (L2H.cxH CX0 P w K mg base N qual (defScope st) f cdv A outer s H E p) (defBody st) t ∧ t { nx := fun _ H' => Q .non H', rt := Q } (start N vs) H) : L2H.FnH P w K mg base CX0 (k + 1) f fd ps sp := by
  obtain ⟨oc, od, kV, doc, pm, an, cdv, ct, osl, rfl, lk, hcd⟩ := F.ex
  exact L2H.fn_ofH lk hcd S many fun A outer s H vs Q E p hot hr h => body cdv A outer s H vs Q E p hot hr h
end
end L2

/-! k61: things that are no boards, shown, also while an error is handled; `_law_refused` -/
namespace Gm
open PySem PySem.Spec PyProof.Rows L2 LamX

def histT (n : Nat) : Str := Str.ofString "History(" ++ numT n ++ Str.ofString " rows)"
def boardT (l : List Nat) (n : Int) : Str := "Board(" ++ tx l ++ " " ++ digit n ++ ")"
/-- what is no board, and how it is shown -/
inductive OddV (K : PySem.W.Frag) (C CH CM CG : Addr) (H : Hp) : V → Str → Prop
  | data {v : V} {d : PyData} : Dq K H v d → Sh d 16777216 60 → OddV K C CH CM CG H v d.shown
  | game {g : Addr} {l : List Nat} {n : Int} {st bz : Bool} {rows : List Row} {past : List (List Row)} : GameAt C CH CM CG H g l n st bz rows past → OddV K C CH CM CG H (.ref g) (gameT rows.length)
  | hist {h : Addr} {l : List Nat} {n : Int} {rows : List Row} : HistAt C CH H h l n rows → OddV K C CH CM CG H (.ref h) (histT rows.length)
  | box {a b : Addr} {l : List Nat} {n : Int} : H a = some (.lst [.ref b]) → Bd C H b l n → OddV K C CH CM CG H (.ref a) (listText [boardT l n])
theorem OddV.same {K : PySem.W.Frag} {C CH CM CG : Addr} {H H' : Hp} {v : V} {t : Str} (h : OddV K C CH CM CG H v t) (s : Same H H') : OddV K C CH CM CG H' v t := by
  cases h with
  | data a b => exact .data (Dq.same s a) b
  | game g => exact .game (g.same s)
  | hist g => exact .hist (g.same s)
  | box e b => exact .box (s _ _ e) (b.same s)
def rShowO (K : PySem.W.Frag) (C CH CM CG : Addr) : List V → Hp → VK → Prop := fun xs H Q => ∃ v t, xs = [v] ∧ OddV K C CH CM CG H v t ∧ ∀ H', Same H H' → Q (.str t) H'
/-- the three classes' repr -/
structure KitR (K : PySem.W.Frag) (C CH CG : Addr) (fB fH fG : Addr) (fdB fdH fdG : FuncData) : Prop where
  aB : PySem.W.findIn K (.ref C) "__repr__" = some (some (.ref fB))
  iB : PySem.W.isFn K (.ref fB) = true
  bB : L2.Binds K fdB ["self"] []
  aH : PySem.W.findIn K (.ref CH) "__repr__" = some (some (.ref fH))
  iH : PySem.W.isFn K (.ref fH) = true
  bH : L2.Binds K fdH ["self"] []
  aG : PySem.W.findIn K (.ref CG) "__repr__" = some (some (.ref fG))
  iG : PySem.W.isFn K (.ref fG) = true
  bG : L2.Binds K fdG ["self"] []
theorem digit_len2 {n : Int} (h0 : 1 ≤ n) (h1 : n ≤ 6) : (digit n).length ≤ 10 := by
  have := digit_len h0 h1
  omega
theorem board_len {l : List Nat} {n : Int} (h0 : 1 ≤ n) (h1 : n ≤ 6) (h2 : l.length ≤ 26) : (boardT l n).length ≤ 60 := by
  have d := digit_len2 h0 h1
  have l1 : (Str.ofString " ").length = 1 := rfl
  have l2 : (Str.ofString "Board(").length = 6 := rfl
  have l3 : (Str.ofString ")").length = 1 := rfl
  have l4 := tx_len l
  show (Str.ofString "Board(" ++ tx l ++ Str.ofString " " ++ digit n ++ Str.ofString ")").length ≤ 60
  rw [app_len, app_len, app_len, app_len]
  omega
section
variable {X : Cx} {C CH CM CG fB fH fG : Addr} {fdB fdH fdG : FuncData}
/-- repr of what is no board -/
theorem call_showO (KR : KitR X.K C CH CG fB fH fG fdB fdH fdG) (g : X.A.guards = some []) (hr : Room 4 X.A) (hM : ∃ mm, X.base.Ns sysModules mm)
    (GB : FnOk X.prog X.w X.K X.mg X.base CX0 1 fB fdB ["self"] (spRepr C)) (GH : FnOk X.prog X.w X.K X.mg X.base CX0 1 fH fdH ["self"] (spHRepr C CH)) (GG : FnOk X.prog X.w X.K X.mg X.base CX0 1 fG fdG ["self"] (spGRepr C CH CM CG)) :
    CallR X (.builtin "repr") (rShowO X.K C CH CM CG) := by
  intro pins s σ H xs us Q I r h
  obtain ⟨v, t, rfl, o, q⟩ := h
  have hr2 : Room 2 X.A := hr.mono (by decide)
  cases o with
  | @data _ d a b =>
    obtain ⟨w, rfl, rw⟩ := r.one
    exact call_reprV g hr.units hM pins s σ H [v] [w] Q I r ⟨v, d, rfl, a, b, q _ (Same.refl H)⟩
  | @game gm l n st bz rows past ga =>
    obtain ⟨dx, b, hh, pa, eg, _⟩ := _root_.id ga
    exact call_reprOwn (n := 1) (E := E0) hr2 GG KR.aG KR.iG KR.bG pass0 pins s σ H _ us Q I r ⟨gm, dx, _, rfl, eg, gm, l, n, st, bz, rows, past, rfl, ga, _, rfl, q _ (Same.refl H)⟩
  | @hist h l n rows ha =>
    obtain ⟨dx, b, rr, eg, _⟩ := _root_.id ha
    exact call_reprOwn (n := 1) (E := E0) hr2 GH KR.aH KR.iH KR.bH pass0 pins s σ H _ us Q I r ⟨h, dx, _, rfl, eg, h, l, n, rows, rfl, ha, _, rfl, q _ (Same.refl H)⟩
  | @box a b l n ea bd =>
    obtain ⟨⟨db, eb⟩, l26, n1, n6⟩ := _root_.id bd
    have bl := board_len n1 n6 l26
    refine call_reprO (k := 2) g hr pins s σ H _ us Q I r ⟨a, [.ref b], [boardT l n], [], rfl, ea, .lst ea (.head _) (.own eb), by simp, by simp, rfl, fun i x hx => ?_, ?_, q⟩
    · cases i with
      | zero =>
        cases hx
        refine ⟨_, rfl, RepO.own (n := 1) GB (by decide) KR.aB KR.iB KR.bB eb fun H1 s1 => ⟨b, tx l, n, rfl, ⟨db, s1 _ _ eb⟩, by rw [tx_len]; omega, n1, n6, rfl, Same.refl H1⟩⟩
      | succ i => cases hx
    · have z := listText_len_le [boardT l n]
      simp only [List.map_cons, List.map_nil, List.sum_cons, List.sum_nil, List.length_cons, List.length_nil] at z
      rw [sizeLine_eq]
      omega
/-- the same while an error is handled -/
theorem call_showH {p : Addr × Obj} (KR : KitR X.K C CH CG fB fH fG fdB fdH fdG) (g : X.A.guards = some []) (hr : L2H.RoomH 4 X.A) (hot : L2H.Hot1 X.A p) (hpn : p ∈ X.pn) (stk : X.stack = X.env :: X.outer) (fre : X.env.frame = some X.env.locals) (hM : ∃ mm, X.base.Ns sysModules mm)
    (GB : L2H.FnH X.prog X.w X.K X.mg X.base CX0 1 fB fdB ["self"] (spRepr C)) (GH : L2H.FnH X.prog X.w X.K X.mg X.base CX0 1 fH fdH ["self"] (spHRepr C CH)) (GG : L2H.FnH X.prog X.w X.K X.mg X.base CX0 1 fG fdG ["self"] (spGRepr C CH CM CG)) :
    CallR X (.builtin "repr") (rShowO X.K C CH CM CG) := by
  intro pins s σ H xs us Q I r h
  obtain ⟨v, t, rfl, o, q⟩ := h
  have hr2 : L2H.RoomH 2 X.A := hr.mono (by decide)
  cases o with
  | @data _ d a b =>
    obtain ⟨w, rfl, rw⟩ := r.one
    exact call_reprV g (by have := hr.un; omega) hM pins s σ H [v] [w] Q I r ⟨v, d, rfl, a, b, q _ (Same.refl H)⟩
  | @game gm l n st bz rows past ga =>
    obtain ⟨dx, b, hh, pa, eg, _⟩ := _root_.id ga
    exact call_reprOwnH (n := 1) hr2 GG hot hpn stk fre KR.aG KR.iG KR.bG pins s σ H _ us Q I r ⟨gm, dx, _, rfl, eg, gm, l, n, st, bz, rows, past, rfl, ga, _, rfl, q _ (Same.refl H)⟩
  | @hist h l n rows ha =>
    obtain ⟨dx, b, rr, eg, _⟩ := _root_.id ha
    exact call_reprOwnH (n := 1) hr2 GH hot hpn stk fre KR.aH KR.iH KR.bH pins s σ H _ us Q I r ⟨h, dx, _, rfl, eg, h, l, n, rows, rfl, ha, _, rfl, q _ (Same.refl H)⟩
  | @box a b l n ea bd =>
    obtain ⟨⟨db, eb⟩, l26, n1, n6⟩ := _root_.id bd
    have bl := board_len n1 n6 l26
    refine call_reprH (k := 2) g hr pins s σ H _ us Q I r ⟨a, [.ref b], [boardT l n], [], rfl, ea, .lst ea (.head _) (.own eb), by simp, by simp, rfl, fun i x hx => ?_, ?_, q⟩
    · cases i with
      | zero =>
        cases hx
        refine ⟨_, rfl, RepH.own (n := 1) GB hot hpn stk fre (by decide) KR.aB KR.iB KR.bB eb fun H1 s1 => ⟨b, tx l, n, rfl, ⟨db, s1 _ _ eb⟩, by rw [tx_len]; omega, n1, n6, rfl, Same.refl H1⟩⟩
      | succ i => cases hx
    · have z := listText_len_le [boardT l n]
      simp only [List.map_cons, List.map_nil, List.sum_cons, List.sum_nil, List.length_cons, List.length_nil] at z
      rw [sizeLine_eq]
      omega
end
section
variable {P : Program} {w : World} {K : PySem.W.Frag} {mg : Str → Option Value} {base : Heap}
theorem ok_reprH {f C : Addr} {fd : FuncData} (F : Fun K "__repr__" "Board.__repr__" sRepr f fd) (TC : TxC K mg C) : L2H.FnH P w K mg base CX0 1 f fd ["self"] (spRepr C) := by
  refine F.okC scR (fun vs H Q E h => ?_) (fun cdv A outer s H vs Q E p0 hot hr h => ?_)
  · obtain ⟨p, s, n, rfl, _⟩ := h
    rfl
  · obtain ⟨p, z, n, rfl, ⟨dx, hp⟩, hz, n0, n1, q⟩ := h
    refine ⟨_, pss_one (ps_ret (pe_joined (.cons pe_str (.cons (pe_fmt (pe_fld (pv 0) rfl)) (.cons pe_str (.cons (pe_fmt (pe_fld (pv 0) rfl)) (.cons pe_str .nil))))))), ?_⟩
    have hline : sizeLine = 16777216 := sizeLine_eq
    have d := digit_len n0 n1
    have l1 : (Str.ofString " ").length = 1 := rfl
    have l2 : (Str.ofString "Board(").length = 6 := rfl
    have l3 : (Str.ofString ")").length = 1 := rfl
    refine ⟨_, rfl, by rw [empty_app, l2]; omega, ?_⟩
    refine ⟨_, rfl, p, C, dx, _, _, rfl, hp, TC.cl, TC.nL, bf_letters z n, .inl ⟨z, rfl, by omega, z, rfl, by rw [empty_app, app_len, l2]; omega, ?_⟩⟩
    refine ⟨_, rfl, by rw [empty_app, app_len, app_len, l1, l2]; omega, ?_⟩
    refine ⟨_, rfl, p, C, dx, _, _, rfl, hp, TC.cl, TC.nN, bf_length z n, .inr ⟨n, rfl, digit_log n0 n1, digit n, rfl, by rw [empty_app, app_len, app_len, app_len, l1, l2]; omega, ?_⟩⟩
    refine ⟨_, rfl, by rw [empty_app, app_len, app_len, app_len, app_len, l1, l2, l3]; omega, ?_⟩
    show Q (.str (Str.empty ++ Str.ofString "Board(" ++ z ++ Str.ofString " " ++ digit n ++ Str.ofString ")")) H
    rw [empty_app]
    exact q
theorem ok_hreprH {f C CH : Addr} {fd : FuncData} (F : Fun K "__repr__" "History.__repr__" sHRepr f fd) (TH : TxH K mg CH) (tl : mg "len" = none) : L2H.FnH P w K mg base CX0 1 f fd ["self"] (spHRepr C CH) := by
  refine F.okC scHRepr (fun vs H Q E h => ?_) (fun cdv A outer s H vs Q E p0 hot hr h => ?_)
  · obtain ⟨p, l, n, rows, rfl, _⟩ := h
    rfl
  · obtain ⟨p, l, n, rows, rfl, ⟨dx, b, r, hp, hb, ⟨vs, hv, hw⟩, ok⟩, q⟩ := h
    have hline : sizeLine = 16777216 := sizeLine_eq
    have n20 := ok.2
    refine ⟨_, pss_one (ps_ret (pe_joined (.cons pe_str (.cons (pe_fmt (pe_callB call_len_seq (by rfl) tl PySem.boot_len (pa_cons (pe_fld (pv 0) rfl) pa_nil))) (.cons pe_str .nil))))), ?_⟩
    have l2 : (Str.ofString "History(").length = 8 := rfl
    have l3 : (Str.ofString " rows)").length = 6 := rfl
    have d := num_len (n := (rows.length : Int)) (by omega) (by omega)
    refine ⟨_, rfl, by rw [empty_app, l2]; omega, ?_⟩
    refine ⟨_, rfl, p, CH, dx, _, _, rfl, hp, TH.cl, TH.nR, hf_rows b r, r, _, rfl, .inr (SqT.of hv), ?_⟩
    rw [hw.len]
    refine .inr ⟨_, rfl, num_log (by omega) (by omega), numT rows.length, rfl, by rw [empty_app, app_len, l2]; omega, ?_⟩
    refine ⟨_, rfl, by rw [empty_app, app_len, app_len, l2, l3]; omega, ?_⟩
    show Q (.str (Str.empty ++ Str.ofString "History(" ++ numT rows.length ++ Str.ofString " rows)")) H
    rw [empty_app]
    exact q
theorem ok_greprH {f C CH CM CG : Addr} {fd : FuncData} (F : Fun K "__repr__" "Game.__repr__" sGRepr f fd) (TG : TxG K mg CG) (TH : TxH K mg CH) (tl : mg "len" = none) : L2H.FnH P w K mg base CX0 1 f fd ["self"] (spGRepr C CH CM CG) := by
  refine F.okC scGRepr (fun vs H Q E h => ?_) (fun cdv A outer s H vs Q E p0 hot hr h => ?_)
  · obtain ⟨g, l, n, st, bz, rows, past, rfl, _⟩ := h
    rfl
  · obtain ⟨g, l, n, st, bz, rows, past, rfl, ⟨dx, b, h, pa, hg, hb, hh, hp⟩, q⟩ := h
    obtain ⟨dxh, bh, rh, eh, hbh, ⟨vs, hv, hw⟩, ok⟩ := hh
    have hline : sizeLine = 16777216 := sizeLine_eq
    have n20 := ok.2
    refine ⟨_, pss_one (ps_ret (pe_joined (.cons pe_str (.cons (pe_fmt (pe_callB call_len_seq (by rfl) tl PySem.boot_len (pa_cons (pe_fld (pe_fld (pv 0) rfl) rfl) pa_nil))) (.cons pe_str .nil))))), ?_⟩
    have l2 : (Str.ofString "Game(").length = 5 := rfl
    have l3 : (Str.ofString " rows)").length = 6 := rfl
    have d := num_len (n := (rows.length : Int)) (by omega) (by omega)
    refine ⟨_, rfl, by rw [empty_app, l2]; omega, ?_⟩
    refine ⟨_, rfl, g, CG, dx, _, _, rfl, hg, TG.cl, TG.nH, gf_history _ _ _ _ _, h, CH, dxh, _, _, rfl, eh, TH.cl, TH.nR, hf_rows bh rh, rh, _, rfl, .inr (SqT.of hv), ?_⟩
    rw [hw.len]
    refine .inr ⟨_, rfl, num_log (by omega) (by omega), numT rows.length, rfl, by rw [empty_app, app_len, l2]; omega, ?_⟩
    refine ⟨_, rfl, by rw [empty_app, app_len, app_len, l2, l3]; omega, ?_⟩
    show Q (.str (Str.empty ++ Str.ofString "Game(" ++ numT rows.length ++ Str.ofString " rows)")) H
    rw [empty_app]
    exact q
theorem ltakes0 {X : Cx} : L2N.Takes X (fun _ _ _ _ => False) := fun _ _ x => by
  obtain ⟨_, _, _, _, _, _, _, _, _, _, _, _, _, _, _, _, z⟩ := x
  exact z.elim
theorem takes_len {X : Cx} {W : WX} (t : L2N.Takes X W) : L2N.Takes X (wLen X.N.length W) := fun u s' ⟨a, B, sI, pins, σ, H, cls, d, e, I, nb, up, sky, na, os, ag, w⟩ =>
  t u s' ⟨a, B, sI, pins, σ, H, cls, d, e, I, nb, up, sky, na, os, ag, w I.len⟩
theorem look1 {f : Str} {v : V} : List.lookup f [(f, v)] = some v := by simp [List.lookup]
abbrev nRefu : List Str := ["_law_thing", "_law_back", "e", "_law_wide"]
theorem scRefu : FnScope nRefu ["_law_thing"] (defScope sRefu) := ⟨rfl, rfl, rfl, by decide +kernel, rfl, by decide +kernel, by decide +kernel⟩
/-- what stands in the law's module, and of NotABoard's bases -/
structure TxR2 (K : PySem.W.Frag) (mg : Str → Option Value) (base : Heap) (CB ci cs cz : Addr) : Prop where
  isi : mg "isinstance" = none
  repr : mg "repr" = none
  pV : mg "ValueError" = none
  gi : mg "InputError" = some (.ref ci)
  gs : mg "StateError" = some (.ref cs)
  gz : mg "SizeError" = some (.ref cz)
  ns : ∃ mm, base.Ns sysModules mm
  xB : PySem.W.exmOne K (.ref CB) (.ref CB) = some true
  ki : PySem.W.kitOne K (.ref CB) (.ref ci) = some true
  ks : PySem.W.kitOne K (.ref CB) (.ref cs) = some false
  kz : PySem.W.kitOne K (.ref CB) (.ref cz) = some false
  kV : PySem.W.kitOne K (.ref CB) (.type "ValueError") = some true
def spRefu (K : PySem.W.Frag) (C CH CM CG : Addr) : Sp := fun vs H Q _ => ∃ (v : V) (t : Value) (x : Str), vs = [v] ∧ TyX K H v t ∧ PySem.W.kitOne K t (.ref C) = some false ∧ OddV K C CH CM CG H v x ∧ ∀ H' T, Same H H' → H' T = some (.tup [.str "NotABoard", .str x, .bl true]) → Q (.ref T) H'
abbrev Yr (P : Program) (w : World) (K : PySem.W.Frag) (mg : Str → Option Value) (base : Heap) (f : Addr) (cdv : Value) (A : Around) (outer : List Env) (s : Shared) (H : Hp) (E : XK) : Cx := (cxOf CX0 P w K mg base nRefu "_law_refused" (defScope sRefu) f cdv A outer s H E).nox
theorem ok_refused {f C CB CH CM CG ci cs cz eB fI fB fH fG : Addr} {fd fdI fdB fdH fdG : FuncData} {ds : List Value} (F : Fun K "_law_refused" "_law_refused" sRefu f fd) (T : TxR2 K mg base CB ci cs cz) (TG : TxG K mg CG) (EB : ErrB K mg "NotABoard" "value" CB eB)
    (GI : FnOk P w K mg base (L2N.CX P w) 4 fI fdI ["self", "board", "strict"] (spGInitX K C CB CG)) (MG : Mk K CG fI) (bI : L2.Binds K fdI ["self", "board", "strict"] ds) (vI : Vals [.bl false] ds)
    (KR : KitR K C CH CG fB fH fG fdB fdH fdG)
    (GB : L2H.FnH P w K mg base CX0 1 fB fdB ["self"] (spRepr C)) (GH : L2H.FnH P w K mg base CX0 1 fH fdH ["self"] (spHRepr C CH)) (GG : L2H.FnH P w K mg base CX0 1 fG fdG ["self"] (spGRepr C CH CM CG)) :
    FnG P w K mg base CX0 8 f fd ["_law_thing"] (spRefu K C CH CM CG) := by
  refine F.okG scRefu (fun vs H Q E h => ?_) (fun cdv A outer s H vs Q E gd hr h => ?_)
  · obtain ⟨v, t, x, rfl, _⟩ := h
    rfl
  · obtain ⟨v, t, x, rfl, ty, no, od, q⟩ := h
    have nd := scRefu.nd
    have hr5 : Room 5 (Yr P w K mg base f cdv A outer s H E).A := hr.mono (by omega)
    have hr4 : Room 4 (Yr P w K mg base f cdv A outer s H E).A := hr.mono (by omega)
    have gY : (Yr P w K mg base f cdv A outer s H E).A.guards = some [] := gd
    refine ⟨_, pss_cons (L2N.ps_try_as (X := Yr P w K mg base f cdv A outer s H E) (i := 2)
        rfl rfl nd rfl rfl ⟨by rfl, by decide, .inl EB.gC⟩ ltakes0 (fun W pn xe tk _ => pss_one (ps_set (i := 1) nd rfl (Or.inl rfl) (pe_make MG GI hr5 (by rfl) TG.mgC bI vI (L2N.passes_call (E := fun cls d H => ∀ σ : L2.St, List.length σ = 4 → W cls d σ H) (takes_len tk) fun _ _ σ _ h hl => h σ hl) (pa_cons (pv 0) pa_nil))))
        (fun a oe cl d pn hz hf => pss_cons (ps_set (i := 3) nd rfl (Or.inl rfl) (pe_or (pe_callB (call_isXB (X := Yr P w K mg base f cdv A outer s H E) EB hz.zc hf) (by rfl) T.isi (by decide +kernel) (pa_cons (pv 2) (pa_cons (pe_glob (v := .ref cs) (by rfl) T.gs rfl) pa_nil))) (pe_one (pe_callB (call_isXB (X := Yr P w K mg base f cdv A outer s H E) EB hz.zc hf) (by rfl) T.isi (by decide +kernel) (pa_cons (pv 2) (pa_cons (pe_glob (v := .ref cz) (by rfl) T.gz rfl) pa_nil))))))
          (pss_one (ps_ret (pe_tupS (pa_cons pe_str (pa_cons (pe_callB (show CallR ((Yr P w K mg base f cdv A outer s H E).suite a ((a, oe) :: pn)) (.builtin "repr") (rShowO K C CH CM CG) from (call_showH (X := (Yr P w K mg base f cdv A outer s H E).suite a ((a, oe) :: pn)) (p := (a, oe)) KR gY (show L2H.RoomH 4 _ from ⟨by have := hr4.dp; show (Yr P w K mg base f cdv A outer s H E).A.depth + 3 * 4 + 5 < _; omega, by have := hr4.un; show (Yr P w K mg base f cdv A outer s H E).A.units + 16 * 4 + 200 < _; omega⟩) (hot_suite hz hf) List.mem_cons_self rfl rfl T.ns GB GH GG)) (by rfl) T.repr (by decide +kernel) (pa_cons (pe_xf (X := Yr P w K mg base f cdv A outer s H E) EB.xf EB.no hz.zc hf (pv 2)) pa_nil))
            (pa_cons (pe_and (pe_callB (call_isXB (X := Yr P w K mg base f cdv A outer s H E) EB hz.zc hf) (by rfl) T.isi (by decide +kernel) (pa_cons (pv 2) (pa_cons (pe_glob (v := .ref ci) (by rfl) T.gi rfl) pa_nil))) (pe_and (pe_callB (call_isXB (X := Yr P w K mg base f cdv A outer s H E) EB hz.zc hf) (by rfl) T.isi (by decide +kernel) (pa_cons (pv 2) (pa_cons (pe_bltn (v := .ty "ValueError") (by rfl) T.pV (by decide +kernel) rfl) pa_nil))) (pe_one (pe_not (pv 3))))) pa_nil))))))))
      (pss_one ps_never), ?_⟩
    have h2 : ∀ (σ' : L2.St) (u : Option V), σ'.length = 4 → (σ'.set 2 u)[2]? = some u := fun σ' u hl => List.getElem?_set_self (by rw [hl]; decide)
    refine ⟨_, rfl, fun x0 dx nx ndx ne => ⟨x0, dx, v, t, false, rfl, ty.same (fun b o e => by rw [upd_ne (ne_of_none e nx), upd_ne (ne_of_none e ndx)]; exact e), no, fun H1 d s1 nd_ e1 σ hl => ?_⟩⟩
    have s01 : Same H H1 := fun b o e => s1 _ _ (by rw [upd_ne (ne_of_none e nx), upd_ne (ne_of_none e ndx)]; exact e)
    refine ⟨true, T.xB, fun _ na nna => ?_, fun z => nomatch z⟩
    obtain ⟨z0, z1, z2, z3, rfl⟩ : ∃ z0 z1 z2 z3, σ = [z0, z1, z2, z3] := match σ, hl with
      | [z0, z1, z2, z3], _ => ⟨z0, z1, z2, z3, rfl⟩
    refine ⟨_, rfl, _, _, false, d, _, rfl, .own cs, rfl, rfl, e1, T.ks, _, rfl, iteF ?_⟩
    refine ⟨_, rfl, _, _, false, d, _, rfl, .own cz, rfl, rfl, e1, T.kz, ?_⟩
    refine ⟨_, rfl, rfl, rfl, d, _, v, rfl, e1, look1, ?_⟩
    refine ⟨v, x, rfl, od.same s01, fun H2 s2 => ?_⟩
    refine ⟨_, rfl, _, _, true, d, _, rfl, .own ci, rfl, rfl, s2 _ _ e1, T.ki, _, rfl, iteT ?_⟩
    refine ⟨_, rfl, _, _, true, d, _, rfl, .ty "ValueError", rfl, rfl, s2 _ _ e1, T.kV, _, rfl, iteT ?_⟩
    exact ⟨_, rfl, _, rfl, by show 3 ≤ 1000; decide, fun H3 T3 s3 e3 => q H3 T3 (sm_tr s01 (sm_tr s2 s3)) e3⟩
end
end Gm

/-! k61's right (made by gen_sd.py) -/
namespace L2
theorem NeG.mono {X : Cx} {n m : Nat} {D : Eqv} (h : NeG X n D) (k : n ≤ m) : NeG X m D := fun A pins s σ H x y u v sb => h A pins s σ H x y u v (sb.mono k)
end L2
namespace Gm
open PySem PySem.Spec PyProof.Rows L2 LamX

abbrev DMix (K : PySem.W.Frag) (C CH CG : Addr) : Eqv := fun x y H => DFlat0 K CG x y H ∨ (DOwn K CG C (spEqB K C) x y H ∨ DOwn K CG CH (spHEq K C CH) x y H)
theorem mon_mix {K : PySem.W.Frag} {C CH CG : Addr} : Mon (DMix K C CH CG) := mon_flat0.or (mon_own.or mon_own)
/-- what a game's class has besides -/
structure KitX (K : PySem.W.Frag) (C CH CG : Addr) : Prop where
  pc : PlainC K CG
  pt : PlainT K CG
  d1 : C ≠ CG
  d2 : CH ≠ CG
  n1 : PySem.W.notFirst K C (.ref CG) = true
  n2 : PySem.W.notFirst K CH (.ref CG) = true
  s1 : PySem.W.subIn K (.ref C) (.ref CG) = some false
  s2 : PySem.W.subIn K (.ref CH) (.ref CG) = some false
  obC : PySem.W.mroIn K C (.type "object") = some true
  k1 : PySem.W.kitOne K (.ref CG) (.ref C) = some false
  k2 : PySem.W.kitOne K (.ref CG) (.ref CH) = some false
  k3 : PySem.W.kitOne K (.ref CH) (.ref C) = some false
  kN : PySem.W.kitOne K (.type "NoneType") (.ref C) = some false
  kS : PySem.W.kitOne K (.type "str") (.ref C) = some false
  kT : PySem.W.kitOne K (.type "tuple") (.ref C) = some false
  kL : PySem.W.kitOne K (.type "list") (.ref C) = some false
  kI : PySem.W.kitOne K (.type "int") (.ref C) = some false
  kB : PySem.W.kitOne K (.type "bool") (.ref C) = some false
  kD : PySem.W.kitOne K (.type "dict") (.ref C) = some false
  ac : PySem.W.findIn K (.ref CG) "__class__" = some (some (.builtin "object.__class__"))
  gt : PySem.W.specialIn K (.builtin "object.__class__") "__get__" = some (some (.builtin "getset_descriptor.__get__"))
  tk : PySem.W.takesIn K (.builtin "object.__class__") = some true
section
variable {X : Cx} {C CH CG fE fEH fL fR : Addr} {fdE fdEH fdL fdR : FuncData}
theorem neg_mix (KX : KitX X.K C CH CG) (KS : KitS X.K C CH CG fE fEH fL fR fdE fdEH fdL fdR) (GE : FnOk X.prog X.w X.K X.mg X.base CX0 1 fE fdE ["self", "other"] (spEqB X.K C)) (GEH : FnOk X.prog X.w X.K X.mg X.base CX0 2 fEH fdEH ["self", "other"] (spHEq X.K C CH)) : NeG X 2 (DMix X.K C CH CG) :=
  ((neG_flat0 KX.pc KX.pt).mono (by decide)).or (((neG_own GE KS.aE KS.iE KS.bE L2.pass0 KX.n1 KX.d1).mono (by decide)).or (neG_own GEH KS.aEH KS.iEH KS.bEH L2.pass0 KX.n2 KX.d2))
theorem nrG_mix (hr : Room 3 X.A) (KX : KitX X.K C CH CG) (KS : KitS X.K C CH CG fE fEH fL fR fdE fdEH fdL fdR) (GE : FnOk X.prog X.w X.K X.mg X.base CX0 1 fE fdE ["self", "other"] (spEqB X.K C)) (GEH : FnOk X.prog X.w X.K X.mg X.base CX0 2 fEH fdEH ["self", "other"] (spHEq X.K C CH)) : NrG X CG (DMix X.K C CH CG) :=
  (nrG_flat0 (by have := hr.units; omega) KX.pc KX.pt).or ((nrG_own (hr.mono (by decide)) GE KS.aE KS.iE KS.neC KX.obC KS.bE L2.pass0 KX.s1 KX.d1 KX.pc).or (nrG_own hr GEH KS.aEH KS.iEH KS.eH.ne KS.eH.ob KS.bEH L2.pass0 KX.s2 KX.d2 KX.pc))
end
theorem passN {X : Cx} {P : Program} {w : World} : Passes (L2N.CX P w) X (fun _ _ _ => False) := fun _ _ _ _ _ _ _ ⟨_, _, _, _, _, _, _, _, _, _, _, _, h⟩ => h.elim
def tDNewS : TE := fun _ H Q => ∀ H2 p, Same H H2 → H2 p = some (.dK []) → Q (.ref p) H2
theorem pe_dnewS {X : Cx} {pos : Pos} : PE X (.Dict [] [] pos) tDNewS := ⟨fun pins s σ H Q I h => pe_dnewK.run pins s σ H Q I fun p np => h _ p (same_upd0 np) upd_same⟩
abbrev nRg : List Str := ["_law_well_here", "_law_signs_here", "_law_size", "_law_firm", "_law_box", "_law_hidden", "_law_some", "_law_it", "_law_other", "_law_turn", "_law_asked", "_law_odd", "_law_early", "_law_seen", "_law_thing"]
theorem scRg : FnScope nRg ["_law_well_here"] (defScope sRgt) := ⟨rfl, rfl, rfl, by decide +kernel, rfl, by decide +kernel, by decide +kernel⟩
structure TxR (mg : Str → Option Value) : Prop where
  len : mg "len" = none
  range : mg "range" = none
  tup : mg "tuple" = none
  all : mg "all" = none
  repr : mg "repr" = none
def spRgt : Sp := fun vs H Q _ => ∃ p : Addr, vs = [.ref p] ∧ BowlAt H p ∧ ∀ H', (∀ b o, b ≠ p → H b = some o → H' b = some o) → Q (.bl true) H'
/-- rows that are told truly of the hidden word -/
def TR (l : List Nat) (n : Int) (hid : List Nat) (rows : List Row) : Prop := ∀ r ∈ rows, RowOk l n r ∧ r.2 = mk r.1 hid
theorem TR.snoc {l hid a : List Nat} {n : Int} {rows : List Row} (h : TR l n hid rows) (ha : Wd l n a) (hh : Wd l n hid) : TR l n hid (rows ++ [(a, mk a hid)]) := fun r hr => by
  rcases List.mem_append.mp hr with hr | hr
  · exact h r hr
  · have e : r = (a, mk a hid) := by simpa using hr
    subst e
    have e1 := ha.1
    have e2 := hh.1
    exact ⟨⟨ha, wd_marks (by omega) ha.1⟩, rfl⟩
theorem TR.left {l hid : List Nat} {n : Int} {rows : List Row} (h : TR l n hid rows) (hh : Wd l n hid) (n0 : 0 ≤ n) : leftL l n rows ≠ [] := fun e => by
  have : hid ∈ leftL l n rows := (mem_leftL n0).mpr ⟨hh.1, hh.2, fun r hr => (h r hr).2.symm⟩
  rw [e] at this
  cases this
theorem TR.fits {l hid : List Nat} {n : Int} {rows : List Row} (h : TR l n hid rows) : fitsB rows hid = true := List.all_eq_true.mpr fun r hr => decide_eq_true (h r hr).2.symm
/-- a row that is fine -/
theorem add_fine {K : PySem.W.Frag} {X : EC} {H : Hp} {l hid a : List Nat} {n : Int} {st : Bool} {rows : List Row} (past : List (List Row)) (h : TR l n hid rows) (ha : Wd l n a) (hh : Wd l n hid) (n0 : 0 ≤ n) (h20 : rows.length < 20) (hf : st = false ∨ fitsB rows a = true) :
    AddIs K X H l n st rows past (.str (tx a)) (.str (tx (mk a hid))) (.ok (rows ++ [(a, mk a hid)]) (rows :: past)) := by
  have e1 := ha.1
  have e2 := hh.1
  exact .inr ⟨a, rfl, ha, .inr ⟨_, rfl, wd_marks (g := a) (w := hid) (by omega) ha.1, .inr ⟨hf, .inr ⟨h20, .inr ⟨(h.snoc ha hh).left hh n0, rfl⟩⟩⟩⟩⟩
theorem kt_lst {H H' : Hp} {L : Addr} {xs : List V} (e : H L = some (.lst xs)) (b : But L H H') : Kt H H' := fun c o k ec => b c o (fun z => by
  rw [z, e] at ec
  cases ec
  rcases k with ⟨_, _, _, h, _⟩ | ⟨_, h⟩ <;> cases h) ec
theorem stir_free {H H' : Hp} {p a : Addr} (R : Stir p H H') (na : H' a = none) : H a = none := by
  by_cases hap : a = p
  · obtain ⟨x1, y1, z1, e1⟩ := R.2
    rw [hap, e1] at na
    cases na
  · cases e : H a with
    | none => rfl
    | some o =>
      rw [R.1 _ _ hap e] at na
      cases na
/-- what stands throughout: the well, the board, two games, the law's rows, and all that stood before -/
structure S61 (C CH CM CG : Addr) (H0 : Hp) (p b g go L : Addr) (l : List Nat) (n : Int) (st : Bool) (H : Hp) (rL rows : List Row) (past : List (List Row)) : Prop where
  bowl : BowlAt H p
  box : Bd C H b l n
  game : GameAt C CH CM CG H g l n st false rows past
  other : GameAt C CH CM CG H go l n st false [] []
  list : LRows H L rL
  ap : g ≠ go
  ng : H0 g = none
  nL : H0 L = none
  old : ∀ b o, b ≠ p → H0 b = some o → H b = some o
section
variable {C CH CM CG : Addr} {H0 H H' : Hp} {p b g go L : Addr} {l : List Nat} {n : Int} {st : Bool} {rL rL' rows rows' : List Row} {past past' : List (List Row)}
theorem game_ne_p (h : GameAt C CH CM CG H g l n st false rows past) (hp : BowlAt H p) : g ≠ p := by
  obtain ⟨x, y, v, hp⟩ := hp
  obtain ⟨dx, bb, h, pa, e2, _⟩ := h
  exact fun z => (by rw [z, hp] at e2; cases e2)
theorem S61.same (S : S61 C CH CM CG H0 p b g go L l n st H rL rows past) (s : Same H H') : S61 C CH CM CG H0 p b g go L l n st H' rL rows past :=
  ⟨let ⟨x, y, z, h⟩ := S.bowl; ⟨x, y, z, s _ _ h⟩, S.box.same s, S.game.same s, S.other.same s, S.list.same s, S.ap, S.ng, S.nL, fun b o nb e => s _ _ (S.old b o nb e)⟩
theorem S61.stir (S : S61 C CH CM CG H0 p b g go L l n st H rL rows past) (R : Stir p H H') : S61 C CH CM CG H0 p b g go L l n st H' rL rows past := by
  have k := kt_stir S.bowl R
  exact ⟨R.2, S.box.kt k, S.game.kt k fun o e => R.1 _ _ (game_ne_p S.game S.bowl) e, S.other.kt k fun o e => R.1 _ _ (game_ne_p S.other S.bowl) e, S.list.kt k fun o e => R.1 _ _ (S.list.ne_p S.bowl) e, S.ap, S.ng, S.nL, fun b o nb e => R.1 _ _ nb (S.old b o nb e)⟩
theorem S61.but (S : S61 C CH CM CG H0 p b g go L l n st H rL rows past) (bt : But g H H') (ga : GameAt C CH CM CG H' g l n st false rows' past') : S61 C CH CM CG H0 p b g go L l n st H' rL rows' past' := by
  have k := kt_game S.game bt
  exact ⟨let ⟨x, y, z, h⟩ := S.bowl; ⟨x, y, z, bt _ _ (Ne.symm (game_ne_p S.game S.bowl)) h⟩, S.box.kt k, ga, S.other.kt k fun o e => bt _ _ (Ne.symm S.ap) e, S.list.kt k fun o e => bt _ _ (S.list.ne_g S.game) e, S.ap, S.ng, S.nL, fun c o nc e => bt _ _ (fun z => (by rw [z, S.ng] at e; cases e)) (S.old c o nc e)⟩
theorem S61.app (S : S61 C CH CM CG H0 p b g go L l n st H rL rows past) (bt : But L H H') (hl : LRows H' L rL') : S61 C CH CM CG H0 p b g go L l n st H' rL' rows past := by
  obtain ⟨vs, e, _⟩ := _root_.id S.list
  have k := kt_lst e bt
  exact ⟨let ⟨x, y, z, h⟩ := S.bowl; ⟨x, y, z, bt _ _ (Ne.symm (S.list.ne_p S.bowl)) h⟩, S.box.kt k, S.game.kt k fun o e => bt _ _ (Ne.symm (S.list.ne_g S.game)) e, S.other.kt k fun o e => bt _ _ (Ne.symm (S.list.ne_g S.other)) e, hl, S.ap, S.ng, S.nL, fun c o nc e => bt _ _ (fun z => (by rw [z, S.nL] at e; cases e)) (S.old c o nc e)⟩
theorem plain_game {K : PySem.W.Frag} (h : GameAt C CH CM CG H g l n st false rows past) : PlainAt K CG H g := let ⟨dx, b, hh, v, e, _⟩ := h; ⟨dx, _, e⟩
end
theorem ty_game {K : PySem.W.Frag} {mg : Str → Option Value} {C CH CG g dx : Addr} {H : Hp} {fs : List (Str × V)} (TG : TxG K mg CG) (KX : KitX K C CH CG) (h : H g = some (.ins CG dx fs)) : TyX K H (.ref g) (.ref CG) := .base (.ins h TG.cl KX.ac KX.gt KX.tk KX.pc.ob)
theorem mix_all {K : PySem.W.Frag} {mg : Str → Option Value} {C CH CM CG x h g : Addr} {H : Hp} {l : List Nat} {n : Int} {st : Bool} {rows : List Row} {past : List (List Row)} {t : Str} (TG : TxG K mg CG) (KX : KitX K C CH CG) (ga : GameAt C CH CM CG H g l n st false rows past) (bx : Bd C H x l n) (hh : HistAt C CH H h l n rows) (lsm : Sm l) :
    ∀ z ∈ [V.non, V.ref x, V.ref h, V.str t], DMix K C CH CG z (.ref g) H := by
  have pg := plain_game (K := K) ga
  obtain ⟨dx, b, h', pa, eg, _⟩ := _root_.id ga
  obtain ⟨⟨db, eb⟩, l26, n1, n6⟩ := _root_.id bx
  obtain ⟨dh, _, _, eh, _⟩ := _root_.id hh
  intro z hz
  simp only [List.mem_cons, List.not_mem_nil, or_false] at hz
  rcases hz with rfl | rfl | rfl | rfl
  · exact .inl ⟨.inl rfl, g, rfl, pg⟩
  · exact .inr (.inl ⟨x, db, _, g, rfl, eb, rfl, pg, fun H' e => ⟨x, tx l, n, .ref g, rfl, ⟨db, e _ _ eb⟩, by rw [tx_len]; omega, .inr ⟨.ref CG, ty_game TG KX (e _ _ eg), KX.k1, rfl, Ext.rfl'⟩⟩⟩)
  · exact .inr (.inr ⟨h, dh, _, g, rfl, eh, rfl, pg, fun H' e => ⟨h, l, n, rows, .ref g, rfl, hh.same e, lsm, .inr ⟨.ref CG, ty_game TG KX (e _ _ eg), KX.k2, false, rfl, rfl, Ext.rfl'⟩⟩⟩)
  · exact .inl ⟨.inr ⟨t, rfl⟩, g, rfl, pg⟩
theorem strOk_app {a b : Str} (ha : PyData.strOk a = true) (hb : PyData.strOk b = true) : PyData.strOk (a ++ b) = true := by
  have e : (a ++ b).cps = a.cps ++ b.cps := rfl
  unfold PyData.strOk at *
  rw [e, Array.all_append, ha, hb]
  rfl
theorem sh_letters {l : List Nat} (lsm : Sm l) (l26 : l.length ≤ 26) : (reprText (tx l)).length ≤ 300 := by
  have h1 : (reprText (tx l)).length ≤ 10 * (tx l).length + 2 := StrLaws.reprText_len (tx l) fun c hc => (by
    have := lsm c (by simpa using hc)
    have e : (16 : Nat) ^ 8 = 4294967296 := by decide
    omega)
  have h2 := tx_len l
  omega
/-- what is drawn in the place of a board -/
theorem odd_all {K : PySem.W.Frag} {mg : Str → Option Value} {C CH CM CG x h g Tt Bb Dd : Addr} {H : Hp} {l : List Nat} {n : Int} {st : Bool} {rows : List Row} {past : List (List Row)} (TG : TxG K mg CG) (TH : TxH K mg CH) (KX : KitX K C CH CG) (EH : TxEH K C CH)
    (ga : GameAt C CH CM CG H g l n st false rows past) (bx : Bd C H x l n) (hh : HistAt C CH H h l n rows) (lsm : Sm l) (lo : ∀ c ∈ l, c ∈ low)
    (eT : H Tt = some (.tup [.str (tx l), .int n])) (eB : H Bb = some (.lst [.ref x])) (eD : H Dd = some (.dK [])) {d : Int} (d0 : 0 ≤ d) (d9 : d < 9) :
    ∃ v t s, atI [V.non, .str (tx l), .ref Tt, .ref Bb, .int 3, .bl true, .ref Dd, .ref g, .ref h] d = some v ∧ TyX K H v t ∧ PySem.W.kitOne K t (.ref C) = some false ∧ OddV K C CH CM CG H v s ∧ PyData.strOk s = true := by
  obtain ⟨⟨db, eb⟩, l26, n1, n6⟩ := _root_.id bx
  obtain ⟨dx, b, h', pa, eg, _⟩ := _root_.id ga
  obtain ⟨dh, _, _, eh, _⟩ := _root_.id hh
  have sl := sh_letters lsm l26
  have si : Sh (.int n) 100 1 := by
    rcases (by omega : n = 1 ∨ n = 2 ∨ n = 3 ∨ n = 4 ∨ n = 5 ∨ n = 6) with rfl | rfl | rfl | rfl | rfl | rfl <;> exact Sh.int _ (by decide) (by decide +kernel)
  rcases (by omega : d = 0 ∨ d = 1 ∨ d = 2 ∨ d = 3 ∨ d = 4 ∨ d = 5 ∨ d = 6 ∨ d = 7 ∨ d = 8) with rfl | rfl | rfl | rfl | rfl | rfl | rfl | rfl | rfl
  · exact ⟨_, _, _, rfl, .base .non, KX.kN, .data .non ((Sh.non (m := 0)).le (by decide) (by decide)), by simp only [PyData.shown]; exact ofs_ok _⟩
  · exact ⟨_, _, _, rfl, .base (.str _), KX.kS, .data (.str _) (Sh.str _ (Nat.le_trans sl (by decide))), by simp only [PyData.shown]; exact repr_ok lo⟩
  · refine ⟨_, _, _, rfl, .base (.tup eT), KX.kT, .data (.tup (SqT.of eT) (.cons (.str _) (.cons (.int _) .nil))) ((Sh.tup (.cons (Sh.str (m := 1) _ sl) (.cons si .nil))).le (by decide) (by decide)), ?_⟩
    simp only [PyData.shown, PyData.shownAll]
    first
      | exact strOk_app (strOk_app (ofs_ok _) (strOk_app (strOk_app (repr_ok lo) (ofs_ok _)) (ofs_ok _))) (ofs_ok _)
      | exact strOk_app (strOk_app (ofs_ok _) (strOk_app (repr_ok lo) (strOk_app (ofs_ok _) (ofs_ok _)))) (ofs_ok _)
  · exact ⟨_, _, _, rfl, .base (.lst eB), KX.kL, .box eB bx, strOk_app (strOk_app (ofs_ok _) (strOk_app (strOk_app (strOk_app (strOk_app (ofs_ok _) (can_T fun c hc => lsm c (by simpa using hc))) (ofs_ok _)) (ofs_ok _)) (ofs_ok _))) (ofs_ok _)⟩
  · exact ⟨_, _, _, rfl, .base (.int _), KX.kI, .data (.int _) (Sh.int 3 (by decide) (by decide +kernel)), by simp only [PyData.shown]; decide +kernel⟩
  · exact ⟨_, _, _, rfl, .base (.bl _), KX.kB, .data (.bl _) ((Sh.bl (m := 0) true).le (by decide) (by decide)), by simp only [PyData.shown]; decide +kernel⟩
  · exact ⟨_, _, _, rfl, .base (.dK eD), KX.kD, .data (.dic eD) ((Sh.dic (m := 0)).le (by decide) (by decide)), by simp only [PyData.shown, PyData.shownKv]; decide +kernel⟩
  · exact ⟨_, _, _, rfl, ty_game TG KX eg, KX.k1, .game ga, strOk_app (strOk_app (ofs_ok _) (ofs_ok _)) (ofs_ok _)⟩
  · exact ⟨_, _, _, rfl, ty_hist TH EH eh, KX.k3, .hist hh, strOk_app (strOk_app (ofs_ok _) (ofs_ok _)) (ofs_ok _)⟩
section
variable {P : Program} {w : World} {K : PySem.W.Frag} {mg : Str → Option Value} {base : Heap} {c : Nat → Addr} {ci cs cz : Addr}
theorem ok_right {n0 : Nat} {EX : EC} {f C CH CM CG fE fEH fL fR fSh fRf fB fG fA fBr fHr fGr fD fS fTe fRp : Addr} {fd fdE fdEH fdL fdR fdSh fdRf fdB fdG fdA fdBr fdHr fdGr fdD fdS fdTe fdRp : FuncData} {dG : List Value} (F : Fun K "_law_right" "_law_right" sRgt f fd) (T : TxR mg) (TC : TxC K mg C) (TH : TxH K mg CH) (TG : TxG K mg CG)
    (KX : KitX K C CH CG) (KS : KitS K C CH CG fE fEH fL fR fdE fdEH fdL fdR) (KR : KitR K C CH CG fBr fHr fGr fdBr fdHr fdGr) (hM : ∃ mm, base.Ns sysModules mm)
    (GD : FnOk P w K mg base CX0 1 fD fdD ["_law_well_here", "_law_many"] spDip) (DD : Df K mg "_law_draw" fD fdD ["_law_well_here", "_law_many"])
    (GS : FnOk P w K mg base CX0 2 fS fdS ["_law_well_here", "_law_least", "_law_most"] spSigns) (DS : Df K mg "_law_signs" fS fdS ["_law_well_here", "_law_least", "_law_most"])
    (GTe : FnOk P w K mg base CX0 3 fTe fdTe ["_law_well_here", "_law_signs_here", "_law_size"] spText) (DTe : Df K mg "_law_text" fTe fdTe ["_law_well_here", "_law_signs_here", "_law_size"])
    (GRp : FnOk P w K mg base CX0 1 fRp fdRp ["_law_asked", "_law_hidden"] spMarksOf) (DRp : Df K mg "_law_reply" fRp fdRp ["_law_asked", "_law_hidden"])
    (GE : FnOk P w K mg base CX0 1 fE fdE ["self", "other"] (spEqB K C)) (GEH : FnOk P w K mg base CX0 2 fEH fdEH ["self", "other"] (spHEq K C CH))
    (GBr : FnOk P w K mg base CX0 1 fBr fdBr ["self"] (spRepr C)) (GHr : FnOk P w K mg base CX0 1 fHr fdHr ["self"] (spHRepr C CH)) (GGr : FnOk P w K mg base CX0 1 fGr fdGr ["self"] (spGRepr C CH CM CG))
    (GSh : FnG P w K mg base CX0 9 fSh fdSh nShown (spShown C CH CM CG)) (DSh : Df K mg "_law_shown" fSh fdSh nShown)
    (GRf : FnG P w K mg base CX0 8 fRf fdRf ["_law_thing"] (spRefu K C CH CM CG)) (DRf : Df K mg "_law_refused" fRf fdRf ["_law_thing"])
    (GB : FnOk P w K mg base CX0 2 fB fdB ["self", "letters", "length"] (spInit C)) (MB : Mk K C fB) (bB : L2.Binds K fdB ["self", "letters", "length"] [])
    (GG : FnOk P w K mg base CX0 7 fG fdG ["self", "board", "strict"] (spGInit C CH CM CG)) (MG : Mk K CG fG) (bG : L2.Binds K fdG ["self", "board", "strict"] dG) (vG : Vals [.bl false] dG)
    (kG : KBn K fdG ["self", "board", "strict"] 2 ["strict"] (fun us ws => us ++ ws) (fun vs zs => vs ++ zs)) (kG0 : KBn K fdG ["self", "board", "strict"] 1 ["strict", "board"] (fun us ws => us ++ ws.reverse) (fun vs zs => vs ++ zs.reverse))
    (GA : FnOk P w K mg base (L2N.CX P w) (n0 + 10) fA fdA ["self", "guess", "told"] (spAdd K EX C CH CM CG)) (mA : Meth K CG "add" fA) (bA : L2.Binds K fdA ["self", "guess", "told"] []) :
    FnG P w K mg base CX0 (n0 + 12) f fd ["_law_well_here"] spRgt := by
  refine F.okG scRg (fun vs H Q E h => ?_) (fun cdv A outer s H vs Q E g hr h => ?_)
  · obtain ⟨p, rfl, _⟩ := h
    rfl
  · obtain ⟨p, rfl, hp, q⟩ := h
    have nd := scRg.nd
    have hrA : Room (n0 + 10) _ := hr.mono (by omega)
    have hr9 : Room 9 _ := hr.mono (by omega)
    have hr8 : Room 8 _ := hr.mono (by omega)
    have hr4 : Room 4 _ := hr.mono (by omega)
    have hr3 : Room 3 _ := hr.mono (by omega)
    have hrS : Room 2 _ := hr.mono (by omega)
    have hrTe : Room 3 _ := hr.mono (by omega)
    have hrD : Room 1 _ := hr.mono (by omega)
    have hrRp : Room 1 _ := hr.mono (by omega)
    have hu := hr.units
    have hu1 : (A.deeper (envOfC "_law_right" (defScope sRgt) s.heap.objs.size f cdv)).units + 1 < cLine := by have := hr.units; omega
    have PC := KX.pc
    have hline : sizeLine = 16777216 := sizeLine_eq
    refine ⟨_, C8.pss_cut (ps_par3 (i := 1) (j := 2) (l := 3) (by rfl) nd rfl rfl rfl (by decide) (by decide) (by decide) rfl rfl rfl (pa_cons (pe_call GS hrS (by rfl) DS.mg DS.kp DS.b .nil pass0 (pa_cons (pv 0) (pa_cons pe_int (pa_cons pe_int pa_nil)))) (pa_cons (pe_op op_add pe_int (pe_call GD hrD (by rfl) DD.mg DD.kp DD.b .nil pass0 (pa_cons (pv 0) (pa_cons pe_int pa_nil)))) (pa_cons (pe_cmpR op_eq (pe_call GD hrD (by rfl) DD.mg DD.kp DD.b .nil pass0 (pa_cons (pv 0) (pa_cons pe_int pa_nil))) pe_int (nomark _)) pa_nil))) (by rfl))
      (pss_cons (ps_par3 (i := 4) (j := 5) (l := 6) (by rfl) nd rfl rfl rfl (by decide) (by decide) (by decide) rfl rfl rfl (pa_cons (pe_make MB GB hr3 (by rfl) TC.mgC bB .nil pass0 (pa_cons (pv 1) (pa_cons (pv 2) pa_nil))) (pa_cons (pe_call GTe hrTe (by rfl) DTe.mg DTe.kp DTe.b .nil pass0 (pa_cons (pv 0) (pa_cons (pv 1) (pa_cons (pv 2) pa_nil)))) (pa_cons (pe_lst pa_nil) pa_nil))) (by rfl))
      (C8.pss_cut (ps_set (i := 7) nd rfl (Or.inr rfl) (pe_ifExp (pt_cmpR op_eq (pe_call GD hrD (by rfl) DD.mg DD.kp DD.b .nil pass0 (pa_cons (pv 0) (pa_cons pe_int pa_nil))) pe_int (nomark _)) (pe_makeK (ks := ["strict"]) MG GG hr8 (by rfl) TG.mgC kG pass0 (pa_cons (pv 4) pa_nil) (pk_cons (pv 3) pk_nil)) (pe_makeK0 (ks := ["strict", "board"]) MG GG hr8 (by rfl) TG.mgC kG0 pass0 (pk_cons (pv 3) (pk_cons (pe_make MB GB hr3 (by rfl) TC.mgC bB .nil pass0 (pa_cons (pv 1) (pa_cons (pv 2) pa_nil))) pk_nil)))))
      (C8.pss_cut (ps_set (i := 8) nd rfl (Or.inl rfl) (pe_ifExp (pt_not (pt_val (pv 3))) (pe_make MG GG hr8 (by rfl) TG.mgC bG vG pass0 (pa_cons (pv 4) pa_nil)) (pe_makeK (ks := ["strict"]) MG GG hr8 (by rfl) TG.mgC kG pass0 (pa_cons (pv 4) pa_nil) (pk_cons pe_bl pk_nil))))
      (pss_cons (ps_if (PW.pt (pw_or (pt_not (pt_val (pe_callG GSh g hr9 (by rfl) DSh.mg DSh.kp DSh.b pass0 (pa_cons (pv 7) (pa_cons (pv 4) (pa_cons (pv 3) (pa_cons (pv 6) pa_nil))))))) (pw_or (pt_cmpR (op_eqPlain hu1 PC) (pv 7) (pv 8) (nomark _)) (pw_or (pt_not (pt_cmpR (op_nePlain hu1 PC) (pv 7) (pv 8) (nomark _))) (pw_or (pt_cmpR (op_nePlain hu1 PC) (pv 7) (pv 7) (nomark _)) (pw_or1 (pt_not (pt_cmpR (op_eqPlain hu1 PC) (pv 7) (pv 7) (nomark _))))))))) (pss_one (ps_ret pe_bl)) pss_nil)
      (pss_cons (ps_for PassesOwn.never rfl (pi_range1 (by rfl) T.range (pa_cons (pe_call GD hrD (by rfl) DD.mg DD.kp DD.b .nil pass0 (pa_cons (pv 0) (pa_cons pe_int pa_nil))) pa_nil)) (pg_name (i := 9) nd rfl (Or.inl rfl))
        (pss_cons (ps_set (i := 10) nd rfl (Or.inr rfl) (pe_call GTe hrTe (by rfl) DTe.mg DTe.kp DTe.b .nil pass0 (pa_cons (pv 0) (pa_cons (pv 1) (pa_cons (pv 2) pa_nil)))))
      (C8.pss_cut (ps_if (PW.pt (pw_and (pt_val (pv 3)) (pw_and1 (pt_not (pt_val (pe_callB (cr_all rfl) (by rfl) T.all (by decide +kernel) (pa_cons (pe_lc (own := [("_law_early", 12), ("_law_seen", 13)]) (g := gTup K 2 (gCons (gName 12) (gCons (gName 13) gNil))) (by rfl) nd (pi_list (pv 6)) (blkOk_by (own := [("_law_early", 12), ("_law_seen", 13)]) (N := nRg) (sc := defScope sRgt) (by decide +kernel)) (fun _ _ _ _ _ => pg_tup (by rfl) (pgs_cons (pg_name (i := 12) nd rfl (Or.inl rfl)) (pgs_cons (pg_name (i := 13) nd rfl (Or.inl rfl)) pgs_nil))) (fun _ _ _ _ _ => pts_nil) (fun _ _ _ _ _ => pe_cmpR op_eq (pe_call GRp hrRp (by rfl) DRp.mg DRp.kp DRp.b .nil pass0 (pa_cons (pv 12) (pa_cons (pv 10) pa_nil))) (pv 13) (nomark _))) pa_nil))))))) (pss_one (ps_set (i := 10) nd rfl (Or.inr rfl) (pv 5))) pss_nil)
      (pss_cons (ps_expr (pe_bm PySem.F.plainAttrs_list PySem.F.slot_list_append PySem.F.type_list_append mt_append (pv 6) (pa_cons (pe_tupS (pa_cons (pv 10) (pa_cons (pe_call GRp hrRp (by rfl) DRp.mg DRp.kp DRp.b .nil pass0 (pa_cons (pv 10) (pa_cons (pv 5) pa_nil))) pa_nil))) pa_nil)))
      (pss_one (ps_if (PW.pt (pw_or (pt_cmpR op_notN (pe_meth (pv 7) TG.cl mA GA hrA bA .nil passN (pa_cons (pv 10) (pa_cons (pe_ix ix_tup (pe_ix ix_list (pv 6) (pe_un un_neg pe_int) (fun _ _ => rfl)) pe_int (fun _ _ => rfl)) pa_nil))) pe_non (nomark _)) (pw_or1 (pt_not (pt_val (pe_callG GSh g hr9 (by rfl) DSh.mg DSh.kp DSh.b pass0 (pa_cons (pv 7) (pa_cons (pv 4) (pa_cons (pv 3) (pa_cons (pv 6) pa_nil)))))))))) (pss_one (ps_ret pe_bl)) pss_nil))))))
      (pss_cons (ps_if (PW.pt (pw_or (pt_not (pt_val (pe_callG GSh g hr9 (by rfl) DSh.mg DSh.kp DSh.b pass0 (pa_cons (pv 8) (pa_cons (pv 4) (pa_cons (pv 3) (pa_cons (pe_lstS pa_nil) pa_nil))))))) (pw_or1 (pt_not (pt_val (pe_callG GSh g hr9 (by rfl) DSh.mg DSh.kp DSh.b pass0 (pa_cons (pe_make MG GG hr8 (by rfl) TG.mgC bG vG pass0 (pa_cons (pv 4) pa_nil)) (pa_cons (pv 4) (pa_cons pe_bl (pa_cons (pe_lstS pa_nil) pa_nil)))))))))) (pss_one (ps_ret pe_bl)) pss_nil)
      (pss_cons (ps_if (PW.pt (pw_or (pt_cmpR (op_inMix (n := 2) hr3 (neg_mix KX KS GE GEH) mon_mix) (pv 7) (pe_lstS (pa_cons pe_non (pa_cons (pv 4) (pa_cons (pe_fld (pv 7) rfl) (pa_cons (pv 5) pa_nil))))) rfl) (pw_or1 (pt_not (pt_val (pe_callB (cr_all rfl) (by rfl) T.all (by decide +kernel) (pa_cons (pe_lc (own := [("_law_thing", 14)]) (te := tOp (rNeMix K CG (DMix K C CH CG)) (tVar 7) (tVar 14)) (g := gName 14) (by rfl) nd (pi_list (pe_lstS (pa_cons pe_non (pa_cons (pv 4) (pa_cons (pe_fld (pv 7) rfl) (pa_cons (pv 5) pa_nil)))))) (blkOk_by (own := [("_law_thing", 14)]) (N := nRg) (sc := defScope sRgt) (by decide +kernel))
          (fun _ _ _ _ _ => pg_name (i := 14) nd rfl (Or.inl rfl)) (fun _ _ _ _ _ => pts_nil) (fun _ _ _ _ _ => by exact pe_cmpR (r := rNeMix K CG (DMix K C CH CG)) (by exact op_neMix (nrG_mix hr3 KX KS GE GEH)) (pv 7) (pv 14) (nomark _))) pa_nil))))))) (pss_one (ps_ret pe_bl)) pss_nil)
      (pss_cons (ps_set (i := 11) nd rfl (Or.inl rfl) (pe_ix ix_list (pe_lstS (pa_cons pe_non (pa_cons (pv 1) (pa_cons (pe_tupS (pa_cons (pv 1) (pa_cons (pv 2) pa_nil))) (pa_cons (pe_lstS (pa_cons (pv 4) pa_nil)) (pa_cons pe_int (pa_cons pe_bl (pa_cons pe_dnewS (pa_cons (pv 7) (pa_cons (pe_fld (pv 7) rfl) pa_nil)))))))))) (pe_call GD hrD (by rfl) DD.mg DD.kp DD.b .nil pass0 (pa_cons (pv 0) (pa_cons pe_int pa_nil))) (fun _ _ => rfl)))
      (pss_one (ps_ret (pe_cmpR (op_eqD hr.units) (pe_callG GRf g hr8 (by rfl) DRf.mg DRf.kp DRf.b pass0 (pa_cons (pv 11) pa_nil)) (pe_tupS (pa_cons pe_str (pa_cons (pe_callB (call_showO KR g hr4 hM GBr GHr GGr) (by rfl) T.repr (by decide +kernel) (pa_cons (pv 11) pa_nil)) (pa_cons pe_bl pa_nil)))) (nomark _)))))))))))), ?_⟩
    have two : 2 ≤ sizeLine := by omega
    refine ⟨fun σ' H' => ∃ (l : List Nat) (n : Int) (st : Bool), σ' = [some (.ref p), some (.str (tx l)), some (.int n), some (.bl st), none, none, none, none, none, none, none, none, none, none, none] ∧ Stir p H H' ∧ Alph (tx l) ∧ 2 ≤ l.length ∧ l.length ≤ 26 ∧ 1 ≤ n ∧ n ≤ 6, ?_, ?_⟩
    · refine ⟨_, rfl, p, 2, 26, rfl, hp, by decide, by decide, by decide, fun H1 l R1 hA l2 l26 => ⟨_, rfl, p, 6, rfl, R1.2, by decide, by decide, fun H2 d R2 d0 d6 => ⟨_, _, rfl, rfl, _, rfl, p, 2, rfl, R2.2, by decide, by decide, fun H3 fb R3 f0 f2 => ?_⟩⟩⟩
      refine ⟨rfl, _, _, _, rfl, ?_⟩
      exact ⟨l, 1 + d, _, rfl, (R1.trans R2).trans R3, hA, by omega, by omega, by omega, by omega⟩
    rintro _ H3 ⟨l, n, st, rfl, R13, hA, l2, l26, n1, n6⟩
    refine ⟨_, rfl, _, rfl, fun x dx hx hdx ne => ⟨x, dx, tx l, n, rfl, hA, n1, n6, upd_same, fun H5 b5 B5 => ⟨rfl, ?_⟩⟩⟩
    have s5 := made_same2 hx hdx b5
    have Bx : Bd C H5 x l n := ⟨B5, l26, n1, n6⟩
    have R15 := R13.same s5
    refine ⟨_, rfl, _, rfl, _, rfl, p, l, n, rfl, R15.2, by omega, by omega, by omega, by omega, fun H6 hid R6 hlen hmem => ?_⟩
    refine ⟨by show 0 ≤ sizeLine; omega, fun L zL => ⟨_, _, _, rfl, ?_⟩⟩
    have R6' := R15.trans R6
    have R7 := R6'.same (same_upd0 (o := .lst []) zL)
    have nL : H L = none := stir_free R6' zL
    have B7 : Bd C (upd H6 L (.lst [])) x l n := (Bx.kt (kt_stir R15.2 R6)).same (same_upd0 (o := .lst []) zL)
    have L7 : LRows (upd H6 L (.lst [])) L [] := ⟨[], upd_same, .nil⟩
    have wh : Wd l n hid := ⟨by omega, hmem⟩
    generalize upd H6 L (.lst []) = H7 at R7 B7 L7 ⊢
    clear R6' R6 R15 Bx B5 b5 s5 R13 hx hdx zL
    have lnd := nd_alph hA
    have lsm := sm_alph hA
    refine ⟨fun σ' H' => ∃ g : Addr, σ' = [some (.ref p), some (.str (tx l)), some (.int n), some (.bl st), some (.ref x), some (.str (tx hid)), some (.ref L), some (.ref g), none, none, none, none, none, none, none] ∧
      Stir p H H' ∧ Bd C H' x l n ∧ LRows H' L [] ∧ GameAt C CH CM CG H' g l n st false [] [] ∧ H g = none, ?_, ?_⟩
    · refine ⟨_, rfl, p, 2, rfl, R7.2, by decide, by decide, fun H8 e R8 e0 e2 => ?_⟩
      have R78 := R7.trans R8
      have B8 := B7.kt (kt_stir R7.2 R8)
      have L8 := L7.kt (kt_stir R7.2 R8) fun o e => R8.1 _ _ (L7.ne_p R7.2) e
      refine ⟨rfl, _, rfl, ite2 (fun _ => ?_) (fun _ => ?_)⟩
      · refine ⟨_, rfl, _, rfl, rfl, rfl, fun gG dG zg zd ng => ⟨gG, dG, x, l, n, st, rfl, upd_same, B8.same (made_same2 zg zd (fun _ _ _ e => e)), fun H9 b9 ga9 => ⟨rfl, ?_⟩⟩⟩
        have s9 := made_same2 zg zd b9
        exact ⟨gG, rfl, R78.same s9, B8.same s9, L8.same s9, ga9, stir_free R78 zg⟩
      · refine ⟨_, rfl, _, rfl, _, rfl, fun x2 dx2 hx2 hdx2 ne2 => ⟨x2, dx2, tx l, n, rfl, hA, n1, n6, upd_same, fun Hq bq Bq => ⟨rfl, ?_⟩⟩⟩
        have sq := made_same2 hx2 hdx2 bq
        have Bx2 : Bd C Hq x2 l n := ⟨Bq, l26, n1, n6⟩
        refine ⟨rfl, rfl, fun gG dG zg zd ng => ⟨gG, dG, x2, l, n, st, rfl, upd_same, Bx2.same (made_same2 zg zd (fun _ _ _ e => e)), fun H9 b9 ga9 => ⟨rfl, ?_⟩⟩⟩
        have s9 := sm_tr sq (made_same2 zg zd b9)
        exact ⟨gG, rfl, R78.same s9, B8.same s9, L8.same s9, ga9, stir_free (R78.same sq) zg⟩
    rintro _ H8 ⟨gG, rfl, R8, B8, L8, G8, ng⟩
    clear R7 B7 L7
    refine ⟨fun σ' H' => ∃ go : Addr, σ' = [some (.ref p), some (.str (tx l)), some (.int n), some (.bl st), some (.ref x), some (.str (tx hid)), some (.ref L), some (.ref gG), some (.ref go), none, none, none, none, none, none] ∧
      S61 C CH CM CG H p x gG go L l n st H' [] [] [], ?_, ?_⟩
    · have fin : ∀ {go : Addr} {H9 : Hp}, H8 go = none → Same H8 H9 → GameAt C CH CM CG H9 go l n st false [] [] → S61 C CH CM CG H p x gG go L l n st H9 [] [] [] := fun {go H9} zg s9 ga9 =>
        ⟨(R8.same s9).2, B8.same s9, G8.same s9, ga9, L8.same s9, fun z => (by obtain ⟨d0, _, _, _, e0, _⟩ := G8; rw [z, zg] at e0; cases e0), ng, nL, fun b o nb e => (R8.same s9).1 _ _ nb e⟩
      refine ⟨_, rfl, _, rfl, ?_⟩
      cases st with
      | false =>
        refine iteT ?_
        refine ⟨_, rfl, fun go dG zg zd ng' => ⟨go, dG, x, l, n, false, rfl, upd_same, B8.same (made_same2 zg zd (fun _ _ _ e => e)), fun H9 b9 ga9 => ⟨rfl, ?_⟩⟩⟩
        exact ⟨go, rfl, fin zg (made_same2 zg zd b9) ga9⟩
      | true =>
        refine iteF ?_
        refine ⟨_, rfl, rfl, rfl, fun go dG zg zd ng' => ⟨go, dG, x, l, n, true, rfl, upd_same, B8.same (made_same2 zg zd (fun _ _ _ e => e)), fun H9 b9 ga9 => ⟨rfl, ?_⟩⟩⟩
        exact ⟨go, rfl, fin zg (made_same2 zg zd b9) ga9⟩
    rintro _ H9 ⟨go, rfl, S⟩
    clear R8 B8 L8 G8 ng nL
    refine ⟨_, rfl, _, rfl, _, rfl, _, rfl, gG, x, L, l, n, st, [], [], rfl, S.game, S.box, S.list, lsm, fun H10 s10 => ⟨_, rfl, iteF ?_⟩⟩
    have S := S.same s10
    have pg := plain_game (K := K) S.game
    have po := plain_game (K := K) S.other
    have nap := S.ap
    refine ⟨_, rfl, _, rfl, gG, go, rfl, rfl, pg, po, ?_⟩
    rw [decide_eq_false nap]
    refine ⟨_, rfl, iteF ?_⟩
    refine ⟨_, rfl, _, rfl, gG, go, rfl, rfl, pg, po, ?_⟩
    rw [decide_eq_false nap]
    refine ⟨_, rfl, iteF ?_⟩
    refine ⟨_, rfl, _, rfl, gG, gG, rfl, rfl, pg, pg, ?_⟩
    rw [decide_eq_true rfl]
    refine ⟨_, rfl, iteF ?_⟩
    refine ⟨_, rfl, _, rfl, gG, gG, rfl, rfl, pg, pg, ?_⟩
    rw [decide_eq_true rfl]
    refine ⟨_, rfl, iteF ?_⟩
    clear pg po nap s10
    refine ⟨_, rfl, p, 7, rfl, S.bowl, by decide, by decide, fun H11 k R11 k0 k7 => ?_⟩
    have S := S.stir R11
    obtain ⟨kn, rfl⟩ : ∃ kn : Nat, k = kn := ⟨k.toNat, by omega⟩
    clear R11
    refine ⟨_, rfl, by omega, by omega, ?_⟩
    refine for_range (n := kn) (fun i σ H' => ∃ (v9 v10 : Option V) (rows : List Row) (past : List (List Row)), σ = [some (.ref p), some (.str (tx l)), some (.int n), some (.bl st), some (.ref x), some (.str (tx hid)), some (.ref L), some (.ref gG), some (.ref go), v9, v10, none, none, none, none] ∧ S61 C CH CM CG H p x gG go L l n st H' rows rows past ∧ rows.length = i ∧ TR l n hid rows)
      ⟨_, _, [], [], rfl, S, rfl, fun r m => (by cases m)⟩ ?_ ?_
    · clear S
      rintro i σ Ha hi ⟨v9, v10, rows, past, rfl, S, ri, tr⟩
      refine ⟨_, rfl, _, rfl, _, rfl, p, l, n, rfl, S.bowl, by omega, by omega, by omega, by omega, fun Hb w Rb wl wm => ?_⟩
      have S := S.stir Rb
      have ww : Wd l n w := ⟨by omega, wm⟩
      clear Rb
      refine ⟨fun σ' H' => ∃ (w9 : Option V) (w' : List Nat), σ' = [some (.ref p), some (.str (tx l)), some (.int n), some (.bl st), some (.ref x), some (.str (tx hid)), some (.ref L), some (.ref gG), some (.ref go), w9, some (.str (tx w')), none, none, none, none] ∧ Same Hb H' ∧ Wd l n w' ∧ (st = false ∨ fitsB rows w' = true), ?_, ?_⟩
      · refine ⟨_, rfl, _, rfl, ?_⟩
        cases st with
        | false => exact iteF ⟨_, w, rfl, Same.refl _, ww, .inl rfl⟩
        | true =>
          obtain ⟨vs, hv, hw⟩ := _root_.id S.list
          have hl := hw.len
          refine iteT ?_
          refine ⟨_, rfl, L, rfl, ⟨_, SqL.of hv⟩, fun D hD => ?_⟩
          refine lc_it walk_list (fun i H' => Same Hb H' ∧ H' D = some (.lst (((rows.take i).map fun r => decide (mk r.1 w = r.2)).map V.bl))) ⟨same_upd hD, upd_same⟩ (fun i H' _ hh => SqL.of (hh.1 _ _ hv)) ?_ ?_
          · rintro i2 y H2 H3' hi2 ⟨sm, hDi⟩ ⟨rfl, hx⟩
            obtain ⟨a, rw_, rfl, hrow, ha⟩ := hw.get hx
            have ha2 := sm _ _ ha
            have rk := (tr _ (List.mem_of_getElem? hrow)).1
            have g1 := rk.1.1
            have z1 := ww.1
            refine ⟨a, _, rfl, SqT.of ha2, rfl, _, _, rfl, _, _, rfl, rfl, rfl, ?_⟩
            refine ⟨_, rfl, _, rfl, rw_.1, w, rfl, by omega, by omega, fun H4 s4 => ⟨_, rfl, rfl, ?_⟩⟩
            have hD4 := s4 _ _ hDi
            refine ⟨_, hD4, ?_, fun c o e => ?_, ?_⟩
            · rw [List.length_map, List.length_map, List.length_take]
              omega
            · rw [upd_ne (ne_of_none e hD)]
              exact s4 _ _ (sm _ _ e)
            · have e1 : rows.take (i2 + 1) = rows.take i2 ++ [rw_] := by
                rw [List.take_succ_eq_append_getElem (List.getElem?_eq_some_iff.mp hrow).1, (List.getElem?_eq_some_iff.mp hrow).2]
              have e2 : decide (V.str (tx (mk rw_.1 w)) = V.str (tx rw_.2)) = decide (mk rw_.1 w = rw_.2) := decide_eq_decide.mpr ⟨fun e => by
                have := congrArg (fun s : Str => s.cps.toList) (V.str.inj e)
                simpa using this, fun e => by rw [e]⟩
              rw [upd_same, e1, List.map_append, List.map_append]
              show some (HO.lst (_ ++ [V.bl _])) = some (HO.lst (_ ++ [V.bl _]))
              rw [e2]
          · rintro H2 ⟨sm, hD2⟩
            refine ⟨D, _, rfl, SqL.of hD2, _, rfl, ?_⟩
            have e : ((rows.take vs.length).map fun r => decide (mk r.1 w = r.2)).all id = fitsB rows w := by
              rw [hl, List.take_length, List.all_map]
              rfl
            rw [e]
            cases hf : fitsB rows w with
            | true => exact iteF ⟨_, w, rfl, sm, ww, .inr hf⟩
            | false => exact iteT ⟨_, rfl, _, hid, rfl, sm, wh, .inr tr.fits⟩
      rintro _ Hc ⟨w9, w', rfl, sc, ww', ok⟩
      have S := S.same sc
      have w1 := ww'.1
      have h1 := wh.1
      obtain ⟨vs, hv, hw⟩ := _root_.id S.list
      refine ⟨_, rfl, .inl ⟨rfl, _, SqL.of hv⟩, ?_⟩
      refine ⟨_, rfl, _, rfl, _, rfl, w', hid, rfl, by omega, by omega, fun Hd sd => ⟨by show 2 ≤ 1000; decide, fun He T se eT => ?_⟩⟩
      have sE := sm_tr sd se
      have hvE := sE _ _ hv
      have hwE := hw.same sE
      have hl := hw.len
      have SE := S.same sE
      refine ⟨L, vs, _, rfl, rfl, hvE, by omega, ?_⟩
      have bt : But L He (upd He L (.lst (vs ++ [.ref T]))) := fun c o nc e => by rw [upd_ne nc]; exact e
      have kt := kt_lst hvE bt
      have hvF : upd He L (.lst (vs ++ [.ref T])) L = some (.lst (vs ++ [.ref T])) := upd_same
      have eTF := kt _ _ (still_tup _) eT
      have LF : LRows (upd He L (.lst (vs ++ [.ref T]))) L (rows ++ [(w', mk w' hid)]) := ⟨_, hvF, (hwE.kt kt).app (.cons (r := (w', mk w' hid)) eTF .nil)⟩
      have SF := SE.app bt LF
      generalize upd He L (.lst (vs ++ [.ref T])) = HF at bt kt hvF eTF LF SF ⊢
      clear S SE sc se sd sE hvE hwE bt kt hv hw
      obtain ⟨dx', b', h', pa', eg, _⟩ := _root_.id SF.game
      refine ⟨_, rfl, gG, dx', _, rfl, eg, gf_none _ _ _ _ _ (by decide +kernel), _, rfl, ?_⟩
      refine ⟨_, rfl, _, rfl, L, _, _, _, rfl, rfl, SqL.of hvF, atI_last _ _, ?_⟩
      refine ⟨T, _, 1, _, rfl, rfl, SqT.of eTF, rfl, ?_⟩
      refine ⟨gG, l, n, st, rows, past, _, _, _, rfl, SF.game, lnd, add_fine past tr ww' wh (by omega) (by omega) ok, fun H' bf ga => ?_⟩
      have SG := SF.but bf ga
      refine ⟨rfl, _, rfl, iteF ?_⟩
      refine ⟨_, rfl, _, rfl, _, rfl, _, rfl, gG, x, L, l, n, st, _, _, rfl, SG.game, SG.box, SG.list, lsm, fun H12 s12 => ⟨_, rfl, iteF ?_⟩⟩
      exact ⟨_, _, _, _, rfl, SG.same s12, by rw [List.length_append, ri]; rfl, tr.snoc ww' wh⟩
    rintro σ Hz ⟨v9, v10, rows, past, rfl, S, ri, tr⟩
    refine ⟨_, rfl, _, rfl, _, rfl, by show 0 ≤ 1000; decide, fun Hb Lb sb eb => ⟨go, x, Lb, l, n, st, [], [], rfl, S.other.same sb, S.box.same sb, ⟨[], eb, .nil⟩, lsm, fun Hc sc => ⟨_, rfl, iteF ?_⟩⟩⟩
    have S := S.same (sm_tr sb sc)
    clear sb sc eb
    refine ⟨_, rfl, fun g2 dG zg zd ng' => ⟨g2, dG, x, l, n, false, rfl, upd_same, S.box.same (made_same2 zg zd (fun _ _ _ e => e)), fun H13 b13 ga13 => ⟨rfl, _, rfl, by show 0 ≤ 1000; decide, fun Hd Ld sd ed => ?_⟩⟩⟩
    have s13 := made_same2 zg zd b13
    have S := S.same (sm_tr s13 sd)
    refine ⟨g2, x, Ld, l, n, false, [], [], rfl, ga13.same sd, S.box, ⟨[], ed, .nil⟩, lsm, fun He se => ⟨_, rfl, iteF ?_⟩⟩
    have S := S.same se
    clear s13 sd se ed ga13 b13 zg zd ng'
    obtain ⟨dx', b', hG, pa', eg, hbG, hhG, hpG⟩ := _root_.id S.game
    refine ⟨_, rfl, _, rfl, _, rfl, gG, CG, dx', _, _, rfl, eg, TG.cl, TG.nH, gf_history _ _ _ _ _, _, rfl, by show 4 ≤ 1000; decide, fun Hf Mx sf ef => ?_⟩
    refine ⟨Mx, _, rfl, ef, mix_all TG KX (S.game.same sf) (S.box.same sf) (hhG.same sf) lsm, fun Hg sg => ⟨_, rfl, iteF ?_⟩⟩
    have S := S.same (sm_tr sf sg)
    have eg := sg _ _ (sf _ _ eg)
    have hhG := hhG.same (sm_tr sf sg)
    clear sf sg ef hbG hpG
    refine ⟨_, rfl, _, rfl, gG, CG, dx', _, _, rfl, eg, TG.cl, TG.nH, gf_history _ _ _ _ _, _, rfl, by show 4 ≤ 1000; decide, fun Hi My si ei => ?_⟩
    have S := S.same si
    have hhG := hhG.same si
    have eg := si _ _ eg
    refine ⟨My, rfl, ⟨_, SqL.of ei⟩, fun D hD => ?_⟩
    refine lc_list (K := K) (a := My) (xs := [.non, .ref x, .ref hG, .str (tx hid)]) (fun i H' => Same Hi H' ∧ H' D = some (.lst ((List.replicate i true).map V.bl)))
      ⟨same_upd hD, upd_same⟩ (fun i H' _ h => SqL.of (h.1 _ _ ei)) ?_ ?_
    · rintro i y H' hi ⟨sm, hDi⟩
      refine ⟨rfl, _, rfl, _, rfl, gG, rfl, (plain_game S.game).ext sm, mix_all TG KX (S.game.same sm) (S.box.same sm) (hhG.same sm) lsm y (List.mem_of_getElem? hi), fun H4 s4 => ⟨_, s4 _ _ hDi, ?_, fun b u e => ?_, ?_⟩⟩
      · have := (List.getElem?_eq_some_iff.mp hi).1
        rw [List.length_map, List.length_replicate]
        simp only [List.length_cons, List.length_nil] at this
        omega
      · rw [upd_ne (ne_of_none e hD)]
        exact s4 _ _ (sm b u e)
      · rw [upd_same, List.replicate_succ', List.map_append]
        rfl
    rintro Hj ⟨sj, hDj⟩
    refine ⟨D, List.replicate 4 true, rfl, SqL.of hDj, _, rfl, iteF ?_⟩
    have S := S.same sj
    have hhG := hhG.same sj
    have eg := sj _ _ eg
    clear si ei sj hDj hD
    refine ⟨_, rfl, _, rfl, _, rfl, by show 2 ≤ 1000; decide, fun H20 Tt s20 eTt => ?_⟩
    refine ⟨_, rfl, by show 1 ≤ 1000; decide, fun H21 Bb s21 eBb => ?_⟩
    refine fun H22 Dd s22 eDd => ?_
    have s022 := sm_tr s20 (sm_tr s21 s22)
    refine ⟨_, rfl, _, rfl, gG, CG, dx', _, _, rfl, s022 _ _ eg, TG.cl, TG.nH, gf_history _ _ _ _ _, by show 9 ≤ 1000; decide, fun H23 Od s23 eOd => ?_⟩
    have s023 := sm_tr s022 s23
    have S := S.same s023
    have hhG := hhG.same s023
    have eg := s023 _ _ eg
    have eTt := (sm_tr s21 (sm_tr s22 s23)) _ _ eTt
    have eBb := (sm_tr s22 s23) _ _ eBb
    have eDd := s23 _ _ eDd
    have nBb : Bb ≠ p := fun z => by
      obtain ⟨a1, a2, a3, hb⟩ := S.bowl
      rw [z, hb] at eBb
      cases eBb
    have nDd : Dd ≠ p := fun z => by
      obtain ⟨a1, a2, a3, hb⟩ := S.bowl
      rw [z, hb] at eDd
      cases eDd
    have nOd : Od ≠ p := fun z => by
      obtain ⟨a1, a2, a3, hb⟩ := S.bowl
      rw [z, hb] at eOd
      cases eOd
    refine ⟨_, rfl, p, 9, rfl, S.bowl, by decide, by decide, fun H24 d R24 d0 d9 => ?_⟩
    have k24 := kt_stir S.bowl R24
    have S := S.stir R24
    obtain ⟨v, t, s', hat, ty, no, od, ok⟩ := odd_all TG TH KX KS.eH S.game S.box (hhG.kt k24) lsm (alph_low hA).2 (k24 _ _ (still_tup _) eTt) (R24.1 _ _ nBb eBb) (R24.1 _ _ nDd eDd) d0 d9
    refine ⟨Od, _, d, v, rfl, rfl, SqL.of (R24.1 _ _ nOd eOd), hat, ?_⟩
    refine ⟨_, rfl, v, t, s', rfl, ty, no, od, fun H25 T25 s25 e25 => ?_⟩
    refine ⟨_, rfl, v, s', rfl, od.same s25, fun H26 s26 => ⟨by show 3 ≤ 1000; decide, fun H27 T27 s27 e27 => ?_⟩⟩
    refine ⟨ans3 "NotABoard" s', ans3 "NotABoard" s', dp_a3 ((sm_tr s26 s27) _ _ e25), dp_a3 e27, shp_a3 (ofs_ok _) ok, shp_a3 (ofs_ok _) ok, ?_⟩
    rw [eqv_a3]
    exact q _ (S.same (sm_tr s25 (sm_tr s26 s27))).old
end
end Gm

namespace Gm
open PySem PySem.Spec PyProof.Rows L2
/-! k61's law -/

def spLaw (K : PySem.W.Frag) : Sp := fun vs H Q _ => ∃ (a : Addr) (ns : List Int), vs = [.ref a] ∧ SqL K H a (ns.map V.int) ∧ ns.length ≤ 63 ∧ ∀ H', Q (.bl true) H'
def spLawN (K : PySem.W.Frag) : Sp := fun vs H Q E => (∀ p ∈ ([] : List (Addr × Addr)), H p.2 = some (.tbl #[])) ∧ spLaw K vs H Q E
structure TxL (mg : Str → Option Value) : Prop where
  all : mg "all" = none
  range : mg "range" = none
  max : mg "max" = none
  min : mg "min" = none
  len : mg "len" = none
section
variable {P : Program} {w : World} {K : PySem.W.Frag} {mg : Str → Option Value} {base : Heap}
abbrev nL : List Str := ["_law_script", "_law_k"]
theorem scL : FnScope nL ["_law_script"] (defScope sLaw) := ⟨rfl, rfl, rfl, by decide +kernel, rfl, by decide +kernel, by decide +kernel⟩
theorem ok_law {n0 : Nat} {f fB fR : Addr} {fd fdB fdR : FuncData} (F : Fun K "law" "law" sLaw f fd) (T : TxL mg)
    (GB : FnOk P w K mg base L2.CX0 1 fB fdB ["_law_script", "_law_k"] (spBowl K)) (DB : Df K mg "_law_well" fB fdB ["_law_script", "_law_k"])
    (GR : FnG P w K mg base L2.CX0 (n0 + 12) fR fdR ["_law_well_here"] spRgt) (DR : Df K mg "_law_right" fR fdR ["_law_well_here"]) : FnG P w K mg base L2.CX0 (n0 + 13) f fd ["_law_script"] (spLawN K) := by
  refine F.okG scL (fun vs H Q E h => ?_) (fun cdv A outer s H vs Q E g hr h => ?_)
  · obtain ⟨_, a, ns, rfl, _⟩ := h
    rfl
  · obtain ⟨_, a, ns, rfl, hS, hlen, q⟩ := h
    have nd := scL.nd
    have hr1 : Room 1 _ := hr.mono (by omega)
    refine ⟨_, pss_one (ps_ret (pe_callB (cr_all rfl) (by rfl) T.all (by decide +kernel) (pa_cons
      (pe_lc (own := [("_law_k", 1)]) (g := gName 1) (by rfl) nd
        (pi_range1 (by rfl) T.range (pa_cons (pe_callB (call_max2 rfl) (by rfl) T.max (by decide +kernel) (pa_cons pe_int (pa_cons (pe_callB (call_min2 rfl) (by rfl) T.min (by decide +kernel)
          (pa_cons (pe_callB call_len_seq (by rfl) T.len PySem.boot_len (pa_cons (pv 0) pa_nil)) (pa_cons pe_int pa_nil))) pa_nil))) pa_nil))
        (blkOk_by (own := [("_law_k", 1)]) (N := nL) (sc := defScope sLaw) (by decide +kernel))
        (fun _ _ _ _ _ => pg_name (i := 1) nd rfl (Or.inl rfl)) (fun _ _ _ _ _ => pts_nil)
        (fun _ _ _ _ _ => pe_callG GR g hr (by rfl) DR.mg DR.kp DR.b L2.pass0 (pa_cons (pe_call GB hr1 (by rfl) DB.mg DB.kp DB.b .nil L2.pass0 (pa_cons (pv 0) (pa_cons (pv 1) pa_nil))) pa_nil))) pa_nil))), ?_⟩
    have hline : sizeLine = 16777216 := sizeLine_eq
    refine ⟨_, rfl, a, _, rfl, .inl hS, _, _, rfl, _, _, rfl, ?_⟩
    refine ⟨_, rfl, ?_, ?_, fun D hD => ?_⟩
    · rw [List.length_map]
      split <;> (try split) <;> omega
    · rw [List.length_map]
      split <;> (try split) <;> omega
    have hn : ∀ L : Int, (if (if (5 : Int) < L then (5 : Int) else L) > 2 then (if (5 : Int) < L then (5 : Int) else L) else 2).toNat ≤ 6 := fun L => by
      split <;> (try split) <;> omega
    refine lc_range (lo := 0) (fun i H' => Same H H' ∧ H' D = some (.lst ((List.replicate i true).map V.bl))) ⟨same_upd hD, upd_same⟩ ?_ ?_
    · rintro i H1 hi ⟨sm, hDi⟩
      have hi6 : i < 6 := Nat.lt_of_lt_of_le hi (hn _)
      refine ⟨rfl, ⟨_, rfl, _, rfl, a, ns, _, rfl, sm.seq hS, hlen, by omega, fun H2 p s2 np B => ⟨p, rfl, B, fun H3 R3 => ?_⟩⟩⟩
      have keep : Same H1 H3 := fun b o e => R3 b o (ne_of_none e np) (s2 b o e)
      refine ⟨_, keep _ _ hDi, ?_, fun b u e => ?_, ?_⟩
      · rw [List.length_map, List.length_replicate]
        omega
      · rw [upd_ne (ne_of_none e hD)]
        exact keep b u (sm b u e)
      · rw [upd_same, List.replicate_succ', List.map_append]
        rfl
    · rintro H1 ⟨sm, hD1⟩
      refine ⟨D, _, rfl, SqL.of hD1, ?_⟩
      rw [List.all_replicate]
      simp only [id, if_true, ite_self]
      exact q _
end
end Gm

/-! games: what the last files share -/
namespace Gm
open PySem PySem.Spec PyProof.Rows L2 LamX
theorem oexB_one {K : PySem.W.Frag} {C S N : Addr} {nm q : Str} {bs sub bmB : List Value} {sn : List Str} {ab : Bool} {col : Option Bool} {dd : Option Addr} {k0 k1 k2 k3 k5 : Option Value} {B n1 n2 : String}
    (x : K.lookup C = some (excClassObj nm q C N bs (.ref S :: bmB) true sn sub ab col dd k0 k1 k2 k3 k5 n1)) (F : ExcBaseFacts B n1 n2 bmB) (pass : ∀ self : Value, refuseLoop self "__setattr__" bmB = pure ()) (ob : bmB.contains (.type "object") = true)
    (sa : PySem.W.findIn K (.ref C) "__setattr__" = some (some (.builtin "object.__setattr__"))) (eb : PySem.W.subIn K (.ref C) (.type "BaseException") = some true) (ty : PySem.W.typeIn K (.ref C) = some (.type "type")) (kp : PySem.W.keepIn K (.ref C) = true) : OexB K C :=
  ⟨⟨nm, q, N, bs, .ref S :: bmB, sub, bmB, sn, ab, col, dd, k0, k1, k2, k3, k5, B, n1, n2, x, F, fun Y => by rw [List.contains_cons]; rfl, fun self => (PySem.refuseLoop_ref _ _ _ _).trans (pass self), ob⟩, sa, eb, ty, kp⟩





/-- Game(b) -/
theorem game_binds {K : PySem.W.Frag} {f : Addr} {fd : FuncData} (F : FunD K "__init__" "Game.__init__" (defArgs sGInit) (defBody sGInit) (defScope sGInit) [] [("strict", .bl false)] f fd) : ∃ ds, Vals [.bl false] ds ∧ Binds K fd ["self", "board", "strict"] ds :=
  F.binds0 2 (by simp) rfl fun D doc pm an cdv ct us ks hu hk => match us, hu, ks, hk with
    | [a, b], _, [k], _ => ⟨_, _, _, _, _, _, rfl, rfl, rfl⟩
/-- Game(b, strict = x) -/
theorem game_kbinds {K : PySem.W.Frag} {f : Addr} {fd : FuncData} (F : FunD K "__init__" "Game.__init__" (defArgs sGInit) (defBody sGInit) (defScope sGInit) [] [("strict", .bl false)] f fd) : KBn K fd ["self", "board", "strict"] 2 ["strict"] (fun us ws => us ++ ws) (fun vs zs => vs ++ zs) := by
  obtain ⟨mv, h⟩ := F.kbinds0 (ps := ["self", "board", "strict"]) 2 ["strict"] [] (fun us _ ws => us ++ ws) (by simp) (by simp) (fun r1 _ r2 => r1.append r2) fun D doc pm an cdv ct us mv ws hu hm hk => match us, hu, mv, hm, ws, hk with
    | [a, b], _, [], _, [k], _ => rfl
  exact h
/-- Game(strict = x, board = b) -/
theorem game_kbinds0 {K : PySem.W.Frag} {f : Addr} {fd : FuncData} (F : FunD K "__init__" "Game.__init__" (defArgs sGInit) (defBody sGInit) (defScope sGInit) [] [("strict", .bl false)] f fd) : KBn K fd ["self", "board", "strict"] 1 ["strict", "board"] (fun us ws => us ++ ws.reverse) (fun vs zs => vs ++ zs.reverse) := by
  obtain ⟨mv, h⟩ := F.kbinds0 (ps := ["self", "board", "strict"]) 1 ["strict", "board"] [] (fun us _ ws => us ++ ws.reverse) (by simp) (by simp) (fun r1 _ r2 => r1.append r2.reverse) fun D doc pm an cdv ct us mv ws hu hm hk => match us, hu, mv, hm, ws, hk with
    | [a], _, [], _, [k, b], _ => rfl
  exact h
theorem evOf {fn : List He.DefD} {tf : List He.Defn} {ex ex2 : PySem.W.Frag → Bool} {h : Heap} {K : PySem.W.Frag} (c : HX.SaysA fn tf ex ex2 h K) (i : Nat) {d : He.DefD} (e : fn[i]? = some d) : He.fnW K d.at_ = d.val := by
  have z := congrArg (fun l => l[i]?) c.vals
  simp only [List.getElem?_map, e, Option.map_some] at z
  exact Option.some.inj z
end Gm

namespace Gm
open PySem PySem.Spec PyProof.Rows L2 LamX
theorem all_mk {P : Program} {w : World} {K : PySem.W.Frag} {h : Heap} {mg : Str → Option Value} {fa CB CH CW CD CM CG CNo CBu CIn CSt CSi CxW CxM CxT CxG CxNb fB fD fOn fS fTe fRp fCl fSto fSh fRf fR fW fA fCn fOv fIw fAm fIr fCw fCm fCb fCr fMo fWc fWn fWg fOd fHw fL fI fHi fTh fFi fMm fGa fGf fGr fGv fGi fGl fGq fHq fHe fBq fBe fXi fXn fXu fXw fXf fXa fXm fYi fYr fYk fYl fYa fYm fIW fIM fIT fIG fINb : Addr} (X : K.In h) (G : h.Ns mainGlobals mg) (hfa : mg "law" = some (.ref fa))
    {odB anB odD anD odOn anOn odS anS odTe anTe odRp anRp odCl anCl odSto anSto odSh anSh odRf anRf odR anR odW anW odA anA odCn anCn odOv anOv odIw anIw odAm anAm odIr anIr odCw anCw odCm anCm odCb anCb odCr anCr odMo anMo odWc anWc odWn anWn odWg anWg odOd anOd odHw anHw odL anL odI anI odHi anHi odTh anTh odFi anFi odMm anMm odGa anGa odGf anGf odGr anGr odGv anGv odGi anGi odGl anGl odGq anGq odHq anHq odHe anHe odBq anBq odBe anBe odXi anXi odXn anXn odXu anXu odXw anXw odXf anXf odXa anXa odXm anXm odYi anYi odYr anYr odYk anYk odYl anYl odYa anYa odYm anYm odIW anIW odIM anIM odIT anIT odIG anIG odINb anINb : Option Addr} {slB slD slOn slS slTe slRp slCl slSto slSh slRf slR slW slA slCn slOv slIw slAm slIr slCw slCm slCb slCr slMo slWc slWn slWg slOd slHw slL slI slHi slTh slFi slMm slGa slGf slGr slGv slGi slGl slGq slHq slHe slBq slBe slXi slXn slXu slXw slXf slXa slXm slYi slYr slYk slYl slYa slYm slIW slIM slIT slIG slINb : Array (Option Value)} {ocB kVB dcB pmB cdB ctB ocD kVD dcD pmD cdD ctD ocOn kVOn dcOn pmOn cdOn ctOn ocS kVS dcS pmS cdS ctS ocTe kVTe dcTe pmTe cdTe ctTe ocRp kVRp dcRp pmRp cdRp ctRp ocCl kVCl dcCl pmCl cdCl ctCl ocSto kVSto dcSto pmSto cdSto ctSto ocSh kVSh dcSh pmSh cdSh ctSh ocRf kVRf dcRf pmRf cdRf ctRf ocR kVR dcR pmR cdR ctR ocW kVW dcW pmW cdW ctW ocA kVA dcA pmA cdA ctA ocCn kVCn dcCn pmCn cdCn ctCn ocOv kVOv dcOv pmOv cdOv ctOv ocIw kVIw dcIw pmIw cdIw ctIw ocAm kVAm dcAm pmAm cdAm ctAm ocIr kVIr dcIr pmIr cdIr ctIr ocCw kVCw dcCw pmCw cdCw ctCw ocCm kVCm dcCm pmCm cdCm ctCm ocCb kVCb dcCb pmCb cdCb ctCb ocCr kVCr dcCr pmCr cdCr ctCr ocMo kVMo dcMo pmMo cdMo ctMo ocWc kVWc dcWc pmWc cdWc ctWc ocWn kVWn dcWn pmWn cdWn ctWn ocWg kVWg dcWg pmWg cdWg ctWg ocOd kVOd dcOd pmOd cdOd ctOd ocHw kVHw dcHw pmHw cdHw ctHw ocL kVL dcL pmL cdL ctL ocI kVI dcI pmI cdI ctI ocHi kVHi dcHi pmHi cdHi ctHi ocTh kVTh dcTh pmTh cdTh ctTh ocFi kVFi dcFi pmFi cdFi ctFi ocMm kVMm dcMm pmMm cdMm ctMm ocGa kVGa dcGa pmGa cdGa ctGa ocGf kVGf dcGf pmGf cdGf ctGf ocGr kVGr dcGr pmGr cdGr ctGr ocGv kVGv dcGv pmGv cdGv ctGv ocGi kVGi dcGi pmGi cdGi ctGi ocGl kVGl dcGl pmGl cdGl ctGl ocGq kVGq dcGq pmGq cdGq ctGq ocHq kVHq dcHq pmHq cdHq ctHq ocHe kVHe dcHe pmHe cdHe ctHe ocBq kVBq dcBq pmBq cdBq ctBq ocBe kVBe dcBe pmBe cdBe ctBe ocXi kVXi dcXi pmXi cdXi ctXi ocXn kVXn dcXn pmXn cdXn ctXn ocXu kVXu dcXu pmXu cdXu ctXu ocXw kVXw dcXw pmXw cdXw ctXw ocXf kVXf dcXf pmXf cdXf ctXf ocXa kVXa dcXa pmXa cdXa ctXa ocXm kVXm dcXm pmXm cdXm ctXm ocYi kVYi dcYi pmYi cdYi ctYi ocYr kVYr dcYr pmYr cdYr ctYr ocYk kVYk dcYk pmYk cdYk ctYk ocYl kVYl dcYl pmYl cdYl ctYl ocYa kVYa dcYa pmYa cdYa ctYa ocYm kVYm dcYm pmYm cdYm ctYm ocIW kVIW dcIW pmIW cdIW ctIW ocIM kVIM dcIM pmIM cdIM ctIM ocIT kVIT dcIT pmIT cdIT ctIT ocIG kVIG dcIG pmIG cdIG ctIG ocINb kVINb dcINb pmINb cdINb ctINb : Value}
    {tkML tkMM tkMR tkLO tkMA : Tok}
    {nmxW qnxW : Str} {NSxW : Addr} {bsxW sbxW : List Value} {snxW : List Str} {abxW : Bool} {clxW : Option Bool} {ddxW : Option Addr} {m0xW m1xW m2xW m3xW m5xW : Option Value}
    {nmxM qnxM : Str} {NSxM : Addr} {bsxM sbxM : List Value} {snxM : List Str} {abxM : Bool} {clxM : Option Bool} {ddxM : Option Addr} {m0xM m1xM m2xM m3xM m5xM : Option Value}
    {nmxT qnxT : Str} {NSxT : Addr} {bsxT sbxT : List Value} {snxT : List Str} {abxT : Bool} {clxT : Option Bool} {ddxT : Option Addr} {m0xT m1xT m2xT m3xT m5xT : Option Value}
    {nmxG qnxG : Str} {NSxG : Addr} {bsxG sbxG : List Value} {snxG : List Str} {abxG : Bool} {clxG : Option Bool} {ddxG : Option Addr} {m0xG m1xG m2xG m3xG m5xG : Option Value}
    {nmxNb qnxNb : Str} {NSxNb : Addr} {bsxNb sbxNb : List Value} {snxNb : List Str} {abxNb : Bool} {clxNb : Option Bool} {ddxNb : Option Addr} {m0xNb m1xNb m2xNb m3xNb m5xNb : Option Value}
    (gCB : PySem.W.nsIn K mainGlobals "Board" = some (some (.ref CB)))
    (gCH : PySem.W.nsIn K mainGlobals "History" = some (some (.ref CH)))
    (gCW : PySem.W.nsIn K mainGlobals "Words" = some (some (.ref CW)))
    (gCD : PySem.W.nsIn K mainGlobals "Bounds" = some (some (.ref CD)))
    (gCM : PySem.W.nsIn K mainGlobals "Moment" = some (some (.ref CM)))
    (gCG : PySem.W.nsIn K mainGlobals "Game" = some (some (.ref CG)))
    (gCNo : PySem.W.nsIn K mainGlobals "NoWord" = some (some (.ref CNo)))
    (gCBu : PySem.W.nsIn K mainGlobals "Busy" = some (some (.ref CBu)))
    (gCIn : PySem.W.nsIn K mainGlobals "InputError" = some (some (.ref CIn)))
    (gCSt : PySem.W.nsIn K mainGlobals "StateError" = some (some (.ref CSt)))
    (gCSi : PySem.W.nsIn K mainGlobals "SizeError" = some (some (.ref CSi)))
    (gCxW : PySem.W.nsIn K mainGlobals "InvalidWord" = some (some (.ref CxW)))
    (gCxM : PySem.W.nsIn K mainGlobals "InvalidMarks" = some (some (.ref CxM)))
    (gCxT : PySem.W.nsIn K mainGlobals "TooManyRows" = some (some (.ref CxT)))
    (gCxG : PySem.W.nsIn K mainGlobals "GuessNotLeft" = some (some (.ref CxG)))
    (gCxNb : PySem.W.nsIn K mainGlobals "NotABoard" = some (some (.ref CxNb)))
    (aB : PySem.W.nsIn K mainGlobals "_law_well" = some (some (.ref fB)))
    (lB : K.lookup fB = some ⟨ocB, odB, .func (PySem.W.fnOf "_law_well" "_law_well" (defArgs sWell) (defBody sWell) (defScope sWell) .none kVB dcB pmB anB cdB ctB), slB⟩)
    (cB : PySem.W.codeIn K cdB "_law_well" = true)
    (kB : PySem.W.keepIn K (.ref fB) = true)
    (aD : PySem.W.nsIn K mainGlobals "_law_draw" = some (some (.ref fD)))
    (lD : K.lookup fD = some ⟨ocD, odD, .func (PySem.W.fnOf "_law_draw" "_law_draw" (defArgs sDraw) (defBody sDraw) (defScope sDraw) .none kVD dcD pmD anD cdD ctD), slD⟩)
    (cD : PySem.W.codeIn K cdD "_law_draw" = true)
    (kD : PySem.W.keepIn K (.ref fD) = true)
    (aOn : PySem.W.nsIn K mainGlobals "_law_one" = some (some (.ref fOn)))
    (lOn : K.lookup fOn = some ⟨ocOn, odOn, .func (PySem.W.fnOf "_law_one" "_law_one" (defArgs sOne) (defBody sOne) (defScope sOne) .none kVOn dcOn pmOn anOn cdOn ctOn), slOn⟩)
    (cOn : PySem.W.codeIn K cdOn "_law_one" = true)
    (kOn : PySem.W.keepIn K (.ref fOn) = true)
    (aS : PySem.W.nsIn K mainGlobals "_law_signs" = some (some (.ref fS)))
    (lS : K.lookup fS = some ⟨ocS, odS, .func (PySem.W.fnOf "_law_signs" "_law_signs" (defArgs sSigns) (defBody sSigns) (defScope sSigns) .none kVS dcS pmS anS cdS ctS), slS⟩)
    (cS : PySem.W.codeIn K cdS "_law_signs" = true)
    (kS : PySem.W.keepIn K (.ref fS) = true)
    (aTe : PySem.W.nsIn K mainGlobals "_law_text" = some (some (.ref fTe)))
    (lTe : K.lookup fTe = some ⟨ocTe, odTe, .func (PySem.W.fnOf "_law_text" "_law_text" (defArgs sText) (defBody sText) (defScope sText) .none kVTe dcTe pmTe anTe cdTe ctTe), slTe⟩)
    (cTe : PySem.W.codeIn K cdTe "_law_text" = true)
    (kTe : PySem.W.keepIn K (.ref fTe) = true)
    (aRp : PySem.W.nsIn K mainGlobals "_law_reply" = some (some (.ref fRp)))
    (lRp : K.lookup fRp = some ⟨ocRp, odRp, .func (PySem.W.fnOf "_law_reply" "_law_reply" (defArgs sReply) (defBody sReply) (defScope sReply) .none kVRp dcRp pmRp anRp cdRp ctRp), slRp⟩)
    (cRp : PySem.W.codeIn K cdRp "_law_reply" = true)
    (kRp : PySem.W.keepIn K (.ref fRp) = true)
    (aCl : PySem.W.nsIn K mainGlobals "check_word_left" = some (some (.ref fCl)))
    (lCl : K.lookup fCl = some ⟨ocCl, odCl, .func (PySem.W.fnOf "check_word_left" "check_word_left" (defArgs sChkL) (defBody sChkL) (defScope sChkL) .none kVCl dcCl pmCl anCl cdCl ctCl), slCl⟩)
    (cCl : PySem.W.codeIn K cdCl "check_word_left" = true)
    (kCl : PySem.W.keepIn K (.ref fCl) = true)
    (aSto : PySem.W.nsIn K mainGlobals "_law_story" = some (some (.ref fSto)))
    (lSto : K.lookup fSto = some ⟨ocSto, odSto, .func (PySem.W.fnOf "_law_story" "_law_story" (defArgs sStory) (defBody sStory) (defScope sStory) .none kVSto dcSto pmSto anSto cdSto ctSto), slSto⟩)
    (cSto : PySem.W.codeIn K cdSto "_law_story" = true)
    (kSto : PySem.W.keepIn K (.ref fSto) = true)
    (aSh : PySem.W.nsIn K mainGlobals "_law_shown" = some (some (.ref fSh)))
    (lSh : K.lookup fSh = some ⟨ocSh, odSh, .func (PySem.W.fnOf "_law_shown" "_law_shown" (defArgs sShown) (defBody sShown) (defScope sShown) .none kVSh dcSh pmSh anSh cdSh ctSh), slSh⟩)
    (cSh : PySem.W.codeIn K cdSh "_law_shown" = true)
    (kSh : PySem.W.keepIn K (.ref fSh) = true)
    (aRf : PySem.W.nsIn K mainGlobals "_law_refused" = some (some (.ref fRf)))
    (lRf : K.lookup fRf = some ⟨ocRf, odRf, .func (PySem.W.fnOf "_law_refused" "_law_refused" (defArgs sRefu) (defBody sRefu) (defScope sRefu) .none kVRf dcRf pmRf anRf cdRf ctRf), slRf⟩)
    (cRf : PySem.W.codeIn K cdRf "_law_refused" = true)
    (kRf : PySem.W.keepIn K (.ref fRf) = true)
    (aR : PySem.W.nsIn K mainGlobals "_law_right" = some (some (.ref fR)))
    (lR : K.lookup fR = some ⟨ocR, odR, .func (PySem.W.fnOf "_law_right" "_law_right" (defArgs sRgt) (defBody sRgt) (defScope sRgt) .none kVR dcR pmR anR cdR ctR), slR⟩)
    (cR : PySem.W.codeIn K cdR "_law_right" = true)
    (kR : PySem.W.keepIn K (.ref fR) = true)
    (aW : PySem.W.nsIn K mainGlobals "is_integer_within" = some (some (.ref fW)))
    (lW : K.lookup fW = some ⟨ocW, odW, .func (PySem.W.fnOf "is_integer_within" "is_integer_within" (defArgs sWithin) (defBody sWithin) (defScope sWithin) .none kVW dcW pmW anW cdW ctW), slW⟩)
    (cW : PySem.W.codeIn K cdW "is_integer_within" = true)
    (kW : PySem.W.keepIn K (.ref fW) = true)
    (aA : PySem.W.nsIn K mainGlobals "is_alphabet" = some (some (.ref fA)))
    (lA : K.lookup fA = some ⟨ocA, odA, .func (PySem.W.fnOf "is_alphabet" "is_alphabet" (defArgs sAlpha) (defBody sAlpha) (defScope sAlpha) .none kVA dcA pmA anA cdA ctA), slA⟩)
    (cA : PySem.W.codeIn K cdA "is_alphabet" = true)
    (kA : PySem.W.keepIn K (.ref fA) = true)
    (aCn : PySem.W.nsIn K mainGlobals "count_words" = some (some (.ref fCn)))
    (lCn : K.lookup fCn = some ⟨ocCn, odCn, .func (PySem.W.fnOf "count_words" "count_words" (defArgs sCount) (defBody sCount) (defScope sCount) .none kVCn dcCn pmCn anCn cdCn ctCn), slCn⟩)
    (cCn : PySem.W.codeIn K cdCn "count_words" = true)
    (kCn : PySem.W.keepIn K (.ref fCn) = true)
    (aOv : PySem.W.nsIn K mainGlobals "is_text_over" = some (some (.ref fOv)))
    (lOv : K.lookup fOv = some ⟨ocOv, odOv, .func (PySem.W.fnOf "is_text_over" "is_text_over" (defArgs sOver) (defBody sOver) (defScope sOver) .none kVOv dcOv pmOv anOv cdOv ctOv), slOv⟩)
    (cOv : PySem.W.codeIn K cdOv "is_text_over" = true)
    (kOv : PySem.W.keepIn K (.ref fOv) = true)
    (aIw : PySem.W.nsIn K mainGlobals "is_word" = some (some (.ref fIw)))
    (lIw : K.lookup fIw = some ⟨ocIw, odIw, .func (PySem.W.fnOf "is_word" "is_word" (defArgs sIsW) (defBody sIsW) (defScope sIsW) .none kVIw dcIw pmIw anIw cdIw ctIw), slIw⟩)
    (cIw : PySem.W.codeIn K cdIw "is_word" = true)
    (kIw : PySem.W.keepIn K (.ref fIw) = true)
    (aAm : PySem.W.nsIn K mainGlobals "are_marks" = some (some (.ref fAm)))
    (lAm : K.lookup fAm = some ⟨ocAm, odAm, .func (PySem.W.fnOf "are_marks" "are_marks" (defArgs sAreM) (defBody sAreM) (defScope sAreM) .none kVAm dcAm pmAm anAm cdAm ctAm), slAm⟩)
    (cAm : PySem.W.codeIn K cdAm "are_marks" = true)
    (kAm : PySem.W.keepIn K (.ref fAm) = true)
    (aIr : PySem.W.nsIn K mainGlobals "is_row" = some (some (.ref fIr)))
    (lIr : K.lookup fIr = some ⟨ocIr, odIr, .func (PySem.W.fnOf "is_row" "is_row" (defArgs sIsRow) (defBody sIsRow) (defScope sIsRow) .none kVIr dcIr pmIr anIr cdIr ctIr), slIr⟩)
    (cIr : PySem.W.codeIn K cdIr "is_row" = true)
    (kIr : PySem.W.keepIn K (.ref fIr) = true)
    (aCw : PySem.W.nsIn K mainGlobals "check_word" = some (some (.ref fCw)))
    (lCw : K.lookup fCw = some ⟨ocCw, odCw, .func (PySem.W.fnOf "check_word" "check_word" (defArgs sChkW) (defBody sChkW) (defScope sChkW) .none kVCw dcCw pmCw anCw cdCw ctCw), slCw⟩)
    (cCw : PySem.W.codeIn K cdCw "check_word" = true)
    (kCw : PySem.W.keepIn K (.ref fCw) = true)
    (aCm : PySem.W.nsIn K mainGlobals "check_marks" = some (some (.ref fCm)))
    (lCm : K.lookup fCm = some ⟨ocCm, odCm, .func (PySem.W.fnOf "check_marks" "check_marks" (defArgs sChkM) (defBody sChkM) (defScope sChkM) .none kVCm dcCm pmCm anCm cdCm ctCm), slCm⟩)
    (cCm : PySem.W.codeIn K cdCm "check_marks" = true)
    (kCm : PySem.W.keepIn K (.ref fCm) = true)
    (aCb : PySem.W.nsIn K mainGlobals "check_board" = some (some (.ref fCb)))
    (lCb : K.lookup fCb = some ⟨ocCb, odCb, .func (PySem.W.fnOf "check_board" "check_board" (defArgs sChkB) (defBody sChkB) (defScope sChkB) .none kVCb dcCb pmCb anCb cdCb ctCb), slCb⟩)
    (cCb : PySem.W.codeIn K cdCb "check_board" = true)
    (kCb : PySem.W.keepIn K (.ref fCb) = true)
    (aCr : PySem.W.nsIn K mainGlobals "check_rows" = some (some (.ref fCr)))
    (lCr : K.lookup fCr = some ⟨ocCr, odCr, .func (PySem.W.fnOf "check_rows" "check_rows" (defArgs sChkR) (defBody sChkR) (defScope sChkR) .none kVCr dcCr pmCr anCr cdCr ctCr), slCr⟩)
    (cCr : PySem.W.codeIn K cdCr "check_rows" = true)
    (kCr : PySem.W.keepIn K (.ref fCr) = true)
    (aMo : PySem.W.nsIn K mainGlobals "marks_of" = some (some (.ref fMo)))
    (lMo : K.lookup fMo = some ⟨ocMo, odMo, .func (PySem.W.fnOf "marks_of" "marks_of" (defArgs sMarksOf) (defBody sMarksOf) (defScope sMarksOf) .none kVMo dcMo pmMo anMo cdMo ctMo), slMo⟩)
    (cMo : PySem.W.codeIn K cdMo "marks_of" = true)
    (kMo : PySem.W.keepIn K (.ref fMo) = true)
    (aWc : PySem.W.nsIn K mainGlobals "common_letters" = some (some (.ref fWc)))
    (lWc : K.lookup fWc = some ⟨ocWc, odWc, .func (PySem.W.fnOf "common_letters" "common_letters" (defArgs sComm) (defBody sComm) (defScope sComm) .none kVWc dcWc pmWc anWc cdWc ctWc), slWc⟩)
    (cWc : PySem.W.codeIn K cdWc "common_letters" = true)
    (kWc : PySem.W.keepIn K (.ref fWc) = true)
    (aWn : PySem.W.nsIn K mainGlobals "counted_letters" = some (some (.ref fWn)))
    (lWn : K.lookup fWn = some ⟨ocWn, odWn, .func (PySem.W.fnOf "counted_letters" "counted_letters" (defArgs sCnt) (defBody sCnt) (defScope sCnt) .none kVWn dcWn pmWn anWn cdWn ctWn), slWn⟩)
    (cWn : PySem.W.codeIn K cdWn "counted_letters" = true)
    (kWn : PySem.W.keepIn K (.ref fWn) = true)
    (aWg : PySem.W.nsIn K mainGlobals "marks_given" = some (some (.ref fWg)))
    (lWg : K.lookup fWg = some ⟨ocWg, odWg, .func (PySem.W.fnOf "marks_given" "marks_given" (defArgs sGiven) (defBody sGiven) (defScope sGiven) .none kVWg dcWg pmWg anWg cdWg ctWg), slWg⟩)
    (cWg : PySem.W.codeIn K cdWg "marks_given" = true)
    (kWg : PySem.W.keepIn K (.ref fWg) = true)
    (aOd : PySem.W.nsIn K mainGlobals "is_in_order" = some (some (.ref fOd)))
    (lOd : K.lookup fOd = some ⟨ocOd, odOd, .func (PySem.W.fnOf "is_in_order" "is_in_order" (defArgs sOrd) (defBody sOrd) (defScope sOrd) .none kVOd dcOd pmOd anOd cdOd ctOd), slOd⟩)
    (cOd : PySem.W.codeIn K cdOd "is_in_order" = true)
    (kOd : PySem.W.keepIn K (.ref fOd) = true)
    (aHw : PySem.W.nsIn K mainGlobals "has_word" = some (some (.ref fHw)))
    (lHw : K.lookup fHw = some ⟨ocHw, odHw, .func (PySem.W.fnOf "has_word" "has_word" (defArgs sHas) (defBody sHas) (defScope sHas) .none kVHw dcHw pmHw anHw cdHw ctHw), slHw⟩)
    (cHw : PySem.W.codeIn K cdHw "has_word" = true)
    (kHw : PySem.W.keepIn K (.ref fHw) = true)
    (aL : PySem.W.nsIn K mainGlobals "law" = some (some (.ref fL)))
    (lL : K.lookup fL = some ⟨ocL, odL, .func (PySem.W.fnOf "law" "law" (defArgs sLaw) (defBody sLaw) (defScope sLaw) .none kVL dcL pmL anL cdL ctL), slL⟩)
    (cL : PySem.W.codeIn K cdL "law" = true)
    (kL : PySem.W.keepIn K (.ref fL) = true)
    (aI : PySem.W.findIn K (.ref CB) "__init__" = some (some (.ref fI)))
    (iI : PySem.W.isFn K (.ref fI) = true)
    (lI : K.lookup fI = some ⟨ocI, odI, .func (PySem.W.fnOf "__init__" "Board.__init__" (defArgs sInit) (defBody sInit) (defScope sInit) .none kVI dcI pmI anI cdI ctI), slI⟩)
    (cI : PySem.W.codeIn K cdI "Board.__init__" = true)
    (kI : PySem.W.keepIn K (.ref fI) = true)
    (aHi : PySem.W.findIn K (.ref CH) "__init__" = some (some (.ref fHi)))
    (iHi : PySem.W.isFn K (.ref fHi) = true)
    (lHi : K.lookup fHi = some ⟨ocHi, odHi, .func (PySem.W.fnOf "__init__" "History.__init__" (defArgs sHInit) (defBody sHInit) (defScope sHInit) .none kVHi dcHi pmHi anHi cdHi ctHi), slHi⟩)
    (cHi : PySem.W.codeIn K cdHi "History.__init__" = true)
    (kHi : PySem.W.keepIn K (.ref fHi) = true)
    (aTh : PySem.W.findIn K (.ref CH) "then" = some (some (.ref fTh)))
    (iTh : PySem.W.isFn K (.ref fTh) = true)
    (lTh : K.lookup fTh = some ⟨ocTh, odTh, .func (PySem.W.fnOf "then" "History.then" (defArgs sThen) (defBody sThen) (defScope sThen) .none kVTh dcTh pmTh anTh cdTh ctTh), slTh⟩)
    (cTh : PySem.W.codeIn K cdTh "History.then" = true)
    (kTh : PySem.W.keepIn K (.ref fTh) = true)
    (aFi : PySem.W.findIn K (.ref CH) "fits" = some (some (.ref fFi)))
    (iFi : PySem.W.isFn K (.ref fFi) = true)
    (lFi : K.lookup fFi = some ⟨ocFi, odFi, .func (PySem.W.fnOf "fits" "History.fits" (defArgs sFits) (defBody sFits) (defScope sFits) .none kVFi dcFi pmFi anFi cdFi ctFi), slFi⟩)
    (cFi : PySem.W.codeIn K cdFi "History.fits" = true)
    (kFi : PySem.W.keepIn K (.ref fFi) = true)
    (aMm : PySem.W.findIn K (.ref CM) "__init__" = some (some (.ref fMm)))
    (iMm : PySem.W.isFn K (.ref fMm) = true)
    (lMm : K.lookup fMm = some ⟨ocMm, odMm, .func (PySem.W.fnOf "__init__" "Moment.__init__" (defArgs sMoInit) (defBody sMoInit) (defScope sMoInit) .none kVMm dcMm pmMm anMm cdMm ctMm), slMm⟩)
    (cMm : PySem.W.codeIn K cdMm "Moment.__init__" = true)
    (kMm : PySem.W.keepIn K (.ref fMm) = true)
    (aGa : PySem.W.findIn K (.ref CG) "add" = some (some (.ref fGa)))
    (iGa : PySem.W.isFn K (.ref fGa) = true)
    (lGa : K.lookup fGa = some ⟨ocGa, odGa, .func (PySem.W.fnOf "add" "Game.add" (defArgs sAdd) (defBody sAdd) (defScope sAdd) .none kVGa dcGa pmGa anGa cdGa ctGa), slGa⟩)
    (cGa : PySem.W.codeIn K cdGa "Game.add" = true)
    (kGa : PySem.W.keepIn K (.ref fGa) = true)
    (aGf : PySem.W.findIn K (.ref CG) "check_free" = some (some (.ref fGf)))
    (iGf : PySem.W.isFn K (.ref fGf) = true)
    (lGf : K.lookup fGf = some ⟨ocGf, odGf, .func (PySem.W.fnOf "check_free" "Game.check_free" (defArgs sFree) (defBody sFree) (defScope sFree) .none kVGf dcGf pmGf anGf cdGf ctGf), slGf⟩)
    (cGf : PySem.W.codeIn K cdGf "Game.check_free" = true)
    (kGf : PySem.W.keepIn K (.ref fGf) = true)
    (aGr : PySem.W.findIn K (.ref CG) "add_row" = some (some (.ref fGr)))
    (iGr : PySem.W.isFn K (.ref fGr) = true)
    (lGr : K.lookup fGr = some ⟨ocGr, odGr, .func (PySem.W.fnOf "add_row" "Game.add_row" (defArgs sAddR) (defBody sAddR) (defScope sAddR) .none kVGr dcGr pmGr anGr cdGr ctGr), slGr⟩)
    (cGr : PySem.W.codeIn K cdGr "Game.add_row" = true)
    (kGr : PySem.W.keepIn K (.ref fGr) = true)
    (aGv : PySem.W.findIn K (.ref CG) "move_to" = some (some (.ref fGv)))
    (iGv : PySem.W.isFn K (.ref fGv) = true)
    (lGv : K.lookup fGv = some ⟨ocGv, odGv, .func (PySem.W.fnOf "move_to" "Game.move_to" (defArgs sMove) (defBody sMove) (defScope sMove) .none kVGv dcGv pmGv anGv cdGv ctGv), slGv⟩)
    (cGv : PySem.W.codeIn K cdGv "Game.move_to" = true)
    (kGv : PySem.W.keepIn K (.ref fGv) = true)
    (aGi : PySem.W.findIn K (.ref CG) "__init__" = some (some (.ref fGi)))
    (iGi : PySem.W.isFn K (.ref fGi) = true)
    (lGi : K.lookup fGi = some ⟨ocGi, odGi, .func (PySem.W.fnOf "__init__" "Game.__init__" (defArgs sGInit) (defBody sGInit) (defScope sGInit) .none kVGi dcGi pmGi anGi cdGi ctGi), slGi⟩)
    (cGi : PySem.W.codeIn K cdGi "Game.__init__" = true)
    (kGi : PySem.W.keepIn K (.ref fGi) = true)
    (aGl : PySem.W.findIn K (.ref CG) "__len__" = some (some (.ref fGl)))
    (iGl : PySem.W.isFn K (.ref fGl) = true)
    (lGl : K.lookup fGl = some ⟨ocGl, odGl, .func (PySem.W.fnOf "__len__" "Game.__len__" (defArgs sGLen) (defBody sGLen) (defScope sGLen) .none kVGl dcGl pmGl anGl cdGl ctGl), slGl⟩)
    (cGl : PySem.W.codeIn K cdGl "Game.__len__" = true)
    (kGl : PySem.W.keepIn K (.ref fGl) = true)
    (aGq : PySem.W.findIn K (.ref CG) "__repr__" = some (some (.ref fGq)))
    (iGq : PySem.W.isFn K (.ref fGq) = true)
    (lGq : K.lookup fGq = some ⟨ocGq, odGq, .func (PySem.W.fnOf "__repr__" "Game.__repr__" (defArgs sGRepr) (defBody sGRepr) (defScope sGRepr) .none kVGq dcGq pmGq anGq cdGq ctGq), slGq⟩)
    (cGq : PySem.W.codeIn K cdGq "Game.__repr__" = true)
    (kGq : PySem.W.keepIn K (.ref fGq) = true)
    (aHq : PySem.W.findIn K (.ref CH) "__repr__" = some (some (.ref fHq)))
    (iHq : PySem.W.isFn K (.ref fHq) = true)
    (lHq : K.lookup fHq = some ⟨ocHq, odHq, .func (PySem.W.fnOf "__repr__" "History.__repr__" (defArgs sHRepr) (defBody sHRepr) (defScope sHRepr) .none kVHq dcHq pmHq anHq cdHq ctHq), slHq⟩)
    (cHq : PySem.W.codeIn K cdHq "History.__repr__" = true)
    (kHq : PySem.W.keepIn K (.ref fHq) = true)
    (aHe : PySem.W.findIn K (.ref CH) "__eq__" = some (some (.ref fHe)))
    (iHe : PySem.W.isFn K (.ref fHe) = true)
    (lHe : K.lookup fHe = some ⟨ocHe, odHe, .func (PySem.W.fnOf "__eq__" "History.__eq__" (defArgs sHEq) (defBody sHEq) (defScope sHEq) .none kVHe dcHe pmHe anHe cdHe ctHe), slHe⟩)
    (cHe : PySem.W.codeIn K cdHe "History.__eq__" = true)
    (kHe : PySem.W.keepIn K (.ref fHe) = true)
    (aBq : PySem.W.findIn K (.ref CB) "__repr__" = some (some (.ref fBq)))
    (iBq : PySem.W.isFn K (.ref fBq) = true)
    (lBq : K.lookup fBq = some ⟨ocBq, odBq, .func (PySem.W.fnOf "__repr__" "Board.__repr__" (defArgs sRepr) (defBody sRepr) (defScope sRepr) .none kVBq dcBq pmBq anBq cdBq ctBq), slBq⟩)
    (cBq : PySem.W.codeIn K cdBq "Board.__repr__" = true)
    (kBq : PySem.W.keepIn K (.ref fBq) = true)
    (aBe : PySem.W.findIn K (.ref CB) "__eq__" = some (some (.ref fBe)))
    (iBe : PySem.W.isFn K (.ref fBe) = true)
    (lBe : K.lookup fBe = some ⟨ocBe, odBe, .func (PySem.W.fnOf "__eq__" "Board.__eq__" (defArgs sEq) (defBody sEq) (defScope sEq) .none kVBe dcBe pmBe anBe cdBe ctBe), slBe⟩)
    (cBe : PySem.W.codeIn K cdBe "Board.__eq__" = true)
    (kBe : PySem.W.keepIn K (.ref fBe) = true)
    (aXi : PySem.W.findIn K (.ref CW) "__init__" = some (some (.ref fXi)))
    (iXi : PySem.W.isFn K (.ref fXi) = true)
    (lXi : K.lookup fXi = some ⟨ocXi, odXi, .func (PySem.W.fnOf "__init__" "Words.__init__" (defArgs sWInit) (defBody sWInit) (defScope sWInit) .none kVXi dcXi pmXi anXi cdXi ctXi), slXi⟩)
    (cXi : PySem.W.codeIn K cdXi "Words.__init__" = true)
    (kXi : PySem.W.keepIn K (.ref fXi) = true)
    (aXn : PySem.W.findIn K (.ref CW) "none_used" = some (some (.ref fXn)))
    (iXn : PySem.W.isFn K (.ref fXn) = true)
    (lXn : K.lookup fXn = some ⟨ocXn, odXn, .func (PySem.W.fnOf "none_used" "Words.none_used" (defArgs sNone) (defBody sNone) (defScope sNone) .none kVXn dcXn pmXn anXn cdXn ctXn), slXn⟩)
    (cXn : PySem.W.codeIn K cdXn "Words.none_used" = true)
    (kXn : PySem.W.keepIn K (.ref fXn) = true)
    (aXu : PySem.W.findIn K (.ref CW) "used_with" = some (some (.ref fXu)))
    (iXu : PySem.W.isFn K (.ref fXu) = true)
    (lXu : K.lookup fXu = some ⟨ocXu, odXu, .func (PySem.W.fnOf "used_with" "Words.used_with" (defArgs sUsed) (defBody sUsed) (defScope sUsed) .none kVXu dcXu pmXu anXu cdXu ctXu), slXu⟩)
    (cXu : PySem.W.codeIn K cdXu "Words.used_with" = true)
    (kXu : PySem.W.keepIn K (.ref fXu) = true)
    (aXw : PySem.W.findIn K (.ref CW) "many_with" = some (some (.ref fXw)))
    (iXw : PySem.W.isFn K (.ref fXw) = true)
    (lXw : K.lookup fXw = some ⟨ocXw, odXw, .func (PySem.W.fnOf "many_with" "Words.many_with" (defArgs sManyW) (defBody sManyW) (defScope sManyW) .none kVXw dcXw pmXw anXw cdXw ctXw), slXw⟩)
    (cXw : PySem.W.codeIn K cdXw "Words.many_with" = true)
    (kXw : PySem.W.keepIn K (.ref fXw) = true)
    (aXf : PySem.W.findIn K (.ref CW) "many_from" = some (some (.ref fXf)))
    (iXf : PySem.W.isFn K (.ref fXf) = true)
    (lXf : K.lookup fXf = some ⟨ocXf, odXf, .func (PySem.W.fnOf "many_from" "Words.many_from" (defArgs sManyF) (defBody sManyF) (defScope sManyF) .none kVXf dcXf pmXf anXf cdXf ctXf), slXf⟩)
    (cXf : PySem.W.codeIn K cdXf "Words.many_from" = true)
    (kXf : PySem.W.keepIn K (.ref fXf) = true)
    (aXa : PySem.W.findIn K (.ref CW) "add_ways" = some (some (.ref fXa)))
    (iXa : PySem.W.isFn K (.ref fXa) = true)
    (lXa : K.lookup fXa = some ⟨ocXa, odXa, .func (PySem.W.fnOf "add_ways" "Words.add_ways" (defArgs sAddW) (defBody sAddW) (defScope sAddW) .none kVXa dcXa pmXa anXa cdXa ctXa), slXa⟩)
    (cXa : PySem.W.codeIn K cdXa "Words.add_ways" = true)
    (kXa : PySem.W.keepIn K (.ref fXa) = true)
    (aXm : PySem.W.findIn K (.ref CW) "many" = some (some (.ref fXm)))
    (iXm : PySem.W.isFn K (.ref fXm) = true)
    (lXm : K.lookup fXm = some ⟨ocXm, odXm, .func (PySem.W.fnOf "many" "Words.many" (defArgs sMany) (defBody sMany) (defScope sMany) .none kVXm dcXm pmXm anXm cdXm ctXm), slXm⟩)
    (cXm : PySem.W.codeIn K cdXm "Words.many" = true)
    (kXm : PySem.W.keepIn K (.ref fXm) = true)
    (aYi : PySem.W.findIn K (.ref CD) "__init__" = some (some (.ref fYi)))
    (iYi : PySem.W.isFn K (.ref fYi) = true)
    (lYi : K.lookup fYi = some ⟨ocYi, odYi, .func (PySem.W.fnOf "__init__" "Bounds.__init__" (defArgs sBInit) (defBody sBInit) (defScope sBInit) .none kVYi dcYi pmYi anYi cdYi ctYi), slYi⟩)
    (cYi : PySem.W.codeIn K cdYi "Bounds.__init__" = true)
    (kYi : PySem.W.keepIn K (.ref fYi) = true)
    (aYr : PySem.W.findIn K (.ref CD) "take_row" = some (some (.ref fYr)))
    (iYr : PySem.W.isFn K (.ref fYr) = true)
    (lYr : K.lookup fYr = some ⟨ocYr, odYr, .func (PySem.W.fnOf "take_row" "Bounds.take_row" (defArgs sTakeR) (defBody sTakeR) (defScope sTakeR) .none kVYr dcYr pmYr anYr cdYr ctYr), slYr⟩)
    (cYr : PySem.W.codeIn K cdYr "Bounds.take_row" = true)
    (kYr : PySem.W.keepIn K (.ref fYr) = true)
    (aYk : PySem.W.findIn K (.ref CD) "keep_only" = some (some (.ref fYk)))
    (iYk : PySem.W.isFn K (.ref fYk) = true)
    (lYk : K.lookup fYk = some ⟨ocYk, odYk, .func (PySem.W.fnOf "keep_only" "Bounds.keep_only" (defArgs sKeep) (defBody sKeep) (defScope sKeep) .none kVYk dcYk pmYk anYk cdYk ctYk), slYk⟩)
    (cYk : PySem.W.codeIn K cdYk "Bounds.keep_only" = true)
    (kYk : PySem.W.keepIn K (.ref fYk) = true)
    (aYl : PySem.W.findIn K (.ref CD) "leave_out" = some (some (.ref fYl)))
    (iYl : PySem.W.isFn K (.ref fYl) = true)
    (lYl : K.lookup fYl = some ⟨ocYl, odYl, .func (PySem.W.fnOf "leave_out" "Bounds.leave_out" (defArgs sLeave) (defBody sLeave) (defScope sLeave) .none kVYl dcYl pmYl anYl cdYl ctYl), slYl⟩)
    (cYl : PySem.W.codeIn K cdYl "Bounds.leave_out" = true)
    (kYl : PySem.W.keepIn K (.ref fYl) = true)
    (aYa : PySem.W.findIn K (.ref CD) "ask_least" = some (some (.ref fYa)))
    (iYa : PySem.W.isFn K (.ref fYa) = true)
    (lYa : K.lookup fYa = some ⟨ocYa, odYa, .func (PySem.W.fnOf "ask_least" "Bounds.ask_least" (defArgs sAskL) (defBody sAskL) (defScope sAskL) .none kVYa dcYa pmYa anYa cdYa ctYa), slYa⟩)
    (cYa : PySem.W.codeIn K cdYa "Bounds.ask_least" = true)
    (kYa : PySem.W.keepIn K (.ref fYa) = true)
    (aYm : PySem.W.findIn K (.ref CD) "ask_most" = some (some (.ref fYm)))
    (iYm : PySem.W.isFn K (.ref fYm) = true)
    (lYm : K.lookup fYm = some ⟨ocYm, odYm, .func (PySem.W.fnOf "ask_most" "Bounds.ask_most" (defArgs sAskM) (defBody sAskM) (defScope sAskM) .none kVYm dcYm pmYm anYm cdYm ctYm), slYm⟩)
    (cYm : PySem.W.codeIn K cdYm "Bounds.ask_most" = true)
    (kYm : PySem.W.keepIn K (.ref fYm) = true)
    (aIW : PySem.W.findIn K (.ref CxW) "__init__" = some (some (.ref fIW)))
    (iIW : PySem.W.isFn K (.ref fIW) = true)
    (lIW : K.lookup fIW = some ⟨ocIW, odIW, .func (PySem.W.fnOf "__init__" "InvalidWord.__init__" (defArgs sEInvalidWord) (defBody sEInvalidWord) (defScope sEInvalidWord) .none kVIW dcIW pmIW anIW cdIW ctIW), slIW⟩)
    (cIW : PySem.W.codeIn K cdIW "InvalidWord.__init__" = true)
    (kIW : PySem.W.keepIn K (.ref fIW) = true)
    (aIM : PySem.W.findIn K (.ref CxM) "__init__" = some (some (.ref fIM)))
    (iIM : PySem.W.isFn K (.ref fIM) = true)
    (lIM : K.lookup fIM = some ⟨ocIM, odIM, .func (PySem.W.fnOf "__init__" "InvalidMarks.__init__" (defArgs sEInvalidMarks) (defBody sEInvalidMarks) (defScope sEInvalidMarks) .none kVIM dcIM pmIM anIM cdIM ctIM), slIM⟩)
    (cIM : PySem.W.codeIn K cdIM "InvalidMarks.__init__" = true)
    (kIM : PySem.W.keepIn K (.ref fIM) = true)
    (aIT : PySem.W.findIn K (.ref CxT) "__init__" = some (some (.ref fIT)))
    (iIT : PySem.W.isFn K (.ref fIT) = true)
    (lIT : K.lookup fIT = some ⟨ocIT, odIT, .func (PySem.W.fnOf "__init__" "TooManyRows.__init__" (defArgs sETooManyRows) (defBody sETooManyRows) (defScope sETooManyRows) .none kVIT dcIT pmIT anIT cdIT ctIT), slIT⟩)
    (cIT : PySem.W.codeIn K cdIT "TooManyRows.__init__" = true)
    (kIT : PySem.W.keepIn K (.ref fIT) = true)
    (aIG : PySem.W.findIn K (.ref CxG) "__init__" = some (some (.ref fIG)))
    (iIG : PySem.W.isFn K (.ref fIG) = true)
    (lIG : K.lookup fIG = some ⟨ocIG, odIG, .func (PySem.W.fnOf "__init__" "GuessNotLeft.__init__" (defArgs sEGuessNotLeft) (defBody sEGuessNotLeft) (defScope sEGuessNotLeft) .none kVIG dcIG pmIG anIG cdIG ctIG), slIG⟩)
    (cIG : PySem.W.codeIn K cdIG "GuessNotLeft.__init__" = true)
    (kIG : PySem.W.keepIn K (.ref fIG) = true)
    (aINb : PySem.W.findIn K (.ref CxNb) "__init__" = some (some (.ref fINb)))
    (iINb : PySem.W.isFn K (.ref fINb) = true)
    (lINb : K.lookup fINb = some ⟨ocINb, odINb, .func (PySem.W.fnOf "__init__" "NotABoard.__init__" (defArgs sENotABoard) (defBody sENotABoard) (defScope sENotABoard) .none kVINb dcINb pmINb anINb cdINb ctINb), slINb⟩)
    (cINb : PySem.W.codeIn K cdINb "NotABoard.__init__" = true)
    (kINb : PySem.W.keepIn K (.ref fINb) = true)
    (gtc : PySem.W.specialIn K (.builtin "object.__class__") "__get__" = some (some (.builtin "getset_descriptor.__get__")))
    (tkc : PySem.W.takesIn K (.builtin "object.__class__") = some true)
    (xxW : K.lookup CxW = some (excClassObj nmxW qnxW CxW NSxW bsxW [.ref CIn, .type "ValueError", .type "Exception", .type "BaseException", .type "object"] true snxW sbxW abxW clxW ddxW m0xW m1xW m2xW m3xW m5xW "ValueError.__new__"))
    (saxW : PySem.W.findIn K (.ref CxW) "__setattr__" = some (some (.builtin "object.__setattr__")))
    (ebxW : PySem.W.subIn K (.ref CxW) (.type "BaseException") = some true)
    (tyxW : PySem.W.typeIn K (.ref CxW) = some (.type "type"))
    (kpxW : PySem.W.keepIn K (.ref CxW) = true)
    (noxW : PySem.W.findIn K (.ref CxW) "value" = some none)
    (tixW : PySem.W.typeIn K (.ref fIW) = some (.type "function"))
    (gaxW : PySem.W.findIn K (.ref CxW) "__getattribute__" = some (some (.builtin "BaseException.__getattribute__")))
    (ggxW : PySem.W.findIn K (.ref CxW) "__getattr__" = some none)
    (hdxW : PySem.W.hasDictIn K CxW = true)
    (acxW : PySem.W.findIn K (.ref CxW) "__class__" = some (some (.builtin "object.__class__")))
    (obxW : PySem.W.mroIn K CxW (.type "object") = some true)
    (xxM : K.lookup CxM = some (excClassObj nmxM qnxM CxM NSxM bsxM [.ref CIn, .type "ValueError", .type "Exception", .type "BaseException", .type "object"] true snxM sbxM abxM clxM ddxM m0xM m1xM m2xM m3xM m5xM "ValueError.__new__"))
    (saxM : PySem.W.findIn K (.ref CxM) "__setattr__" = some (some (.builtin "object.__setattr__")))
    (ebxM : PySem.W.subIn K (.ref CxM) (.type "BaseException") = some true)
    (tyxM : PySem.W.typeIn K (.ref CxM) = some (.type "type"))
    (kpxM : PySem.W.keepIn K (.ref CxM) = true)
    (noxM : PySem.W.findIn K (.ref CxM) "value" = some none)
    (tixM : PySem.W.typeIn K (.ref fIM) = some (.type "function"))
    (gaxM : PySem.W.findIn K (.ref CxM) "__getattribute__" = some (some (.builtin "BaseException.__getattribute__")))
    (ggxM : PySem.W.findIn K (.ref CxM) "__getattr__" = some none)
    (hdxM : PySem.W.hasDictIn K CxM = true)
    (acxM : PySem.W.findIn K (.ref CxM) "__class__" = some (some (.builtin "object.__class__")))
    (obxM : PySem.W.mroIn K CxM (.type "object") = some true)
    (xxT : K.lookup CxT = some (excClassObj nmxT qnxT CxT NSxT bsxT [.ref CSi, .type "ArithmeticError", .type "Exception", .type "BaseException", .type "object"] true snxT sbxT abxT clxT ddxT m0xT m1xT m2xT m3xT m5xT "ArithmeticError.__new__"))
    (saxT : PySem.W.findIn K (.ref CxT) "__setattr__" = some (some (.builtin "object.__setattr__")))
    (ebxT : PySem.W.subIn K (.ref CxT) (.type "BaseException") = some true)
    (tyxT : PySem.W.typeIn K (.ref CxT) = some (.type "type"))
    (kpxT : PySem.W.keepIn K (.ref CxT) = true)
    (noxT : PySem.W.findIn K (.ref CxT) "limit" = some none)
    (tixT : PySem.W.typeIn K (.ref fIT) = some (.type "function"))
    (gaxT : PySem.W.findIn K (.ref CxT) "__getattribute__" = some (some (.builtin "BaseException.__getattribute__")))
    (ggxT : PySem.W.findIn K (.ref CxT) "__getattr__" = some none)
    (hdxT : PySem.W.hasDictIn K CxT = true)
    (acxT : PySem.W.findIn K (.ref CxT) "__class__" = some (some (.builtin "object.__class__")))
    (obxT : PySem.W.mroIn K CxT (.type "object") = some true)
    (xxG : K.lookup CxG = some (excClassObj nmxG qnxG CxG NSxG bsxG [.ref CSt, .type "LookupError", .type "Exception", .type "BaseException", .type "object"] true snxG sbxG abxG clxG ddxG m0xG m1xG m2xG m3xG m5xG "LookupError.__new__"))
    (saxG : PySem.W.findIn K (.ref CxG) "__setattr__" = some (some (.builtin "object.__setattr__")))
    (ebxG : PySem.W.subIn K (.ref CxG) (.type "BaseException") = some true)
    (tyxG : PySem.W.typeIn K (.ref CxG) = some (.type "type"))
    (kpxG : PySem.W.keepIn K (.ref CxG) = true)
    (noxG : PySem.W.findIn K (.ref CxG) "value" = some none)
    (tixG : PySem.W.typeIn K (.ref fIG) = some (.type "function"))
    (gaxG : PySem.W.findIn K (.ref CxG) "__getattribute__" = some (some (.builtin "BaseException.__getattribute__")))
    (ggxG : PySem.W.findIn K (.ref CxG) "__getattr__" = some none)
    (hdxG : PySem.W.hasDictIn K CxG = true)
    (acxG : PySem.W.findIn K (.ref CxG) "__class__" = some (some (.builtin "object.__class__")))
    (obxG : PySem.W.mroIn K CxG (.type "object") = some true)
    (xxNb : K.lookup CxNb = some (excClassObj nmxNb qnxNb CxNb NSxNb bsxNb [.ref CIn, .type "ValueError", .type "Exception", .type "BaseException", .type "object"] true snxNb sbxNb abxNb clxNb ddxNb m0xNb m1xNb m2xNb m3xNb m5xNb "ValueError.__new__"))
    (saxNb : PySem.W.findIn K (.ref CxNb) "__setattr__" = some (some (.builtin "object.__setattr__")))
    (ebxNb : PySem.W.subIn K (.ref CxNb) (.type "BaseException") = some true)
    (tyxNb : PySem.W.typeIn K (.ref CxNb) = some (.type "type"))
    (kpxNb : PySem.W.keepIn K (.ref CxNb) = true)
    (noxNb : PySem.W.findIn K (.ref CxNb) "value" = some none)
    (tixNb : PySem.W.typeIn K (.ref fINb) = some (.type "function"))
    (gaxNb : PySem.W.findIn K (.ref CxNb) "__getattribute__" = some (some (.builtin "BaseException.__getattribute__")))
    (ggxNb : PySem.W.findIn K (.ref CxNb) "__getattr__" = some none)
    (hdxNb : PySem.W.hasDictIn K CxNb = true)
    (acxNb : PySem.W.findIn K (.ref CxNb) "__class__" = some (some (.builtin "object.__class__")))
    (obxNb : PySem.W.mroIn K CxNb (.type "object") = some true)
    (nML : PySem.W.nsIn K mainGlobals "MOST_LENGTH" = some (some (.int 6 tkML)))
    (nMM : PySem.W.nsIn K mainGlobals "MOST_LETTERS" = some (some (.int 26 tkMM)))
    (nMR : PySem.W.nsIn K mainGlobals "MOST_ROWS" = some (some (.int 20 tkMR)))
    (nLO : PySem.W.nsIn K mainGlobals "LOWERCASE" = some (some (.str lowTxt tkLO)))
    (nMA : PySem.W.nsIn K mainGlobals "MARKS" = some (some (.str (Str.ofString "012") tkMA)))
    (zlen : PySem.W.nsIn K mainGlobals "len" = some none)
    (zint : PySem.W.nsIn K mainGlobals "int" = some none)
    (zabs : PySem.W.nsIn K mainGlobals "abs" = some none)
    (zdivmod : PySem.W.nsIn K mainGlobals "divmod" = some none)
    (zisinstance : PySem.W.nsIn K mainGlobals "isinstance" = some none)
    (zbool : PySem.W.nsIn K mainGlobals "bool" = some none)
    (zstr : PySem.W.nsIn K mainGlobals "str" = some none)
    (zrange : PySem.W.nsIn K mainGlobals "range" = some none)
    (zall : PySem.W.nsIn K mainGlobals "all" = some none)
    (zmax : PySem.W.nsIn K mainGlobals "max" = some none)
    (zmin : PySem.W.nsIn K mainGlobals "min" = some none)
    (zzip : PySem.W.nsIn K mainGlobals "zip" = some none)
    (ztuple : PySem.W.nsIn K mainGlobals "tuple" = some none)
    (zenumerate : PySem.W.nsIn K mainGlobals "enumerate" = some none)
    (zsum : PySem.W.nsIn K mainGlobals "sum" = some none)
    (zrepr : PySem.W.nsIn K mainGlobals "repr" = some none)
    (zValueError : PySem.W.nsIn K mainGlobals "ValueError" = some none)
    (pg : PySem.W.plainGet K CB Str.empty = true)
    (hd : PySem.W.hasDictIn K CB = true)
    (po : PySem.W.plainOver K CB = true)
    (sa : PySem.W.findIn K (.ref CB) "__setattr__" = some (some (.builtin "object.__setattr__")))
    (mk : PySem.W.makesIn K CB = true)
    (kc : PySem.W.keepIn K (.ref CB) = true)
    (pgH : PySem.W.plainGet K CH Str.empty = true)
    (hdH : PySem.W.hasDictIn K CH = true)
    (poH : PySem.W.plainOver K CH = true)
    (saH : PySem.W.findIn K (.ref CH) "__setattr__" = some (some (.builtin "object.__setattr__")))
    (mkH : PySem.W.makesIn K CH = true)
    (kcH : PySem.W.keepIn K (.ref CH) = true)
    (pgM : PySem.W.plainGet K CM Str.empty = true)
    (hdM : PySem.W.hasDictIn K CM = true)
    (poM : PySem.W.plainOver K CM = true)
    (saM : PySem.W.findIn K (.ref CM) "__setattr__" = some (some (.builtin "object.__setattr__")))
    (mkM : PySem.W.makesIn K CM = true)
    (kcM : PySem.W.keepIn K (.ref CM) = true)
    (pgG : PySem.W.plainGet K CG Str.empty = true)
    (hdG : PySem.W.hasDictIn K CG = true)
    (poG : PySem.W.plainOver K CG = true)
    (saG : PySem.W.findIn K (.ref CG) "__setattr__" = some (some (.builtin "object.__setattr__")))
    (mkG : PySem.W.makesIn K CG = true)
    (kcG : PySem.W.keepIn K (.ref CG) = true)
    (naL : PySem.W.findIn K (.ref CB) "letters" = some none)
    (naN : PySem.W.findIn K (.ref CB) "length" = some none)
    (naS : PySem.W.findIn K (.ref CB) "size" = some none)
    (ac : PySem.W.findIn K (.ref CB) "__class__" = some (some (.builtin "object.__class__")))
    (ob : PySem.W.mroIn K CB (.type "object") = some true)
    (kitO : PySem.W.kitOne K (.ref CB) (.ref CB) = some true)
    (nbB : PySem.W.findIn K (.ref CH) "board" = some none)
    (nbR : PySem.W.findIn K (.ref CH) "rows" = some none)
    (nmH : PySem.W.findIn K (.ref CM) "history" = some none)
    (nmP : PySem.W.findIn K (.ref CM) "past" = some none)
    (ngB : PySem.W.findIn K (.ref CG) "board" = some none)
    (ngS : PySem.W.findIn K (.ref CG) "strict" = some none)
    (ngH : PySem.W.findIn K (.ref CG) "history" = some none)
    (ngZ : PySem.W.findIn K (.ref CG) "busy" = some none)
    (ngP : PySem.W.findIn K (.ref CG) "past" = some none)
    (pgCW : PySem.W.plainGet K CW Str.empty = true)
    (hdCW : PySem.W.hasDictIn K CW = true)
    (poCW : PySem.W.plainOver K CW = true)
    (saCW : PySem.W.findIn K (.ref CW) "__setattr__" = some (some (.builtin "object.__setattr__")))
    (mkiCW : PySem.W.makesIn K CW = true)
    (kcCW : PySem.W.keepIn K (.ref CW) = true)
    (naCWallowed : PySem.W.findIn K (.ref CW) "allowed" = some none)
    (naCWcounted : PySem.W.findIn K (.ref CW) "counted" = some none)
    (naCWleast : PySem.W.findIn K (.ref CW) "least" = some none)
    (naCWgreatest : PySem.W.findIn K (.ref CW) "greatest" = some none)
    (naCWknown : PySem.W.findIn K (.ref CW) "known" = some none)
    (pgCD : PySem.W.plainGet K CD Str.empty = true)
    (hdCD : PySem.W.hasDictIn K CD = true)
    (poCD : PySem.W.plainOver K CD = true)
    (saCD : PySem.W.findIn K (.ref CD) "__setattr__" = some (some (.builtin "object.__setattr__")))
    (mkiCD : PySem.W.makesIn K CD = true)
    (kcCD : PySem.W.keepIn K (.ref CD) = true)
    (naCDallowed : PySem.W.findIn K (.ref CD) "allowed" = some none)
    (naCDleast : PySem.W.findIn K (.ref CD) "least" = some none)
    (naCDgreatest : PySem.W.findIn K (.ref CD) "greatest" = some none)
    (bxNo : PySem.W.excIn K CNo [.type "LookupError", .type "Exception", .type "BaseException", .type "object"] "LookupError.__new__" = true)
    (bkNo : PySem.W.keepIn K (.ref CNo) = true)
    (bbNo : PySem.W.subIn K (.ref CNo) (.type "BaseException") = some true)
    (btNo : PySem.W.typeIn K (.ref CNo) = some (.type "type"))
    (bxBu : PySem.W.excIn K CBu [.type "LookupError", .type "Exception", .type "BaseException", .type "object"] "LookupError.__new__" = true)
    (bkBu : PySem.W.keepIn K (.ref CBu) = true)
    (bbBu : PySem.W.subIn K (.ref CBu) (.type "BaseException") = some true)
    (btBu : PySem.W.typeIn K (.ref CBu) = some (.type "type"))
    (xB : PySem.W.exmOne K (.ref CxNb) (.ref CxNb) = some true)
    (kNi : PySem.W.kitOne K (.ref CxNb) (.ref CIn) = some true)
    (kNs : PySem.W.kitOne K (.ref CxNb) (.ref CSt) = some false)
    (kNz : PySem.W.kitOne K (.ref CxNb) (.ref CSi) = some false)
    (kNv : PySem.W.kitOne K (.ref CxNb) (.type "ValueError") = some true)
    (pob : PySem.W.mroIn K CG (.type "object") = some true)
    (peq : PySem.W.findIn K (.ref CG) "__eq__" = some (some (.builtin "object.__eq__")))
    (pne : PySem.W.findIn K (.ref CG) "__ne__" = some (some (.builtin "object.__ne__")))
    (ptN : PySem.W.subIn K (.ref CG) (.type "NoneType") = some false)
    (ptS : PySem.W.subIn K (.ref CG) (.type "str") = some false)
    (ptsS : PySem.W.subIn K (.type "str") (.ref CG) = some false)
    (nd1 : CB ≠ CG)
    (nd2 : CH ≠ CG)
    (nn1 : PySem.W.notFirst K CB (.ref CG) = true)
    (nn2 : PySem.W.notFirst K CH (.ref CG) = true)
    (ns1 : PySem.W.subIn K (.ref CB) (.ref CG) = some false)
    (ns2 : PySem.W.subIn K (.ref CH) (.ref CG) = some false)
    (kk1 : PySem.W.kitOne K (.ref CG) (.ref CB) = some false)
    (kk2 : PySem.W.kitOne K (.ref CG) (.ref CH) = some false)
    (kk3 : PySem.W.kitOne K (.ref CH) (.ref CB) = some false)
    (ktNoneType : PySem.W.kitOne K (.type "NoneType") (.ref CB) = some false)
    (ktstr : PySem.W.kitOne K (.type "str") (.ref CB) = some false)
    (kttuple : PySem.W.kitOne K (.type "tuple") (.ref CB) = some false)
    (ktlist : PySem.W.kitOne K (.type "list") (.ref CB) = some false)
    (ktint : PySem.W.kitOne K (.type "int") (.ref CB) = some false)
    (ktbool : PySem.W.kitOne K (.type "bool") (.ref CB) = some false)
    (ktdict : PySem.W.kitOne K (.type "dict") (.ref CB) = some false)
    (acG : PySem.W.findIn K (.ref CG) "__class__" = some (some (.builtin "object.__class__")))
    (acH : PySem.W.findIn K (.ref CH) "__class__" = some (some (.builtin "object.__class__")))
    (obH : PySem.W.mroIn K CH (.type "object") = some true)
    (kitH : PySem.W.kitOne K (.ref CH) (.ref CH) = some true)
    (neH : PySem.W.findIn K (.ref CH) "__ne__" = some (some (.builtin "object.__ne__")))
    (nbH : PySem.W.findIn K (.ref CH) "__bool__" = some none)
    (kTH : PySem.W.kitOne K (.type "tuple") (.ref CH) = some false)
    (nfTH : PySem.W.notFirst K CH (.type "tuple") = true)
    (neC : PySem.W.findIn K (.ref CB) "__ne__" = some (some (.builtin "object.__ne__")))
    (nbG : PySem.W.findIn K (.ref CG) "__bool__" = some none)
    (qGi : KwdV K kVGi [("strict", .bl false)]) :
    ∃ (fd : FuncData) (cs : List (Addr × Addr)), (∀ p ∈ cs, h.get? p.2 = some { cls := .none, data := .fields #[] } ∧ K.lookup p.2 = none ∧ PySem.W.CodeHd h p.1 p.2) ∧ (∀ (s : Shared) (u : Value), BindsTo s fd ⟨[u], []⟩ [("_law_script", u)]) ∧
      ∀ base : Heap, K.In base → base.Ns mainGlobals mg → (∃ mm, base.Ns sysModules mm) → (∀ p ∈ cs, TabB base mg p.1 p.2) → FnG P w K mg base L2.CX0 27 fa fd ["_law_script"] (fun vs H Q E => (∀ p ∈ cs, H p.2 = some (.tbl #[])) ∧ spLaw K vs H Q E) := by
  have e := hfa.symm.trans (PySem.W.mg_of X G aL)
  cases e
  have FB := fun_mk (st := sWell) lB cB kB
  have FD := fun_mk (st := sDraw) lD cD kD
  have FOn := fun_mk (st := sOne) lOn cOn kOn
  have FS := fun_mk (st := sSigns) lS cS kS
  have FTe := fun_mk (st := sText) lTe cTe kTe
  have FRp := fun_mk (st := sReply) lRp cRp kRp
  have FCl := fun_mk (st := sChkL) lCl cCl kCl
  have FSto := fun_mk (st := sStory) lSto cSto kSto
  have FSh := fun_mk (st := sShown) lSh cSh kSh
  have FRf := fun_mk (st := sRefu) lRf cRf kRf
  have FR := fun_mk (st := sRgt) lR cR kR
  have FW := fun_mk (st := sWithin) lW cW kW
  have FA := fun_mk (st := sAlpha) lA cA kA
  have FCn := fun_mk (st := sCount) lCn cCn kCn
  have FOv := fun_mk (st := sOver) lOv cOv kOv
  have FIw := fun_mk (st := sIsW) lIw cIw kIw
  have FAm := fun_mk (st := sAreM) lAm cAm kAm
  have FIr := fun_mk (st := sIsRow) lIr cIr kIr
  have FCw := fun_mk (st := sChkW) lCw cCw kCw
  have FCm := fun_mk (st := sChkM) lCm cCm kCm
  have FCb := fun_mk (st := sChkB) lCb cCb kCb
  have FCr := fun_mk (st := sChkR) lCr cCr kCr
  have FMo := fun_mk (st := sMarksOf) lMo cMo kMo
  have FWc := fun_mk (st := sComm) lWc cWc kWc
  have FWn := fun_mk (st := sCnt) lWn cWn kWn
  have FWg := fun_mk (st := sGiven) lWg cWg kWg
  have FOd := fun_mk (st := sOrd) lOd cOd kOd
  have FHw := fun_mk (st := sHas) lHw cHw kHw
  have FL := fun_mk (st := sLaw) lL cL kL
  have FI := fun_mk (st := sInit) lI cI kI
  have FHi := fun_mk (st := sHInit) lHi cHi kHi
  have FTh := fun_mk (st := sThen) lTh cTh kTh
  have FFi := fun_mk (st := sFits) lFi cFi kFi
  have FMm := fun_mk (st := sMoInit) lMm cMm kMm
  have FGa := fun_mk (st := sAdd) lGa cGa kGa
  have FGf := fun_mk (st := sFree) lGf cGf kGf
  have FGr := fun_mk (st := sAddR) lGr cGr kGr
  have FGv := fun_mk (st := sMove) lGv cGv kGv
  have FGi := fun_mk (st := sGInit) lGi cGi kGi
  have FGl := fun_mk (st := sGLen) lGl cGl kGl
  have FGq := fun_mk (st := sGRepr) lGq cGq kGq
  have FHq := fun_mk (st := sHRepr) lHq cHq kHq
  have FHe := fun_mk (st := sHEq) lHe cHe kHe
  have FBq := fun_mk (st := sRepr) lBq cBq kBq
  have FBe := fun_mk (st := sEq) lBe cBe kBe
  have FXi := fun_mk (st := sWInit) lXi cXi kXi
  have FXn := fun_mk (st := sNone) lXn cXn kXn
  have FXu := fun_mk (st := sUsed) lXu cXu kXu
  have FXw := fun_mk (st := sManyW) lXw cXw kXw
  have FXf := fun_mk (st := sManyF) lXf cXf kXf
  have FXa := fun_mk (st := sAddW) lXa cXa kXa
  have FXm := fun_mk (st := sMany) lXm cXm kXm
  have FYi := fun_mk (st := sBInit) lYi cYi kYi
  have FYr := fun_mk (st := sTakeR) lYr cYr kYr
  have FYk := fun_mk (st := sKeep) lYk cYk kYk
  have FYl := fun_mk (st := sLeave) lYl cYl kYl
  have FYa := fun_mk (st := sAskL) lYa cYa kYa
  have FYm := fun_mk (st := sAskM) lYm cYm kYm
  have FIW := fun_mk (st := sEInvalidWord) lIW cIW kIW
  have FIM := fun_mk (st := sEInvalidMarks) lIM cIM kIM
  have FIT := fun_mk (st := sETooManyRows) lIT cIT kIT
  have FIG := fun_mk (st := sEGuessNotLeft) lIG cIG kIG
  have FINb := fun_mk (st := sENotABoard) lINb cINb kINb
  have bB := FB.binds (ps := ["_law_script", "_law_k"]) fun _ _ _ _ _ _ us hl => match us, hl with | [_, _], _ => rfl
  have bD := FD.binds (ps := ["_law_well_here", "_law_many"]) fun _ _ _ _ _ _ us hl => match us, hl with | [_, _], _ => rfl
  have bOn := FOn.binds (ps := ["_law_well_here", "_law_things"]) fun _ _ _ _ _ _ us hl => match us, hl with | [_, _], _ => rfl
  have bS := FS.binds (ps := ["_law_well_here", "_law_least", "_law_most"]) fun _ _ _ _ _ _ us hl => match us, hl with | [_, _, _], _ => rfl
  have bTe := FTe.binds (ps := ["_law_well_here", "_law_signs_here", "_law_size"]) fun _ _ _ _ _ _ us hl => match us, hl with | [_, _, _], _ => rfl
  have bRp := FRp.binds (ps := ["_law_asked", "_law_hidden"]) fun _ _ _ _ _ _ us hl => match us, hl with | [_, _], _ => rfl
  have bCl := FCl.binds (ps := ["history"]) fun _ _ _ _ _ _ us hl => match us, hl with | [_], _ => rfl
  have bSto := FSto.binds (ps := ["_law_box", "_law_some"]) fun _ _ _ _ _ _ us hl => match us, hl with | [_, _], _ => rfl
  have bSh := FSh.binds (ps := ["_law_it", "_law_box", "_law_firm", "_law_some"]) fun _ _ _ _ _ _ us hl => match us, hl with | [_, _, _, _], _ => rfl
  have bRf := FRf.binds (ps := ["_law_thing"]) fun _ _ _ _ _ _ us hl => match us, hl with | [_], _ => rfl
  have bR := FR.binds (ps := ["_law_well_here"]) fun _ _ _ _ _ _ us hl => match us, hl with | [_], _ => rfl
  have bW := FW.binds (ps := ["value", "least", "most"]) fun _ _ _ _ _ _ us hl => match us, hl with | [_, _, _], _ => rfl
  have bA := FA.binds (ps := ["letters"]) fun _ _ _ _ _ _ us hl => match us, hl with | [_], _ => rfl
  have bCn := FCn.binds (ps := ["many", "length"]) fun _ _ _ _ _ _ us hl => match us, hl with | [_, _], _ => rfl
  have bOv := FOv.binds (ps := ["value", "characters", "length"]) fun _ _ _ _ _ _ us hl => match us, hl with | [_, _, _], _ => rfl
  have bIw := FIw.binds (ps := ["board", "value"]) fun _ _ _ _ _ _ us hl => match us, hl with | [_, _], _ => rfl
  have bAm := FAm.binds (ps := ["board", "value"]) fun _ _ _ _ _ _ us hl => match us, hl with | [_, _], _ => rfl
  have bIr := FIr.binds (ps := ["board", "value"]) fun _ _ _ _ _ _ us hl => match us, hl with | [_, _], _ => rfl
  have bCw := FCw.binds (ps := ["board", "word"]) fun _ _ _ _ _ _ us hl => match us, hl with | [_, _], _ => rfl
  have bCm := FCm.binds (ps := ["board", "told"]) fun _ _ _ _ _ _ us hl => match us, hl with | [_, _], _ => rfl
  have bCb := FCb.binds (ps := ["board"]) fun _ _ _ _ _ _ us hl => match us, hl with | [_], _ => rfl
  have bCr := FCr.binds (ps := ["board", "rows"]) fun _ _ _ _ _ _ us hl => match us, hl with | [_, _], _ => rfl
  have bMo := FMo.binds (ps := ["guess", "word"]) fun _ _ _ _ _ _ us hl => match us, hl with | [_, _], _ => rfl
  have bWc := FWc.binds (ps := ["letters", "others"]) fun _ _ _ _ _ _ us hl => match us, hl with | [_, _], _ => rfl
  have bWn := FWn.binds (ps := ["board", "bounds"]) fun _ _ _ _ _ _ us hl => match us, hl with | [_, _], _ => rfl
  have bWg := FWg.binds (ps := ["guess", "told", "letter"]) fun _ _ _ _ _ _ us hl => match us, hl with | [_, _, _], _ => rfl
  have bOd := FOd.binds (ps := ["guess", "told"]) fun _ _ _ _ _ _ us hl => match us, hl with | [_, _], _ => rfl
  have bHw := FHw.binds (ps := ["board", "rows", "facts"]) fun _ _ _ _ _ _ us hl => match us, hl with | [_, _, _], _ => rfl
  have bI := FI.binds (ps := ["self", "letters", "length"]) fun _ _ _ _ _ _ us hl => match us, hl with | [_, _, _], _ => rfl
  have bTh := FTh.binds (ps := ["self", "guess", "told"]) fun _ _ _ _ _ _ us hl => match us, hl with | [_, _, _], _ => rfl
  have bFi := FFi.binds (ps := ["self", "word"]) fun _ _ _ _ _ _ us hl => match us, hl with | [_, _], _ => rfl
  have bMm := FMm.binds (ps := ["self", "history", "past"]) fun _ _ _ _ _ _ us hl => match us, hl with | [_, _, _], _ => rfl
  have bGa := FGa.binds (ps := ["self", "guess", "told"]) fun _ _ _ _ _ _ us hl => match us, hl with | [_, _, _], _ => rfl
  have bGf := FGf.binds (ps := ["self"]) fun _ _ _ _ _ _ us hl => match us, hl with | [_], _ => rfl
  have bGr := FGr.binds (ps := ["self", "guess", "told"]) fun _ _ _ _ _ _ us hl => match us, hl with | [_, _, _], _ => rfl
  have bGv := FGv.binds (ps := ["self", "history"]) fun _ _ _ _ _ _ us hl => match us, hl with | [_, _], _ => rfl
  have bGl := FGl.binds (ps := ["self"]) fun _ _ _ _ _ _ us hl => match us, hl with | [_], _ => rfl
  have bGq := FGq.binds (ps := ["self"]) fun _ _ _ _ _ _ us hl => match us, hl with | [_], _ => rfl
  have bHq := FHq.binds (ps := ["self"]) fun _ _ _ _ _ _ us hl => match us, hl with | [_], _ => rfl
  have bHe := FHe.binds (ps := ["self", "other"]) fun _ _ _ _ _ _ us hl => match us, hl with | [_, _], _ => rfl
  have bBq := FBq.binds (ps := ["self"]) fun _ _ _ _ _ _ us hl => match us, hl with | [_], _ => rfl
  have bBe := FBe.binds (ps := ["self", "other"]) fun _ _ _ _ _ _ us hl => match us, hl with | [_, _], _ => rfl
  have bXi := FXi.binds (ps := ["self", "board", "rows", "facts"]) fun _ _ _ _ _ _ us hl => match us, hl with | [_, _, _, _], _ => rfl
  have bXn := FXn.binds (ps := ["self"]) fun _ _ _ _ _ _ us hl => match us, hl with | [_], _ => rfl
  have bXu := FXu.binds (ps := ["self", "used", "letter"]) fun _ _ _ _ _ _ us hl => match us, hl with | [_, _, _], _ => rfl
  have bXw := FXw.binds (ps := ["self", "place", "used", "letter"]) fun _ _ _ _ _ _ us hl => match us, hl with | [_, _, _, _], _ => rfl
  have bXf := FXf.binds (ps := ["self", "place", "used"]) fun _ _ _ _ _ _ us hl => match us, hl with | [_, _, _], _ => rfl
  have bXa := FXa.binds (ps := ["self", "place", "used"]) fun _ _ _ _ _ _ us hl => match us, hl with | [_, _, _], _ => rfl
  have bXm := FXm.binds (ps := ["self"]) fun _ _ _ _ _ _ us hl => match us, hl with | [_], _ => rfl
  have bYi := FYi.binds (ps := ["self", "board", "rows", "facts"]) fun _ _ _ _ _ _ us hl => match us, hl with | [_, _, _, _], _ => rfl
  have bYr := FYr.binds (ps := ["self", "guess", "told"]) fun _ _ _ _ _ _ us hl => match us, hl with | [_, _, _], _ => rfl
  have bYk := FYk.binds (ps := ["self", "place", "letter"]) fun _ _ _ _ _ _ us hl => match us, hl with | [_, _, _], _ => rfl
  have bYa := FYa.binds (ps := ["self", "letter", "many"]) fun _ _ _ _ _ _ us hl => match us, hl with | [_, _, _], _ => rfl
  have bYm := FYm.binds (ps := ["self", "letter", "many"]) fun _ _ _ _ _ _ us hl => match us, hl with | [_, _, _], _ => rfl
  have bIW := FIW.binds (ps := ["self", "value"]) fun _ _ _ _ _ _ us hl => match us, hl with | [_, _], _ => rfl
  have bIM := FIM.binds (ps := ["self", "value"]) fun _ _ _ _ _ _ us hl => match us, hl with | [_, _], _ => rfl
  have bIT := FIT.binds (ps := ["self", "limit"]) fun _ _ _ _ _ _ us hl => match us, hl with | [_, _], _ => rfl
  have bIG := FIG.binds (ps := ["self", "value"]) fun _ _ _ _ _ _ us hl => match us, hl with | [_, _], _ => rfl
  have bINb := FINb.binds (ps := ["self", "value"]) fun _ _ _ _ _ _ us hl => match us, hl with | [_, _], _ => rfl
  have DB : Df K mg "_law_well" _ _ _ := ⟨PySem.W.mg_of X G aB, kB, bB⟩
  have DD : Df K mg "_law_draw" _ _ _ := ⟨PySem.W.mg_of X G aD, kD, bD⟩
  have DOn : Df K mg "_law_one" _ _ _ := ⟨PySem.W.mg_of X G aOn, kOn, bOn⟩
  have DS : Df K mg "_law_signs" _ _ _ := ⟨PySem.W.mg_of X G aS, kS, bS⟩
  have DTe : Df K mg "_law_text" _ _ _ := ⟨PySem.W.mg_of X G aTe, kTe, bTe⟩
  have DRp : Df K mg "_law_reply" _ _ _ := ⟨PySem.W.mg_of X G aRp, kRp, bRp⟩
  have DCl : Df K mg "check_word_left" _ _ _ := ⟨PySem.W.mg_of X G aCl, kCl, bCl⟩
  have DSto : Df K mg "_law_story" _ _ _ := ⟨PySem.W.mg_of X G aSto, kSto, bSto⟩
  have DSh : Df K mg "_law_shown" _ _ _ := ⟨PySem.W.mg_of X G aSh, kSh, bSh⟩
  have DRf : Df K mg "_law_refused" _ _ _ := ⟨PySem.W.mg_of X G aRf, kRf, bRf⟩
  have DR : Df K mg "_law_right" _ _ _ := ⟨PySem.W.mg_of X G aR, kR, bR⟩
  have DW : Df K mg "is_integer_within" _ _ _ := ⟨PySem.W.mg_of X G aW, kW, bW⟩
  have DA : Df K mg "is_alphabet" _ _ _ := ⟨PySem.W.mg_of X G aA, kA, bA⟩
  have DCn : Df K mg "count_words" _ _ _ := ⟨PySem.W.mg_of X G aCn, kCn, bCn⟩
  have DOv : Df K mg "is_text_over" _ _ _ := ⟨PySem.W.mg_of X G aOv, kOv, bOv⟩
  have DIw : Df K mg "is_word" _ _ _ := ⟨PySem.W.mg_of X G aIw, kIw, bIw⟩
  have DAm : Df K mg "are_marks" _ _ _ := ⟨PySem.W.mg_of X G aAm, kAm, bAm⟩
  have DIr : Df K mg "is_row" _ _ _ := ⟨PySem.W.mg_of X G aIr, kIr, bIr⟩
  have DCw : Df K mg "check_word" _ _ _ := ⟨PySem.W.mg_of X G aCw, kCw, bCw⟩
  have DCm : Df K mg "check_marks" _ _ _ := ⟨PySem.W.mg_of X G aCm, kCm, bCm⟩
  have DCb : Df K mg "check_board" _ _ _ := ⟨PySem.W.mg_of X G aCb, kCb, bCb⟩
  have DCr : Df K mg "check_rows" _ _ _ := ⟨PySem.W.mg_of X G aCr, kCr, bCr⟩
  have DMo : Df K mg "marks_of" _ _ _ := ⟨PySem.W.mg_of X G aMo, kMo, bMo⟩
  have DWc : Df K mg "common_letters" _ _ _ := ⟨PySem.W.mg_of X G aWc, kWc, bWc⟩
  have DWn : Df K mg "counted_letters" _ _ _ := ⟨PySem.W.mg_of X G aWn, kWn, bWn⟩
  have DWg : Df K mg "marks_given" _ _ _ := ⟨PySem.W.mg_of X G aWg, kWg, bWg⟩
  have DOd : Df K mg "is_in_order" _ _ _ := ⟨PySem.W.mg_of X G aOd, kOd, bOd⟩
  have DHw : Df K mg "has_word" _ _ _ := ⟨PySem.W.mg_of X G aHw, kHw, bHw⟩
  have ExW : ErrB K mg "InvalidWord" "value" CxW fIW := ⟨PySem.W.mg_of X G gCxW, oexB_one xxW PySem.F.excBase_ValueError PySem.F.store_ValueError.passes (by decide +kernel) saxW ebxW tyxW kpxW, noxW, aIW, tixW, gaxW, ggxW, hdxW, acxW, gtc, tkc, obxW⟩
  have ExM : ErrB K mg "InvalidMarks" "value" CxM fIM := ⟨PySem.W.mg_of X G gCxM, oexB_one xxM PySem.F.excBase_ValueError PySem.F.store_ValueError.passes (by decide +kernel) saxM ebxM tyxM kpxM, noxM, aIM, tixM, gaxM, ggxM, hdxM, acxM, gtc, tkc, obxM⟩
  have ExT : ErrB K mg "TooManyRows" "limit" CxT fIT := ⟨PySem.W.mg_of X G gCxT, oexB_one xxT PySem.F.excBase_ArithmeticError PySem.HandSPX.passAE (by decide +kernel) saxT ebxT tyxT kpxT, noxT, aIT, tixT, gaxT, ggxT, hdxT, acxT, gtc, tkc, obxT⟩
  have ExG : ErrB K mg "GuessNotLeft" "value" CxG fIG := ⟨PySem.W.mg_of X G gCxG, oexB_one xxG PySem.F.excBase_LookupError PySem.HandSPX.passLE (by decide +kernel) saxG ebxG tyxG kpxG, noxG, aIG, tixG, gaxG, ggxG, hdxG, acxG, gtc, tkc, obxG⟩
  have ExNb : ErrB K mg "NotABoard" "value" CxNb fINb := ⟨PySem.W.mg_of X G gCxNb, oexB_one xxNb PySem.F.excBase_ValueError PySem.F.store_ValueError.passes (by decide +kernel) saxNb ebxNb tyxNb kpxNb, noxNb, aINb, tixNb, gaxNb, ggxNb, hdxNb, acxNb, gtc, tkc, obxNb⟩
  have TB' : TxB mg := ⟨(PySem.W.mg_none_of X G zlen), (PySem.W.mg_none_of X G zint), (PySem.W.mg_none_of X G zabs), (PySem.W.mg_none_of X G zdivmod)⟩
  have TW : TxW mg := ⟨(PySem.W.mg_none_of X G zisinstance), (PySem.W.mg_none_of X G zbool), (PySem.W.mg_none_of X G zint), (PySem.W.mg_none_of X G zstr), (PySem.W.mg_none_of X G zlen), (PySem.W.mg_none_of X G zrange), ⟨_, PySem.W.mg_of X G nMM⟩, ⟨_, PySem.W.mg_of X G nML⟩, ⟨_, PySem.W.mg_of X G nLO⟩⟩
  have TC : TxC K mg CB := ⟨⟨pg, hd, po, sa⟩, PySem.W.mg_of X G gCB, naL, naN, naS, ac, gtc, tkc, ob, kitO⟩
  have THx : TxH K mg CH := ⟨⟨pgH, hdH, poH, saH⟩, PySem.W.mg_of X G gCH, nbB, nbR⟩
  have TMx : TxM K mg CM := ⟨⟨pgM, hdM, poM, saM⟩, PySem.W.mg_of X G gCM, nmH, nmP⟩
  have TGx : TxG K mg CG := ⟨⟨pgG, hdG, poG, saG⟩, PySem.W.mg_of X G gCG, ngB, ngS, ngH, ngZ, ngP⟩
  have mMR : ∃ t, mg "MOST_ROWS" = some (.int 20 t) := ⟨_, PySem.W.mg_of X G nMR⟩
  have TL : TxL mg := ⟨(PySem.W.mg_none_of X G zall), (PySem.W.mg_none_of X G zrange), (PySem.W.mg_none_of X G zmax), (PySem.W.mg_none_of X G zmin), (PySem.W.mg_none_of X G zlen)⟩
  have TS : TxS mg := ⟨(PySem.W.mg_none_of X G zlen), (PySem.W.mg_none_of X G zrange)⟩
  have eM : (Str.ofString "012") = tx [48, 49, 50] := by decide +kernel
  have mMA : ∃ t, mg "MARKS" = some (.str (tx [48, 49, 50]) t) := ⟨_, eM ▸ PySem.W.mg_of X G nMA⟩
  let EX : EC := ⟨CxW, CxM, CxG, CxT, CNo, 0, 0, CBu⟩
  have FGk : FunD K "__init__" "Game.__init__" (defArgs sGInit) (defBody sGInit) (defScope sGInit) [] [("strict", .bl false)] fGi _ := ⟨⟨_, _, _, _, _, _, _, _, _, _, rfl, lGi, cGi, .inl ⟨rfl, rfl⟩, qGi⟩, kGi⟩
  obtain ⟨dGi, vGi, bGi⟩ := game_binds FGk
  have kwGi := game_kbinds FGk
  have kwG0 := game_kbinds0 FGk
  have MGi : Mk K CG fGi := ⟨mkG, aGi, iGi, kcG⟩
  have nfC : PySem.W.notFirst K CB (.ref CB) = true := by unfold PySem.W.notFirst; simp
  have nfH : PySem.W.notFirst K CH (.ref CH) = true := by unfold PySem.W.notFirst; simp
  have TEH : TxEH K CB CH := ⟨acH, gtc, tkc, obH, kitH, neH, nbH, kTH, nfTH, nfH, nfC⟩
  have KX : KitX K CB CH CG := ⟨⟨pob, peq, pne⟩, ⟨ptN, ptS, ptsS⟩, nd1, nd2, nn1, nn2, ns1, ns2, ob, kk1, kk2, kk3, ktNoneType, ktstr, kttuple, ktlist, ktint, ktbool, ktdict, acG, gtc, tkc⟩
  have KS : KitS K CB CH CG fBe fHe fGl fGq _ _ _ _ := ⟨TEH, aBe, iBe, bBe, neC, aHe, iHe, bHe, ⟨aGl, iGl, kGl⟩, bGl, ⟨aGq, iGq, kGq⟩, bGq, nbG⟩
  have KR : KitR K CB CH CG fBq fHq fGq _ _ _ := ⟨aBq, iBq, bBq, aHq, iHq, bHq, aGq, iGq, bGq⟩
  have TGS : TxGS mg := ⟨(PySem.W.mg_none_of X G zlen), (PySem.W.mg_none_of X G zrepr), (PySem.W.mg_none_of X G zstr), (PySem.W.mg_none_of X G ztuple), (PySem.W.mg_none_of X G zbool)⟩
  have ENo : ErrN K mg "NoWord" CNo := ⟨PySem.W.mg_of X G gCNo, bxNo, bkNo, bbNo, btNo⟩
  have EBu : ErrN K mg "Busy" CBu := ⟨PySem.W.mg_of X G gCBu, bxBu, bkBu, bbBu, btBu⟩

  refine ⟨PySem.W.fnOf "law" "law" (defArgs sLaw) (defBody sLaw) (defScope sLaw) .none kVL dcL pmL anL cdL ctL, [], nofun, fun s v => .of_eq rfl, fun base _ _ hM _ => ?_⟩
  have TR2 : TxR2 K mg base CxNb CIn CSt CSi := ⟨(PySem.W.mg_none_of X G zisinstance), (PySem.W.mg_none_of X G zrepr), (PySem.W.mg_none_of X G zValueError), PySem.W.mg_of X G gCIn, PySem.W.mg_of X G gCSt, PySem.W.mg_of X G gCSi, hM, xB, kNi, kNs, kNz, kNv⟩
  have GIW : FnOk P w K mg base L2.CX0 1 fIW _ _ (spErr CxW "value") := ok_errB (par := "value") FIW ExW rfl ⟨rfl, rfl, rfl, by decide +kernel, rfl, by decide +kernel, by decide +kernel⟩ (.inl rfl) (.inl rfl)
  have GIM : FnOk P w K mg base L2.CX0 1 fIM _ _ (spErr CxM "value") := ok_errB (par := "value") FIM ExM rfl ⟨rfl, rfl, rfl, by decide +kernel, rfl, by decide +kernel, by decide +kernel⟩ (.inl rfl) (.inl rfl)
  have GIT : FnOk P w K mg base L2.CX0 1 fIT _ _ (spErr CxT "limit") := ok_errB (par := "limit") FIT ExT rfl ⟨rfl, rfl, rfl, by decide +kernel, rfl, by decide +kernel, by decide +kernel⟩ (.inl rfl) (.inl rfl)
  have GIG : FnOk P w K mg base L2.CX0 1 fIG _ _ (spErr CxG "value") := ok_errB (par := "value") FIG ExG rfl ⟨rfl, rfl, rfl, by decide +kernel, rfl, by decide +kernel, by decide +kernel⟩ (.inl rfl) (.inl rfl)
  have GINb : FnOk P w K mg base L2.CX0 1 fINb _ _ (spErr CxNb "value") := ok_errB (par := "value") FINb ExNb rfl ⟨rfl, rfl, rfl, by decide +kernel, rfl, by decide +kernel, by decide +kernel⟩ (.inl rfl) (.inl rfl)
  have GD : FnOk P w K mg base L2.CX0 1 fD _ _ spDip := ok_dip FD TB'
  have GOn : FnOk P w K mg base L2.CX0 2 fOn _ _ spOne := ok_one FOn TS GD DD
  have GS : FnOk P w K mg base L2.CX0 2 fS _ _ spSigns := ok_signs FS TS GD DD
  have GTe : FnOk P w K mg base L2.CX0 3 fTe _ _ spText := ok_text FTe TS GD DD GOn DOn
  have GRp : FnOk P w K mg base L2.CX0 1 fRp _ _ spMarksOf := ok_reply FRp (PySem.W.mg_none_of X G zlen) (PySem.W.mg_none_of X G zrange)
  have GWi : FnOk P w K mg base L2.CX0 1 fW _ _ (spWithin K) := ok_within FW TW
  have GI : FnOk P w K mg base L2.CX0 2 fI _ _ (spInit CB) := ok_init FI TW TC (ok_alpha FA TW) DA GWi DW (ok_count FCn TW) DCn
  have GOv : FnOk P w K mg base L2.CX0 1 fOv _ _ (spOver K) := ok_over FOv TW (PySem.W.mg_none_of X G zall)
  have GIw : FnOk P w K mg base L2.CX0 2 fIw _ _ (spIsW K CB none) := ok_isW FIw TC GOv DOv
  have GAm : FnOk P w K mg base L2.CX0 2 fAm _ _ (spIsW K CB (some [48, 49, 50])) := ok_areM FAm TC mMA GOv DOv
  have GIr : FnOk P w K mg base L2.CX0 3 fIr _ _ (spIsRow CB) := ok_isRow FIr TW (PySem.W.mg_none_of X G ztuple) GIw DIw GAm DAm
  have GCw : FnOk P w K mg base L2.CX0 3 fCw _ _ (spChkW CB) := ok_chkW FCw GIw DIw
  have GCm : FnOk P w K mg base L2.CX0 3 fCm _ _ (spChkM CB) := ok_chkM FCm GAm DAm
  have GCb : FnOk P w K mg base L2.CX0 1 fCb _ _ (spChkB CB) := ok_chkB FCb TW TC
  have GCr : FnOk P w K mg base L2.CX0 4 fCr _ _ (spChkR CB) := ok_chkR FCr (PySem.W.mg_none_of X G zlen) (PySem.W.mg_none_of X G zenumerate) mMR GIr DIr
  have GHi : FnR P w K mg base L2.CX0 5 fHi (spHInitR CB CH) := ok_hinit FHi THx GCb DCb GCr DCr
  have MH : Mk K CH fHi := ⟨mkH, aHi, iHi, kcH⟩
  have GTh : FnOk P w K mg base L2.CX0 7 fTh _ _ (spThen CB CH) := ok_then FTh THx (PySem.W.mg_none_of X G zlen) mMR GCw DCw GCm DCm GHi MH
  have GMo : FnOk P w K mg base L2.CX0 1 fMo _ _ spMarksOf := ok_marksOf FMo (PySem.W.mg_none_of X G zzip)
  have GFi : FnOk P w K mg base L2.CX0 4 fFi _ _ (spFits CB CH) := ok_fits FFi THx (PySem.W.mg_none_of X G zall) GCw DCw GMo DMo
  have TN : TxN K mg CW := ⟨⟨pgCW, hdCW, poCW, saCW⟩, naCWallowed, naCWcounted, naCWleast, naCWgreatest, naCWknown, PySem.W.mg_none_of X G zlen, PySem.W.mg_none_of X G zsum, PySem.W.mg_none_of X G zmax, PySem.W.mg_none_of X G zzip, PySem.W.mg_none_of X G ztuple⟩
  have TBd : TxBd K mg CD := ⟨⟨pgCD, hdCD, poCD, saCD⟩, naCDallowed, naCDleast, naCDgreatest, PySem.W.mg_none_of X G zmax, PySem.W.mg_none_of X G zmin⟩
  have MXn : Meth K CW "none_used" fXn := ⟨aXn, iXn, kXn⟩
  have MXu : Meth K CW "used_with" fXu := ⟨aXu, iXu, kXu⟩
  have MXw : Meth K CW "many_with" fXw := ⟨aXw, iXw, kXw⟩
  have MXf : Meth K CW "many_from" fXf := ⟨aXf, iXf, kXf⟩
  have MXa : Meth K CW "add_ways" fXa := ⟨aXa, iXa, kXa⟩
  have MXm : Meth K CW "many" fXm := ⟨aXm, iXm, kXm⟩
  have MYr : Meth K CD "take_row" fYr := ⟨aYr, iYr, kYr⟩
  have MYk : Meth K CD "keep_only" fYk := ⟨aYk, iYk, kYk⟩
  have MYl : Meth K CD "leave_out" fYl := ⟨aYl, iYl, kYl⟩
  have MYa : Meth K CD "ask_least" fYa := ⟨aYa, iYa, kYa⟩
  have MYm : Meth K CD "ask_most" fYm := ⟨aYm, iYm, kYm⟩
  have GWc : FnOk P w K mg base L2.CX0 1 fWc _ _ spComm := ok_comm FWc
  have GWg : FnOk P w K mg base L2.CX0 1 fWg _ _ spGiven := ok_given FWg (PySem.W.mg_none_of X G zzip)
  have GOd : FnOk P w K mg base L2.CX0 2 fOd _ _ spOrd := ok_ord FOd (PySem.W.mg_none_of X G zall) GWg DWg
  have GWn : FnOk P w K mg base L2.CX0 1 fWn _ _ (spCnt CB CD) := ok_cnt FWn TBd TC
  have GYk : FnOk P w K mg base L2.CX0 1 fYk _ _ (spKeep CD) := ok_keep FYk TBd
  have GYa : FnOk P w K mg base L2.CX0 1 fYa _ _ (spAskL CD) := ok_askL FYa TBd
  have GYm : FnOk P w K mg base L2.CX0 1 fYm _ _ (spAskM CD) := ok_askM FYm TBd
  have GYl : LeaveRun P w K mg base CD 1 fYl := leave_run FYl TBd
  have GYr : FnOk P w K mg base L2.CX0 2 fYr _ _ (spTakeR CD) := ok_takeR FYr TBd (PySem.W.mg_none_of X G zlen) (PySem.W.mg_none_of X G zenumerate) MYk GYk bYk MYl GYl GWg DWg MYa GYa bYa MYm GYm bYm
  have GYi : FnOk P w K mg base L2.CX0 3 fYi _ _ (spBInit CB CD) := ok_binit FYi TBd TC (PySem.W.mg_none_of X G zrange) MYr GYr bYr
  have GXi : FnOk P w K mg base L2.CX0 5 fXi _ _ (spWInit P w CB CD CW) := ok_winit FXi TN TBd TC (PySem.W.mg_none_of X G zall) (PySem.W.mg_of X G gCD) ⟨mkiCD, aYi, iYi, kcCD⟩ GYi bYi GOd DOd GWc DWc GWn DWn
  have GXn : FnOk P w K mg base L2.CX0 1 fXn _ _ (spNone CW) := ok_none FXn TN
  have GXu : FnOk P w K mg base L2.CX0 1 fXu _ _ (spUsed CW) := ok_used FXu TN
  have GXf : ∀ r, r ≤ 6 → FnOk P w K mg base L2.CX0 19 fXf _ _ (spManyF P w CW r) := fun r hr => (ok_words TN FXf FXa FXw MXf bXf MXa bXa MXw bXw MXu GXu bXu GWc DWc r).mono (by omega)
  have GXm : FnOk P w K mg base L2.CX0 20 fXm _ _ (spMany P w CW) := ok_many (n0 := 18) FXm TN MXn GXn bXn MXf GXf bXf
  have GHw : FnOk P w K mg base L2.CX0 21 fHw _ _ (spHas CB) := ok_has (n0 := 14) FHw TN (PySem.W.mg_of X G gCW) ⟨mkiCW, aXi, iXi, kcCW⟩ GXi bXi MXm GXm bXm
  have GCl : FnOk P w K mg base (L2N.CX P w) 22 fCl _ _ (spChkL CB CH CNo) := ok_chkL (n0 := 19) FCl THx ENo GHw DHw
  have GCwX : FnOk P w K mg base (L2N.CX P w) 3 fCw _ _ (spChkWX K CB CxW none) := ok_chkWX FCw GIw DIw ExW GIW bIW
  have GCmX : FnOk P w K mg base (L2N.CX P w) 3 fCm _ _ (spChkWX K CB CxM (some [48, 49, 50])) := ok_chkMX FCm GAm DAm ExM GIM bIM
  have GCbX : FnOk P w K mg base (L2N.CX P w) 3 fCb _ _ (spChkBX K CB CxNb) := ok_chkBX FCb TW TC ExNb GINb bINb
  have GThU : FnOk P w K mg base (L2N.CX P w) 7 fTh _ _ (spThenU CB CH CxT) := ok_thenU FTh THx (PySem.W.mg_none_of X G zlen) mMR GCwX DCw GCmX DCm GHi MH ExT GIT bIT
  have GMm : FnOk P w K mg base L2.CX0 1 fMm _ _ (spMoInit CM) := ok_moInit FMm TMx
  have GGv : FnOk P w K mg base L2.CX0 3 fGv _ _ (spMove CM CG) := ok_move FGv TGx TMx ⟨mkM, aMm, iMm, kcM⟩ GMm bMm
  have GGf : FnOk P w K mg base (L2N.CX P w) 2 fGf _ _ (spFree CG CBu) := ok_free FGf TGx EBu
  have GGr : FnOk P w K mg base (L2N.CX P w) 23 fGr _ _ (spAddR K EX CB CH CM CG) := ok_addR (k := 14) FGr TGx THx GCwX DCw GCmX DCm GFi ⟨aFi, iFi, kFi⟩ bFi GThU ⟨aTh, iTh, kTh⟩ bTh GCl DCl GGv ⟨aGv, iGv, kGv⟩ bGv ExG GIG bIG
  have GGa : FnOk P w K mg base (L2N.CX P w) 24 fGa _ _ (spAdd K EX CB CH CM CG) := ok_add (k := 14) FGa TGx GGf ⟨aGf, iGf, kGf⟩ bGf GGr ⟨aGr, iGr, kGr⟩ bGr
  have GGi : FnOk P w K mg base L2.CX0 7 fGi _ _ (spGInit CB CH CM CG) := ok_ginit FGk TGx THx GCb DCb GHi MH
  have GGiX : FnOk P w K mg base (L2N.CX P w) 4 fGi _ _ (spGInitX K CB CxNb CG) := ok_ginitX (CH := CH) (CM := CM) FGk GCbX DCb
  have GGl : FnOk P w K mg base L2.CX0 1 fGl _ _ (spGLen CB CH CM CG) := ok_glen FGl TGx THx (PySem.W.mg_none_of X G zlen)
  have GGq : FnOk P w K mg base L2.CX0 1 fGq _ _ (spGRepr CB CH CM CG) := ok_grepr FGq TGx THx (PySem.W.mg_none_of X G zlen)
  have GHq : FnOk P w K mg base L2.CX0 1 fHq _ _ (spHRepr CB CH) := ok_hrepr FHq THx (PySem.W.mg_none_of X G zlen)
  have GBq : FnOk P w K mg base L2.CX0 1 fBq _ _ (spRepr CB) := ok_repr FBq TC
  have HGq : L2H.FnH P w K mg base L2.CX0 1 fGq _ _ (spGRepr CB CH CM CG) := ok_greprH FGq TGx THx (PySem.W.mg_none_of X G zlen)
  have HHq : L2H.FnH P w K mg base L2.CX0 1 fHq _ _ (spHRepr CB CH) := ok_hreprH FHq THx (PySem.W.mg_none_of X G zlen)
  have HBq : L2H.FnH P w K mg base L2.CX0 1 fBq _ _ (spRepr CB) := ok_reprH FBq TC
  have GBe : FnOk P w K mg base L2.CX0 1 fBe _ _ (spEqB K CB) := ok_eq FBe TW TC
  have DBe : Dm K CB "__eq__" fBe _ ["self", "other"] := ⟨aBe, iBe, bBe⟩
  have GHe : FnOk P w K mg base L2.CX0 2 fHe _ _ (spHEq K CB CH) := ok_heq FHe TW TC THx TEH GBe DBe
  have GSto : FnOk P w K mg base L2.CX0 8 fSto _ _ (spStory CB CH) := ok_story FSto THx GTh ⟨aTh, iTh, kTh⟩ bTh GHi MH
  have GSh : FnG P w K mg base L2.CX0 9 fSh _ nShown (spShown CB CH CM CG) := ok_shown FSh TGS TC THx TGx KS hM GBe GHe GGl GGq GSto DSto
  have GRf : FnG P w K mg base L2.CX0 8 fRf _ _ (spRefu K CB CH CM CG) := ok_refused FRf TR2 TGx ExNb GGiX MGi bGi vGi KR HBq HHq HGq
  have GR : FnG P w K mg base L2.CX0 26 fR _ _ spRgt := ok_right (n0 := 14) FR ⟨(PySem.W.mg_none_of X G zlen), (PySem.W.mg_none_of X G zrange), (PySem.W.mg_none_of X G ztuple), (PySem.W.mg_none_of X G zall), (PySem.W.mg_none_of X G zrepr)⟩ TC THx TGx KX KS KR hM GD DD GS DS GTe DTe GRp DRp GBe GHe GBq GHq GGq GSh DSh GRf DRf GI ⟨mk, aI, iI, kc⟩ bI GGi MGi bGi vGi kwGi kwG0 GGa ⟨aGa, iGa, kGa⟩ bGa
  exact ok_law (n0 := 14) FL TL (ok_bowl FB TB') DB GR DR

/-! the head -/
theorem of_says {P : Program} {w : World} {K : PySem.W.Frag} {h : Heap} {mg : Str → Option Value} {fa : Addr} (X : K.In h) (G : h.Ns mainGlobals mg) (hfa : mg "law" = some (.ref fa)) (c : HX.SaysA fnH tfH exH exI h K) :
    ∃ (fd : FuncData) (cs : List (Addr × Addr)), (∀ p ∈ cs, h.get? p.2 = some { cls := .none, data := .fields #[] } ∧ K.lookup p.2 = none ∧ PySem.W.CodeHd h p.1 p.2) ∧ (∀ (s : Shared) (u : Value), BindsTo s fd ⟨[u], []⟩ [("_law_script", u)]) ∧
      ∀ base : Heap, K.In base → base.Ns mainGlobals mg → (∃ mm, base.Ns sysModules mm) → (∀ p ∈ cs, TabB base mg p.1 p.2) → FnG P w K mg base L2.CX0 27 fa fd ["_law_script"] (fun vs H Q E => (∀ p ∈ cs, H p.2 = some (.tbl #[])) ∧ spLaw K vs H Q E) := by
  have mm := c.more
  have mm : exH K = true := mm
  unfold exH at mm
  have m6 := HX.and_r mm
  replace mm := HX.and_l mm
  have m5 := HX.and_r mm
  replace mm := HX.and_l mm
  have m4 := HX.and_r mm
  replace mm := HX.and_l mm
  have m3 := HX.and_r mm
  replace mm := HX.and_l mm
  have m2 := HX.and_r mm
  replace mm := HX.and_l mm
  have m1 := HX.and_r mm
  replace mm := HX.and_l mm
  have m0 := mm
  have mm := c.more2
  have mm : exI K = true := mm
  unfold exI at mm
  have m12 := HX.and_r mm
  replace mm := HX.and_l mm
  have m11 := HX.and_r mm
  replace mm := HX.and_l mm
  have m10 := HX.and_r mm
  replace mm := HX.and_l mm
  have m9 := HX.and_r mm
  replace mm := HX.and_l mm
  have m8 := HX.and_r mm
  replace mm := HX.and_l mm
  have m7 := mm
  obtain ⟨ocB, odB, kVB, dcB, pmB, anB, cdB, ctB, slB, lB, cB, kB⟩ := c.def_ 0 (d := dHB) rfl rfl
  obtain ⟨ocD, odD, kVD, dcD, pmD, anD, cdD, ctD, slD, lD, cD, kD⟩ := c.def_ 1 (d := dHD) rfl rfl
  obtain ⟨ocOn, odOn, kVOn, dcOn, pmOn, anOn, cdOn, ctOn, slOn, lOn, cOn, kOn⟩ := c.def_ 2 (d := dHOn) rfl rfl
  obtain ⟨ocS, odS, kVS, dcS, pmS, anS, cdS, ctS, slS, lS, cS, kS⟩ := c.def_ 3 (d := dHS) rfl rfl
  obtain ⟨ocTe, odTe, kVTe, dcTe, pmTe, anTe, cdTe, ctTe, slTe, lTe, cTe, kTe⟩ := c.def_ 4 (d := dHTe) rfl rfl
  obtain ⟨ocRp, odRp, kVRp, dcRp, pmRp, anRp, cdRp, ctRp, slRp, lRp, cRp, kRp⟩ := c.def_ 5 (d := dHRp) rfl rfl
  obtain ⟨ocCl, odCl, kVCl, dcCl, pmCl, anCl, cdCl, ctCl, slCl, lCl, cCl, kCl⟩ := c.def_ 6 (d := dHCl) rfl rfl
  obtain ⟨ocSto, odSto, kVSto, dcSto, pmSto, anSto, cdSto, ctSto, slSto, lSto, cSto, kSto⟩ := c.def_ 7 (d := dHSto) rfl rfl
  obtain ⟨ocSh, odSh, kVSh, dcSh, pmSh, anSh, cdSh, ctSh, slSh, lSh, cSh, kSh⟩ := c.def_ 8 (d := dHSh) rfl rfl
  obtain ⟨ocRf, odRf, kVRf, dcRf, pmRf, anRf, cdRf, ctRf, slRf, lRf, cRf, kRf⟩ := c.def_ 9 (d := dHRf) rfl rfl
  obtain ⟨ocR, odR, kVR, dcR, pmR, anR, cdR, ctR, slR, lR, cR, kR⟩ := c.def_ 10 (d := dHR) rfl rfl
  obtain ⟨ocW, odW, kVW, dcW, pmW, anW, cdW, ctW, slW, lW, cW, kW⟩ := c.def_ 11 (d := dHW) rfl rfl
  obtain ⟨ocA, odA, kVA, dcA, pmA, anA, cdA, ctA, slA, lA, cA, kA⟩ := c.def_ 12 (d := dHA) rfl rfl
  obtain ⟨ocCn, odCn, kVCn, dcCn, pmCn, anCn, cdCn, ctCn, slCn, lCn, cCn, kCn⟩ := c.def_ 13 (d := dHCn) rfl rfl
  obtain ⟨ocOv, odOv, kVOv, dcOv, pmOv, anOv, cdOv, ctOv, slOv, lOv, cOv, kOv⟩ := c.def_ 14 (d := dHOv) rfl rfl
  obtain ⟨ocIw, odIw, kVIw, dcIw, pmIw, anIw, cdIw, ctIw, slIw, lIw, cIw, kIw⟩ := c.def_ 15 (d := dHIw) rfl rfl
  obtain ⟨ocAm, odAm, kVAm, dcAm, pmAm, anAm, cdAm, ctAm, slAm, lAm, cAm, kAm⟩ := c.def_ 16 (d := dHAm) rfl rfl
  obtain ⟨ocIr, odIr, kVIr, dcIr, pmIr, anIr, cdIr, ctIr, slIr, lIr, cIr, kIr⟩ := c.def_ 17 (d := dHIr) rfl rfl
  obtain ⟨ocCw, odCw, kVCw, dcCw, pmCw, anCw, cdCw, ctCw, slCw, lCw, cCw, kCw⟩ := c.def_ 18 (d := dHCw) rfl rfl
  obtain ⟨ocCm, odCm, kVCm, dcCm, pmCm, anCm, cdCm, ctCm, slCm, lCm, cCm, kCm⟩ := c.def_ 19 (d := dHCm) rfl rfl
  obtain ⟨ocCb, odCb, kVCb, dcCb, pmCb, anCb, cdCb, ctCb, slCb, lCb, cCb, kCb⟩ := c.def_ 20 (d := dHCb) rfl rfl
  obtain ⟨ocCr, odCr, kVCr, dcCr, pmCr, anCr, cdCr, ctCr, slCr, lCr, cCr, kCr⟩ := c.def_ 21 (d := dHCr) rfl rfl
  obtain ⟨ocMo, odMo, kVMo, dcMo, pmMo, anMo, cdMo, ctMo, slMo, lMo, cMo, kMo⟩ := c.def_ 22 (d := dHMo) rfl rfl
  obtain ⟨ocWc, odWc, kVWc, dcWc, pmWc, anWc, cdWc, ctWc, slWc, lWc, cWc, kWc⟩ := c.def_ 23 (d := dHWc) rfl rfl
  obtain ⟨ocWn, odWn, kVWn, dcWn, pmWn, anWn, cdWn, ctWn, slWn, lWn, cWn, kWn⟩ := c.def_ 24 (d := dHWn) rfl rfl
  obtain ⟨ocWg, odWg, kVWg, dcWg, pmWg, anWg, cdWg, ctWg, slWg, lWg, cWg, kWg⟩ := c.def_ 25 (d := dHWg) rfl rfl
  obtain ⟨ocOd, odOd, kVOd, dcOd, pmOd, anOd, cdOd, ctOd, slOd, lOd, cOd, kOd⟩ := c.def_ 26 (d := dHOd) rfl rfl
  obtain ⟨ocHw, odHw, kVHw, dcHw, pmHw, anHw, cdHw, ctHw, slHw, lHw, cHw, kHw⟩ := c.def_ 27 (d := dHHw) rfl rfl
  obtain ⟨ocL, odL, kVL, dcL, pmL, anL, cdL, ctL, slL, lL, cL, kL⟩ := c.def_ 28 (d := dHL) rfl rfl
  obtain ⟨ocI, odI, kVI, dcI, pmI, anI, cdI, ctI, slI, lI, cI, kI⟩ := c.def_ 29 (d := dHI) rfl rfl
  obtain ⟨ocHi, odHi, kVHi, dcHi, pmHi, anHi, cdHi, ctHi, slHi, lHi, cHi, kHi⟩ := c.def_ 30 (d := dHHi) rfl rfl
  obtain ⟨ocTh, odTh, kVTh, dcTh, pmTh, anTh, cdTh, ctTh, slTh, lTh, cTh, kTh⟩ := c.def_ 31 (d := dHTh) rfl rfl
  obtain ⟨ocFi, odFi, kVFi, dcFi, pmFi, anFi, cdFi, ctFi, slFi, lFi, cFi, kFi⟩ := c.def_ 32 (d := dHFi) rfl rfl
  obtain ⟨ocMm, odMm, kVMm, dcMm, pmMm, anMm, cdMm, ctMm, slMm, lMm, cMm, kMm⟩ := c.def_ 33 (d := dHMm) rfl rfl
  obtain ⟨ocGa, odGa, kVGa, dcGa, pmGa, anGa, cdGa, ctGa, slGa, lGa, cGa, kGa⟩ := c.def_ 34 (d := dHGa) rfl rfl
  obtain ⟨ocGf, odGf, kVGf, dcGf, pmGf, anGf, cdGf, ctGf, slGf, lGf, cGf, kGf⟩ := c.def_ 35 (d := dHGf) rfl rfl
  obtain ⟨ocGr, odGr, kVGr, dcGr, pmGr, anGr, cdGr, ctGr, slGr, lGr, cGr, kGr⟩ := c.def_ 36 (d := dHGr) rfl rfl
  obtain ⟨ocGv, odGv, kVGv, dcGv, pmGv, anGv, cdGv, ctGv, slGv, lGv, cGv, kGv⟩ := c.def_ 37 (d := dHGv) rfl rfl
  obtain ⟨fdw, ⟨ocGi, odGi, dVGi, kVGi, dcGi, pmGi, anGi, cdGi, ctGi, slGi, rfl, lGi, cGi, dvGi, qGi⟩, kGi⟩ := He.DefD.funD (d := dHGi) (evOf c 38 rfl) (c.ok _ (List.mem_of_getElem? (i := 38) rfl))
  obtain ⟨_, rfl⟩ | ⟨dvn, _⟩ := dvGi
  case inr => exact absurd rfl dvn
  obtain ⟨ocGl, odGl, kVGl, dcGl, pmGl, anGl, cdGl, ctGl, slGl, lGl, cGl, kGl⟩ := c.def_ 39 (d := dHGl) rfl rfl
  obtain ⟨ocGq, odGq, kVGq, dcGq, pmGq, anGq, cdGq, ctGq, slGq, lGq, cGq, kGq⟩ := c.def_ 40 (d := dHGq) rfl rfl
  obtain ⟨ocHq, odHq, kVHq, dcHq, pmHq, anHq, cdHq, ctHq, slHq, lHq, cHq, kHq⟩ := c.def_ 41 (d := dHHq) rfl rfl
  obtain ⟨ocHe, odHe, kVHe, dcHe, pmHe, anHe, cdHe, ctHe, slHe, lHe, cHe, kHe⟩ := c.def_ 42 (d := dHHe) rfl rfl
  obtain ⟨ocBq, odBq, kVBq, dcBq, pmBq, anBq, cdBq, ctBq, slBq, lBq, cBq, kBq⟩ := c.def_ 43 (d := dHBq) rfl rfl
  obtain ⟨ocBe, odBe, kVBe, dcBe, pmBe, anBe, cdBe, ctBe, slBe, lBe, cBe, kBe⟩ := c.def_ 44 (d := dHBe) rfl rfl
  obtain ⟨ocXi, odXi, kVXi, dcXi, pmXi, anXi, cdXi, ctXi, slXi, lXi, cXi, kXi⟩ := c.def_ 45 (d := dHXi) rfl rfl
  obtain ⟨ocXn, odXn, kVXn, dcXn, pmXn, anXn, cdXn, ctXn, slXn, lXn, cXn, kXn⟩ := c.def_ 46 (d := dHXn) rfl rfl
  obtain ⟨ocXu, odXu, kVXu, dcXu, pmXu, anXu, cdXu, ctXu, slXu, lXu, cXu, kXu⟩ := c.def_ 47 (d := dHXu) rfl rfl
  obtain ⟨ocXw, odXw, kVXw, dcXw, pmXw, anXw, cdXw, ctXw, slXw, lXw, cXw, kXw⟩ := c.def_ 48 (d := dHXw) rfl rfl
  obtain ⟨ocXf, odXf, kVXf, dcXf, pmXf, anXf, cdXf, ctXf, slXf, lXf, cXf, kXf⟩ := c.def_ 49 (d := dHXf) rfl rfl
  obtain ⟨ocXa, odXa, kVXa, dcXa, pmXa, anXa, cdXa, ctXa, slXa, lXa, cXa, kXa⟩ := c.def_ 50 (d := dHXa) rfl rfl
  obtain ⟨ocXm, odXm, kVXm, dcXm, pmXm, anXm, cdXm, ctXm, slXm, lXm, cXm, kXm⟩ := c.def_ 51 (d := dHXm) rfl rfl
  obtain ⟨ocYi, odYi, kVYi, dcYi, pmYi, anYi, cdYi, ctYi, slYi, lYi, cYi, kYi⟩ := c.def_ 52 (d := dHYi) rfl rfl
  obtain ⟨ocYr, odYr, kVYr, dcYr, pmYr, anYr, cdYr, ctYr, slYr, lYr, cYr, kYr⟩ := c.def_ 53 (d := dHYr) rfl rfl
  obtain ⟨ocYk, odYk, kVYk, dcYk, pmYk, anYk, cdYk, ctYk, slYk, lYk, cYk, kYk⟩ := c.def_ 54 (d := dHYk) rfl rfl
  obtain ⟨ocYl, odYl, kVYl, dcYl, pmYl, anYl, cdYl, ctYl, slYl, lYl, cYl, kYl⟩ := c.def_ 55 (d := dHYl) rfl rfl
  obtain ⟨ocYa, odYa, kVYa, dcYa, pmYa, anYa, cdYa, ctYa, slYa, lYa, cYa, kYa⟩ := c.def_ 56 (d := dHYa) rfl rfl
  obtain ⟨ocYm, odYm, kVYm, dcYm, pmYm, anYm, cdYm, ctYm, slYm, lYm, cYm, kYm⟩ := c.def_ 57 (d := dHYm) rfl rfl
  obtain ⟨ocIW, odIW, kVIW, dcIW, pmIW, anIW, cdIW, ctIW, slIW, lIW, cIW, kIW⟩ := c.def_ 58 (d := dHIW) rfl rfl
  obtain ⟨ocIM, odIM, kVIM, dcIM, pmIM, anIM, cdIM, ctIM, slIM, lIM, cIM, kIM⟩ := c.def_ 59 (d := dHIM) rfl rfl
  obtain ⟨ocIT, odIT, kVIT, dcIT, pmIT, anIT, cdIT, ctIT, slIT, lIT, cIT, kIT⟩ := c.def_ 60 (d := dHIT) rfl rfl
  obtain ⟨ocIG, odIG, kVIG, dcIG, pmIG, anIG, cdIG, ctIG, slIG, lIG, cIG, kIG⟩ := c.def_ 61 (d := dHIG) rfl rfl
  obtain ⟨ocINb, odINb, kVINb, dcINb, pmINb, anINb, cdINb, ctINb, slINb, lINb, cINb, kINb⟩ := c.def_ 62 (d := dHINb) rfl rfl
  have gCB : PySem.W.nsIn K mainGlobals "Board" = some (some (.ref (A_CB K))) := HX.allT_of m0 0 rfl
  have gCH : PySem.W.nsIn K mainGlobals "History" = some (some (.ref (A_CH K))) := HX.allT_of m0 1 rfl
  have gCW : PySem.W.nsIn K mainGlobals "Words" = some (some (.ref (A_CW K))) := HX.allT_of m0 2 rfl
  have gCD : PySem.W.nsIn K mainGlobals "Bounds" = some (some (.ref (A_CD K))) := HX.allT_of m0 3 rfl
  have gCM : PySem.W.nsIn K mainGlobals "Moment" = some (some (.ref (A_CM K))) := HX.allT_of m0 4 rfl
  have gCG : PySem.W.nsIn K mainGlobals "Game" = some (some (.ref (A_CG K))) := HX.allT_of m0 5 rfl
  have gCNo : PySem.W.nsIn K mainGlobals "NoWord" = some (some (.ref (A_CNo K))) := HX.allT_of m0 6 rfl
  have gCBu : PySem.W.nsIn K mainGlobals "Busy" = some (some (.ref (A_CBu K))) := HX.allT_of m0 7 rfl
  have gCIn : PySem.W.nsIn K mainGlobals "InputError" = some (some (.ref (A_CIn K))) := HX.allT_of m0 8 rfl
  have gCSt : PySem.W.nsIn K mainGlobals "StateError" = some (some (.ref (A_CSt K))) := HX.allT_of m0 9 rfl
  have gCSi : PySem.W.nsIn K mainGlobals "SizeError" = some (some (.ref (A_CSi K))) := HX.allT_of m0 10 rfl
  have gCxW : PySem.W.nsIn K mainGlobals "InvalidWord" = some (some (.ref (A_CxW K))) := HX.allT_of m0 11 rfl
  have gCxM : PySem.W.nsIn K mainGlobals "InvalidMarks" = some (some (.ref (A_CxM K))) := HX.allT_of m0 12 rfl
  have gCxT : PySem.W.nsIn K mainGlobals "TooManyRows" = some (some (.ref (A_CxT K))) := HX.allT_of m0 13 rfl
  have gCxG : PySem.W.nsIn K mainGlobals "GuessNotLeft" = some (some (.ref (A_CxG K))) := HX.allT_of m0 14 rfl
  have gCxNb : PySem.W.nsIn K mainGlobals "NotABoard" = some (some (.ref (A_CxNb K))) := HX.allT_of m0 15 rfl
  have aB : PySem.W.nsIn K mainGlobals "_law_well" = some (some (.ref (A_fB K))) := HX.allT_of m0 16 rfl
  have aD : PySem.W.nsIn K mainGlobals "_law_draw" = some (some (.ref (A_fD K))) := HX.allT_of m0 17 rfl
  have aOn : PySem.W.nsIn K mainGlobals "_law_one" = some (some (.ref (A_fOn K))) := HX.allT_of m0 18 rfl
  have aS : PySem.W.nsIn K mainGlobals "_law_signs" = some (some (.ref (A_fS K))) := HX.allT_of m0 19 rfl
  have aTe : PySem.W.nsIn K mainGlobals "_law_text" = some (some (.ref (A_fTe K))) := HX.allT_of m0 20 rfl
  have aRp : PySem.W.nsIn K mainGlobals "_law_reply" = some (some (.ref (A_fRp K))) := HX.allT_of m0 21 rfl
  have aCl : PySem.W.nsIn K mainGlobals "check_word_left" = some (some (.ref (A_fCl K))) := HX.allT_of m0 22 rfl
  have aSto : PySem.W.nsIn K mainGlobals "_law_story" = some (some (.ref (A_fSto K))) := HX.allT_of m0 23 rfl
  have aSh : PySem.W.nsIn K mainGlobals "_law_shown" = some (some (.ref (A_fSh K))) := HX.allT_of m0 24 rfl
  have aRf : PySem.W.nsIn K mainGlobals "_law_refused" = some (some (.ref (A_fRf K))) := HX.allT_of m1 0 rfl
  have aR : PySem.W.nsIn K mainGlobals "_law_right" = some (some (.ref (A_fR K))) := HX.allT_of m1 1 rfl
  have aW : PySem.W.nsIn K mainGlobals "is_integer_within" = some (some (.ref (A_fW K))) := HX.allT_of m1 2 rfl
  have aA : PySem.W.nsIn K mainGlobals "is_alphabet" = some (some (.ref (A_fA K))) := HX.allT_of m1 3 rfl
  have aCn : PySem.W.nsIn K mainGlobals "count_words" = some (some (.ref (A_fCn K))) := HX.allT_of m1 4 rfl
  have aOv : PySem.W.nsIn K mainGlobals "is_text_over" = some (some (.ref (A_fOv K))) := HX.allT_of m1 5 rfl
  have aIw : PySem.W.nsIn K mainGlobals "is_word" = some (some (.ref (A_fIw K))) := HX.allT_of m1 6 rfl
  have aAm : PySem.W.nsIn K mainGlobals "are_marks" = some (some (.ref (A_fAm K))) := HX.allT_of m1 7 rfl
  have aIr : PySem.W.nsIn K mainGlobals "is_row" = some (some (.ref (A_fIr K))) := HX.allT_of m1 8 rfl
  have aCw : PySem.W.nsIn K mainGlobals "check_word" = some (some (.ref (A_fCw K))) := HX.allT_of m1 9 rfl
  have aCm : PySem.W.nsIn K mainGlobals "check_marks" = some (some (.ref (A_fCm K))) := HX.allT_of m1 10 rfl
  have aCb : PySem.W.nsIn K mainGlobals "check_board" = some (some (.ref (A_fCb K))) := HX.allT_of m1 11 rfl
  have aCr : PySem.W.nsIn K mainGlobals "check_rows" = some (some (.ref (A_fCr K))) := HX.allT_of m1 12 rfl
  have aMo : PySem.W.nsIn K mainGlobals "marks_of" = some (some (.ref (A_fMo K))) := HX.allT_of m1 13 rfl
  have aWc : PySem.W.nsIn K mainGlobals "common_letters" = some (some (.ref (A_fWc K))) := HX.allT_of m1 14 rfl
  have aWn : PySem.W.nsIn K mainGlobals "counted_letters" = some (some (.ref (A_fWn K))) := HX.allT_of m1 15 rfl
  have aWg : PySem.W.nsIn K mainGlobals "marks_given" = some (some (.ref (A_fWg K))) := HX.allT_of m1 16 rfl
  have aOd : PySem.W.nsIn K mainGlobals "is_in_order" = some (some (.ref (A_fOd K))) := HX.allT_of m1 17 rfl
  have aHw : PySem.W.nsIn K mainGlobals "has_word" = some (some (.ref (A_fHw K))) := HX.allT_of m1 18 rfl
  have aL : PySem.W.nsIn K mainGlobals "law" = some (some (.ref (A_fL K))) := HX.allT_of m1 19 rfl
  have aI : PySem.W.findIn K (.ref (A_CB K)) "__init__" = some (some (.ref (A_fI K))) := HX.allT_of m1 20 rfl
  have iI : PySem.W.isFn K (.ref (A_fI K)) = true := HX.allT_of m1 21 rfl
  have aHi : PySem.W.findIn K (.ref (A_CH K)) "__init__" = some (some (.ref (A_fHi K))) := HX.allT_of m1 22 rfl
  have iHi : PySem.W.isFn K (.ref (A_fHi K)) = true := HX.allT_of m1 23 rfl
  have aTh : PySem.W.findIn K (.ref (A_CH K)) "then" = some (some (.ref (A_fTh K))) := HX.allT_of m1 24 rfl
  have iTh : PySem.W.isFn K (.ref (A_fTh K)) = true := HX.allT_of m2 0 rfl
  have aFi : PySem.W.findIn K (.ref (A_CH K)) "fits" = some (some (.ref (A_fFi K))) := HX.allT_of m2 1 rfl
  have iFi : PySem.W.isFn K (.ref (A_fFi K)) = true := HX.allT_of m2 2 rfl
  have aMm : PySem.W.findIn K (.ref (A_CM K)) "__init__" = some (some (.ref (A_fMm K))) := HX.allT_of m2 3 rfl
  have iMm : PySem.W.isFn K (.ref (A_fMm K)) = true := HX.allT_of m2 4 rfl
  have aGa : PySem.W.findIn K (.ref (A_CG K)) "add" = some (some (.ref (A_fGa K))) := HX.allT_of m2 5 rfl
  have iGa : PySem.W.isFn K (.ref (A_fGa K)) = true := HX.allT_of m2 6 rfl
  have aGf : PySem.W.findIn K (.ref (A_CG K)) "check_free" = some (some (.ref (A_fGf K))) := HX.allT_of m2 7 rfl
  have iGf : PySem.W.isFn K (.ref (A_fGf K)) = true := HX.allT_of m2 8 rfl
  have aGr : PySem.W.findIn K (.ref (A_CG K)) "add_row" = some (some (.ref (A_fGr K))) := HX.allT_of m2 9 rfl
  have iGr : PySem.W.isFn K (.ref (A_fGr K)) = true := HX.allT_of m2 10 rfl
  have aGv : PySem.W.findIn K (.ref (A_CG K)) "move_to" = some (some (.ref (A_fGv K))) := HX.allT_of m2 11 rfl
  have iGv : PySem.W.isFn K (.ref (A_fGv K)) = true := HX.allT_of m2 12 rfl
  have aGi : PySem.W.findIn K (.ref (A_CG K)) "__init__" = some (some (.ref (A_fGi K))) := HX.allT_of m2 13 rfl
  have iGi : PySem.W.isFn K (.ref (A_fGi K)) = true := HX.allT_of m2 14 rfl
  have aGl : PySem.W.findIn K (.ref (A_CG K)) "__len__" = some (some (.ref (A_fGl K))) := HX.allT_of m2 15 rfl
  have iGl : PySem.W.isFn K (.ref (A_fGl K)) = true := HX.allT_of m2 16 rfl
  have aGq : PySem.W.findIn K (.ref (A_CG K)) "__repr__" = some (some (.ref (A_fGq K))) := HX.allT_of m2 17 rfl
  have iGq : PySem.W.isFn K (.ref (A_fGq K)) = true := HX.allT_of m2 18 rfl
  have aHq : PySem.W.findIn K (.ref (A_CH K)) "__repr__" = some (some (.ref (A_fHq K))) := HX.allT_of m2 19 rfl
  have iHq : PySem.W.isFn K (.ref (A_fHq K)) = true := HX.allT_of m2 20 rfl
  have aHe : PySem.W.findIn K (.ref (A_CH K)) "__eq__" = some (some (.ref (A_fHe K))) := HX.allT_of m2 21 rfl
  have iHe : PySem.W.isFn K (.ref (A_fHe K)) = true := HX.allT_of m2 22 rfl
  have aBq : PySem.W.findIn K (.ref (A_CB K)) "__repr__" = some (some (.ref (A_fBq K))) := HX.allT_of m2 23 rfl
  have iBq : PySem.W.isFn K (.ref (A_fBq K)) = true := HX.allT_of m2 24 rfl
  have aBe : PySem.W.findIn K (.ref (A_CB K)) "__eq__" = some (some (.ref (A_fBe K))) := HX.allT_of m3 0 rfl
  have iBe : PySem.W.isFn K (.ref (A_fBe K)) = true := HX.allT_of m3 1 rfl
  have aXi : PySem.W.findIn K (.ref (A_CW K)) "__init__" = some (some (.ref (A_fXi K))) := HX.allT_of m3 2 rfl
  have iXi : PySem.W.isFn K (.ref (A_fXi K)) = true := HX.allT_of m3 3 rfl
  have aXn : PySem.W.findIn K (.ref (A_CW K)) "none_used" = some (some (.ref (A_fXn K))) := HX.allT_of m3 4 rfl
  have iXn : PySem.W.isFn K (.ref (A_fXn K)) = true := HX.allT_of m3 5 rfl
  have aXu : PySem.W.findIn K (.ref (A_CW K)) "used_with" = some (some (.ref (A_fXu K))) := HX.allT_of m3 6 rfl
  have iXu : PySem.W.isFn K (.ref (A_fXu K)) = true := HX.allT_of m3 7 rfl
  have aXw : PySem.W.findIn K (.ref (A_CW K)) "many_with" = some (some (.ref (A_fXw K))) := HX.allT_of m3 8 rfl
  have iXw : PySem.W.isFn K (.ref (A_fXw K)) = true := HX.allT_of m3 9 rfl
  have aXf : PySem.W.findIn K (.ref (A_CW K)) "many_from" = some (some (.ref (A_fXf K))) := HX.allT_of m3 10 rfl
  have iXf : PySem.W.isFn K (.ref (A_fXf K)) = true := HX.allT_of m3 11 rfl
  have aXa : PySem.W.findIn K (.ref (A_CW K)) "add_ways" = some (some (.ref (A_fXa K))) := HX.allT_of m3 12 rfl
  have iXa : PySem.W.isFn K (.ref (A_fXa K)) = true := HX.allT_of m3 13 rfl
  have aXm : PySem.W.findIn K (.ref (A_CW K)) "many" = some (some (.ref (A_fXm K))) := HX.allT_of m3 14 rfl
  have iXm : PySem.W.isFn K (.ref (A_fXm K)) = true := HX.allT_of m3 15 rfl
  have aYi : PySem.W.findIn K (.ref (A_CD K)) "__init__" = some (some (.ref (A_fYi K))) := HX.allT_of m3 16 rfl
  have iYi : PySem.W.isFn K (.ref (A_fYi K)) = true := HX.allT_of m3 17 rfl
  have aYr : PySem.W.findIn K (.ref (A_CD K)) "take_row" = some (some (.ref (A_fYr K))) := HX.allT_of m3 18 rfl
  have iYr : PySem.W.isFn K (.ref (A_fYr K)) = true := HX.allT_of m3 19 rfl
  have aYk : PySem.W.findIn K (.ref (A_CD K)) "keep_only" = some (some (.ref (A_fYk K))) := HX.allT_of m3 20 rfl
  have iYk : PySem.W.isFn K (.ref (A_fYk K)) = true := HX.allT_of m3 21 rfl
  have aYl : PySem.W.findIn K (.ref (A_CD K)) "leave_out" = some (some (.ref (A_fYl K))) := HX.allT_of m3 22 rfl
  have iYl : PySem.W.isFn K (.ref (A_fYl K)) = true := HX.allT_of m3 23 rfl
  have aYa : PySem.W.findIn K (.ref (A_CD K)) "ask_least" = some (some (.ref (A_fYa K))) := HX.allT_of m3 24 rfl
  have iYa : PySem.W.isFn K (.ref (A_fYa K)) = true := HX.allT_of m4 0 rfl
  have aYm : PySem.W.findIn K (.ref (A_CD K)) "ask_most" = some (some (.ref (A_fYm K))) := HX.allT_of m4 1 rfl
  have iYm : PySem.W.isFn K (.ref (A_fYm K)) = true := HX.allT_of m4 2 rfl
  have aIW : PySem.W.findIn K (.ref (A_CxW K)) "__init__" = some (some (.ref (A_fIW K))) := HX.allT_of m4 3 rfl
  have iIW : PySem.W.isFn K (.ref (A_fIW K)) = true := HX.allT_of m4 4 rfl
  have aIM : PySem.W.findIn K (.ref (A_CxM K)) "__init__" = some (some (.ref (A_fIM K))) := HX.allT_of m4 5 rfl
  have iIM : PySem.W.isFn K (.ref (A_fIM K)) = true := HX.allT_of m4 6 rfl
  have aIT : PySem.W.findIn K (.ref (A_CxT K)) "__init__" = some (some (.ref (A_fIT K))) := HX.allT_of m4 7 rfl
  have iIT : PySem.W.isFn K (.ref (A_fIT K)) = true := HX.allT_of m4 8 rfl
  have aIG : PySem.W.findIn K (.ref (A_CxG K)) "__init__" = some (some (.ref (A_fIG K))) := HX.allT_of m4 9 rfl
  have iIG : PySem.W.isFn K (.ref (A_fIG K)) = true := HX.allT_of m4 10 rfl
  have aINb : PySem.W.findIn K (.ref (A_CxNb K)) "__init__" = some (some (.ref (A_fINb K))) := HX.allT_of m4 11 rfl
  have iINb : PySem.W.isFn K (.ref (A_fINb K)) = true := HX.allT_of m4 12 rfl
  have gtc : PySem.W.specialIn K (.builtin "object.__class__") "__get__" = some (some (.builtin "getset_descriptor.__get__")) := HX.allT_of m4 13 rfl
  have tkc : PySem.W.takesIn K (.builtin "object.__class__") = some true := HX.allT_of m4 14 rfl
  obtain ⟨_, _, _, _, _, _, _, _, _, _, _, _, _, _, xxW⟩ := HX.excB_of (HX.allT_at m4 (i := 15) rfl)
  have saxW : PySem.W.findIn K (.ref (A_CxW K)) "__setattr__" = some (some (.builtin "object.__setattr__")) := HX.allT_of m4 16 rfl
  have ebxW : PySem.W.subIn K (.ref (A_CxW K)) (.type "BaseException") = some true := HX.allT_of m4 17 rfl
  have tyxW : PySem.W.typeIn K (.ref (A_CxW K)) = some (.type "type") := HX.allT_of m4 18 rfl
  have kpxW : PySem.W.keepIn K (.ref (A_CxW K)) = true := HX.allT_of m4 19 rfl
  have noxW : PySem.W.findIn K (.ref (A_CxW K)) "value" = some none := HX.allT_of m4 20 rfl
  have tixW : PySem.W.typeIn K (.ref (A_fIW K)) = some (.type "function") := HX.allT_of m4 21 rfl
  have gaxW : PySem.W.findIn K (.ref (A_CxW K)) "__getattribute__" = some (some (.builtin "BaseException.__getattribute__")) := HX.allT_of m4 22 rfl
  have ggxW : PySem.W.findIn K (.ref (A_CxW K)) "__getattr__" = some none := HX.allT_of m4 23 rfl
  have hdxW : PySem.W.hasDictIn K (A_CxW K) = true := HX.allT_of m4 24 rfl
  have acxW : PySem.W.findIn K (.ref (A_CxW K)) "__class__" = some (some (.builtin "object.__class__")) := HX.allT_of m5 0 rfl
  have obxW : PySem.W.mroIn K (A_CxW K) (.type "object") = some true := HX.allT_of m5 1 rfl
  obtain ⟨_, _, _, _, _, _, _, _, _, _, _, _, _, _, xxM⟩ := HX.excB_of (HX.allT_at m5 (i := 2) rfl)
  have saxM : PySem.W.findIn K (.ref (A_CxM K)) "__setattr__" = some (some (.builtin "object.__setattr__")) := HX.allT_of m5 3 rfl
  have ebxM : PySem.W.subIn K (.ref (A_CxM K)) (.type "BaseException") = some true := HX.allT_of m5 4 rfl
  have tyxM : PySem.W.typeIn K (.ref (A_CxM K)) = some (.type "type") := HX.allT_of m5 5 rfl
  have kpxM : PySem.W.keepIn K (.ref (A_CxM K)) = true := HX.allT_of m5 6 rfl
  have noxM : PySem.W.findIn K (.ref (A_CxM K)) "value" = some none := HX.allT_of m5 7 rfl
  have tixM : PySem.W.typeIn K (.ref (A_fIM K)) = some (.type "function") := HX.allT_of m5 8 rfl
  have gaxM : PySem.W.findIn K (.ref (A_CxM K)) "__getattribute__" = some (some (.builtin "BaseException.__getattribute__")) := HX.allT_of m5 9 rfl
  have ggxM : PySem.W.findIn K (.ref (A_CxM K)) "__getattr__" = some none := HX.allT_of m5 10 rfl
  have hdxM : PySem.W.hasDictIn K (A_CxM K) = true := HX.allT_of m5 11 rfl
  have acxM : PySem.W.findIn K (.ref (A_CxM K)) "__class__" = some (some (.builtin "object.__class__")) := HX.allT_of m5 12 rfl
  have obxM : PySem.W.mroIn K (A_CxM K) (.type "object") = some true := HX.allT_of m5 13 rfl
  obtain ⟨_, _, _, _, _, _, _, _, _, _, _, _, _, _, xxT⟩ := HX.excB_of (HX.allT_at m5 (i := 14) rfl)
  have saxT : PySem.W.findIn K (.ref (A_CxT K)) "__setattr__" = some (some (.builtin "object.__setattr__")) := HX.allT_of m5 15 rfl
  have ebxT : PySem.W.subIn K (.ref (A_CxT K)) (.type "BaseException") = some true := HX.allT_of m5 16 rfl
  have tyxT : PySem.W.typeIn K (.ref (A_CxT K)) = some (.type "type") := HX.allT_of m5 17 rfl
  have kpxT : PySem.W.keepIn K (.ref (A_CxT K)) = true := HX.allT_of m5 18 rfl
  have noxT : PySem.W.findIn K (.ref (A_CxT K)) "limit" = some none := HX.allT_of m5 19 rfl
  have tixT : PySem.W.typeIn K (.ref (A_fIT K)) = some (.type "function") := HX.allT_of m5 20 rfl
  have gaxT : PySem.W.findIn K (.ref (A_CxT K)) "__getattribute__" = some (some (.builtin "BaseException.__getattribute__")) := HX.allT_of m5 21 rfl
  have ggxT : PySem.W.findIn K (.ref (A_CxT K)) "__getattr__" = some none := HX.allT_of m5 22 rfl
  have hdxT : PySem.W.hasDictIn K (A_CxT K) = true := HX.allT_of m5 23 rfl
  have acxT : PySem.W.findIn K (.ref (A_CxT K)) "__class__" = some (some (.builtin "object.__class__")) := HX.allT_of m5 24 rfl
  have obxT : PySem.W.mroIn K (A_CxT K) (.type "object") = some true := HX.allT_of m6 0 rfl
  obtain ⟨_, _, _, _, _, _, _, _, _, _, _, _, _, _, xxG⟩ := HX.excB_of (HX.allT_at m6 (i := 1) rfl)
  have saxG : PySem.W.findIn K (.ref (A_CxG K)) "__setattr__" = some (some (.builtin "object.__setattr__")) := HX.allT_of m6 2 rfl
  have ebxG : PySem.W.subIn K (.ref (A_CxG K)) (.type "BaseException") = some true := HX.allT_of m6 3 rfl
  have tyxG : PySem.W.typeIn K (.ref (A_CxG K)) = some (.type "type") := HX.allT_of m6 4 rfl
  have kpxG : PySem.W.keepIn K (.ref (A_CxG K)) = true := HX.allT_of m6 5 rfl
  have noxG : PySem.W.findIn K (.ref (A_CxG K)) "value" = some none := HX.allT_of m6 6 rfl
  have tixG : PySem.W.typeIn K (.ref (A_fIG K)) = some (.type "function") := HX.allT_of m6 7 rfl
  have gaxG : PySem.W.findIn K (.ref (A_CxG K)) "__getattribute__" = some (some (.builtin "BaseException.__getattribute__")) := HX.allT_of m6 8 rfl
  have ggxG : PySem.W.findIn K (.ref (A_CxG K)) "__getattr__" = some none := HX.allT_of m6 9 rfl
  have hdxG : PySem.W.hasDictIn K (A_CxG K) = true := HX.allT_of m6 10 rfl
  have acxG : PySem.W.findIn K (.ref (A_CxG K)) "__class__" = some (some (.builtin "object.__class__")) := HX.allT_of m6 11 rfl
  have obxG : PySem.W.mroIn K (A_CxG K) (.type "object") = some true := HX.allT_of m6 12 rfl
  obtain ⟨_, _, _, _, _, _, _, _, _, _, _, _, _, _, xxNb⟩ := HX.excB_of (HX.allT_at m6 (i := 13) rfl)
  have saxNb : PySem.W.findIn K (.ref (A_CxNb K)) "__setattr__" = some (some (.builtin "object.__setattr__")) := HX.allT_of m6 14 rfl
  have ebxNb : PySem.W.subIn K (.ref (A_CxNb K)) (.type "BaseException") = some true := HX.allT_of m6 15 rfl
  have tyxNb : PySem.W.typeIn K (.ref (A_CxNb K)) = some (.type "type") := HX.allT_of m6 16 rfl
  have kpxNb : PySem.W.keepIn K (.ref (A_CxNb K)) = true := HX.allT_of m6 17 rfl
  have noxNb : PySem.W.findIn K (.ref (A_CxNb K)) "value" = some none := HX.allT_of m6 18 rfl
  have tixNb : PySem.W.typeIn K (.ref (A_fINb K)) = some (.type "function") := HX.allT_of m6 19 rfl
  have gaxNb : PySem.W.findIn K (.ref (A_CxNb K)) "__getattribute__" = some (some (.builtin "BaseException.__getattribute__")) := HX.allT_of m6 20 rfl
  have ggxNb : PySem.W.findIn K (.ref (A_CxNb K)) "__getattr__" = some none := HX.allT_of m6 21 rfl
  have hdxNb : PySem.W.hasDictIn K (A_CxNb K) = true := HX.allT_of m6 22 rfl
  have acxNb : PySem.W.findIn K (.ref (A_CxNb K)) "__class__" = some (some (.builtin "object.__class__")) := HX.allT_of m6 23 rfl
  have obxNb : PySem.W.mroIn K (A_CxNb K) (.type "object") = some true := HX.allT_of m6 24 rfl
  obtain ⟨_, nML⟩ := HX.intB_of (HX.allT_at m7 (i := 0) rfl)
  obtain ⟨_, nMM⟩ := HX.intB_of (HX.allT_at m7 (i := 1) rfl)
  obtain ⟨_, nMR⟩ := HX.intB_of (HX.allT_at m7 (i := 2) rfl)
  obtain ⟨_, nLO⟩ := HX.strB_of (HX.allT_at m7 (i := 3) rfl)
  obtain ⟨_, nMA⟩ := HX.strB_of (HX.allT_at m7 (i := 4) rfl)
  have zlen : PySem.W.nsIn K mainGlobals "len" = some none := HX.allT_of m7 5 rfl
  have zint : PySem.W.nsIn K mainGlobals "int" = some none := HX.allT_of m7 6 rfl
  have zabs : PySem.W.nsIn K mainGlobals "abs" = some none := HX.allT_of m7 7 rfl
  have zdivmod : PySem.W.nsIn K mainGlobals "divmod" = some none := HX.allT_of m7 8 rfl
  have zisinstance : PySem.W.nsIn K mainGlobals "isinstance" = some none := HX.allT_of m7 9 rfl
  have zbool : PySem.W.nsIn K mainGlobals "bool" = some none := HX.allT_of m7 10 rfl
  have zstr : PySem.W.nsIn K mainGlobals "str" = some none := HX.allT_of m7 11 rfl
  have zrange : PySem.W.nsIn K mainGlobals "range" = some none := HX.allT_of m7 12 rfl
  have zall : PySem.W.nsIn K mainGlobals "all" = some none := HX.allT_of m7 13 rfl
  have zmax : PySem.W.nsIn K mainGlobals "max" = some none := HX.allT_of m7 14 rfl
  have zmin : PySem.W.nsIn K mainGlobals "min" = some none := HX.allT_of m7 15 rfl
  have zzip : PySem.W.nsIn K mainGlobals "zip" = some none := HX.allT_of m7 16 rfl
  have ztuple : PySem.W.nsIn K mainGlobals "tuple" = some none := HX.allT_of m7 17 rfl
  have zenumerate : PySem.W.nsIn K mainGlobals "enumerate" = some none := HX.allT_of m7 18 rfl
  have zsum : PySem.W.nsIn K mainGlobals "sum" = some none := HX.allT_of m7 19 rfl
  have zrepr : PySem.W.nsIn K mainGlobals "repr" = some none := HX.allT_of m7 20 rfl
  have zValueError : PySem.W.nsIn K mainGlobals "ValueError" = some none := HX.allT_of m7 21 rfl
  have pg : PySem.W.plainGet K (A_CB K) Str.empty = true := HX.allT_of m7 22 rfl
  have hd : PySem.W.hasDictIn K (A_CB K) = true := HX.allT_of m7 23 rfl
  have po : PySem.W.plainOver K (A_CB K) = true := HX.allT_of m7 24 rfl
  have sa : PySem.W.findIn K (.ref (A_CB K)) "__setattr__" = some (some (.builtin "object.__setattr__")) := HX.allT_of m8 0 rfl
  have mk : PySem.W.makesIn K (A_CB K) = true := HX.allT_of m8 1 rfl
  have kc : PySem.W.keepIn K (.ref (A_CB K)) = true := HX.allT_of m8 2 rfl
  have pgH : PySem.W.plainGet K (A_CH K) Str.empty = true := HX.allT_of m8 3 rfl
  have hdH : PySem.W.hasDictIn K (A_CH K) = true := HX.allT_of m8 4 rfl
  have poH : PySem.W.plainOver K (A_CH K) = true := HX.allT_of m8 5 rfl
  have saH : PySem.W.findIn K (.ref (A_CH K)) "__setattr__" = some (some (.builtin "object.__setattr__")) := HX.allT_of m8 6 rfl
  have mkH : PySem.W.makesIn K (A_CH K) = true := HX.allT_of m8 7 rfl
  have kcH : PySem.W.keepIn K (.ref (A_CH K)) = true := HX.allT_of m8 8 rfl
  have pgM : PySem.W.plainGet K (A_CM K) Str.empty = true := HX.allT_of m8 9 rfl
  have hdM : PySem.W.hasDictIn K (A_CM K) = true := HX.allT_of m8 10 rfl
  have poM : PySem.W.plainOver K (A_CM K) = true := HX.allT_of m8 11 rfl
  have saM : PySem.W.findIn K (.ref (A_CM K)) "__setattr__" = some (some (.builtin "object.__setattr__")) := HX.allT_of m8 12 rfl
  have mkM : PySem.W.makesIn K (A_CM K) = true := HX.allT_of m8 13 rfl
  have kcM : PySem.W.keepIn K (.ref (A_CM K)) = true := HX.allT_of m8 14 rfl
  have pgG : PySem.W.plainGet K (A_CG K) Str.empty = true := HX.allT_of m8 15 rfl
  have hdG : PySem.W.hasDictIn K (A_CG K) = true := HX.allT_of m8 16 rfl
  have poG : PySem.W.plainOver K (A_CG K) = true := HX.allT_of m8 17 rfl
  have saG : PySem.W.findIn K (.ref (A_CG K)) "__setattr__" = some (some (.builtin "object.__setattr__")) := HX.allT_of m8 18 rfl
  have mkG : PySem.W.makesIn K (A_CG K) = true := HX.allT_of m8 19 rfl
  have kcG : PySem.W.keepIn K (.ref (A_CG K)) = true := HX.allT_of m8 20 rfl
  have naL : PySem.W.findIn K (.ref (A_CB K)) "letters" = some none := HX.allT_of m8 21 rfl
  have naN : PySem.W.findIn K (.ref (A_CB K)) "length" = some none := HX.allT_of m8 22 rfl
  have naS : PySem.W.findIn K (.ref (A_CB K)) "size" = some none := HX.allT_of m8 23 rfl
  have ac : PySem.W.findIn K (.ref (A_CB K)) "__class__" = some (some (.builtin "object.__class__")) := HX.allT_of m8 24 rfl
  have ob : PySem.W.mroIn K (A_CB K) (.type "object") = some true := HX.allT_of m9 0 rfl
  have kitO : PySem.W.kitOne K (.ref (A_CB K)) (.ref (A_CB K)) = some true := HX.allT_of m9 1 rfl
  have nbB : PySem.W.findIn K (.ref (A_CH K)) "board" = some none := HX.allT_of m9 2 rfl
  have nbR : PySem.W.findIn K (.ref (A_CH K)) "rows" = some none := HX.allT_of m9 3 rfl
  have nmH : PySem.W.findIn K (.ref (A_CM K)) "history" = some none := HX.allT_of m9 4 rfl
  have nmP : PySem.W.findIn K (.ref (A_CM K)) "past" = some none := HX.allT_of m9 5 rfl
  have ngB : PySem.W.findIn K (.ref (A_CG K)) "board" = some none := HX.allT_of m9 6 rfl
  have ngS : PySem.W.findIn K (.ref (A_CG K)) "strict" = some none := HX.allT_of m9 7 rfl
  have ngH : PySem.W.findIn K (.ref (A_CG K)) "history" = some none := HX.allT_of m9 8 rfl
  have ngZ : PySem.W.findIn K (.ref (A_CG K)) "busy" = some none := HX.allT_of m9 9 rfl
  have ngP : PySem.W.findIn K (.ref (A_CG K)) "past" = some none := HX.allT_of m9 10 rfl
  have pgCW : PySem.W.plainGet K (A_CW K) Str.empty = true := HX.allT_of m9 11 rfl
  have hdCW : PySem.W.hasDictIn K (A_CW K) = true := HX.allT_of m9 12 rfl
  have poCW : PySem.W.plainOver K (A_CW K) = true := HX.allT_of m9 13 rfl
  have saCW : PySem.W.findIn K (.ref (A_CW K)) "__setattr__" = some (some (.builtin "object.__setattr__")) := HX.allT_of m9 14 rfl
  have mkiCW : PySem.W.makesIn K (A_CW K) = true := HX.allT_of m9 15 rfl
  have kcCW : PySem.W.keepIn K (.ref (A_CW K)) = true := HX.allT_of m9 16 rfl
  have naCWallowed : PySem.W.findIn K (.ref (A_CW K)) "allowed" = some none := HX.allT_of m9 17 rfl
  have naCWcounted : PySem.W.findIn K (.ref (A_CW K)) "counted" = some none := HX.allT_of m9 18 rfl
  have naCWleast : PySem.W.findIn K (.ref (A_CW K)) "least" = some none := HX.allT_of m9 19 rfl
  have naCWgreatest : PySem.W.findIn K (.ref (A_CW K)) "greatest" = some none := HX.allT_of m9 20 rfl
  have naCWknown : PySem.W.findIn K (.ref (A_CW K)) "known" = some none := HX.allT_of m9 21 rfl
  have pgCD : PySem.W.plainGet K (A_CD K) Str.empty = true := HX.allT_of m9 22 rfl
  have hdCD : PySem.W.hasDictIn K (A_CD K) = true := HX.allT_of m9 23 rfl
  have poCD : PySem.W.plainOver K (A_CD K) = true := HX.allT_of m9 24 rfl
  have saCD : PySem.W.findIn K (.ref (A_CD K)) "__setattr__" = some (some (.builtin "object.__setattr__")) := HX.allT_of m10 0 rfl
  have mkiCD : PySem.W.makesIn K (A_CD K) = true := HX.allT_of m10 1 rfl
  have kcCD : PySem.W.keepIn K (.ref (A_CD K)) = true := HX.allT_of m10 2 rfl
  have naCDallowed : PySem.W.findIn K (.ref (A_CD K)) "allowed" = some none := HX.allT_of m10 3 rfl
  have naCDleast : PySem.W.findIn K (.ref (A_CD K)) "least" = some none := HX.allT_of m10 4 rfl
  have naCDgreatest : PySem.W.findIn K (.ref (A_CD K)) "greatest" = some none := HX.allT_of m10 5 rfl
  have bxNo : PySem.W.excIn K (A_CNo K) [.type "LookupError", .type "Exception", .type "BaseException", .type "object"] "LookupError.__new__" = true := HX.allT_of m10 6 rfl
  have bkNo : PySem.W.keepIn K (.ref (A_CNo K)) = true := HX.allT_of m10 7 rfl
  have bbNo : PySem.W.subIn K (.ref (A_CNo K)) (.type "BaseException") = some true := HX.allT_of m10 8 rfl
  have btNo : PySem.W.typeIn K (.ref (A_CNo K)) = some (.type "type") := HX.allT_of m10 9 rfl
  have bxBu : PySem.W.excIn K (A_CBu K) [.type "LookupError", .type "Exception", .type "BaseException", .type "object"] "LookupError.__new__" = true := HX.allT_of m10 10 rfl
  have bkBu : PySem.W.keepIn K (.ref (A_CBu K)) = true := HX.allT_of m10 11 rfl
  have bbBu : PySem.W.subIn K (.ref (A_CBu K)) (.type "BaseException") = some true := HX.allT_of m10 12 rfl
  have btBu : PySem.W.typeIn K (.ref (A_CBu K)) = some (.type "type") := HX.allT_of m10 13 rfl
  have xB : PySem.W.exmOne K (.ref (A_CxNb K)) (.ref (A_CxNb K)) = some true := HX.allT_of m10 14 rfl
  have kNi : PySem.W.kitOne K (.ref (A_CxNb K)) (.ref (A_CIn K)) = some true := HX.allT_of m10 15 rfl
  have kNs : PySem.W.kitOne K (.ref (A_CxNb K)) (.ref (A_CSt K)) = some false := HX.allT_of m10 16 rfl
  have kNz : PySem.W.kitOne K (.ref (A_CxNb K)) (.ref (A_CSi K)) = some false := HX.allT_of m10 17 rfl
  have kNv : PySem.W.kitOne K (.ref (A_CxNb K)) (.type "ValueError") = some true := HX.allT_of m10 18 rfl
  have pob : PySem.W.mroIn K (A_CG K) (.type "object") = some true := HX.allT_of m10 19 rfl
  have peq : PySem.W.findIn K (.ref (A_CG K)) "__eq__" = some (some (.builtin "object.__eq__")) := HX.allT_of m10 20 rfl
  have pne : PySem.W.findIn K (.ref (A_CG K)) "__ne__" = some (some (.builtin "object.__ne__")) := HX.allT_of m10 21 rfl
  have ptN : PySem.W.subIn K (.ref (A_CG K)) (.type "NoneType") = some false := HX.allT_of m10 22 rfl
  have ptS : PySem.W.subIn K (.ref (A_CG K)) (.type "str") = some false := HX.allT_of m10 23 rfl
  have ptsS : PySem.W.subIn K (.type "str") (.ref (A_CG K)) = some false := HX.allT_of m10 24 rfl
  have nd1 : (A_CB K) ≠ (A_CG K) := HX.allT_of m11 0 rfl
  have nd2 : (A_CH K) ≠ (A_CG K) := HX.allT_of m11 1 rfl
  have nn1 : PySem.W.notFirst K (A_CB K) (.ref (A_CG K)) = true := HX.allT_of m11 2 rfl
  have nn2 : PySem.W.notFirst K (A_CH K) (.ref (A_CG K)) = true := HX.allT_of m11 3 rfl
  have ns1 : PySem.W.subIn K (.ref (A_CB K)) (.ref (A_CG K)) = some false := HX.allT_of m11 4 rfl
  have ns2 : PySem.W.subIn K (.ref (A_CH K)) (.ref (A_CG K)) = some false := HX.allT_of m11 5 rfl
  have kk1 : PySem.W.kitOne K (.ref (A_CG K)) (.ref (A_CB K)) = some false := HX.allT_of m11 6 rfl
  have kk2 : PySem.W.kitOne K (.ref (A_CG K)) (.ref (A_CH K)) = some false := HX.allT_of m11 7 rfl
  have kk3 : PySem.W.kitOne K (.ref (A_CH K)) (.ref (A_CB K)) = some false := HX.allT_of m11 8 rfl
  have ktNoneType : PySem.W.kitOne K (.type "NoneType") (.ref (A_CB K)) = some false := HX.allT_of m11 9 rfl
  have ktstr : PySem.W.kitOne K (.type "str") (.ref (A_CB K)) = some false := HX.allT_of m11 10 rfl
  have kttuple : PySem.W.kitOne K (.type "tuple") (.ref (A_CB K)) = some false := HX.allT_of m11 11 rfl
  have ktlist : PySem.W.kitOne K (.type "list") (.ref (A_CB K)) = some false := HX.allT_of m11 12 rfl
  have ktint : PySem.W.kitOne K (.type "int") (.ref (A_CB K)) = some false := HX.allT_of m11 13 rfl
  have ktbool : PySem.W.kitOne K (.type "bool") (.ref (A_CB K)) = some false := HX.allT_of m11 14 rfl
  have ktdict : PySem.W.kitOne K (.type "dict") (.ref (A_CB K)) = some false := HX.allT_of m11 15 rfl
  have acG : PySem.W.findIn K (.ref (A_CG K)) "__class__" = some (some (.builtin "object.__class__")) := HX.allT_of m11 16 rfl
  have acH : PySem.W.findIn K (.ref (A_CH K)) "__class__" = some (some (.builtin "object.__class__")) := HX.allT_of m11 17 rfl
  have obH : PySem.W.mroIn K (A_CH K) (.type "object") = some true := HX.allT_of m11 18 rfl
  have kitH : PySem.W.kitOne K (.ref (A_CH K)) (.ref (A_CH K)) = some true := HX.allT_of m11 19 rfl
  have neH : PySem.W.findIn K (.ref (A_CH K)) "__ne__" = some (some (.builtin "object.__ne__")) := HX.allT_of m11 20 rfl
  have nbH : PySem.W.findIn K (.ref (A_CH K)) "__bool__" = some none := HX.allT_of m11 21 rfl
  have kTH : PySem.W.kitOne K (.type "tuple") (.ref (A_CH K)) = some false := HX.allT_of m11 22 rfl
  have nfTH : PySem.W.notFirst K (A_CH K) (.type "tuple") = true := HX.allT_of m11 23 rfl
  have neC : PySem.W.findIn K (.ref (A_CB K)) "__ne__" = some (some (.builtin "object.__ne__")) := HX.allT_of m11 24 rfl
  have nbG : PySem.W.findIn K (.ref (A_CG K)) "__bool__" = some none := HX.allT_of m12 0 rfl
  exact all_mk X G hfa gCB gCH gCW gCD gCM gCG gCNo gCBu gCIn gCSt gCSi gCxW gCxM gCxT gCxG gCxNb aB lB cB kB aD lD cD kD aOn lOn cOn kOn aS lS cS kS aTe lTe cTe kTe aRp lRp cRp kRp aCl lCl cCl kCl aSto lSto cSto kSto aSh lSh cSh kSh aRf lRf cRf kRf aR lR cR kR aW lW cW kW aA lA cA kA aCn lCn cCn kCn aOv lOv cOv kOv aIw lIw cIw kIw aAm lAm cAm kAm aIr lIr cIr kIr aCw lCw cCw kCw aCm lCm cCm kCm aCb lCb cCb kCb aCr lCr cCr kCr aMo lMo cMo kMo aWc lWc cWc kWc aWn lWn cWn kWn aWg lWg cWg kWg aOd lOd cOd kOd aHw lHw cHw kHw aL lL cL kL aI iI lI cI kI aHi iHi lHi cHi kHi aTh iTh lTh cTh kTh aFi iFi lFi cFi kFi aMm iMm lMm cMm kMm aGa iGa lGa cGa kGa aGf iGf lGf cGf kGf aGr iGr lGr cGr kGr aGv iGv lGv cGv kGv aGi iGi lGi cGi kGi aGl iGl lGl cGl kGl aGq iGq lGq cGq kGq aHq iHq lHq cHq kHq aHe iHe lHe cHe kHe aBq iBq lBq cBq kBq aBe iBe lBe cBe kBe aXi iXi lXi cXi kXi aXn iXn lXn cXn kXn aXu iXu lXu cXu kXu aXw iXw lXw cXw kXw aXf iXf lXf cXf kXf aXa iXa lXa cXa kXa aXm iXm lXm cXm kXm aYi iYi lYi cYi kYi aYr iYr lYr cYr kYr aYk iYk lYk cYk kYk aYl iYl lYl cYl kYl aYa iYa lYa cYa kYa aYm iYm lYm cYm kYm aIW iIW lIW cIW kIW aIM iIM lIM cIM kIM aIT iIT lIT cIT kIT aIG iIG lIG cIG kIG aINb iINb lINb cINb kINb gtc tkc xxW saxW ebxW tyxW kpxW noxW tixW gaxW ggxW hdxW acxW obxW xxM saxM ebxM tyxM kpxM noxM tixM gaxM ggxM hdxM acxM obxM xxT saxT ebxT tyxT kpxT noxT tixT gaxT ggxT hdxT acxT obxT xxG saxG ebxG tyxG kpxG noxG tixG gaxG ggxG hdxG acxG obxG xxNb saxNb ebxNb tyxNb kpxNb noxNb tixNb gaxNb ggxNb hdxNb acxNb obxNb nML nMM nMR nLO nMA zlen zint zabs zdivmod zisinstance zbool zstr zrange zall zmax zmin zzip ztuple zenumerate zsum zrepr zValueError pg hd po sa mk kc pgH hdH poH saH mkH kcH pgM hdM poM saM mkM kcM pgG hdG poG saG mkG kcG naL naN naS ac ob kitO nbB nbR nmH nmP ngB ngS ngH ngZ ngP pgCW hdCW poCW saCW mkiCW kcCW naCWallowed naCWcounted naCWleast naCWgreatest naCWknown pgCD hdCD poCD saCD mkiCD kcCD naCDallowed naCDleast naCDgreatest bxNo bkNo bbNo btNo bxBu bkBu bbBu btBu xB kNi kNs kNz kNv pob peq pne ptN ptS ptsS nd1 nd2 nn1 nn2 ns1 ns2 kk1 kk2 kk3 ktNoneType ktstr kttuple ktlist ktint ktbool ktdict acG acH obH kitH neH nbH kTH nfTH neC nbG qGi
end Gm
open PySem PySem.W PySem.Calls PyProof.Rows
theorem PySem.Challenge.cw_guessmarks_k61_games_made_holds : PySem.Challenge.rw_guessmarks_k61_games_made.Holds := by
  w_on; o_law
  refine HandSHeadRun.head_any (r := OpenLaw.row PySem.Challenge.rw_guessmarks_k61_games_made) (q := view (OpenLaw.row PySem.Challenge.rw_guessmarks_k61_games_made).prog [67]) (H := Gm.hkH) (ob := Gm.obH) (M := 12000) (loose := Gm.namesH) (d := HandSHeadRun.topDef (OpenLaw.row PySem.Challenge.rw_guessmarks_k61_games_made).prog 67) (kwd := []) Gm.obH_eq
    (by kernel_rfl) (fun s => by kernel_rfl) Gm.runH (by kernel_rfl) (by kernel_rfl) (by kernel_rfl) (by rfl) (by first | assumption | decide +kernel) (by decide +kernel) ⟨rfl, rfl, rfl, rfl, rfl, by decide +kernel⟩ ?hw ?hc
  case hw => w_witness2
  case hc =>
    refine L2.walkGE (l := PySem.Challenge.rw_guessmarks_k61_games_made) (n := 63) (k := 27) (x := "_law_script") rfl (by decide) (by kernel_rfl) ⟨rfl, by decide, by decide⟩ (by first | kernel_rfl | decide +kernel) ?F
    intro w mg fa h Y G hmg0
    obtain ⟨K, KX, c⟩ := Y
    have hmg : mg ("law" : PySem.Str) = some (.ref fa) := by
      have e : (HandSHeadRun.topDef (OpenLaw.row PySem.Challenge.rw_guessmarks_k61_games_made).prog 67).name = ("law" : PySem.Str) := by kernel_rfl
      rw [← e]
      exact hmg0
    obtain ⟨fd, cs, hC, hb, hF⟩ := Gm.of_says (P := (PySem.Challenge.rw_guessmarks_k61_games_made).prog) (w := w) KX G hmg c
    exact ⟨K, fd, cs, _, KX, hC, hb, fun H a ns hl hT hS => ⟨hT, a, ns, rfl, hS, hl, fun _ => rfl⟩, hF⟩

