import PyProof.Rows.All
import Wide.All
import OpenK.AllK
import Wide.FinOn
import KE.KCallOwn
import PyProof.InstEq
import HandS.ForMost
import HandS.OwnEq
import HandS.IsInst
import HandS.Walk
import HandS.Codes
import HandS.FStr
import KE.GoesMore
import KE.GoesZip
import HandS.Zip
import HandS.SetFor
import KE.GoesEnum
import HandS.Star
import HandS.Defaults
import PyProof.ReprRoads
import HandS.Lambda
import HandS.EndTab
import HandS.Exc
import KE.KExcIs
import HandS.ExcInit
import HandS.ExcField
import HandS.WordsExc
import PyProof.ExcBaseAll.ArithmeticError
import PyProof.ExcBaseAll.LookupError
import HandS.MakeKwOnly
import HandS.ExcValue
import HandS.ExcIs
import OpenK.KOps
import PyProof.Conv_bool
import PyProof.Truth
import PyProof.Rows.StrFirst
import PyProof.Rows.StrCountLaw
import HandS.SortKw
import KE.DataMinMax
import PyProof.Rows.SetFrom
import HandS.Strs
import HandS.DictTup
import HandS.ListItems
import HandS.Conv
import KE.SortData
import KE.KDictZip
import HandS.Dict
import HandS.TupAny
import HandS.Flow
import HandS.DictComp
import HandS.Small
import HandS.TupMul
import HandS.Iter
import PyProof.ReprNest
import PyProof.ReprReads
import HandS.Head2
import HandS.HeadHook4
import PySem.Challenge.RW_guessmarks_k18_lists_refused
set_option Elab.async false
set_option linter.all false
set_option maxRecDepth 100000
set_option maxHeartbeats 8000000
/-! defs that are called where nothing is being shown, so that they may ask for the repr of lists -/
namespace L2
open PySem PySem.Spec PyProof.Rows
/-- FnOk for calls where no repr is under way -/
structure FnG (P : Program) (w : World) (K : PySem.W.Frag) (mg : Str → Option Value) (base : Heap) (CX : CXT) (k : Nat) (f : Addr) (fd : FuncData) (ps : List Str) (sp : Sp) : Prop where
  many : ∀ {vs H Q E}, sp vs H Q E → vs.length = ps.length
  goes : ∀ {A : Around} {outer : List Env} {s : Shared} {H : Hp} {args : Args} {us : List Value} {vs : List V} {Q : VK} {E : XK}, A.guards = some [] → Room k A → Env0 P w K mg base A outer s H →
    BindsTo s fd args (ps.zip us) → Vals vs us → sp vs H Q E → codeAny (model P w) A (.call (.ref f) args) (CR CX outer P w H s Q E) s
theorem FnOk.toG {P : Program} {w : World} {K : PySem.W.Frag} {mg : Str → Option Value} {base : Heap} {CX : CXT} {k : Nat} {f : Addr} {fd : FuncData} {ps : List Str} {sp : Sp} (F : FnOk P w K mg base CX k f fd ps sp) : FnG P w K mg base CX k f fd ps sp :=
  ⟨fun h => F.len _ _ _ _ h, fun _ hr e b r h => F.run _ _ _ _ _ _ _ _ _ hr e b r h⟩
theorem Fun.okG {P : Program} {w : World} {K : PySem.W.Frag} {mg : Str → Option Value} {base : Heap} {x qual : Str} {st : Stmt} {f : Addr} {fd : FuncData} {N ps : List Str} {k : Nat} {sp : Sp} (F : Fun K x qual st f fd) (S : FnScope N ps (defScope st))
    (many : ∀ vs H Q E, sp vs H Q E → vs.length = ps.length)
    (body : ∀ (cdv : Value) (A : Around) (outer : List Env) (s : Shared) (H : Hp) (vs : List V) (Q : VK) (E : XK), A.guards = some [] → Room k (A.deeper (envOfC qual (defScope st) s.heap.objs.size f cdv)) → sp vs H Q E →
      ∃ t, PSs (cxOf CX0 P w K mg base N qual (defScope st) f cdv A outer s H E).nox (defBody st) t ∧ t { nx := fun _ H' => Q .non H', rt := Q } (start N vs) H) : FnG P w K mg base CX0 (k + 1) f fd ps sp := by
  obtain ⟨oc, od, kV, doc, pm, an, cdv, ct, osl, rfl, lk, hcd⟩ := F.ex
  refine ⟨fun h => many _ _ _ _ h, fun {A outer s H args us vs Q E} g hr e b r h => ?_⟩
  refine LamX.run_ofS lk hcd S hr e b r (many _ _ _ _ h) fun hr' => ?_
  obtain ⟨t, ht, q⟩ := body cdv A outer s H vs Q E g hr' h
  exact ⟨t, ht.nox, q⟩
section
variable {X : Cx} {CX : CXT} {k : Nat} {f : Addr} {fd : FuncData} {ps : List Str} {sp : Sp} {E : XK} {x : Str} {p pos : Pos} {e : Expr} {es : List Expr} {t : TA}
theorem pe_callG (F : FnG X.prog X.w X.K X.mg X.base CX k f fd ps sp) (g : X.A.guards = some []) (hr : Room k X.A) (hg : Gl X x) (hm : X.mg x = some (.ref f)) (hk : PySem.W.keepIn X.K (.ref f) = true) (hb : Binds X.K fd ps []) (hx : Passes CX X E) (ha : PA X (e :: es) t)
    (hdb : (x == ("__debug__" : Str)) = false := by decide) (he : starEach (e :: es) X.env = (false, eval e X.env) :: starEach es X.env := by rfl) (hpl : (backTo pos (starEach es X.env)).any (·.1) = false := by rfl) :
    PE X (.Call (.Name x p) (e :: es) [] pos) (tCall sp [] E t) := by
  constructor
  intro pins s σ H Q I h
  apply wpAny_Call_Name_kw
  apply ld_glob I hg hm _ hdb
  refine PySem.W.callWith_K (h₀ := X.base) I.ok.mod.kin hk (thn (ha.run pos pins s σ H _ I h) fun us s1 hh => ?_) he hpl
  obtain ⟨vs, H1, I1, r, q⟩ := hh
  refine ⟨I1.kIn, wpAny_call (codeAny_mono (F.goes g hr I1.env0 (us := us) ?_ r (by simpa using q)) fun r s' hq => ?_)⟩
  · have hl : (us ++ []).length = ps.length := by
      rw [List.append_nil, ← r.length]
      exact F.many (by simpa using q)
    simpa using hb s1 us I1.kIn hl
  · match r, hq with
    | .error e, hq => exact hx pins σ H1 s1 e s' I1 hq
    | .ok (.ret u), hq => exact I1.after hq
end
/-! ### repr of data -/
mutual
/-- as Dp, with the empty dict besides -/
inductive Dq (K : PySem.W.Frag) (H : Hp) : V → PyData → Prop
  | non : Dq K H .non .none
  | bl (b : Bool) : Dq K H (.bl b) (.bool b)
  | int (i : Int) : Dq K H (.int i) (.int i)
  | str (x : Str) : Dq K H (.str x) (.str x)
  | lst {a : Addr} {xs : List V} {ds : List PyData} : SqL K H a xs → DqAll K H xs ds → Dq K H (.ref a) (.list ds)
  | tup {a : Addr} {xs : List V} {ds : List PyData} : SqT K H a xs → DqAll K H xs ds → Dq K H (.ref a) (.tuple ds)
  | dic {a : Addr} : H a = some (.dK []) → Dq K H (.ref a) (.dict [])
inductive DqAll (K : PySem.W.Frag) (H : Hp) : List V → List PyData → Prop
  | nil : DqAll K H [] []
  | cons {v : V} {vs : List V} {d : PyData} {ds : List PyData} : Dq K H v d → DqAll K H vs ds → DqAll K H (v :: vs) (d :: ds)
end
section
variable {X : Cx} {pins : List (Addr × Obj)} {σ : St} {H : Hp} {s : Shared}
theorem no_mods {a : Addr} {o : Obj} {vs : Array Value} {n : Nat} {h : Heap} {mm : Str → Option Value} (hm : h.Ns sysModules mm) (ho : h.get? a = some o) (hd : o.data = .seq vs n) : sysModules ≠ a := fun z => by
  obtain ⟨o', es, ep, e, d, _⟩ := hm
  rw [z, ho] at e
  cases e
  rw [hd] at d
  cases d
mutual
theorem Dq.reads {mm : Str → Option Value} (hm : s.heap.Ns sysModules mm) (I : Inv X pins σ H s) : ∀ (d : PyData) (v : V) (u : Value), Dq X.K H v d → RelV v u → ∃ as, Reads s.heap u d as ∧ sysModules ∉ as
  | .none, _, _, h, r => by
    cases h; cases r
    exact ⟨_, .none, List.not_mem_nil⟩
  | .bool b, _, _, h, r => by
    cases h; cases r
    exact ⟨_, .bool b, List.not_mem_nil⟩
  | .int i, _, _, h, r => by
    cases h; obtain ⟨t, rfl⟩ := r
    exact ⟨_, .int i t, List.not_mem_nil⟩
  | .str x, _, _, h, r => by
    cases h; obtain ⟨t, rfl⟩ := r
    exact ⟨_, .str x t, List.not_mem_nil⟩
  | .list ds, _, _, h, r => by
    cases h with
    | lst hs ha =>
      cases r
      obtain ⟨its, rv, ⟨o, n, ho, hc, _, hd⟩, _⟩ := I.list hs
      obtain ⟨as, hr, nm⟩ := Dq.readsAll hm I ds _ its ha rv
      refine ⟨_, .list ho hc hd hr, fun z => ?_⟩
      rcases List.mem_cons.mp z with z | z
      · exact no_mods hm ho hd z
      · exact nm z
  | .tuple ds, _, _, h, r => by
    cases h with
    | tup hs ha =>
      cases r
      obtain ⟨its, rv, ⟨o, ho, hc, n, hd⟩, _⟩ := I.tuple hs
      obtain ⟨as, hr, nm⟩ := Dq.readsAll hm I ds _ its ha rv
      exact ⟨_, .tuple ho hc hd hr, nm⟩
  | .dict ks, _, _, h, r => by
    cases h with
    | dic e =>
      cases r
      obtain ⟨_, nd, vs, kv, dd⟩ := dk_of I.hok e
      cases kv
      obtain ⟨o, es, ep, ho, hx, hd, _, he, _⟩ := dd
      have e0 : es.toList = [] := by cases hl : es.toList with | nil => rfl | cons a b => (rw [hl] at he; cases he)
      refine ⟨_, .dict (as := []) (bs := []) ho hx.1 hd (by rw [e0]; exact .nil) (by rw [e0]; exact .nil), fun z => ?_⟩
      rcases List.mem_cons.mp z with z | z
      · rw [← z] at nd
        simp at nd
      · simp at z
theorem Dq.readsAll {mm : Str → Option Value} (hm : s.heap.Ns sysModules mm) (I : Inv X pins σ H s) : ∀ (ds : List PyData) (vs : List V) (us : List Value), DqAll X.K H vs ds → Vals vs us → ∃ as, ReadsAll s.heap us ds as ∧ sysModules ∉ as
  | [], _, _, h, r => by
    cases h; cases r
    exact ⟨_, .nil, List.not_mem_nil⟩
  | d :: ds, _, _, h, r => by
    cases h with
    | cons h1 h2 =>
      cases r with
      | cons r1 r2 =>
        obtain ⟨as, q1, n1⟩ := Dq.reads hm I d _ _ h1 r1
        obtain ⟨bs, q2, n2⟩ := Dq.readsAll hm I ds _ _ h2 r2
        exact ⟨_, .cons q1 q2, fun z => (List.mem_append.mp z).elim n1 n2⟩
end
/-- what repr wants of data: it can be shown, in so much room -/
structure Sh (d : PyData) (n m : Nat) : Prop where
  ok : d.showable = true
  long : d.shown.length ≤ n
  deep : d.depth ≤ m
theorem call_reprD (g : X.A.guards = some []) (hu : X.A.units + 64 < cLine) (hm : ∃ mm, X.base.Ns sysModules mm) :
    CallR X (.builtin "repr") (fun xs H Q => ∃ (a : Addr) (d : PyData), xs = [.ref a] ∧ Dq X.K H (.ref a) d ∧ Sh d 16777216 60 ∧ Q (.str d.shown) H) := by
  intro pins s σ H xs us Q I r h
  obtain ⟨a, d, rfl, hd, hs, q⟩ := h
  obtain ⟨mm, hm⟩ := hm
  cases r with
  | cons r1 r2 =>
    cases r2
    cases r1
    obtain ⟨as, rd, nm⟩ := Dq.reads (hm.keeps I.bk) I d _ _ hd rfl
    refine repr_of_reads' rd hs.ok (fun _ => nm) g ?_ (fun _ _ e => e) (fun h' u tk k => ?_) ?_
    · have := hs.deep
      omega
    · exact ⟨.str d.shown, H, I.kept (t' := tk) k, ⟨_, rfl⟩, q⟩
    · rw [sizeLine_eq]
      exact hs.long
end
end L2

/-! the end of a law whose defs are FnG -/
namespace L2
open PySem PySem.Spec PyProof.Rows LamX
/-- what stands behind the top; cs: code objects with their tables -/
structure Ready (K : PySem.W.Frag) (mg mb : Str → Option Value) (z : Shared) (cs : List (Addr × Addr)) : Prop where
  kin : K.In z.heap
  glob : z.heap.Ns mainGlobals mg
  blt : z.heap.Ns builtinsNs mb
  boot : ∀ x : Str, x ≠ "__name__" → mb x = bootBuiltins x
  lim : z.heap.NoLimit
  mods : ∃ mm, z.heap.Ns sysModules mm
  gens : z.gens = #[]
  tabs : ∀ p ∈ cs, z.heap.get? p.2 = some { cls := .none, data := .fields #[] }
  tabK : ∀ p ∈ cs, K.lookup p.2 = none
  code : ∀ p ∈ cs, PySem.W.CodeHd z.heap p.1 p.2
  main : ∃ (bm : Addr) (ob : Obj), mg "__builtins__" = some (.ref bm) ∧ bm ≠ builtinsNs ∧ z.heap.get? bm = some ob ∧ ob.cls = .type "module" ∧ ob.dict = some builtinsNs ∧ ob.data = .plain
/-- the abstract heap at the law's entry: the tables, and the script if it is no object of the module -/
def hp0 (K : PySem.W.Frag) (cs : List (Addr × Addr)) (a : Addr) (o : Obj) (ns : List Int) : Hp := fun b =>
  if b ∈ cs.map (·.2) then some (.tbl #[]) else if b = a ∧ K.lookup a = none then some (.frz o (.lst (ns.map V.int))) else none
section
variable {P : Program} {w : World} {K : PySem.W.Frag} {mg mb : Str → Option Value} {z : Shared} {cs : List (Addr × Addr)} {a : Addr} {vs : List Value} {ns : List Int}
abbrev scr (vs : List Value) : Obj := { cls := .type "list", data := .seq vs.toArray }
theorem hp0_tab {o : Obj} {p : Addr × Addr} (m : p ∈ cs) : hp0 K cs a o ns p.2 = some (.tbl #[]) := if_pos (List.mem_map.mpr ⟨p, m, rfl⟩)
theorem hp0_of {o : Obj} {b : Addr} {u : HO} (e : hp0 K cs a o ns b = some u) : (∃ p ∈ cs, p.2 = b ∧ u = .tbl #[]) ∨ (b = a ∧ K.lookup a = none ∧ u = .frz o (.lst (ns.map V.int))) := by
  unfold hp0 at e
  split at e
  · rename_i m
    obtain ⟨p, hp, q⟩ := List.mem_map.mp m
    exact .inl ⟨p, hp, q, (Option.some.inj e).symm⟩
  · split at e
    · rename_i m
      exact .inr ⟨m.1, m.2, (Option.some.inj e).symm⟩
    · cases e
theorem Ready.quiet (R : Ready K mg mb z cs) (ha : z.heap.get? a = some (scr vs)) {b : Addr} {o : Obj} (e : z.heap.get? b = some o) (n1 : ∀ us n, o.data ≠ .seq us n) (n2 : o.data ≠ .fields #[]) : hp0 K cs a (scr vs) ns b = none := by
  cases q : hp0 K cs a (scr vs) ns b with
  | none => rfl
  | some u =>
    rcases hp0_of q with ⟨p, hp, rfl, _⟩ | ⟨rfl, _, _⟩
    · rw [R.tabs p hp] at e
      cases e
      exact absurd rfl n2
    · rw [ha] at e
      cases e
      exact absurd rfl (n1 _ _)
theorem Ready.hok (R : Ready K mg mb z cs) (ha : z.heap.get? a = some (scr vs)) (hi : IntsAre vs ns) (hl : ns.length ≤ sizeLine) : HOk P w (hp0 K cs a (scr vs) ns) z.heap := fun b u q => by
  rcases hp0_of q with ⟨p, hp, rfl, rfl⟩ | ⟨rfl, _, rfl⟩
  · exact R.tabs p hp
  · exact ⟨ha, by rw [List.length_map]; exact hl, vs, _, vals_ints hi, ha⟩
theorem Ready.seq (R : Ready K mg mb z cs) (ha : z.heap.get? a = some (scr vs)) (hi : IntsAre vs ns) (hl : ns.length ≤ sizeLine) : SqL K (hp0 K cs a (scr vs) ns) a (ns.map V.int) := by
  cases hk : K.lookup a with
  | some o =>
    have e := R.kin a o hk
    rw [ha] at e
    cases e
    have rv := vals_ints hi
    exact .inr ⟨_, vs.toArray, _, hk, rfl, rfl, rfl, by rw [List.size_toArray, hi.length]; exact hl, by simpa using rv⟩
  | none =>
    have nt : a ∉ cs.map (·.2) := fun m => by
      obtain ⟨p, hp, e⟩ := List.mem_map.mp m
      have q := R.tabs p hp
      rw [e, ha] at q
      have q' : Data.seq vs.toArray _ = Data.fields #[] := congrArg Obj.data (Option.some.inj q)
      cases q'
    exact .inl (.inr ⟨scr vs, (if_neg nt).trans (if_pos ⟨rfl, hk⟩)⟩)
theorem Ready.space (R : Ready K mg mb z cs) (ha : z.heap.get? a = some (scr vs)) {b : Addr} {m : Str → Option Value} (x : z.heap.Ns b m) : (hidT z.heap (hp0 K cs a (scr vs) ns)).Ns b m := by
  obtain ⟨o, es, ep, e, d, r⟩ := x
  refine ⟨o, es, ep, hidT_get e (R.quiet ha e (fun us n q => ?_) fun q => ?_), d, r⟩ <;> (rw [d] at q; cases q)
theorem Ready.mod (R : Ready K mg mb z cs) (ha : z.heap.get? a = some (scr vs)) : L2.Mod K mg (hidT z.heap (hp0 K cs a (scr vs) ns)) := by
  refine ⟨fun b o e => hidT_get (R.kin b o e) ?_, R.space ha R.glob, ⟨mb, R.space ha R.blt, R.boot⟩, ?_⟩
  · cases q : hp0 K cs a (scr vs) ns b with
    | none => rfl
    | some u =>
      rcases hp0_of q with ⟨p, hp, rfl, _⟩ | ⟨rfl, n, _⟩
      · have t := R.tabK p hp
        rw [e] at t
        cases t
      · rw [e] at n
        cases n
  · obtain ⟨mc, h1, h2⟩ := R.lim
    exact ⟨mc, R.space ha h1, h2⟩
theorem Ready.tabB (R : Ready K mg mb z cs) (ha : z.heap.get? a = some (scr vs)) {p : Addr × Addr} (hp : p ∈ cs) : TabB (hidT z.heap (hp0 K cs a (scr vs) ns)) mg p.1 p.2 := by
  have tp := R.tabs p hp
  obtain ⟨og, eg, epg, gg, gd, _⟩ := R.glob
  refine ⟨?_, ?_, fun q => ?_⟩
  · obtain ⟨o, us, file, tf, flags, tg, inF, text, tt, e1, r1, r2, r3, r⟩ := R.code p hp
    refine ⟨o, us, file, tf, flags, tg, inF, text, tt, hidT_get e1 (R.quiet ha e1 (fun us n q => ?_) fun q => ?_), r1, r2, r3, r⟩
    · rw [r2] at q
      cases q
    · rw [r2] at q
      cases q
      simp at r3
  · obtain ⟨bm, ob, b1, b2, b3, b4, b5, b6⟩ := R.main
    refine ⟨bm, ob, b1, b2, fun q => ?_, fun q => ?_, hidT_get b3 (R.quiet ha b3 (fun us n q => ?_) fun q => ?_), b4, b5, b6⟩
    · rw [q, gg] at b3
      cases b3
      rw [gd] at b6
      cases b6
    · rw [q, tp] at b3
      cases b3
      cases b6
    · rw [b6] at q
      cases q
    · rw [b6] at q
      cases q
  · rw [q, tp] at gg
    cases gg
    cases gd
theorem callG {k : Nat} {fa : Addr} {fd : FuncData} {x : Str} {sp : Sp} (R : Ready K mg mb z cs) (ha : z.heap.get? a = some (scr vs)) (hi : IntsAre vs ns) (hl : ns.length ≤ sizeLine) (hr : Room k callerA)
    (F : ∀ base : Heap, K.In base → base.Ns mainGlobals mg → (∃ mm, base.Ns sysModules mm) → (∀ p ∈ cs, TabB base mg p.1 p.2) → FnG P w K mg base CX0 k fa fd [x] sp) (hb : ∀ (s : Shared) (u : Value), BindsTo s fd ⟨[u], []⟩ [(x, u)])
    (hsp : ∀ H : Hp, (∀ p ∈ cs, H p.2 = some (.tbl #[])) → SqL K H a (ns.map V.int) → sp [.ref a] H (fun v _ => v = .bl true) fun _ _ _ => False) :
    codeAny (model P w) callerA (.call (.ref fa) ⟨[.ref a], []⟩) (fun r s' => r = .ok (.ret (.bool true)) ∧ OldK z.heap s'.heap ∧ s'.os = z.os ∧ AllBare s'.gens) z := by
  obtain ⟨H, eH⟩ : ∃ H, H = hp0 K cs a (scr vs) ns := ⟨_, rfl⟩
  have M := R.mod (ns := ns) ha
  have hok : HOk P w H z.heap := eH ▸ R.hok ha hi hl
  have tabH : ∀ p ∈ cs, H p.2 = some (.tbl #[]) := fun p hp => eH ▸ hp0_tab hp
  have G := F _ M.kin M.glob (R.mods.imp fun mm h => R.space (ns := ns) ha h) (fun p hp => R.tabB (ns := ns) ha hp)
  have e0 : Env0 P w K mg (hidT z.heap (hp0 K cs a (scr vs) ns)) callerA [] z H := ⟨rfl, M, fun b o e => eH ▸ of_hidT e, Nat.le_of_eq (hidT_size _ _), trivial, nofun, hok, .of_eq R.gens⟩
  refine codeAny_mono (G.goes (us := [.ref a]) (vs := [.ref a]) rfl hr e0 (hb z (.ref a)) (.cons rfl .nil) (hsp H tabH (eH ▸ R.seq ha hi hl))) fun r s' h => ?_
  match r, h with
  | .ok (.ret u), h =>
    obtain ⟨v, H', os, bare, un, hok', rv, q⟩ := h
    have q' : v = .bl true := q
    subst q'
    obtain rfl : u = Value.bool true := rv
    have kept : ∀ {b : Addr} {o : Obj}, (∀ p ∈ cs, p.2 ≠ b) → z.heap.get? b = some o → s'.heap.get? b = some o := fun {b o} nb e => by
      cases q : H b with
      | none => exact un.keep b o e q nofun (by simp)
      | some u =>
        rw [eH] at q
        rcases hp0_of q with ⟨p, hp, e2, _⟩ | ⟨_, _, rfl⟩
        · exact absurd e2 (nb p hp)
        · have z2 := un.frzs b _ _ (eH ▸ q)
          obtain ⟨e1, _⟩ := hok b _ (eH ▸ q)
          obtain ⟨e3, _⟩ := hok' b _ z2
          rw [e] at e1
          cases e1
          exact e3
    have grown : ∀ p ∈ cs, ∃ more : Array Value, s'.heap.get? p.2 = some { cls := .none, data := .fields more } := fun p hp => by
      obtain ⟨more, zz⟩ := un.tbls p.2 #[] (tabH p hp)
      exact ⟨_, hok' p.2 _ zz⟩
    refine ⟨rfl, ⟨fun b o e => ?_, fun b o e => ?_⟩, os, bare⟩
    · by_cases hm : ∃ p ∈ cs, p.2 = b
      · obtain ⟨p, hp, rfl⟩ := hm
        obtain ⟨more, hm⟩ := grown p hp
        have tp := R.tabs p hp
        rw [tp] at e
        cases e
        exact .inr (.inl ⟨((R.code p hp).tab tp).isCodeTable, rfl, #[], more, rfl, by rw [Array.empty_append]; exact hm⟩)
      · exact .inl (kept (fun p hp q => hm ⟨p, hp, q⟩) e)
    · by_cases hm : ∃ p ∈ cs, p.2 = b
      · obtain ⟨p, hp, rfl⟩ := hm
        obtain ⟨more, hm⟩ := grown p hp
        exact ⟨_, hm⟩
      · exact ⟨o, kept (fun p hp q => hm ⟨p, hp, q⟩) e⟩
/-- the goal that k_head leaves -/
theorem walkG {l : PySem.W.OpenLaw} {n k : Nat} {q : Program} {loose : List Str} {XP : (Str → Option Value) → Heap → Prop} {YP : World → Heap → Prop} {d : DefRec} {K : Params → PySem.W.Frag} {x : Str} {sp : PySem.W.Frag → Sp}
    (hn : l.most = some n) (hn2 : n ≤ sizeLine) (hdf : d.params.defaults = []) (hr : Room k callerA) (him : importsNone q = true) (hY : ∀ (w : World) (h : Heap), YP w h → (K w.params).In h)
    (F : ∀ (w : World) (mg : Str → Option Value) (fa : Addr) (h : Heap), (K w.params).In h → h.Ns mainGlobals mg → mg d.name = some (.ref fa) →
      (∀ d ∈ recsOf q, ∃ a o fd c P, mg d.name = some (.ref a) ∧ h.get? a = some o ∧ o.data = .func fd ∧ fd.code = .ref c ∧ h.IsCode c P #[] ∧ h.TableAt c P #[]) →
      ∃ (fd : FuncData) (cs : List (Addr × Addr)), (∀ p ∈ cs, h.get? p.2 = some { cls := .none, data := .fields #[] } ∧ (K w.params).lookup p.2 = none ∧ PySem.W.CodeHd h p.1 p.2) ∧ (∀ (s : Shared) (u : Value), BindsTo s fd ⟨[u], []⟩ [(x, u)]) ∧
        ∀ base : Heap, (K w.params).In base → base.Ns mainGlobals mg → (∃ mm, base.Ns sysModules mm) → (∀ p ∈ cs, TabB base mg p.1 p.2) → FnG l.prog w (K w.params) mg base CX0 k fa fd [x] (fun vs H Q E => (∀ p ∈ cs, H p.2 = some (.tbl #[])) ∧ sp (K w.params) vs H Q E))
    (hsp : ∀ (K : PySem.W.Frag) (H : Hp) (a : Addr) (ns : List Int), ns.length ≤ n → SqL K H a (ns.map V.int) → sp K [.ref a] H (fun v _ => v = .bl true) fun _ _ _ => False) :
    PySem.W.WalkO q loose XP YP l.row.toRowW d [] (fun f vs => PySem.call f vs) := by
  refine Att.attach_call hn hdf fun w s₀ s₁ mg mb fa o pm cd doc a vs ns G Y ho hd hcd hmg hobj hints hlen hg => ?_
  have KX := hY w _ Y
  obtain ⟨fd, cs, C, hb, hF⟩ := F w mg fa _ KX G.T.g hmg G.T.tab
  obtain ⟨mm, hm, _⟩ := (G.T.seer him).mods
  exact callG (cs := cs) ⟨KX, G.T.g, G.T.b, G.T.builtins, G.T.nolimit, ⟨mm, hm⟩, hg, fun p hp => (C p hp).1, fun p hp => (C p hp).2.1, fun p hp => (C p hp).2.2, G.T.bmain⟩ hobj hints (Nat.le_trans hlen hn2) hr hF hb fun H hT hS => ⟨hT, hsp _ H a ns hlen hS⟩
end
end L2

/-! a law's end whose head is one kernel run: what is known of the heap behind the top is asked by one Bool over a part of it -/
namespace HX
open PySem PySem.Spec PyProof.Rows L2
def allT (l : List Bool) : Bool := l.all _root_.id
theorem allT_at {l : List Bool} (h : allT l = true) {i : Nat} {b : Bool} (e : l[i]? = some b) : b = true := List.all_eq_true.mp h b (List.mem_of_getElem? e)
theorem allT_of {p : Prop} [Decidable p] {l : List Bool} (h : allT l = true) (i : Nat) (e : l[i]? = some (decide p)) : p := of_decide_eq_true (allT_at h e)
theorem and_l {a b : Bool} (h : (a && b) = true) : a = true := (Bool.and_eq_true_iff.mp h).1
theorem and_r {a b : Bool} (h : (a && b) = true) : b = true := (Bool.and_eq_true_iff.mp h).2
theorem dfl_nil {K : PySem.W.Frag} {dV : Value} (h : DflV K dV []) : dV = .none := by
  rcases h with ⟨_, h⟩ | ⟨h, _⟩
  · exact h
  · exact absurd rfl h
/-- constants of the module -/
def intB (K : PySem.W.Frag) (x : Str) (i : Int) : Bool := match PySem.W.nsIn K mainGlobals x with
  | some (some (.int j _)) => decide (j = i)
  | _ => false
theorem intB_of {K : PySem.W.Frag} {x : Str} {i : Int} (h : intB K x i = true) : ∃ t, PySem.W.nsIn K mainGlobals x = some (some (.int i t)) := by
  unfold intB at h
  split at h
  · rename_i j t e
    rw [e, of_decide_eq_true h]
    exact ⟨t, rfl⟩
  · cases h
def strB (K : PySem.W.Frag) (x z : Str) : Bool := match PySem.W.nsIn K mainGlobals x with
  | some (some (.str y _)) => decide (y = z)
  | _ => false
theorem strB_of {K : PySem.W.Frag} {x z : Str} (h : strB K x z = true) : ∃ t, PySem.W.nsIn K mainGlobals x = some (some (.str z t)) := by
  unfold strB at h
  split at h
  · rename_i j t e
    rw [e, of_decide_eq_true h]
    exact ⟨t, rfl⟩
  · cases h
/-- an error class with these bases behind it -/
def excB (K : PySem.W.Frag) (C : Addr) (bm : List Value) (newId : String) : Bool := match K.lookup C with
  | some ⟨.type "type", _, .cls cd, sl⟩ => (match cd.mro, sl.toList with
    | .ref C' :: bm', [_, _, _, _, some (.builtin n), _] => decide (C' = C) && (decide (n = newId) && (!cd.hasDel && (cd.hasDict && decide (bm' = bm))))
    | _, _ => false)
  | _ => false
theorem excB_of {K : PySem.W.Frag} {C : Addr} {bm : List Value} {newId : String} (q : excB K C bm newId = true) : ∃ nm qn N bs sn sub ab col dd k0 k1 k2 k3 k5, K.lookup C = some (excClassObj nm qn C N bs bm true sn sub ab col dd k0 k1 k2 k3 k5 newId) := by
  unfold excB at q
  split at q
  · rename_i dd cd sl ho
    split at q
    · rename_i C' bm' k0 k1 k2 k3 n k5 hm hs
      have e1 := of_decide_eq_true (and_l q)
      have e2 := of_decide_eq_true (and_l (and_r q))
      have e3 := and_l (and_r (and_r q))
      have e4 := and_l (and_r (and_r (and_r q)))
      have e5 := of_decide_eq_true (and_r (and_r (and_r (and_r q))))
      subst e1 e2 e5
      obtain ⟨nm, bs, mro, ns, qn, hd, sn, sub, ab, col, del⟩ := cd
      dsimp only at hm e3 e4
      have e3 : del = false := by simpa using e3
      subst hm e3 e4
      have hsl : sl = #[k0, k1, k2, k3, some (.builtin n), k5] := by
        obtain ⟨l⟩ := sl
        simp only at hs
        rw [hs]
      subst hsl
      exact ⟨nm, qn, ns, bs, sn, sub, ab, col, dd, k0, k1, k2, k3, k5, ho⟩
    · cases q
  · cases q
/-! ### what is looked at behind the top -/
structure SaysA (fn : List He.DefD) (tf : List He.Defn) (ex ex2 : PySem.W.Frag → Bool) (h : Heap) (K : PySem.W.Frag) : Prop where
  vals : (fn.map fun d => He.fnW K d.at_) = fn.map He.DefD.val
  ok : ∀ d ∈ fn, d.ok K = true
  more : ex K = true
  more2 : ex2 K = true
  hd : ∀ p ∈ tf, PySem.W.codeHdIn K (He.cT K p).1 (He.cT K p).2 = true
  out : ∀ p ∈ tf, K.lookup (He.cT K p).2 = none
  empty : ∀ p ∈ tf, h.get? (He.cT K p).2 = some { cls := .none, data := .fields #[] }
abbrev AlA : Type := Bool × Bool × Bool × List He.FnW
def obsK (fn : List He.DefD) (tf : List He.Defn) (ex ex2 : PySem.W.Frag → Bool) (g : Addr → Option Obj) (K : PySem.W.Frag) : AlA := (ex K, ex2 K, (fn.all fun d => d.ok K) && He.tabsB g tf K, fn.map fun d => He.fnW K d.at_)
def valA (fn : List He.DefD) : AlA := (true, true, true, fn.map He.DefD.val)
def obsA (as : List Addr) (fn : List He.DefD) (tf : List He.Defn) (ex ex2 : PySem.W.Frag → Bool) (g : Addr → Option Obj) : AlA := obsK fn tf ex ex2 g (He.frT g as)
theorem saysA_of {as : List Addr} {fn : List He.DefD} {tf : List He.Defn} {ex ex2 : PySem.W.Frag → Bool} {h : Heap} (e : obsA as fn tf ex ex2 h.get? = valA fn) : SaysA fn tf ex ex2 h (He.frT h.get? as) := by
  obtain ⟨K, eK⟩ : ∃ K, K = He.frT h.get? as := ⟨_, rfl⟩
  have e0 : obsK fn tf ex ex2 h.get? K = valA fn := by rw [eK]; exact e
  have e1 : ((fn.all fun d => d.ok K) && He.tabsB h.get? tf K) = true := congrArg (fun z : AlA => z.2.2.1) e0
  have e2 : (fn.map fun d => He.fnW K d.at_) = fn.map He.DefD.val := congrArg (fun z : AlA => z.2.2.2) e0
  have t := and_r e1
  have key : ∀ p ∈ tf, PySem.W.codeHdIn K (He.cT K p).1 (He.cT K p).2 = true ∧ ∃ o, h.get? (He.cT K p).2 = some o ∧ He.emptyTab o = true := fun p hp => by
    have h1 := List.all_eq_true.mp t p hp
    have h3 := and_l h1
    have h4 := and_r h1
    refine ⟨h3, ?_⟩
    cases q : h.get? (He.cT K p).2 with
    | none =>
      rw [q] at h4
      cases h4
    | some o =>
      rw [q] at h4
      exact ⟨o, rfl, h4⟩
  rw [← eK]
  refine ⟨e2, fun d hd => List.all_eq_true.mp (and_l e1) d hd, congrArg (fun z : AlA => z.1) e0, congrArg (fun z : AlA => z.2.1) e0, fun p hp => (key p hp).1, fun p hp => ?_, fun p hp => ?_⟩
  · obtain ⟨_, o, q, z⟩ := key p hp
    have := He.frT_none (as := as) q z
    rw [← eK] at this
    exact this
  · obtain ⟨_, o, q, z⟩ := key p hp
    rw [q, He.emptyTab_eq z]
def hookA (as : List Addr) (fn : List He.DefD) (tf : List He.Defn) (ex ex2 : PySem.W.Frag → Bool) : PySem.W.Hook where
  α := AlA
  obs := fun s => obsA as fn tf ex ex2 s.heap.get?
  val := fun _ => valA fn
  says := fun _ h => ∃ K : PySem.W.Frag, K.In h ∧ SaysA fn tf ex ex2 h K
  of := fun _ _ e => ⟨_, He.frT_in, saysA_of e⟩
  keeps := fun _ _ _ ⟨K, hK, c⟩ k => ⟨K, PySem.W.Frag.In.keeps hK k, ⟨c.vals, c.ok, c.more, c.more2, c.hd, c.out, fun p hp => k _ _ (c.empty p hp)⟩⟩
theorem obsA_eq {as : List Addr} {fn : List He.DefD} {tf : List He.Defn} {ex ex2 : PySem.W.Frag → Bool} {g : Addr → Option Obj} {s : Shared} (h : ∀ a, g a = s.heap.get? a) : obsA as fn tf ex ex2 g = (hookA as fn tf ex ex2).obs s := by
  have e : g = s.heap.get? := funext h
  rw [e] <;> rfl
/-- one run, looked at piece by piece: a kernel run each, so that none holds too much -/
theorem run_all {S T a1 a2 a3 a4 a5 a6 : Type} {x : Option S} {f1 : S → a1} {f2 : S → a2} {f3 : S → a3} {f4 : S → a4} {f5 : S → a5} {f6 : S → a6} {v1 : a1} {v2 : a2} {v3 : a3} {v4 : a4} {v5 : a5} {v6 : a6} {F : S → T} {A : T} (u : (a1 × a2 × a3 × a4 × a5 × a6) → T)
    (h1 : x.map f1 = some v1) (h2 : x.map f2 = some v2) (h3 : x.map f3 = some v3) (h4 : x.map f4 = some v4) (h5 : x.map f5 = some v5) (h6 : x.map f6 = some v6) (hF : ∀ s, F s = u (f1 s, f2 s, f3 s, f4 s, f5 s, f6 s)) (hA : A = u (v1, v2, v3, v4, v5, v6)) : x.map F = some A := by
  cases x with
  | none => cases h1
  | some s =>
    have h1 : some (f1 s) = some v1 := h1
    have h2 : some (f2 s) = some v2 := h2
    have h3 : some (f3 s) = some v3 := h3
    have h4 : some (f4 s) = some v4 := h4
    have h5 : some (f5 s) = some v5 := h5
    have h6 : some (f6 s) = some v6 := h6
    show some (F s) = some A
    rw [hF, hA, Option.some.inj h1, Option.some.inj h2, Option.some.inj h3, Option.some.inj h4, Option.some.inj h5, Option.some.inj h6]
noncomputable abbrev endW (r : PySem.W.OpenRow) (M : Nat) (w : World) (os : OsState) : Option PySem.W.SharedT := HandSHeadRun.endF (HandSHeadRun.stepQ (HandSHeadRun.denQ HandSHeadRun.tabQ) r.prog w) M r.prog w os
noncomputable abbrev seenW (r : PySem.W.OpenRow) (q : Program) (loose : List PySem.Str) (s : PySem.W.SharedT) := HandSHeadRun.seenQ q loose (importedModules r.prog.main.body) (fun s => PySem.W.xlAt q [] s && PySem.W.recOk r.toRowW.records s) s.abs
section
variable {fn : List He.DefD} {tf : List He.Defn} {ex ex2 : PySem.W.Frag → Bool} {h : Heap} {K : PySem.W.Frag}
theorem SaysA.def_ (c : SaysA fn tf ex ex2 h K) (i : Nat) {d : He.DefD} (e : fn[i]? = some d) (dn : d.dfl = []) : ∃ (oc : Value) (od : Option Addr) (kV doc pm : Value) (an : Option Addr) (cdv ct : Value) (osl : Array (Option Value)),
    K.lookup (He.fAd K d.at_) = some ⟨oc, od, .func (PySem.W.fnOf d.name d.qual d.params d.body d.scope .none kV doc pm an cdv ct), osl⟩ ∧ PySem.W.codeIn K cdv d.qual = true ∧ PySem.W.keepIn K (.ref (He.fAd K d.at_)) = true := by
  have ev : He.fnW K d.at_ = d.val := by
    have z := congrArg (fun l => l[i]?) c.vals
    simp only [List.getElem?_map, e, Option.map_some] at z
    exact Option.some.inj z
  obtain ⟨fd, ⟨oc, od, dV, kV, doc, pm, an, cdv, ct, osl, rfl, lk, cd, dv, _⟩, kp⟩ := He.DefD.funD ev (c.ok d (List.mem_of_getElem? e))
  have dv' : DflV K dV [] := by
    have : d.dvs K = [] := by
      unfold He.DefD.dvs
      rw [dn]
      rfl
    rw [← this]
    exact dv
  have := dfl_nil dv'
  subst this
  exact ⟨oc, od, kV, doc, pm, an, cdv, ct, osl, lk, cd, kp⟩
end
end HX
namespace L2
open PySem PySem.Spec PyProof.Rows LamX
/-- the goal that the head leaves -/
theorem walkGE {l : PySem.W.OpenLaw} {n k : Nat} {q : Program} {loose : List Str} {XP : (Str → Option Value) → Heap → Prop} {YP : World → Heap → Prop} {d : DefRec} {x : Str}
    (hn : l.most = some n) (hn2 : n ≤ sizeLine) (hdf : d.params.defaults = []) (hr : Room k callerA) (him : importsNone q = true)
    (F : ∀ (w : World) (mg : Str → Option Value) (fa : Addr) (h : Heap), YP w h → h.Ns mainGlobals mg → mg d.name = some (.ref fa) →
      ∃ (K : PySem.W.Frag) (fd : FuncData) (cs : List (Addr × Addr)) (sp : Sp), K.In h ∧ (∀ p ∈ cs, h.get? p.2 = some { cls := .none, data := .fields #[] } ∧ K.lookup p.2 = none ∧ PySem.W.CodeHd h p.1 p.2) ∧ (∀ (s : Shared) (u : Value), BindsTo s fd ⟨[u], []⟩ [(x, u)]) ∧
        (∀ (H : Hp) (a : Addr) (ns : List Int), ns.length ≤ n → (∀ p ∈ cs, H p.2 = some (.tbl #[])) → SqL K H a (ns.map V.int) → sp [.ref a] H (fun v _ => v = .bl true) fun _ _ _ => False) ∧
        ∀ base : Heap, K.In base → base.Ns mainGlobals mg → (∃ mm, base.Ns sysModules mm) → (∀ p ∈ cs, TabB base mg p.1 p.2) → FnG l.prog w K mg base CX0 k fa fd [x] sp) :
    PySem.W.WalkO q loose XP YP l.row.toRowW d [] (fun f vs => PySem.call f vs) := by
  refine Att.attach_call hn hdf fun w s₀ s₁ mg mb fa o pm cd doc a vs ns G Y ho hd hcd hmg hobj hints hlen hg => ?_
  obtain ⟨K, fd, cs, sp, KX, C, hb, hsp, hF⟩ := F w mg fa _ Y G.T.g hmg
  obtain ⟨mm, hm, _⟩ := (G.T.seer him).mods
  exact callG (cs := cs) ⟨KX, G.T.g, G.T.b, G.T.builtins, G.T.nolimit, ⟨mm, hm⟩, hg, fun p hp => (C p hp).1, fun p hp => (C p hp).2.1, fun p hp => (C p hp).2.2, G.T.bmain⟩ hobj hints (Nat.le_trans hlen hn2) hr hF hb fun H hT hS => hsp H a ns hlen hT hS
end L2

namespace Gm
open PySem PySem.Spec PyProof.Rows L2 LamX
set_option maxHeartbeats 0
def top (i : Nat) : Stmt := PySem.Challenge.pw_guessmarks_k18_lists_refused.main.body.getD i (.Pass ⟨0, 0, 0, 0⟩)
abbrev sBowl : Stmt := top 39
abbrev sDip : Stmt := top 40

abbrev sOf : Stmt := top 41
abbrev sGot : Stmt := top 42
abbrev sBadG : Stmt := top 43
abbrev sRight : Stmt := top 44
abbrev sLaw : Stmt := top 45
abbrev sWithin : Stmt := top 12
abbrev sAlpha : Stmt := top 20
abbrev sCount : Stmt := top 21

abbrev sOver : Stmt := top 13
abbrev sIsW : Stmt := top 14
abbrev sChkB : Stmt := top 22
abbrev sChkG : Stmt := top 16
abbrev sLatT : Stmt := top 31
abbrev sMost : Stmt := top 32
abbrev sTrBy : Stmt := top 30
abbrev sTried : Stmt := top 29
abbrev sEvry : Stmt := top 33
abbrev sLtE : Stmt := top 24
abbrev sPart : Stmt := top 36
abbrev sTwins : Stmt := top 37
abbrev sTells : Stmt := top 34
abbrev sTellW : Stmt := top 35
abbrev sInit : Stmt := inClass (top 19) 0
abbrev sRepr : Stmt := inClass (top 19) 5
abbrev sPInit : Stmt := inClass (top 26) 0
abbrev sFirst : Stmt := inClass (top 26) 1
abbrev sSeen : Stmt := inClass (top 26) 2
abbrev sWith : Stmt := inClass (top 26) 3
abbrev sWays : Stmt := inClass (top 26) 5
abbrev sPairOf : Stmt := inClass (top 26) 8
abbrev sWordOf : Stmt := inClass (top 26) 9
abbrev sEGs : Stmt := inClass (top 7) 0
abbrev sENb : Stmt := inClass (top 2) 0
def lowTxt : Str := "abcdefghijklmnopqrstuvwxyz"

def A_CB (K : PySem.W.Frag) : Addr := He.ga K "Board"
def A_CP (K : PySem.W.Frag) : Addr := He.ga K "Pairs"
def A_CIn (K : PySem.W.Frag) : Addr := He.ga K "InputError"
def A_CGs (K : PySem.W.Frag) : Addr := He.ga K "InvalidGuesses"
def A_CNb (K : PySem.W.Frag) : Addr := He.ga K "NotABoard"
def A_fB (K : PySem.W.Frag) : Addr := He.fAd K ("_law_bowl", none)
def A_fD (K : PySem.W.Frag) : Addr := He.fAd K ("_law_dip", none)
def A_fOf (K : PySem.W.Frag) : Addr := He.fAd K ("_law_of", none)
def A_fGt (K : PySem.W.Frag) : Addr := He.fAd K ("_law_got", none)
def A_fBa (K : PySem.W.Frag) : Addr := He.fAd K ("_law_bad", none)
def A_fR (K : PySem.W.Frag) : Addr := He.fAd K ("_law_right", none)
def A_fL (K : PySem.W.Frag) : Addr := He.fAd K ("law", none)
def A_fW (K : PySem.W.Frag) : Addr := He.fAd K ("is_integer_within", none)
def A_fA (K : PySem.W.Frag) : Addr := He.fAd K ("is_alphabet", none)
def A_fCn (K : PySem.W.Frag) : Addr := He.fAd K ("count_words", none)
def A_fOv (K : PySem.W.Frag) : Addr := He.fAd K ("is_text_over", none)
def A_fIw (K : PySem.W.Frag) : Addr := He.fAd K ("is_word", none)
def A_fCb (K : PySem.W.Frag) : Addr := He.fAd K ("check_board", none)
def A_fCg (K : PySem.W.Frag) : Addr := He.fAd K ("check_guesses", none)
def A_fLt (K : PySem.W.Frag) : Addr := He.fAd K ("letters_at", none)
def A_fMc (K : PySem.W.Frag) : Addr := He.fAd K ("most_copies", none)
def A_fTb (K : PySem.W.Frag) : Addr := He.fAd K ("tried_by", none)
def A_fTr (K : PySem.W.Frag) : Addr := He.fAd K ("tried", none)
def A_fEv (K : PySem.W.Frag) : Addr := He.fAd K ("everything", none)
def A_fLx (K : PySem.W.Frag) : Addr := He.fAd K ("letters_except", none)
def A_fPa (K : PySem.W.Frag) : Addr := He.fAd K ("parting", none)
def A_fTw (K : PySem.W.Frag) : Addr := He.fAd K ("twins", none)
def A_fTe (K : PySem.W.Frag) : Addr := He.fAd K ("tells", none)
def A_fTl (K : PySem.W.Frag) : Addr := He.fAd K ("tells_word", none)
def A_fI (K : PySem.W.Frag) : Addr := He.fAd K ("Board", some "__init__")
def A_fRp (K : PySem.W.Frag) : Addr := He.fAd K ("Board", some "__repr__")
def A_fPi (K : PySem.W.Frag) : Addr := He.fAd K ("Pairs", some "__init__")
def A_fPf (K : PySem.W.Frag) : Addr := He.fAd K ("Pairs", some "first_pair")
def A_fPs (K : PySem.W.Frag) : Addr := He.fAd K ("Pairs", some "pair_seen_at")
def A_fPw (K : PySem.W.Frag) : Addr := He.fAd K ("Pairs", some "pair_with")
def A_fPy (K : PySem.W.Frag) : Addr := He.fAd K ("Pairs", some "ways_from")
def A_fPo (K : PySem.W.Frag) : Addr := He.fAd K ("Pairs", some "pair_of")
def A_fPd (K : PySem.W.Frag) : Addr := He.fAd K ("Pairs", some "word_of")
def A_fIGs (K : PySem.W.Frag) : Addr := He.fAd K ("InvalidGuesses", some "__init__")
def A_fINb (K : PySem.W.Frag) : Addr := He.fAd K ("NotABoard", some "__init__")
def dHB : He.DefD := ⟨("_law_bowl", none), "_law_bowl", "_law_bowl", defArgs sBowl, defBody sBowl, defScope sBowl, [], []⟩
def dHD : He.DefD := ⟨("_law_dip", none), "_law_dip", "_law_dip", defArgs sDip, defBody sDip, defScope sDip, [], []⟩
def dHOf : He.DefD := ⟨("_law_of", none), "_law_of", "_law_of", defArgs sOf, defBody sOf, defScope sOf, [], []⟩
def dHGt : He.DefD := ⟨("_law_got", none), "_law_got", "_law_got", defArgs sGot, defBody sGot, defScope sGot, [], []⟩
def dHBa : He.DefD := ⟨("_law_bad", none), "_law_bad", "_law_bad", defArgs sBadG, defBody sBadG, defScope sBadG, [], []⟩
def dHR : He.DefD := ⟨("_law_right", none), "_law_right", "_law_right", defArgs sRight, defBody sRight, defScope sRight, [], []⟩
def dHL : He.DefD := ⟨("law", none), "law", "law", defArgs sLaw, defBody sLaw, defScope sLaw, [], []⟩
def dHW : He.DefD := ⟨("is_integer_within", none), "is_integer_within", "is_integer_within", defArgs sWithin, defBody sWithin, defScope sWithin, [], []⟩
def dHA : He.DefD := ⟨("is_alphabet", none), "is_alphabet", "is_alphabet", defArgs sAlpha, defBody sAlpha, defScope sAlpha, [], []⟩
def dHCn : He.DefD := ⟨("count_words", none), "count_words", "count_words", defArgs sCount, defBody sCount, defScope sCount, [], []⟩
def dHOv : He.DefD := ⟨("is_text_over", none), "is_text_over", "is_text_over", defArgs sOver, defBody sOver, defScope sOver, [], []⟩
def dHIw : He.DefD := ⟨("is_word", none), "is_word", "is_word", defArgs sIsW, defBody sIsW, defScope sIsW, [], []⟩
def dHCb : He.DefD := ⟨("check_board", none), "check_board", "check_board", defArgs sChkB, defBody sChkB, defScope sChkB, [], []⟩
def dHCg : He.DefD := ⟨("check_guesses", none), "check_guesses", "check_guesses", defArgs sChkG, defBody sChkG, defScope sChkG, [], []⟩
def dHLt : He.DefD := ⟨("letters_at", none), "letters_at", "letters_at", defArgs sLatT, defBody sLatT, defScope sLatT, [], []⟩
def dHMc : He.DefD := ⟨("most_copies", none), "most_copies", "most_copies", defArgs sMost, defBody sMost, defScope sMost, [], []⟩
def dHTb : He.DefD := ⟨("tried_by", none), "tried_by", "tried_by", defArgs sTrBy, defBody sTrBy, defScope sTrBy, [], []⟩
def dHTr : He.DefD := ⟨("tried", none), "tried", "tried", defArgs sTried, defBody sTried, defScope sTried, [], []⟩
def dHEv : He.DefD := ⟨("everything", none), "everything", "everything", defArgs sEvry, defBody sEvry, defScope sEvry, [], []⟩
def dHLx : He.DefD := ⟨("letters_except", none), "letters_except", "letters_except", defArgs sLtE, defBody sLtE, defScope sLtE, [], []⟩
def dHPa : He.DefD := ⟨("parting", none), "parting", "parting", defArgs sPart, defBody sPart, defScope sPart, [], []⟩
def dHTw : He.DefD := ⟨("twins", none), "twins", "twins", defArgs sTwins, defBody sTwins, defScope sTwins, [], []⟩
def dHTe : He.DefD := ⟨("tells", none), "tells", "tells", defArgs sTells, defBody sTells, defScope sTells, [], []⟩
def dHTl : He.DefD := ⟨("tells_word", none), "tells_word", "tells_word", defArgs sTellW, defBody sTellW, defScope sTellW, [], []⟩
def dHI : He.DefD := ⟨("Board", some "__init__"), "__init__", "Board.__init__", defArgs sInit, defBody sInit, defScope sInit, [], []⟩
def dHRp : He.DefD := ⟨("Board", some "__repr__"), "__repr__", "Board.__repr__", defArgs sRepr, defBody sRepr, defScope sRepr, [], []⟩
def dHPi : He.DefD := ⟨("Pairs", some "__init__"), "__init__", "Pairs.__init__", defArgs sPInit, defBody sPInit, defScope sPInit, [], []⟩
def dHPf : He.DefD := ⟨("Pairs", some "first_pair"), "first_pair", "Pairs.first_pair", defArgs sFirst, defBody sFirst, defScope sFirst, [], []⟩
def dHPs : He.DefD := ⟨("Pairs", some "pair_seen_at"), "pair_seen_at", "Pairs.pair_seen_at", defArgs sSeen, defBody sSeen, defScope sSeen, [], []⟩
def dHPw : He.DefD := ⟨("Pairs", some "pair_with"), "pair_with", "Pairs.pair_with", defArgs sWith, defBody sWith, defScope sWith, [], []⟩
def dHPy : He.DefD := ⟨("Pairs", some "ways_from"), "ways_from", "Pairs.ways_from", defArgs sWays, defBody sWays, defScope sWays, [], []⟩
def dHPo : He.DefD := ⟨("Pairs", some "pair_of"), "pair_of", "Pairs.pair_of", defArgs sPairOf, defBody sPairOf, defScope sPairOf, [], []⟩
def dHPd : He.DefD := ⟨("Pairs", some "word_of"), "word_of", "Pairs.word_of", defArgs sWordOf, defBody sWordOf, defScope sWordOf, [], []⟩
def dHIGs : He.DefD := ⟨("InvalidGuesses", some "__init__"), "__init__", "InvalidGuesses.__init__", defArgs sEGs, defBody sEGs, defScope sEGs, [], []⟩
def dHINb : He.DefD := ⟨("NotABoard", some "__init__"), "__init__", "NotABoard.__init__", defArgs sENb, defBody sENb, defScope sENb, [], []⟩
def fnH0 : List He.DefD := [dHB, dHD, dHOf, dHGt, dHBa, dHR, dHL, dHW, dHA, dHCn, dHOv, dHIw, dHCb, dHCg, dHLt, dHMc, dHTb, dHTr, dHEv, dHLx]
def fnH1 : List He.DefD := [dHPa, dHTw, dHTe, dHTl, dHI, dHRp, dHPi, dHPf, dHPs, dHPw, dHPy, dHPo, dHPd, dHIGs, dHINb]
def fnHa : List He.DefD := fnH0
def fnHb : List He.DefD := fnH1
def fnH : List He.DefD := fnHa ++ fnHb
theorem comb2 {α : Type} {x : Option α} {f g h : α → Bool} (a : x.map f = some true) (b : x.map g = some true) (e : ∀ s, h s = (f s && g s)) : x.map h = some true := by
  cases x with
  | none => cases a
  | some s =>
    have a' : f s = true := Option.some.inj a
    have b' : g s = true := Option.some.inj b
    show some (h s) = some true
    rw [e, a', b']
    rfl
theorem comb3 {α β : Type} {x : Option α} {f g h : α → List β} {u v w : List β} (a : x.map f = some u) (b : x.map g = some v) (e : ∀ s, h s = f s ++ g s) (k : w = u ++ v) : x.map h = some w := by
  cases x with
  | none => cases a
  | some s =>
    have a' : f s = u := Option.some.inj a
    have b' : g s = v := Option.some.inj b
    show some (h s) = some w
    rw [e, a', b', k]
def tfH : List He.Defn := [("_law_right", none)]
def exH0 (K : PySem.W.Frag) : List Bool := [decide (PySem.W.nsIn K mainGlobals "Board" = some (some (.ref (A_CB K)))), decide (PySem.W.nsIn K mainGlobals "Pairs" = some (some (.ref (A_CP K)))), decide (PySem.W.nsIn K mainGlobals "InputError" = some (some (.ref (A_CIn K)))), decide (PySem.W.nsIn K mainGlobals "InvalidGuesses" = some (some (.ref (A_CGs K)))), decide (PySem.W.nsIn K mainGlobals "NotABoard" = some (some (.ref (A_CNb K)))), decide (PySem.W.nsIn K mainGlobals "_law_bowl" = some (some (.ref (A_fB K)))), decide (PySem.W.nsIn K mainGlobals "_law_dip" = some (some (.ref (A_fD K)))), decide (PySem.W.nsIn K mainGlobals "_law_of" = some (some (.ref (A_fOf K)))), decide (PySem.W.nsIn K mainGlobals "_law_got" = some (some (.ref (A_fGt K)))), decide (PySem.W.nsIn K mainGlobals "_law_bad" = some (some (.ref (A_fBa K)))), decide (PySem.W.nsIn K mainGlobals "_law_right" = some (some (.ref (A_fR K)))), decide (PySem.W.nsIn K mainGlobals "law" = some (some (.ref (A_fL K)))), decide (PySem.W.nsIn K mainGlobals "is_integer_within" = some (some (.ref (A_fW K)))), decide (PySem.W.nsIn K mainGlobals "is_alphabet" = some (some (.ref (A_fA K)))), decide (PySem.W.nsIn K mainGlobals "count_words" = some (some (.ref (A_fCn K)))), decide (PySem.W.nsIn K mainGlobals "is_text_over" = some (some (.ref (A_fOv K)))), decide (PySem.W.nsIn K mainGlobals "is_word" = some (some (.ref (A_fIw K)))), decide (PySem.W.nsIn K mainGlobals "check_board" = some (some (.ref (A_fCb K)))), decide (PySem.W.nsIn K mainGlobals "check_guesses" = some (some (.ref (A_fCg K)))), decide (PySem.W.nsIn K mainGlobals "letters_at" = some (some (.ref (A_fLt K)))), decide (PySem.W.nsIn K mainGlobals "most_copies" = some (some (.ref (A_fMc K)))), decide (PySem.W.nsIn K mainGlobals "tried_by" = some (some (.ref (A_fTb K)))), decide (PySem.W.nsIn K mainGlobals "tried" = some (some (.ref (A_fTr K)))), decide (PySem.W.nsIn K mainGlobals "everything" = some (some (.ref (A_fEv K)))), decide (PySem.W.nsIn K mainGlobals "letters_except" = some (some (.ref (A_fLx K))))]
def exH1 (K : PySem.W.Frag) : List Bool := [decide (PySem.W.nsIn K mainGlobals "parting" = some (some (.ref (A_fPa K)))), decide (PySem.W.nsIn K mainGlobals "twins" = some (some (.ref (A_fTw K)))), decide (PySem.W.nsIn K mainGlobals "tells" = some (some (.ref (A_fTe K)))), decide (PySem.W.nsIn K mainGlobals "tells_word" = some (some (.ref (A_fTl K)))), decide (PySem.W.findIn K (.ref (A_CB K)) "__init__" = some (some (.ref (A_fI K)))), decide (PySem.W.isFn K (.ref (A_fI K)) = true), decide (PySem.W.findIn K (.ref (A_CB K)) "__repr__" = some (some (.ref (A_fRp K)))), decide (PySem.W.isFn K (.ref (A_fRp K)) = true), decide (PySem.W.findIn K (.ref (A_CP K)) "__init__" = some (some (.ref (A_fPi K)))), decide (PySem.W.isFn K (.ref (A_fPi K)) = true), decide (PySem.W.findIn K (.ref (A_CP K)) "first_pair" = some (some (.ref (A_fPf K)))), decide (PySem.W.isFn K (.ref (A_fPf K)) = true), decide (PySem.W.findIn K (.ref (A_CP K)) "pair_seen_at" = some (some (.ref (A_fPs K)))), decide (PySem.W.isFn K (.ref (A_fPs K)) = true), decide (PySem.W.findIn K (.ref (A_CP K)) "pair_with" = some (some (.ref (A_fPw K)))), decide (PySem.W.isFn K (.ref (A_fPw K)) = true), decide (PySem.W.findIn K (.ref (A_CP K)) "ways_from" = some (some (.ref (A_fPy K)))), decide (PySem.W.isFn K (.ref (A_fPy K)) = true), decide (PySem.W.findIn K (.ref (A_CP K)) "pair_of" = some (some (.ref (A_fPo K)))), decide (PySem.W.isFn K (.ref (A_fPo K)) = true), decide (PySem.W.findIn K (.ref (A_CP K)) "word_of" = some (some (.ref (A_fPd K)))), decide (PySem.W.isFn K (.ref (A_fPd K)) = true), decide (PySem.W.findIn K (.ref (A_CGs K)) "__init__" = some (some (.ref (A_fIGs K)))), decide (PySem.W.isFn K (.ref (A_fIGs K)) = true), decide (PySem.W.findIn K (.ref (A_CNb K)) "__init__" = some (some (.ref (A_fINb K))))]
def exH2 (K : PySem.W.Frag) : List Bool := [decide (PySem.W.isFn K (.ref (A_fINb K)) = true), decide (PySem.W.specialIn K (.builtin "object.__class__") "__get__" = some (some (.builtin "getset_descriptor.__get__"))), decide (PySem.W.takesIn K (.builtin "object.__class__") = some true), decide (PySem.W.isClsIn K (A_CIn K) = true), decide (PySem.W.typeIn K (.ref (A_CIn K)) = some (.type "type")), HX.excB K (A_CGs K) [.ref (A_CIn K), .type "ValueError", .type "Exception", .type "BaseException", .type "object"] "ValueError.__new__", decide (PySem.W.findIn K (.ref (A_CGs K)) "__setattr__" = some (some (.builtin "object.__setattr__"))), decide (PySem.W.subIn K (.ref (A_CGs K)) (.type "BaseException") = some true), decide (PySem.W.typeIn K (.ref (A_CGs K)) = some (.type "type")), decide (PySem.W.keepIn K (.ref (A_CGs K)) = true), decide (PySem.W.findIn K (.ref (A_CGs K)) "index" = some none), decide (PySem.W.typeIn K (.ref (A_fIGs K)) = some (.type "function")), decide (PySem.W.findIn K (.ref (A_CGs K)) "__getattribute__" = some (some (.builtin "BaseException.__getattribute__"))), decide (PySem.W.findIn K (.ref (A_CGs K)) "__getattr__" = some none), decide (PySem.W.hasDictIn K (A_CGs K) = true), decide (PySem.W.findIn K (.ref (A_CGs K)) "__class__" = some (some (.builtin "object.__class__"))), decide (PySem.W.mroIn K (A_CGs K) (.type "object") = some true), decide (PySem.W.subIn K (.ref (A_CGs K)) (.ref (A_CGs K)) = some true), decide (PySem.W.subIn K (.ref (A_CGs K)) (.ref (A_CIn K)) = some true), decide (PySem.W.subIn K (.ref (A_CGs K)) (.type "ValueError") = some true), HX.excB K (A_CNb K) [.ref (A_CIn K), .type "ValueError", .type "Exception", .type "BaseException", .type "object"] "ValueError.__new__", decide (PySem.W.findIn K (.ref (A_CNb K)) "__setattr__" = some (some (.builtin "object.__setattr__"))), decide (PySem.W.subIn K (.ref (A_CNb K)) (.type "BaseException") = some true), decide (PySem.W.typeIn K (.ref (A_CNb K)) = some (.type "type")), decide (PySem.W.keepIn K (.ref (A_CNb K)) = true)]
def exH3 (K : PySem.W.Frag) : List Bool := [decide (PySem.W.findIn K (.ref (A_CNb K)) "value" = some none), decide (PySem.W.typeIn K (.ref (A_fINb K)) = some (.type "function")), decide (PySem.W.findIn K (.ref (A_CNb K)) "__getattribute__" = some (some (.builtin "BaseException.__getattribute__"))), decide (PySem.W.findIn K (.ref (A_CNb K)) "__getattr__" = some none), decide (PySem.W.hasDictIn K (A_CNb K) = true), decide (PySem.W.findIn K (.ref (A_CNb K)) "__class__" = some (some (.builtin "object.__class__"))), decide (PySem.W.mroIn K (A_CNb K) (.type "object") = some true), decide (PySem.W.subIn K (.ref (A_CNb K)) (.ref (A_CNb K)) = some true), decide (PySem.W.subIn K (.ref (A_CNb K)) (.ref (A_CIn K)) = some true), decide (PySem.W.subIn K (.ref (A_CNb K)) (.type "ValueError") = some true), decide (PySem.W.subIn K (.ref (A_CNb K)) (.ref (A_CGs K)) = some false), HX.intB K "MOST_LENGTH" 6, HX.intB K "MOST_LETTERS" 26, HX.strB K "LOWERCASE" lowTxt, HX.intB K "MOST_GUESSES" 20, decide (PySem.W.nsIn K mainGlobals "len" = some none), decide (PySem.W.nsIn K mainGlobals "int" = some none), decide (PySem.W.nsIn K mainGlobals "abs" = some none), decide (PySem.W.nsIn K mainGlobals "divmod" = some none), decide (PySem.W.nsIn K mainGlobals "isinstance" = some none), decide (PySem.W.nsIn K mainGlobals "bool" = some none), decide (PySem.W.nsIn K mainGlobals "str" = some none), decide (PySem.W.nsIn K mainGlobals "range" = some none), decide (PySem.W.nsIn K mainGlobals "repr" = some none), decide (PySem.W.nsIn K mainGlobals "all" = some none)]
def exH4 (K : PySem.W.Frag) : List Bool := [decide (PySem.W.nsIn K mainGlobals "max" = some none), decide (PySem.W.nsIn K mainGlobals "min" = some none), decide (PySem.W.nsIn K mainGlobals "tuple" = some none), decide (PySem.W.nsIn K mainGlobals "ValueError" = some none), decide (PySem.W.nsIn K mainGlobals "zip" = some none), decide (PySem.W.nsIn K mainGlobals "enumerate" = some none), decide (PySem.W.nsIn K mainGlobals "dict" = some none), decide (PySem.W.plainGet K (A_CB K) Str.empty = true), decide (PySem.W.hasDictIn K (A_CB K) = true), decide (PySem.W.plainOver K (A_CB K) = true), decide (PySem.W.findIn K (.ref (A_CB K)) "__setattr__" = some (some (.builtin "object.__setattr__"))), decide (PySem.W.makesIn K (A_CB K) = true), decide (PySem.W.keepIn K (.ref (A_CB K)) = true), decide (PySem.W.findIn K (.ref (A_CB K)) "letters" = some none), decide (PySem.W.findIn K (.ref (A_CB K)) "length" = some none), decide (PySem.W.findIn K (.ref (A_CB K)) "size" = some none), decide (PySem.W.findIn K (.ref (A_CB K)) "__class__" = some (some (.builtin "object.__class__"))), decide (PySem.W.mroIn K (A_CB K) (.type "object") = some true), decide (PySem.W.kitOne K (.ref (A_CB K)) (.ref (A_CB K)) = some true), decide (PySem.W.kitOne K (.type "NoneType") (.ref (A_CB K)) = some false), decide (PySem.W.kitOne K (.type "bool") (.ref (A_CB K)) = some false), decide (PySem.W.kitOne K (.type "int") (.ref (A_CB K)) = some false), decide (PySem.W.kitOne K (.type "str") (.ref (A_CB K)) = some false), decide (PySem.W.kitOne K (.type "tuple") (.ref (A_CB K)) = some false), decide (PySem.W.kitOne K (.type "list") (.ref (A_CB K)) = some false)]
def exH5 (K : PySem.W.Frag) : List Bool := [decide (PySem.W.kitOne K (.type "dict") (.ref (A_CB K)) = some false), decide (PySem.W.plainGet K (A_CP K) Str.empty = true), decide (PySem.W.hasDictIn K (A_CP K) = true), decide (PySem.W.plainOver K (A_CP K) = true), decide (PySem.W.findIn K (.ref (A_CP K)) "__setattr__" = some (some (.builtin "object.__setattr__"))), decide (PySem.W.makesIn K (A_CP K) = true), decide (PySem.W.keepIn K (.ref (A_CP K)) = true), decide (PySem.W.findIn K (.ref (A_CP K)) "letters" = some none), decide (PySem.W.findIn K (.ref (A_CP K)) "length" = some none), decide (PySem.W.findIn K (.ref (A_CP K)) "untried" = some none), decide (PySem.W.findIn K (.ref (A_CP K)) "copies" = some none), decide (PySem.W.findIn K (.ref (A_CP K)) "asked_letters" = some none), decide (PySem.W.findIn K (.ref (A_CP K)) "asked_copies" = some none)]
def exH (K : PySem.W.Frag) : Bool := HX.allT (exH0 K) && HX.allT (exH1 K) && HX.allT (exH2 K)
def exI (K : PySem.W.Frag) : Bool := HX.allT (exH3 K) && HX.allT (exH4 K) && HX.allT (exH5 K)
def namesH0 : List PySem.Str := ["__name__", "InputError", "NotABoard", "InvalidLetters", "InvalidLength", "InvalidWord", "InvalidNumber", "InvalidGuesses", "MOST_LENGTH", "MOST_LETTERS", "MOST_GUESSES", "is_integer_within", "is_text_over", "is_word", "check_word", "check_guesses", "LOWERCASE", "Board", "is_alphabet", "count_words", "check_board", "letters_except", "Pairs", "turned_round", "tried", "tried_by", "letters_at", "most_copies", "everything", "tells"]
def namesH1 : List PySem.Str := ["tells_word", "parting", "twins", "_law_bowl", "_law_dip", "_law_of", "_law_got", "_law_bad", "_law_right"]
def namesH : List PySem.Str := namesH0 ++ namesH1
abbrev RH : PySem.W.OpenRow := PySem.W.OpenLaw.row PySem.Challenge.rw_guessmarks_k18_lists_refused
def asH : List Addr := mainGlobals :: List.range 1100
abbrev hkH : PySem.W.Hook := HX.hookA asH fnH tfH exH exI
def obH (s : PySem.W.SharedT) : HX.AlA := HX.obsA asH fnH tfH exH exI (HandSHeadRun.getT s)
theorem obH_eq (s : PySem.W.SharedT) : obH s = hkH.obs s.abs := HX.obsA_eq (HandSHeadRun.getT_eq s)
noncomputable abbrev endH (w : World) (os : OsState) := HX.endW RH 12000 w os
abbrev viewH : Program := PySem.W.view RH.prog [45]
abbrev KH (s : PySem.W.SharedT) : PySem.W.Frag := He.frT (HandSHeadRun.getT s) asH
theorem run1 (w : World) (os : OsState) : (endH w os).map (fun s => HandSHeadRun.looksF RH.prog (PySem.W.boot_heap w.params) s.abs) = some true := by kernel_rfl
theorem run2 (w : World) (os : OsState) : (endH w os).map (fun s => HX.seenW RH viewH namesH s) = some (PySem.W.openGood viewH namesH) := by kernel_rfl
theorem run3 (w : World) (os : OsState) : (endH w os).map (fun s => exH (KH s)) = some true := by kernel_rfl
theorem run4 (w : World) (os : OsState) : (endH w os).map (fun s => exI (KH s)) = some true := by kernel_rfl
theorem run5a (w : World) (os : OsState) : (endH w os).map (fun s => fnHa.all fun d => d.ok (KH s)) = some true := by kernel_rfl
theorem run5b (w : World) (os : OsState) : (endH w os).map (fun s => (fnHb.all fun d => d.ok (KH s)) && He.tabsB (HandSHeadRun.getT s) tfH (KH s)) = some true := by kernel_rfl
theorem e5H (s : PySem.W.SharedT) : ((fnH.all fun d => d.ok (KH s)) && He.tabsB (HandSHeadRun.getT s) tfH (KH s)) = ((fnHa.all fun d => d.ok (KH s)) && ((fnHb.all fun d => d.ok (KH s)) && He.tabsB (HandSHeadRun.getT s) tfH (KH s))) := by
  generalize KH s = k
  generalize He.tabsB (HandSHeadRun.getT s) tfH k = t
  unfold fnH
  rw [List.all_append, Bool.and_assoc]
theorem e6H (s : PySem.W.SharedT) : (fnH.map fun d => He.fnW (KH s) d.at_) = (fnHa.map fun d => He.fnW (KH s) d.at_) ++ (fnHb.map fun d => He.fnW (KH s) d.at_) := by
  generalize KH s = k
  unfold fnH
  rw [List.map_append]
theorem run5 (w : World) (os : OsState) : (endH w os).map (fun s => (fnH.all fun d => d.ok (KH s)) && He.tabsB (HandSHeadRun.getT s) tfH (KH s)) = some true := by
  have a := run5a w os
  have b := run5b w os
  generalize endH w os = x at a b ⊢
  refine comb2 a b ?_
  intro s
  exact e5H s
theorem run6a (w : World) (os : OsState) : (endH w os).map (fun s => fnHa.map fun d => He.fnW (KH s) d.at_) = some (fnHa.map He.DefD.val) := by kernel_rfl
theorem run6b (w : World) (os : OsState) : (endH w os).map (fun s => fnHb.map fun d => He.fnW (KH s) d.at_) = some (fnHb.map He.DefD.val) := by kernel_rfl
theorem run6 (w : World) (os : OsState) : (endH w os).map (fun s => fnH.map fun d => He.fnW (KH s) d.at_) = some (fnH.map He.DefD.val) := by
  have a := run6a w os
  have b := run6b w os
  generalize endH w os = x at a b ⊢
  refine comb3 a b ?_ ?_
  · intro s
    exact e6H s
  · unfold fnH
    rw [List.map_append]
theorem runH (w : World) : HandSHeadRun.RunEq RH (PySem.W.view RH.prog [45]) hkH obH 12000 namesH w := by
  unfold HandSHeadRun.RunEq
  intro os
  exact HX.run_all (x := endH w os) (fun t => (t.1, t.2.1, t.2.2.1, t.2.2.2.1, t.2.2.2.2.1, t.2.2.2.2.2)) (run1 w os) (run2 w os) (run3 w os) (run4 w os) (run5 w os) (run6 w os) (fun _ => rfl) rfl
end Gm
set_option maxHeartbeats 8000000
namespace PySem.W
open PySem PySem.Spec PySem.Calls PyProof.Rows Builtin
section
variable {prog : Program} {w : World} {M : Model} {A : Around} {E : Value → Shared → Prop} {s : Shared} {K : Frag} {x C f L : Addr} {ox : Obj} {od : Option Obj} {h₀ : Heap} {m : Str → Option Value} {b tb : Value}
theorem gm_ifBound {name : Str} {id : String} {args : List Value} {Q : Option Value → Shared → Prop} (X : K.In s.heap) (I : InstAt s.heap x ox C od) (hs : findIn K (.ref C) name = some (some (.builtin id)))
    (hb : ∀ self, bindSpecial (.builtin id) self = pure (.builtin id, [self])) (h : wpAny M A (call (.builtin id) (.ref x :: args)) (fun v => Q (some v)) E s) : wpAny M A (callSpecialIfBound? (.ref x) name args) Q E s := by
  simp only [callSpecialIfBound?, bindSpecialIfBound?]
  refine wpAny_holding <| wpAny_bind <| wpAny_bind <| wpAny_bind <| I.type.here <| (looks_findIn X hs).here ?_
  refine wpAny_bind <| wpAny_askSetting <| wpAny_ite ?_
  have z : wpAny M A (call (.builtin id) ([.ref x] ++ args) >>= fun v => pure (some v)) Q E s := wpAny_bind <| wpAny_mono h (fun v s' h' => wpAny_pure h') fun _ _ h' => h'
  split
  · exact wpAny_bind <| (Looks.of_pure (hb _)).here <| wpAny_pure z
  · exact wpAny_tryCatch <| wpAny_bind <| (Looks.of_pure (hb _)).here <| wpAny_pure z
def NeBack (Q : Value → Shared → Prop) (v : Value) (s' : Shared) : Prop := ∃ r, v = .bool r ∧ Q (.bool (!r)) s'
theorem gm_objNe {Q : Value → Shared → Prop} (hu : A.in1.units < cLine) (X : K.In s.heap) (I : InstAt s.heap x ox C od) (hm : mroIn K C (.type "object") = some true) (hs : findIn K (.ref C) "__eq__" = some (some (.ref f))) (hf : isFn K (.ref f) = true)
    (h : wpAny (model prog w) A.in1 (call (.ref f) [.ref x, b]) (NeBack Q) E s) : wpAny (model prog w) A (call (.builtin "object.__ne__") [.ref x, b]) Q E s := by
  refine wpAny_call <| codeAny_call_builtin PySem.F.cmp_object.ne.plain PySem.F.cmpEntry_ne <| check_slot (owner := "object") (n := "__ne__") PySem.F.cmpKind_ne PySem.F.cmpSplit_ne (I.type.andThen (looks_mroIn X hm)) (PySem.F.cmpArgs_ne _ _) ?_
  unfold Builtin.«object.__ne__»
  refine wpAny_bind (m := slotArgs "__ne__" 1 _) <| wpAny_pure ?_
  refine wpAny_bind (m := cRoomFor _ _) <| wpAny_cRoomFor hu ?_
  refine wpAny_bind (m := callSpecialIfBound? (.ref x) (Str.ofString "__eq__") _) <| ifBound_K X I hs hf <| wpAny_mono h (fun r s' hq => ?_) fun _ _ y => y
  obtain ⟨r, rfl, hq⟩ := hq
  refine wpAny_bind <| wpAny_truthy_bool ?_
  exact wpAny_pure hq
theorem gm_ne {Q : Value → Shared → Prop} (hu : A.units < cLine) (hu1 : A.in1.units < cLine) (X : K.In s.heap) (I : InstAt s.heap x ox C od) (hb : Looks (model prog w) s.heap (typeOf b) tb) (hn : notFirst K C tb = true)
    (hN : findIn K (.ref C) "__ne__" = some (some (.builtin "object.__ne__"))) (hm : mroIn K C (.type "object") = some true)
    (hs : findIn K (.ref C) "__eq__" = some (some (.ref f))) (hf : isFn K (.ref f) = true)
    (h : wpAny (model prog w) A.in1 (call (.ref f) [.ref x, b]) (NeBack Q) E s) : wpAny (model prog w) A (richCompare .NotEq (.ref x) b) Q E s := by
  have one : wpAny (model prog w) A (tryCompare (.ref x) (cmpInfo .NotEq).2.1 b) (fun r s' => ∃ v, r = some v ∧ Q v s') E s := by
    unfold tryCompare
    refine wpAny_bind <| gm_ifBound X I hN PySem.F.cmp_object.ne.bind ?_
    refine wpAny_mono (gm_objNe (Q := fun v s' => (∃ r, v = .bool r) ∧ Q v s') hu1 X I hm hs hf (wpAny_mono h (fun v s' hv => ?_) fun _ _ e => e)) (fun v s' hv => ?_) fun _ _ e => e
    · obtain ⟨r, e, hv⟩ := hv
      exact ⟨r, e, ⟨_, rfl⟩, hv⟩
    · obtain ⟨⟨r, rfl⟩, hv⟩ := hv
      exact wpAny_pure ⟨_, rfl, hv⟩
  unfold richCompare
  simp only [oneThing_ref]
  refine wpAny_holding <| wpAny_bind <| wpAny_cRoomFor hu ?_
  refine wpAny_bind <| I.type.here <| wpAny_bind <| hb.here ?_
  split
  · rename_i q
    have e : subIn K tb (.ref C) = some false := by
      rcases Bool.or_eq_true_iff.mp hn with e | e
      · rw [beq_iff_eq.mp e] at q
        simp at q
      · exact beq_iff_eq.mp e
    refine wpAny_bind <| (looks_subIn X e).here ?_
    simp only [Bool.false_eq_true, if_false]
    refine wpAny_bind <| wpAny_mono one (fun r s' z => ?_) fun _ _ e => e
    obtain ⟨v, rfl, hq⟩ := z
    exact wpAny_pure hq
  · refine wpAny_bind (wpAny_pure ?_)
    simp only [Bool.false_eq_true, if_false]
    refine wpAny_bind <| wpAny_mono one (fun r s' z => ?_) fun _ _ e => e
    obtain ⟨v, rfl, hq⟩ := z
    exact wpAny_pure hq
end
end PySem.W

namespace L2
open PySem PySem.Spec PyProof.Rows
section
variable {X : Cx} {n : Nat} {pins : List (Addr × Obj)} {σ : St} {H : Hp} {s : Shared}
theorem gm_call {A : Around} {CX : CXT} {f : Addr} {fd : FuncData} {ps : List Str} {sp : Sp} {E : XK} {vs : List V} {us : List Value} {Q : VK} (sb : Sub X n A) (I : Inv X pins σ H s) (F : FnOk X.prog X.w X.K X.mg X.base CX n f fd ps sp)
    (hb : Binds X.K fd ps []) (hx : Passes CX X E) (r2 : Vals vs us) (hsp : sp vs H Q E) : wpAny (model X.prog X.w) A (call (.ref f) us) (EP X pins σ Q) X.xe s := by
  have e0 : Env0 X.prog X.w X.K X.mg X.base A X.stack s H := by
    have e := I.env0
    exact ⟨by rw [sb.fr]; exact e.frames, e.mod, e.bs, e.bsz, e.funs, e.frf, e.hok, e.bare⟩
  have hl := F.len _ _ _ _ hsp
  have hl2 : us.length = ps.length := by rw [← r2.length]; exact hl
  refine wpAny_call <| codeAny_mono (F.run A X.stack s H ⟨us, []⟩ us vs Q E sb.room e0 (by
    have := hb s us I.kIn (by simpa using hl2)
    simpa using this) r2 hsp) fun r s' hq => ?_
  cases r with
  | error e => exact hx pins σ H s e s' I hq
  | ok fl =>
    cases fl with
    | ret w => exact I.after hq
    | next => exact hq.elim
    | brk => exact hq.elim
    | cont => exact hq.elim
/-- x == y, x != y by the class's own == -/
def rOwn (K : PySem.W.Frag) (C : Addr) (sp : Sp) (E : XK) (g : Bool → Bool) : R2 := fun x y H Q => ∃ a dx fs t, x = .ref a ∧ H a = some (.ins C dx fs) ∧ TyX K H y t ∧ PySem.W.notFirst K C t = true ∧ sp [.ref a, y] H (fun v H' => ∃ r, v = .bl r ∧ Q (.bl (g r)) H') E
theorem op_eqOwn {CX : CXT} {C f : Addr} {fd : FuncData} {ps : List Str} {sp : Sp} {E : XK} (hr : Room n X.A) (F : FnOk X.prog X.w X.K X.mg X.base CX n f fd ps sp) (hs : PySem.W.findIn X.K (.ref C) "__eq__" = some (some (.ref f))) (hf : PySem.W.isFn X.K (.ref f) = true)
    (hb : Binds X.K fd ps []) (hx : Passes CX X E) : OpR X (compareOp .Eq) (rOwn X.K C sp E id) := by
  intro pins s σ H x y u v Q I rx ry d
  obtain ⟨a, dx, fs, t, rfl, ha, ty, hn, hsp⟩ := d
  cases rx
  obtain ⟨mA, J, _⟩ := ins_get I.hok ha
  obtain ⟨od, J, _⟩ := J.look
  obtain ⟨m, hF⟩ := I.fr
  obtain ⟨Pv, Z, pv, _⟩ := kit_of I ry ty
  refine PySem.W.cmp_K (op := .Eq) hr.units0 hF I.ok.mod.kin J (Z.ty _ _ I.kIn pv) hn hs hf ?_
  refine wpAny_mono (gm_call ⟨hr, rfl⟩ I F hb hx (vs := [.ref a, y]) (us := [.ref a, v]) (.cons rfl (.cons ry .nil)) hsp) (fun z s' hz => ?_) fun _ _ e => e
  obtain ⟨z', H', I', rz, r, rfl, q⟩ := hz
  cases rz
  exact ⟨.bl r, H', I', rfl, q⟩
theorem op_neOwn {CX : CXT} {C f : Addr} {fd : FuncData} {ps : List Str} {sp : Sp} {E : XK} (hr : Room (n + 1) X.A) (F : FnOk X.prog X.w X.K X.mg X.base CX n f fd ps sp) (hs : PySem.W.findIn X.K (.ref C) "__eq__" = some (some (.ref f))) (hf : PySem.W.isFn X.K (.ref f) = true)
    (hN : PySem.W.findIn X.K (.ref C) "__ne__" = some (some (.builtin "object.__ne__"))) (hm : PySem.W.mroIn X.K C (.type "object") = some true)
    (hb : Binds X.K fd ps []) (hx : Passes CX X E) : OpR X (compareOp .NotEq) (rOwn X.K C sp E not) := by
  intro pins s σ H x y u v Q I rx ry d
  obtain ⟨a, dx, fs, t, rfl, ha, ty, hn, hsp⟩ := d
  cases rx
  obtain ⟨mA, J, _⟩ := ins_get I.hok ha
  obtain ⟨od, J, _⟩ := J.look
  obtain ⟨Pv, Z, pv, _⟩ := kit_of I ry ty
  refine PySem.W.gm_ne hr.units0 hr.in1.units0 I.kIn J (Z.ty _ _ I.kIn pv) hn hN hm hs hf ?_
  refine wpAny_mono (gm_call ⟨hr.in1, rfl⟩ I F hb hx (vs := [.ref a, y]) (us := [.ref a, v]) (.cons rfl (.cons ry .nil)) hsp) (fun z s' hz => ?_) fun _ _ e => e
  obtain ⟨z', H', I', rz, r, rfl, q⟩ := hz
  cases rz
  exact ⟨_, rfl, .bl (!r), H', I', rfl, q⟩
/-- str(x), repr(x) by the class's own -/
def rTxt (C : Addr) (sp : Sp) (E : XK) : List V → Hp → VK → Prop := fun xs H Q => ∃ a dx fs, xs = [.ref a] ∧ H a = some (.ins C dx fs) ∧ sp [.ref a] H (fun v H' => ∃ r, v = .str r ∧ Q (.str r) H') E
theorem call_reprOwn {CX : CXT} {C f : Addr} {fd : FuncData} {ps : List Str} {sp : Sp} {E : XK} (hr : Room (n + 1) X.A) (F : FnOk X.prog X.w X.K X.mg X.base CX n f fd ps sp) (hs : PySem.W.findIn X.K (.ref C) "__repr__" = some (some (.ref f))) (hf : PySem.W.isFn X.K (.ref f) = true)
    (hb : Binds X.K fd ps []) (hx : Passes CX X E) : CallR X (.builtin "repr") (rTxt C sp E) := by
  intro pins s σ H xs us Q I r h
  obtain ⟨a, dx, fs, rfl, ha, hsp⟩ := h
  obtain ⟨mA, J, _⟩ := ins_get I.hok ha
  obtain ⟨od, J, _⟩ := J.look
  obtain ⟨m, hF⟩ := I.fr
  cases r with
  | cons r1 r2 =>
    cases r2
    cases r1
    refine PySem.W.repr_K hr.in1.units0 hF I.ok.mod.kin J hs hf ?_
    refine wpAny_mono (gm_call ⟨hr.in1, rfl⟩ I F hb hx (vs := [.ref a]) (us := [.ref a]) (.cons rfl .nil) hsp) (fun z s' hz => ?_) fun _ _ e => e
    obtain ⟨z', H', I', rz, r, rfl, q⟩ := hz
    obtain ⟨t, rfl⟩ := rz
    exact ⟨.str r, H', I', ⟨_, rfl⟩, q⟩
theorem call_strOwn {CX : CXT} {C f : Addr} {fd : FuncData} {ps : List Str} {sp : Sp} {E : XK} (hr : Room (n + 2) X.A) (F : FnOk X.prog X.w X.K X.mg X.base CX n f fd ps sp) (hs : PySem.W.findIn X.K (.ref C) "__str__" = some (some (.ref f))) (hf : PySem.W.isFn X.K (.ref f) = true)
    (hb : Binds X.K fd ps []) (hx : Passes CX X E) : CallR X (.type "str") (rTxt C sp E) := by
  intro pins s σ H xs us Q I r h
  obtain ⟨a, dx, fs, rfl, ha, hsp⟩ := h
  obtain ⟨mA, J, _⟩ := ins_get I.hok ha
  obtain ⟨od, J, _⟩ := J.look
  cases r with
  | cons r1 r2 =>
    cases r2
    cases r1
    refine PySem.W.kso_call hr.in1.in1.units0 I.kIn J hs hf ?_
    refine wpAny_mono (gm_call ⟨hr.in1.in1, rfl⟩ I F hb hx (vs := [.ref a]) (us := [.ref a]) (.cons rfl .nil) hsp) (fun z s' hz => ?_) fun _ _ e => e
    obtain ⟨z', H', I', rz, r, rfl, q⟩ := hz
    obtain ⟨t, rfl⟩ := rz
    exact ⟨.str r, H', I', ⟨_, rfl⟩, q⟩
/-- an instance without __bool__ and __len__ is true -/
def tTru (C : Addr) (ta : TE) : TT := fun σ H Q => ta σ H fun x H' => ∃ a dx fs, x = .ref a ∧ H' a = some (.ins C dx fs) ∧ Q true H'
theorem pt_inst {a : Expr} {ta : TE} {C : Addr} (hb : PySem.W.findIn X.K (.ref C) "__bool__" = some none) (hl : PySem.W.findIn X.K (.ref C) "__len__" = some none) (ha : PE X a ta) (he : ∀ whole, isTrue a X.env whole = (do let v ← whole; standAt a.pos; holding [v] (truthy v))) :
    PT X a (tTru C ta) := by
  refine ⟨fun pins s σ H Q I h => ?_⟩
  refine isTrue_plain (thn (ha.run pins s σ H _ I h) fun v s1 hh => ?_) (he _)
  obtain ⟨x, H1, I1, r1, p, dx, fs, rfl, hp, q⟩ := hh
  cases r1
  obtain ⟨mA, J, _⟩ := ins_get I1.hok hp
  obtain ⟨od, J, _⟩ := J.look
  obtain ⟨m, hF⟩ := I1.fr
  exact PySem.W.truthy_K0 hF I1.ok.mod.kin J hb hl ⟨H1, I1, q⟩
end
end L2

namespace Gm
open PySem L2



/-- three ints stand at p -/
def BowlAt (H : Hp) (p : Addr) : Prop := ∃ x y z : Int, H p = some (.lst [.int x, .int y, .int z])
/-- all but p stands as it stood, and p is a bowl -/
def Stir (p : Addr) (H H' : Hp) : Prop := (∀ b o, b ≠ p → H b = some o → H' b = some o) ∧ BowlAt H' p
theorem Stir.trans {p : Addr} {H H1 H2 : Hp} (a : Stir p H H1) (b : Stir p H1 H2) : Stir p H H2 := ⟨fun c o n h => b.1 c o n (a.1 c o n h), b.2⟩
theorem Stir.same {p : Addr} {H H1 H2 : Hp} (a : Stir p H H1) (b : Same H1 H2) : Stir p H H2 := ⟨fun c o n h => b _ _ (a.1 c o n h), let ⟨x, y, z, h⟩ := a.2; ⟨x, y, z, b _ _ h⟩⟩
theorem Stir.refl {p : Addr} {H : Hp} (h : BowlAt H p) : Stir p H H := ⟨fun _ _ _ h => h, h⟩
theorem same_upd {H : Hp} {p : Addr} {o : HO} (h : H p = none) : Same H (upd H p o) := fun b u e => by rw [upd_ne (ne_of_none e h)]; exact e

theorem stir_upd (H : Hp) (p : Addr) (x y z : Int) : Stir p H (upd H p (.lst [.int x, .int y, .int z])) := ⟨fun b o n e => by rw [upd_ne n]; exact e, _, _, _, upd_same⟩
def spBowl (K : PySem.W.Frag) : Sp := fun vs H Q _ => ∃ (a : Addr) (ns : List Int) (k : Int), vs = [.ref a, .int k] ∧ SqL K H a (ns.map V.int) ∧ ns.length ≤ 63 ∧ 0 ≤ k ∧
  ∀ H' p, Same H H' → H p = none → BowlAt H' p → Q (.ref p) H'
def spDip : Sp := fun vs H Q _ => ∃ (p : Addr) (m : Int), vs = [.ref p, .int m] ∧ BowlAt H p ∧ 0 < m ∧ m < 1073741824 ∧
  ∀ H' d, Stir p H H' → 0 ≤ d → d < m → Q (.int d) H'

structure TxB (mg : Str → Option Value) : Prop where
  len : mg "len" = none
  int : mg "int" = none
  abs : mg "abs" = none
  divmod : mg "divmod" = none

theorem int_at {ns : List Int} {k : Int} (h0 : 0 ≤ k) (h : k < ns.length) : ∃ u, atI (ns.map V.int) k = some (V.int u) := by
  obtain ⟨j, rfl⟩ := Int.eq_ofNat_of_zero_le h0
  have hj : j < ns.length := by omega
  exact ⟨ns[j], atI_nat (by rw [List.getElem?_map, List.getElem?_eq_getElem hj]; rfl)⟩

theorem cut_int {ns : List Int} {lo hi : Option Int} {i : Nat} {y : V} (h : (cutV (ns.map V.int) lo hi)[i]? = some y) : ∃ u, y = V.int u := by
  have hm := List.mem_of_getElem? h
  unfold cutV at hm
  have := List.mem_of_mem_drop (List.mem_of_mem_take hm)
  obtain ⟨u, _, rfl⟩ := List.mem_map.mp this
  exact ⟨u, rfl⟩
theorem pos1 : (0 : Int) < 1999999943 := by decide
theorem cutIfV {tA : TT} {ta tb : TE} {σ : St} {H : Hp} {Q : V → Hp → Prop} (C : V → Prop) (k : ∀ v, C v → Q v H) (h : (∀ v, C v → Q v H) → tIf tA ta tb σ H Q) : tIf tA ta tb σ H Q := h k
theorem cutIf {tA : TT} {ta tb : TE} {σ : St} {H : Hp} {Q : V → Hp → Prop} (C : V → Hp → Prop) (k : ∀ v H', C v H' → Q v H') (h : (∀ v H', C v H' → Q v H') → tIf tA ta tb σ H Q) : tIf tA ta tb σ H Q := h k
section
variable {P : Program} {w : World} {K : PySem.W.Frag} {mg : Str → Option Value} {base : Heap}
abbrev nB : List Str := ["_law_script", "_law_k", "_law_own", "_law_mixed", "_law_entry"]
theorem scB : FnScope nB ["_law_script", "_law_k"] (defScope sBowl) := ⟨rfl, rfl, rfl, by decide +kernel, rfl, by decide +kernel, by decide +kernel⟩
theorem ok_bowl {f : Addr} {fd : FuncData} (F : Fun K "_law_bowl" "_law_bowl" sBowl f fd) (T : TxB mg) : FnOk P w K mg base CX0 1 f fd ["_law_script", "_law_k"] (spBowl K) := by
  refine F.ok scB (fun vs H Q E h => ?_) (fun cdv A outer s H vs Q E hr h => ?_)
  · obtain ⟨a, ns, k, rfl, _⟩ := h
    rfl
  · obtain ⟨a, ns, k, rfl, hS, hlen, h0, q⟩ := h
    refine ⟨_, pss_cons (ps_set (i := 2) scB.nd rfl (Or.inl rfl)
        (pe_ifExp (pt_cmpR op_lt (pv 1) (pe_callB call_len_seq (by rfl) T.len PySem.boot_len (pa_cons (pv 0) pa_nil)) (nomark _))
          (pe_callTy call_int1 (by rfl) T.int (by decide +kernel) (pa_cons (pe_ix ix_list (pv 0) (pv 1) (fun _ _ => rfl)) pa_nil))
          (pe_op op_add (pe_op op_mul pe_int (pv 1)) pe_int)))
      (pss_cons (ps_set (i := 3) scB.nd rfl (Or.inl rfl) (pe_op op_add pe_int (pe_op op_mul pe_int (pv 1))))
      (pss_cons (ps_for PassesOwn.never rfl (pi_list (pe_slice sl_list (pv 0) po_none (po_some pe_int))) (pg_name (i := 4) scB.nd rfl (Or.inl rfl))
          (pss_one (ps_set (i := 3) scB.nd rfl (Or.inl rfl)
            (pe_op op_mod (pe_callTy call_int1 (by rfl) T.int (by decide +kernel) (pa_cons (pe_op op_add (pe_op op_mul (pv 3) pe_int)
              (pe_op op_mod (pe_callTy call_int1 (by rfl) T.int (by decide +kernel) (pa_cons (pv 4) pa_nil)) pe_int)) pa_nil)) pe_int))))
      (pss_one (ps_ret (pe_lst (pa_cons (pe_op op_mod (pe_callTy call_int1 (by rfl) T.int (by decide +kernel) (pa_cons (pe_op op_add (pv 3) (pe_op op_mod (pv 2) pe_int)) pa_nil)) pe_int)
        (pa_cons (pe_ifExp (PW.pt (pw_or (pt_cmpR op_lt (pv 2) pe_int (nomark _)) (pw_or1 (pt_cmpR op_ge (pv 2) (pe_op op_pow pe_int pe_int) (nomark _)))))
            (pe_callB call_abs (by rfl) T.abs (by decide +kernel) (pa_cons (pv 2) pa_nil)) pe_int)
        (pa_cons pe_int pa_nil)))))))), ?_⟩
    refine cutIfV (fun v => ∃ u, v = .int u) ?_ (fun c => ?_)
    · rintro _ ⟨u, rfl⟩
      refine ⟨_, rfl, _, _, rfl, rfl, .inl ⟨by decide, by decide⟩, _, _, rfl, rfl, ?_⟩
      refine ⟨_, rfl, 12, rfl, a, _, rfl, hS, fun pl hpl => ?_⟩
      have s1 := same_upd (o := .lst (cutV (ns.map V.int) none (some 12))) hpl
      refine ⟨pl, rfl, ⟨_, SqL.of upd_same⟩, for_list (K := K) (a := pl) (xs := cutV (ns.map V.int) none (some 12))
        (fun i σ H' => H' = upd _ pl (.lst (cutV (ns.map V.int) none (some 12))) ∧ ∃ (z : Int) (v : Option V), σ = [some (.ref a), some (.int k), some (.int u), some (.int z), v]) ⟨rfl, _, _, rfl⟩ ?_ ?_ ?_⟩
      · rintro i σ H' _ ⟨rfl, _⟩
        exact SqL.of upd_same
      · rintro i y σ H' hi ⟨rfl, z, v, rfl⟩
        obtain ⟨e, rfl⟩ := cut_int hi
        refine ⟨_, rfl, _, _, rfl, rfl, .inr ⟨by decide, by decide⟩, ?_⟩
        refine ⟨_, rfl, .inl ⟨_, rfl, _, _, rfl, rfl, pos1, _, _, rfl, rfl, .inl ⟨_, rfl, _, _, rfl, rfl, pos1, rfl, _, _, rfl⟩⟩⟩
      · rintro σ H' ⟨rfl, z, v, rfl⟩
        refine ⟨_, rfl, _, rfl, _, _, rfl, rfl, pos1, _, _, rfl, rfl, .inl ⟨_, rfl, _, _, rfl, rfl, pos1, ?_⟩⟩
        refine cutIfV (fun v => ∃ u, v = .int u) ?_ (fun c => ?_)
        · rintro _ ⟨y, rfl⟩
          refine ⟨by show 3 ≤ sizeLine; decide, fun p hp => ?_⟩
          refine q _ p (s1.trans (same_upd hp)) (s1.free hp) ⟨_, _, _, upd_same⟩
        · refine ⟨_, rfl, _, _, rfl, rfl, _, rfl, ?_⟩
          refine ite2 (fun h => ?_) (fun h => ?_)
          · refine iteT ⟨_, rfl, _, rfl, c _ ⟨_, rfl⟩⟩
          · refine ⟨_, rfl, _, _, rfl, rfl, ⟨by decide, by decide, by decide⟩, _, _, rfl, rfl, _, rfl, ?_⟩
            refine ite2 (fun h => ?_) (fun h => ?_)
            · exact ⟨_, rfl, _, rfl, c _ ⟨_, rfl⟩⟩
            · exact c _ ⟨_, rfl⟩
    · refine ⟨_, rfl, _, rfl, a, _, rfl, .inl hS, _, _, rfl, rfl, _, rfl, ?_⟩
      refine ite2 (fun h => ?_) (fun h => ?_)
      · have h' : k < ns.length := by
          have := of_decide_eq_true h
          rw [List.length_map] at this
          exact this
        obtain ⟨e, he⟩ := int_at h0 h'
        exact ⟨_, rfl, _, rfl, a, _, _, _, rfl, rfl, hS, he, .inl ⟨_, rfl, c _ ⟨_, rfl⟩⟩⟩
      · exact ⟨_, rfl, _, _, rfl, rfl, .inl ⟨by decide, by decide⟩, _, _, rfl, rfl, c _ ⟨_, rfl⟩⟩
abbrev nD : List Str := ["_law_bowl_here", "_law_many", "_law_digit"]
theorem scD : FnScope nD ["_law_bowl_here", "_law_many"] (defScope sDip) := ⟨rfl, rfl, rfl, by decide +kernel, rfl, by decide +kernel, by decide +kernel⟩
theorem ok_dip {f : Addr} {fd : FuncData} (F : Fun K "_law_dip" "_law_dip" sDip f fd) (T : TxB mg) : FnOk P w K mg base CX0 1 f fd ["_law_bowl_here", "_law_many"] spDip := by
  refine F.ok scD (fun vs H Q E h => ?_) (fun cdv A outer s H vs Q E hr h => ?_)
  · obtain ⟨p, m, rfl, _⟩ := h
    rfl
  · obtain ⟨p, m, rfl, ⟨x, y, z, hp⟩, hm0, hm1, q⟩ := h
    refine ⟨_, pss_cons (ps_asg (pe_op op_add (pe_ix ix_list (pv 0) pe_int (fun _ _ => rfl)) pe_int) (pg_sub (pv 0) pe_int set_list))
      (pss_cons (ps_if (pt_cmpR op_gt (pe_ix ix_list (pv 0) pe_int (fun _ _ => rfl)) pe_int (nomark _))
        (pss_cons (ps_asg (pe_callB call_divmod (by rfl) T.divmod (by decide +kernel) (pa_cons (pe_callTy call_int1 (by rfl) T.int (by decide +kernel) (pa_cons (pe_ix ix_list (pv 0) pe_int (fun _ _ => rfl)) pa_nil)) (pa_cons (pv 1) pa_nil)))
            (pg_tup (by rfl) (pgs_cons (pg_sub (pv 0) pe_int set_list) (pgs_cons (pg_name (i := 2) scD.nd rfl (Or.inl rfl)) pgs_nil))))
          (pss_one (ps_ret (pv 2)))) pss_nil)
      (pss_cons (ps_asg (pe_op op_mod (pe_callTy call_int1 (by rfl) T.int (by decide +kernel) (pa_cons (pe_op op_add (pe_op op_add (pe_op op_mul (pe_ix ix_list (pv 0) pe_int (fun _ _ => rfl)) pe_int)
            (pe_op op_mul (pe_ix ix_list (pv 0) pe_int (fun _ _ => rfl)) pe_int))
            (pe_op op_mul (pe_op op_fdiv (pe_ix ix_list (pv 0) pe_int (fun _ _ => rfl)) pe_int) pe_int)) pa_nil)) pe_int) (pg_sub (pv 0) pe_int set_list))
      (pss_one (ps_ret (pe_op op_mod (pe_callTy call_int1 (by rfl) T.int (by decide +kernel) (pa_cons (pe_op op_fdiv (pe_ix ix_list (pv 0) pe_int (fun _ _ => rfl)) pe_int) pa_nil)) (pv 1)))))), ?_⟩
    refine ⟨_, rfl, p, _, 2, _, rfl, rfl, SqL.of hp, rfl, _, _, rfl, rfl, _, rfl, p, _, 2, 2, rfl, rfl, hp, rfl, ?_⟩
    have h1 : upd H p (.lst [.int x, .int y, .int (z + 1)]) p = some (.lst [.int x, .int y, .int (z + 1)]) := upd_same
    refine ⟨_, rfl, p, _, 1, _, rfl, rfl, SqL.of h1, rfl, _, _, rfl, rfl, _, rfl, ?_⟩
    refine ite2 (fun h => ?_) (fun h => ?_)
    · refine ⟨_, rfl, p, _, 1, _, rfl, rfl, SqL.of h1, rfl, .inl ⟨_, rfl, _, rfl, _, _, rfl, ⟨hm0, hm1⟩, fun t ht => ?_⟩⟩
      have ntp : t ≠ p := fun e => by rw [e] at ht; exact absurd (h1.symm.trans ht) (by simp)
      refine ⟨t, _, rfl, SqT.of upd_same, rfl, _, _, rfl, _, rfl, p, _, 1, 1, rfl, rfl, ((upd_ne ntp.symm).trans h1), rfl, ?_⟩
      refine ⟨_, _, rfl, rfl, _, rfl, ?_⟩
      exact q _ _ (((stir_upd H p _ _ _).same (same_upd ht)).trans (stir_upd _ p _ _ _)) (Int.emod_nonneg _ (by omega)) (Int.emod_lt_of_pos _ hm0)
    · refine ⟨_, rfl, p, _, 0, _, rfl, rfl, SqL.of h1, rfl, _, _, rfl, rfl, .inr ⟨by decide, by decide⟩, _, rfl, p, _, 2, _, rfl, rfl, SqL.of h1, rfl, _, _, rfl, rfl, .inr ⟨by decide, by decide⟩, _, _, rfl, rfl, _, rfl, p, _, 0, _, rfl, rfl, SqL.of h1, rfl, _, _, rfl, rfl, ⟨by decide, by decide⟩, _, _, rfl, rfl, .inr ⟨by decide, by decide⟩, _, _, rfl, rfl, .inl ⟨_, rfl, _, _, rfl, rfl, pos1, _, rfl, p, _, 0, 0, rfl, rfl, h1, rfl, _, rfl, p, _, 0, _, rfl, rfl, SqL.of upd_same, rfl, _, _, rfl, rfl, ⟨by decide, by decide⟩, .inl ⟨_, rfl, _, rfl, _, _, rfl, rfl, hm0, ?_⟩⟩⟩
      exact q _ _ ((stir_upd H p _ _ _).trans (stir_upd _ p _ _ _)) (Int.emod_nonneg _ (by omega)) (Int.emod_lt_of_pos _ hm0)
end
end Gm

namespace Gm
open PySem L2


abbrev sEq : Stmt := inClass (top 19) 3
abbrev sStr : Stmt := inClass (top 19) 4



/-! ### mathematics -/

def low : List Nat := lowTxt.cps.toList
def pick (s : Str) : List Nat := low.filter fun c => decide (c ∈ s.cps.toList)
def Alph (s : Str) : Prop := 2 ≤ s.length ∧ s.length ≤ 26 ∧ s.cps.toList = pick s
instance (s : Str) : Decidable (Alph s) := by unfold Alph; infer_instance
theorem join_one (cs : List Nat) : Txt.join (Str.ofString "") (cs.map fun c => (⟨#[c]⟩ : Str)) = ⟨cs.toArray⟩ := by
  have h : (cs.map fun c => (⟨#[c]⟩ : Str)) = (cs.map fun c => [c]).map SX.S := by rw [List.map_map]; rfl
  have e : (Str.ofString "" : Str) = SX.S [] := rfl
  rw [h, e, SX.join_S]
  have j : ∀ l : List Nat, TL.joinL [] (l.map fun c => [c]) = l := by
    intro l
    induction l with
    | nil => rfl
    | cons a l ih =>
      cases l with
      | nil => rfl
      | cons b l =>
        show [a] ++ ([] ++ TL.joinL [] ((b :: l).map fun c => [c])) = a :: b :: l
        rw [ih]
        rfl
  rw [j]
theorem str_len (s : Str) : s.cps.toList.length = s.length := by simp [Str.length]
theorem take_filter {p : Nat → Bool} (l : List Nat) (i : Nat) (h : i < l.length) : (l.take (i + 1)).filter p = (l.take i).filter p ++ (if p l[i] = true then [l[i]] else []) := by
  rw [List.take_succ_eq_append_getElem h, List.filter_append]
  congr 1
  by_cases c : p l[i] = true
  · rw [if_pos c]; simp [c]
  · rw [if_neg c]; simp [c]

theorem low_len : low.length = 26 := by decide +kernel
theorem sum_one (cs : List Nat) : ((cs.map fun c => (⟨#[c]⟩ : Str)).map (·.length)).sum = cs.length := by
  induction cs with
  | nil => rfl
  | cons c cs ih =>
    rw [List.map_cons, List.map_cons, List.sum_cons, ih, List.length_cons]
    show 1 + cs.length = cs.length + 1
    omega
/-! ### promises -/
def NoInt (K : PySem.W.Frag) (t : Value) : Prop := PySem.W.kitOne K t (.type "bool") = some true ∨ (PySem.W.kitOne K t (.type "bool") = some false ∧ PySem.W.kitOne K t (.type "int") = some false)
def spWithin (K : PySem.W.Frag) : Sp := fun vs H Q _ => ∃ (v : V) (lo hi : Int), vs = [v, .int lo, .int hi] ∧
  ((∃ n, v = .int n ∧ Q (.bl (decide (lo ≤ n ∧ n ≤ hi))) H) ∨ (∃ t, TyX K H v t ∧ NoInt K t ∧ Q (.bl false) H))
def spAlpha (K : PySem.W.Frag) : Sp := fun vs H Q _ => ∃ (v : V), vs = [v] ∧
  ((∃ s, v = .str s ∧ s.length ≤ 1000 ∧ ∀ H', Same H H' → Q (.bl (decide (Alph s))) H') ∨ (∃ t, TyX K H v t ∧ PySem.W.kitOne K t (.type "str") = some false ∧ Q (.bl false) H))
def spCount : Sp := fun vs H Q _ => ∃ (m n : Int), vs = [.int m, .int n] ∧ 0 ≤ m ∧ m ≤ 26 ∧ 0 ≤ n ∧ n ≤ 6 ∧ Q (.int (m ^ n.toNat)) H
def boardF (s : Str) (n : Int) : List (Str × V) := putF "size" (.int ((s.length : Int) ^ n.toNat)) (putF "length" (.int n) (putF "letters" (.str s) []))
def BoardAt (C : Addr) (H : Hp) (p : Addr) (s : Str) (n : Int) : Prop := ∃ dx, H p = some (.ins C dx (boardF s n))
/-- all but p as it stood -/
def But (p : Addr) (H H' : Hp) : Prop := ∀ b o, b ≠ p → H b = some o → H' b = some o
def spInit (C : Addr) : Sp := fun vs H Q _ => ∃ (p dx : Addr) (s : Str) (n : Int), vs = [.ref p, .str s, .int n] ∧ Alph s ∧ 1 ≤ n ∧ n ≤ 6 ∧ H p = some (.ins C dx []) ∧
  ∀ H', But p H H' → BoardAt C H' p s n → Q .non H'
/-- what another object is, beside a board -/
def spEqB (K : PySem.W.Frag) (C : Addr) : Sp := fun vs H Q _ => ∃ (p : Addr) (s : Str) (n : Int) (y : V), vs = [.ref p, y] ∧ BoardAt C H p s n ∧ s.length ≤ 1000 ∧
  ((∃ q s' n', y = .ref q ∧ BoardAt C H q s' n' ∧ s'.length ≤ 1000 ∧ Q (.bl (decide (s = s' ∧ n = n'))) H) ∨ (∃ t, TyX K H y t ∧ PySem.W.kitOne K t (.ref C) = some false ∧ Q (.bl false) H))
def digit (n : Int) : Str := (toString n : String)
def spStr (C : Addr) : Sp := fun vs H Q _ => ∃ (p : Addr) (s : Str) (n : Int), vs = [.ref p] ∧ BoardAt C H p s n ∧ s.length ≤ 26 ∧ 1 ≤ n ∧ n ≤ 6 ∧ Q (.str (s ++ " " ++ digit n)) H
def spRepr (C : Addr) : Sp := fun vs H Q _ => ∃ (p : Addr) (s : Str) (n : Int), vs = [.ref p] ∧ BoardAt C H p s n ∧ s.length ≤ 26 ∧ 1 ≤ n ∧ n ≤ 6 ∧ Q (.str ("Board(" ++ s ++ " " ++ digit n ++ ")")) H

structure TxW (mg : Str → Option Value) : Prop where
  isi : mg "isinstance" = none
  bool : mg "bool" = none
  int : mg "int" = none
  str : mg "str" = none
  len : mg "len" = none
  range : mg "range" = none
  most : ∃ t, mg "MOST_LETTERS" = some (.int 26 t)
  mlen : ∃ t, mg "MOST_LENGTH" = some (.int 6 t)
  low : ∃ t, mg "LOWERCASE" = some (.str lowTxt t)

section
variable {P : Program} {w : World} {K : PySem.W.Frag} {mg : Str → Option Value} {base : Heap}
theorem scW : FnScope ["value", "least", "most"] ["value", "least", "most"] (defScope sWithin) := ⟨rfl, rfl, rfl, by decide +kernel, rfl, by decide +kernel, by decide +kernel⟩
theorem ok_within {f : Addr} {fd : FuncData} (F : Fun K "is_integer_within" "is_integer_within" sWithin f fd) (T : TxW mg) : FnOk P w K mg base CX0 1 f fd ["value", "least", "most"] (spWithin K) := by
  refine F.ok scW (fun vs H Q E h => ?_) (fun cdv A outer s H vs Q E hr h => ?_)
  · obtain ⟨v, lo, hi, rfl, _⟩ := h
    rfl
  · obtain ⟨v, lo, hi, rfl, h⟩ := h
    refine ⟨_, pss_cons (ps_if (PW.pt (pw_or (pt_val (pe_callB call_isi (by rfl) T.isi (by decide +kernel) (pa_cons (pv 0) (pa_cons (pe_bltn (v := .ty "bool") (by rfl) T.bool (by decide +kernel) rfl) pa_nil))))
        (pw_or1 (pt_not (pt_val (pe_callB call_isi (by rfl) T.isi (by decide +kernel) (pa_cons (pv 0) (pa_cons (pe_bltn (v := .ty "int") (by rfl) T.int (by decide +kernel) rfl) pa_nil))))))))
        (pss_one (ps_ret pe_bl)) pss_nil)
      (pss_one (ps_ret (pe_chain op_le op_le (pv 1) (pv 0) (pv 2)))), ?_⟩
    rcases h with ⟨n, rfl, q⟩ | ⟨t, ty, no, q⟩
    · refine ⟨_, rfl, _, _, _, _, _, rfl, .ty "bool", .base (.int n), kit_ty (r := false) (by decide +kernel), _, rfl, iteF ?_⟩
      refine ⟨_, rfl, _, _, _, _, _, rfl, .ty "int", .base (.int n), kit_ty (r := true) (by decide +kernel), _, rfl, ?_⟩
      refine ⟨_, rfl, _, rfl, _, _, rfl, rfl, _, rfl, ?_⟩
      refine ite2 (fun h => ?_) (fun h => ?_)
      · refine ⟨_, rfl, _, _, rfl, rfl, ?_⟩
        have e : decide (lo ≤ n ∧ n ≤ hi) = decide (n ≤ hi) := by
          have := of_decide_eq_true h
          simp [this]
        rw [e] at q
        exact q
      · have e : decide (lo ≤ n ∧ n ≤ hi) = false := by
          simp only [decide_eq_true_eq] at h
          simp [h]
        rw [e] at q
        exact q
    · rcases no with no | ⟨no, no2⟩
      · exact ⟨_, rfl, _, _, _, _, _, rfl, .ty "bool", ty, no, _, rfl, iteT q⟩
      · refine ⟨_, rfl, _, _, _, _, _, rfl, .ty "bool", ty, no, _, rfl, iteF ?_⟩
        exact ⟨_, rfl, _, _, _, _, _, rfl, .ty "int", ty, no2, _, rfl, q⟩
abbrev nA : List Str := ["letters", "letter"]
theorem scAl : FnScope nA ["letters"] (defScope sAlpha) := ⟨rfl, rfl, rfl, by decide +kernel, rfl, by decide +kernel, by decide +kernel⟩
theorem ok_alpha {f : Addr} {fd : FuncData} (F : Fun K "is_alphabet" "is_alphabet" sAlpha f fd) (T : TxW mg) : FnOk P w K mg base CX0 1 f fd ["letters"] (spAlpha K) := by
  refine F.ok scAl (fun vs H Q E h => ?_) (fun cdv A outer s H vs Q E hr h => ?_)
  · obtain ⟨v, rfl, _⟩ := h
    rfl
  · obtain ⟨v, rfl, h⟩ := h
    obtain ⟨t1, mg1⟩ := T.most
    obtain ⟨t2, mg2⟩ := T.low
    refine ⟨_, pss_cons (ps_if (PW.pt (pw_or (pt_not (pt_val (pe_callB call_isi (by rfl) T.isi (by decide +kernel) (pa_cons (pv 0) (pa_cons (pe_bltn (v := .ty "str") (by rfl) T.str (by decide +kernel) rfl) pa_nil)))))
        (pw_or1 (pt_not (pt_chain op_le op_le pe_int (pe_callB call_len_str (by rfl) T.len PySem.boot_len (pa_cons (pv 0) pa_nil)) (pe_glob (v := .int 26) (by rfl) mg1 ⟨_, rfl⟩))))))
        (pss_one (ps_ret pe_bl)) pss_nil)
      (pss_one (ps_ret (pe_cmpR op_eq (pv 0) (pe_join pe_str
        (pe_lc (own := [("letter", 1)]) (g := gName 1) (by rfl) scAl.nd (pi_str (pe_glob (v := .str lowTxt) (by rfl) mg2 ⟨_, rfl⟩)) (blkOk_by (own := [("letter", 1)]) (N := nA) (sc := defScope sAlpha) (by decide +kernel))
          (fun _ _ _ _ _ => pg_name (i := 1) scAl.nd rfl (Or.inl rfl)) (fun _ _ _ _ _ => pts_one (pt_cmpR op_in_sign (pv 1) (pv 0) rfl)) (fun _ _ _ _ _ => pv 1))) (nomark _)))), ?_⟩
    rcases h with ⟨z, rfl, hz, q⟩ | ⟨t, ty, no, q⟩
    · refine ⟨_, rfl, _, _, _, _, _, rfl, .ty "str", .base (.str z), kit_ty (r := true) (by decide +kernel), _, rfl, ?_⟩
      refine ⟨_, rfl, _, rfl, by have : sizeLine = 16777216 := sizeLine_eq; omega, _, _, rfl, rfl, _, rfl, ?_⟩
      have hf : ¬ Alph z → decide (Alph z) = false := decide_eq_false
      refine ite2 (fun h2 => ?_) (fun h2 => ?_)
      · refine ⟨_, _, rfl, rfl, _, rfl, ?_⟩
        have h2 := of_decide_eq_true h2
        refine ite2 (fun h3 => ?_) (fun h3 => ?_)
        · have n : ¬ Alph z := fun a => by
            have := a.2.1
            simp at h3
            omega
          rw [hf n] at q
          exact q _ (Same.refl H)
        · have h3 : (z.length : Int) ≤ 26 := by simpa using h3
          refine ⟨_, rfl, ⟨_, rfl⟩, lowTxt, rfl, fun D hD => ?_⟩
          refine lc_it (walk_str (z := lowTxt)) (fun i H' => Same H H' ∧ H' D = some (.lst (((low.take i).filter fun c => decide (c ∈ z.cps.toList)).map fun c => V.str ⟨#[c]⟩))) ⟨same_upd hD, upd_same⟩ (fun _ _ _ _ => trivial) ?_ ?_
          · rintro i x H1 H2 hi ⟨sm, hD1⟩ ⟨rfl, c, hc, rfl⟩
            have hi' : i < low.length := hi
            have ec : low[i] = c := by
              have : lowTxt.cps[i] = c := (Array.getElem?_eq_some_iff.mp hc).2
              exact this
            have st := take_filter (p := fun c => decide (c ∈ z.cps.toList)) low i hi'
            rw [ec] at st
            refine ⟨rfl, _, rfl, _, rfl, c, z, rfl, rfl, _, rfl, ?_⟩
            refine ite2 (fun hm => ?_) (fun hm => ?_)
            · rw [if_pos hm] at st
              refine ⟨_, rfl, _, hD1, ?_, fun b o e => ?_, ?_⟩
              · have h1 := List.length_filter_le (fun c => decide (c ∈ z.cps.toList)) (low.take i)
                have h2 : (low.take i).length ≤ i := by rw [List.length_take]; omega
                have h3 : sizeLine = 16777216 := sizeLine_eq
                rw [low_len] at hi'
                rw [List.length_map]
                omega
              · rw [upd_ne (ne_of_none e hD)]
                exact sm b o e
              · rw [upd_same, st, List.map_append]
                rfl
            · rw [if_neg hm, List.append_nil] at st
              exact ⟨sm, by rw [st]; exact hD1⟩
          · rintro H1 ⟨sm, hD1⟩
            have el : low.take lowTxt.cps.size = low := List.take_of_length_le (Nat.le_of_eq (by simp [low]))
            rw [el] at hD1
            refine ⟨_, D, (pick z).map (fun c => (⟨#[c]⟩ : Str)), rfl, rfl, .inl (SqL.of ?_), ?_, rfl, ?_⟩
            · rw [List.map_map]
              exact hD1
            · have h1 := List.length_filter_le (fun c => decide (c ∈ z.cps.toList)) low
              have h2 : (pick z).length ≤ 26 := h1
              rw [sum_one, List.length_map]
              show (pick z).length + (pick z).length * 0 ≤ 16777216
              omega
            · have e : decide (V.str z = V.str (Txt.join (Str.ofString "") ((pick z).map fun c => (⟨#[c]⟩ : Str)))) = decide (Alph z) := by
                rw [join_one]
                refine decide_eq_decide.mpr ⟨fun e => ⟨by omega, by omega, ?_⟩, fun a => ?_⟩
                · have e := V.str.inj e
                  have := congrArg (fun s : Str => s.cps.toList) e
                  simpa using this
                · have := a.2.2
                  rw [← this]
              rw [← e] at q
              exact q _ sm
      · have n : ¬ Alph z := fun a => by
          have := a.1
          simp at h2
          omega
        rw [hf n] at q
        exact ⟨_, rfl, q _ (Same.refl H)⟩
    · exact ⟨_, rfl, _, _, _, _, _, rfl, .ty "str", ty, no, _, rfl, iteT q⟩

theorem scC : FnScope ["many", "length", "total", "place"] ["many", "length"] (defScope sCount) := ⟨rfl, rfl, rfl, by decide +kernel, rfl, by decide +kernel, by decide +kernel⟩
theorem ok_count {f : Addr} {fd : FuncData} (F : Fun K "count_words" "count_words" sCount f fd) (T : TxW mg) : FnOk P w K mg base CX0 1 f fd ["many", "length"] spCount := by
  refine F.ok scC (fun vs H Q E h => ?_) (fun cdv A outer s H vs Q E hr h => ?_)
  · obtain ⟨m, n, rfl, _⟩ := h
    rfl
  · obtain ⟨m, n, rfl, m0, m1, n0, n1, q⟩ := h
    refine ⟨_, pss_cons (ps_set (i := 2) scC.nd rfl (Or.inl rfl) pe_int)
      (pss_cons (ps_for PassesOwn.never rfl (pi_range1 (by rfl) T.range (pa_cons (pv 1) pa_nil)) (pg_name (i := 3) scC.nd rfl (Or.inl rfl)) (pss_one (ps_aug (i := 2) scC.nd rfl (Or.inl rfl) (pv 0) iop_mul)))
      (pss_one (ps_ret (pv 2)))), ?_⟩
    refine ⟨_, rfl, n, rfl, by omega, by omega, for_range (n := n.toNat) (fun i σ H' => H' = H ∧ ∃ v, σ = [some (.int m), some (.int n), some (.int (m ^ i)), v]) ⟨rfl, none, by rw [Int.pow_zero]; rfl⟩ ?_ ?_⟩
    · rintro i σ H' hi ⟨rfl, v, rfl⟩
      exact ⟨_, rfl, _, rfl, _, _, rfl, rfl, .inr ⟨by omega, by omega⟩, rfl, _, by rw [Int.pow_succ]; rfl⟩
    · rintro σ H' ⟨rfl, v, rfl⟩
      exact ⟨_, rfl, q⟩
/-- a def of the top, as it is called -/
structure Df (K : PySem.W.Frag) (mg : Str → Option Value) (x : Str) (f : Addr) (fd : FuncData) (ps : List Str) : Prop where
  mg : mg x = some (.ref f)
  kp : PySem.W.keepIn K (.ref f) = true
  b : Binds K fd ps []
/-- the class Board -/
structure TxC (K : PySem.W.Frag) (mg : Str → Option Value) (C : Addr) : Prop where
  cl : Cls K C
  mgC : mg "Board" = some (.ref C)
  nL : NoAttr K C "letters"
  nN : NoAttr K C "length"
  nS : NoAttr K C "size"
  ac : PySem.W.findIn K (.ref C) "__class__" = some (some (.builtin "object.__class__"))
  gt : PySem.W.specialIn K (.builtin "object.__class__") "__get__" = some (some (.builtin "getset_descriptor.__get__"))
  tk : PySem.W.takesIn K (.builtin "object.__class__") = some true
  ob : PySem.W.mroIn K C (.type "object") = some true
  own : PySem.W.kitOne K (.ref C) (.ref C) = some true
theorem bf_eq (s : Str) (n : Int) : boardF s n = ([("letters", V.str s), ("length", V.int n), ("size", V.int ((s.length : Int) ^ n.toNat))] : List (Str × V)) := by
  have h1 : ¬ (("letters" : Str) = "length") := by decide +kernel
  have h2 : ¬ (("letters" : Str) = "size") := by decide +kernel
  have h3 : ¬ (("length" : Str) = "size") := by decide +kernel
  show putF "size" _ (if ("letters" : Str) = "length" then _ else (("letters" : Str), V.str s) :: putF "length" (V.int n) []) = _
  rw [if_neg h1]
  show (if ("letters" : Str) = "size" then _ else (("letters" : Str), V.str s) :: (if ("length" : Str) = "size" then _ else (("length" : Str), V.int n) :: putF "size" _ [])) = _
  rw [if_neg h2, if_neg h3]
  rfl
theorem pf2_eq (s : Str) (n : Int) : putF "length" (.int n) (putF "letters" (.str s) []) = ([("letters", V.str s), ("length", V.int n)] : List (Str × V)) := by
  have h1 : ¬ (("letters" : Str) = "length") := by decide +kernel
  show (if ("letters" : Str) = "length" then _ else (("letters" : Str), V.str s) :: putF "length" (V.int n) []) = _
  rw [if_neg h1]
  rfl
theorem bf_letters (s : Str) (n : Int) : (boardF s n).lookup ("letters" : Str) = some (.str s) := by rw [bf_eq]; rfl
theorem bf_length (s : Str) (n : Int) : (boardF s n).lookup ("length" : Str) = some (.int n) := by
  have h1 : (("length" : Str) == "letters") = false := by decide +kernel
  rw [bf_eq, List.lookup_cons, h1]
  rfl
theorem bf_size (s : Str) (n : Int) : (boardF s n).lookup ("size" : Str) = some (.int ((s.length : Int) ^ n.toNat)) := by
  have h1 : (("size" : Str) == "letters") = false := by decide +kernel
  have h2 : (("size" : Str) == "length") = false := by decide +kernel
  rw [bf_eq, List.lookup_cons, h1, List.lookup_cons, h2]
  rfl
theorem But.upd {p : Addr} {H : Hp} {o : HO} : But p H (L2.upd H p o) := fun b u n e => by rw [upd_ne n]; exact e
theorem But.trans {p : Addr} {H H1 H2 : Hp} (a : But p H H1) (b : But p H1 H2) : But p H H2 := fun c o n h => b c o n (a c o n h)
theorem But.of {p : Addr} {H H1 : Hp} (a : Same H H1) : But p H H1 := fun c o n h => a c o h
theorem scI : FnScope ["self", "letters", "length"] ["self", "letters", "length"] (defScope sInit) := ⟨rfl, rfl, rfl, by decide +kernel, rfl, by decide +kernel, by decide +kernel⟩
theorem ok_init {f C fA fW fC : Addr} {fd fdA fdW fdC : FuncData} (F : Fun K "__init__" "Board.__init__" sInit f fd) (T : TxW mg) (TC : TxC K mg C)
    (GA : FnOk P w K mg base CX0 1 fA fdA ["letters"] (spAlpha K)) (DA : Df K mg "is_alphabet" fA fdA ["letters"]) (GW : FnOk P w K mg base CX0 1 fW fdW ["value", "least", "most"] (spWithin K)) (DW : Df K mg "is_integer_within" fW fdW ["value", "least", "most"])
    (GC : FnOk P w K mg base CX0 1 fC fdC ["many", "length"] spCount) (DC : Df K mg "count_words" fC fdC ["many", "length"]) : FnOk P w K mg base CX0 2 f fd ["self", "letters", "length"] (spInit C) := by
  refine F.ok scI (fun vs H Q E h => ?_) (fun cdv A outer s H vs Q E hr h => ?_)
  · obtain ⟨p, dx, s, n, rfl, _⟩ := h
    rfl
  · obtain ⟨p, dx, z, n, rfl, hz, n0, n1, hp, q⟩ := h
    obtain ⟨t1, mg1⟩ := T.mlen
    refine ⟨_, pss_cons (ps_if (pt_not (pt_val (pe_call GA hr (by rfl) DA.mg DA.kp DA.b .nil pass0 (pa_cons (pv 1) pa_nil)))) (pss_one ps_never) pss_nil)
      (pss_cons (ps_if (pt_not (pt_val (pe_call GW hr (by rfl) DW.mg DW.kp DW.b .nil pass0 (pa_cons (pv 2) (pa_cons pe_int (pa_cons (pe_glob (v := .int 6) (by rfl) mg1 ⟨_, rfl⟩) pa_nil)))))) (pss_one ps_never) pss_nil)
      (pss_cons (ps_fld (pv 0) (pv 1) rfl) (pss_cons (ps_fld (pv 0) (pv 2) rfl)
      (pss_one (ps_fld (pv 0) (pe_call GC hr (by rfl) DC.mg DC.kp DC.b .nil pass0 (pa_cons (pe_callB call_len_str (by rfl) T.len PySem.boot_len (pa_cons (pv 1) pa_nil)) (pa_cons (pv 2) pa_nil))) rfl))))), ?_⟩
    have hl : z.length ≤ 26 := hz.2.1
    have hline : sizeLine = 16777216 := sizeLine_eq
    refine ⟨_, rfl, _, rfl, .inl ⟨z, rfl, by omega, fun H1 s1 => ⟨_, rfl, ?_⟩⟩⟩
    rw [decide_eq_true hz]
    refine iteF ?_
    refine ⟨_, rfl, _, _, _, rfl, .inl ⟨n, rfl, _, rfl, ?_⟩⟩
    rw [decide_eq_true (show 1 ≤ n ∧ n ≤ 6 from ⟨n0, n1⟩)]
    refine iteF ?_
    have hp1 := s1 _ _ hp
    refine ⟨_, rfl, _, rfl, p, C, dx, _, rfl, hp1, TC.cl, TC.nL, by show 0 < 1000; decide, ?_⟩
    refine ⟨_, rfl, _, rfl, p, C, dx, _, rfl, upd_same, TC.cl, TC.nN, by show 1 < 1000; decide, ?_⟩
    refine ⟨_, rfl, _, rfl, by omega, _, rfl, _, _, rfl, by omega, by omega, by omega, n1, ?_⟩
    refine ⟨_, rfl, p, C, dx, _, rfl, upd_same, TC.cl, TC.nS, (by rw [pf2_eq]; show 2 < 1000; decide), ?_⟩
    refine q _ ?_ ⟨dx, upd_same⟩
    exact (But.of s1).trans (But.upd.trans (But.upd.trans But.upd))
theorem digit_len {n : Int} (h0 : 1 ≤ n) (h1 : n ≤ 6) : (digit n).length = 1 := by
  have : n = 1 ∨ n = 2 ∨ n = 3 ∨ n = 4 ∨ n = 5 ∨ n = 6 := by omega
  rcases this with rfl | rfl | rfl | rfl | rfl | rfl <;> decide +kernel
theorem digit_log {n : Int} (h0 : 1 ≤ n) (h1 : n ≤ 6) : n.natAbs.log2 < 1920 := by
  have : n = 1 ∨ n = 2 ∨ n = 3 ∨ n = 4 ∨ n = 5 ∨ n = 6 := by omega
  rcases this with rfl | rfl | rfl | rfl | rfl | rfl <;> decide +kernel
theorem app_len (a b : Str) : (a ++ b).length = a.length + b.length := by
  rw [← str_len, ← str_len, ← str_len, ← List.length_append]
  exact congrArg List.length (TL.tl_append a b)
theorem empty_app (a : Str) : Str.empty ++ a = a := TL.ext_tl (by rw [TL.tl_append]; rfl)
theorem ty_board {C p dx : Addr} {H : Hp} {fs : List (Str × V)} (T : TxC K mg C) (h : H p = some (.ins C dx fs)) : TyX K H (.ref p) (.ref C) := .base (.ins h T.cl T.ac T.gt T.tk T.ob)
theorem scE : FnScope ["self", "other"] ["self", "other"] (defScope sEq) := ⟨rfl, rfl, rfl, by decide +kernel, rfl, by decide +kernel, by decide +kernel⟩
theorem ok_eq {f C : Addr} {fd : FuncData} (F : Fun K "__eq__" "Board.__eq__" sEq f fd) (T : TxW mg) (TC : TxC K mg C) : FnOk P w K mg base CX0 1 f fd ["self", "other"] (spEqB K C) := by
  refine F.ok scE (fun vs H Q E h => ?_) (fun cdv A outer s H vs Q E hr h => ?_)
  · obtain ⟨p, s, n, y, rfl, _⟩ := h
    rfl
  · obtain ⟨p, z, n, y, rfl, ⟨dx, hp⟩, hz, h⟩ := h
    refine ⟨_, pss_one (ps_ret (pe_and (pe_callB call_isi (by rfl) T.isi (by decide +kernel) (pa_cons (pv 1) (pa_cons (pe_glob (v := .ref C) (by rfl) TC.mgC rfl) pa_nil)))
      (pe_and (pe_cmpR op_eq (pe_fld (pv 0) rfl) (pe_fld (pv 1) rfl) (nomark _)) (pe_one (pe_cmpR op_eq (pe_fld (pv 0) rfl) (pe_fld (pv 1) rfl) (nomark _)))))), ?_⟩
    rcases h with ⟨q, z', n', rfl, ⟨dy, hq⟩, hz', k⟩ | ⟨t, ty, no, k⟩
    · refine ⟨_, rfl, _, _, _, _, _, rfl, .own C, ty_board TC hq, TC.own, _, rfl, ?_⟩
      refine iteT ⟨_, rfl, p, C, dx, _, _, rfl, hp, TC.cl, TC.nL, bf_letters z n, _, rfl, q, C, dy, _, _, rfl, hq, TC.cl, TC.nL, bf_letters z' n', rfl, _, rfl, ?_⟩
      refine ite2 (fun e => ?_) (fun e => ?_)
      · refine ⟨_, rfl, p, C, dx, _, _, rfl, hp, TC.cl, TC.nN, bf_length z n, _, rfl, q, C, dy, _, _, rfl, hq, TC.cl, TC.nN, bf_length z' n', rfl, ?_⟩
        have e := V.str.inj (of_decide_eq_true e)
        have e2 : decide (z = z' ∧ n = n') = decide (V.int n = V.int n') := decide_eq_decide.mpr ⟨fun x => by rw [x.2], fun x => ⟨e, V.int.inj x⟩⟩
        rw [e2] at k
        exact k
      · have e2 : decide (z = z' ∧ n = n') = false := decide_eq_false fun x => e (decide_eq_true (by rw [x.1]))
        rw [e2] at k
        exact k
    · exact ⟨_, rfl, _, _, _, _, _, rfl, .own C, ty, no, _, rfl, iteF k⟩
theorem scS : FnScope ["self"] ["self"] (defScope sStr) := ⟨rfl, rfl, rfl, by decide +kernel, rfl, by decide +kernel, by decide +kernel⟩
theorem ok_str {f C : Addr} {fd : FuncData} (F : Fun K "__str__" "Board.__str__" sStr f fd) (TC : TxC K mg C) : FnOk P w K mg base CX0 1 f fd ["self"] (spStr C) := by
  refine F.ok scS (fun vs H Q E h => ?_) (fun cdv A outer s H vs Q E hr h => ?_)
  · obtain ⟨p, s, n, rfl, _⟩ := h
    rfl
  · obtain ⟨p, z, n, rfl, ⟨dx, hp⟩, hz, n0, n1, q⟩ := h
    refine ⟨_, pss_one (ps_ret (pe_joined (.cons (pe_fmt (pe_fld (pv 0) rfl)) (.cons pe_str (.cons (pe_fmt (pe_fld (pv 0) rfl)) .nil))))), ?_⟩
    have hline : sizeLine = 16777216 := sizeLine_eq
    have d := digit_len n0 n1
    refine ⟨_, rfl, p, C, dx, _, _, rfl, hp, TC.cl, TC.nL, bf_letters z n, .inl ⟨z, rfl, by omega, z, rfl, by rw [empty_app]; omega, ?_⟩⟩
    refine ⟨_, rfl, by rw [empty_app, app_len]; have : (Str.ofString " ").length = 1 := rfl; omega, ?_⟩
    refine ⟨_, rfl, p, C, dx, _, _, rfl, hp, TC.cl, TC.nN, bf_length z n, .inr ⟨n, rfl, digit_log n0 n1, digit n, rfl, ?_, ?_⟩⟩
    · rw [empty_app, app_len, app_len]; have : (Str.ofString " ").length = 1 := rfl; omega
    · show Q (.str (Str.empty ++ z ++ Str.ofString " " ++ digit n)) H
      rw [empty_app]
      exact q
theorem scR : FnScope ["self"] ["self"] (defScope sRepr) := ⟨rfl, rfl, rfl, by decide +kernel, rfl, by decide +kernel, by decide +kernel⟩
theorem ok_repr {f C : Addr} {fd : FuncData} (F : Fun K "__repr__" "Board.__repr__" sRepr f fd) (TC : TxC K mg C) : FnOk P w K mg base CX0 1 f fd ["self"] (spRepr C) := by
  refine F.ok scR (fun vs H Q E h => ?_) (fun cdv A outer s H vs Q E hr h => ?_)
  · obtain ⟨p, s, n, rfl, _⟩ := h
    rfl
  · obtain ⟨p, z, n, rfl, ⟨dx, hp⟩, hz, n0, n1, q⟩ := h
    refine ⟨_, pss_one (ps_ret (pe_joined (.cons pe_str (.cons (pe_fmt (pe_fld (pv 0) rfl)) (.cons pe_str (.cons (pe_fmt (pe_fld (pv 0) rfl)) (.cons pe_str .nil))))))), ?_⟩
    have hline : sizeLine = 16777216 := sizeLine_eq
    have d := digit_len n0 n1
    have l1 : (Str.ofString " ").length = 1 := rfl
    have l2 : (Str.ofString "Board(").length = 6 := rfl
    have l3 : (Str.ofString ")").length = 1 := rfl
    refine ⟨_, rfl, by rw [empty_app, l2]; omega, ?_⟩
    refine ⟨_, rfl, p, C, dx, _, _, rfl, hp, TC.cl, TC.nL, bf_letters z n, .inl ⟨z, rfl, by omega, z, rfl, by rw [empty_app, app_len, l2]; omega, ?_⟩⟩
    refine ⟨_, rfl, by rw [empty_app, app_len, app_len, l1, l2]; omega, ?_⟩
    refine ⟨_, rfl, p, C, dx, _, _, rfl, hp, TC.cl, TC.nN, bf_length z n, .inr ⟨n, rfl, digit_log n0 n1, digit n, rfl, by rw [empty_app, app_len, app_len, app_len, l1, l2]; omega, ?_⟩⟩
    refine ⟨_, rfl, by rw [empty_app, app_len, app_len, app_len, app_len, l1, l2, l3]; omega, ?_⟩
    show Q (.str (Str.empty ++ Str.ofString "Board(" ++ z ++ Str.ofString " " ++ digit n ++ Str.ofString ")")) H
    rw [empty_app]
    exact q
end
end Gm

namespace Gm
open PySem L2
/-- the text of these codes -/
abbrev tx (l : List Nat) : Str := ⟨l.toArray⟩
theorem tx_len (l : List Nat) : (tx l).length = l.length := by simp [Str.length]
theorem cut_pre (z : Str) (i : Nat) (h : i ≤ z.length) : cutS z none (some (i : Int)) = tx (z.cps.toList.take i) := by
  unfold cutS
  rw [HT.sIx_none, HT.sIx_nat, Nat.min_eq_left h]
  rfl
theorem cut_suf (z : Str) (i : Nat) (h : i ≤ z.length) : cutS z (some (i : Int)) none = tx (z.cps.toList.drop i) := by
  unfold cutS
  rw [HT.sIx_none, HT.sIx_nat, Nat.min_eq_left h]
  have e : (z.cps.toList.drop i).length = z.length - i := by rw [List.length_drop, str_len]
  rw [← e, List.take_length]
theorem alph_take : ∀ m : Fin 27, 2 ≤ m.val → Alph (tx (low.take m.val)) := by decide +kernel
theorem low_sorted : low.Pairwise (· < ·) := by decide +kernel
theorem sorted_eq : ∀ (l1 l2 : List Nat), l1.Pairwise (· < ·) → l2.Pairwise (· < ·) → (∀ x, x ∈ l1 ↔ x ∈ l2) → l1 = l2
  | [], [], _, _, _ => rfl
  | [], b :: l2, _, _, h => by have := (h b).mpr List.mem_cons_self; cases this
  | a :: l1, [], _, _, h => by have := (h a).mp List.mem_cons_self; cases this
  | a :: l1, b :: l2, h1, h2, h => by
    have p1 := List.pairwise_cons.mp h1
    have p2 := List.pairwise_cons.mp h2
    have e : a = b := by
      have ha := (h a).mp List.mem_cons_self
      have hb := (h b).mpr List.mem_cons_self
      rcases List.mem_cons.mp ha with e | ha
      · exact e
      · rcases List.mem_cons.mp hb with e | hb
        · exact e.symm
        · have := p1.1 b hb
          have := p2.1 a ha
          omega
    subst e
    rw [sorted_eq l1 l2 p1.2 p2.2 fun x => ⟨fun m => ?_, fun m => ?_⟩]
    · rcases List.mem_cons.mp ((h x).mp (List.mem_cons_of_mem _ m)) with e | q
      · have := p1.1 x m
        omega
      · exact q
    · rcases List.mem_cons.mp ((h x).mpr (List.mem_cons_of_mem _ m)) with e | q
      · have := p2.1 x m
        omega
      · exact q
/-- letters that ascend are an alphabet -/
theorem alph_of {zs : List Nat} (hs : zs.Pairwise (· < ·)) (hl : ∀ c ∈ zs, c ∈ low) (h0 : 2 ≤ zs.length) (h1 : zs.length ≤ 26) : Alph (tx zs) := by
  refine ⟨by rw [tx_len]; exact h0, by rw [tx_len]; exact h1, ?_⟩
  show zs = low.filter fun c => decide (c ∈ (tx zs).cps.toList)
  refine sorted_eq _ _ hs (low_sorted.sublist List.filter_sublist) fun x => ?_
  rw [List.mem_filter]
  show x ∈ zs ↔ x ∈ low ∧ decide (x ∈ zs) = true
  exact ⟨fun h => ⟨hl x h, decide_eq_true h⟩, fun h => of_decide_eq_true h.2⟩
abbrev one (c : Nat) : Str := ⟨#[c]⟩
def codeOf (s : Str) : Nat := s.cps.toList.headD 0
/-- what sorted leaves of signs -/
theorem sorted_one {fs : List Nat} {ys : List Str} (hp : ys.Perm (fs.map one)) : ∃ zs : List Nat, zs.Perm fs ∧ ys = zs.map one := by
  refine ⟨ys.map codeOf, ?_, ?_⟩
  · have := hp.map codeOf
    rw [List.map_map] at this
    have e : fs.map (codeOf ∘ one) = fs := by
      have : (codeOf ∘ one) = id := by funext c; rfl
      rw [this, List.map_id]
    rw [e] at this
    exact this
  · rw [List.map_map]
    have : ∀ y ∈ ys, (one ∘ codeOf) y = y := fun y hy => by
      obtain ⟨c, _, rfl⟩ := List.mem_map.mp (hp.mem_iff.mp hy)
      rfl
    exact (List.map_congr_left this |>.trans (List.map_id' ys)).symm
open PyProof.Rows in
theorem rising_le : ∀ (zs : List Nat) (a : Nat), risingS (one a) (zs.map one) = true → (a :: zs).Pairwise (· ≤ ·)
  | [], a, _ => List.pairwise_singleton _ _
  | b :: zs, a, h => by
    have h' : (!Spec.ltCps [b] [a] && risingS (one b) (zs.map one)) = true := h
    rw [Bool.and_eq_true] at h'
    have ih := rising_le zs b h'.2
    have e : a ≤ b := by
      refine Nat.le_of_not_lt fun q => ?_
      have : Spec.ltCps [b] [a] = true := by simp [Spec.ltCps, q]
      rw [this] at h'
      exact absurd h'.1 (by decide)
    refine List.pairwise_cons.mpr ⟨fun c hc => ?_, ih⟩
    rcases List.mem_cons.mp hc with rfl | hc
    · exact e
    · exact Nat.le_trans e ((List.pairwise_cons.mp ih).1 c hc)
open PyProof.Rows in
theorem sorted_le {zs : List Nat} (h : sortedS (zs.map one) = true) : zs.Pairwise (· ≤ ·) := by
  cases zs with
  | nil => exact List.Pairwise.nil
  | cons a zs => exact rising_le zs a h
theorem strict {zs : List Nat} (h : zs.Pairwise (· ≤ ·)) (n : zs.Nodup) : zs.Pairwise (· < ·) := by
  refine (h.and n).imp fun ⟨a, b⟩ => ?_
  omega
theorem low_nodup : low.Nodup := by decide +kernel
theorem drawn_perm {fs l : List Nat} {i : Nat} {c : Nat} (h : (fs ++ l).Perm low) (hc : l[i]? = some c) : (fs ++ [c] ++ (l.take i ++ l.drop (i + 1))).Perm low := by
  refine List.Perm.trans ?_ h
  rw [List.append_assoc]
  refine List.Perm.append_left fs ?_
  have hi := (List.getElem?_eq_some_iff.mp hc).1
  have e : l = l.take i ++ c :: l.drop (i + 1) := by
    have := (List.getElem?_eq_some_iff.mp hc).2
    rw [← this, List.getElem_cons_drop, List.take_append_drop]
  have q : (c :: (l.take i ++ l.drop (i + 1))).Perm (l.take i ++ c :: l.drop (i + 1)) := List.perm_middle.symm
  rw [← e] at q
  exact q
theorem drawn_alph {fs lf : List Nat} {ys : List Str} (h : (fs ++ lf).Perm low) (h0 : 2 ≤ fs.length) (hp : ys.Perm (fs.map one)) (hs : PyProof.Rows.sortedS ys = true) : ∃ zs : List Nat, ys = zs.map one ∧ Alph (tx zs) ∧ zs.length = fs.length := by
  obtain ⟨zs, q, rfl⟩ := sorted_one hp
  have nd : fs.Nodup := (List.nodup_append.mp (h.nodup_iff.mpr low_nodup)).1
  have hl := h.length_eq
  rw [List.length_append, low_len] at hl
  refine ⟨zs, rfl, alph_of (strict (sorted_le hs) (q.nodup_iff.mpr nd)) (fun c hc => h.mem_iff.mp (List.mem_append_left _ (q.mem_iff.mp hc))) (by rw [q.length_eq]; exact h0) (by rw [q.length_eq]; omega), q.length_eq⟩
end Gm

/-! marks as lists of codes: the mirror of marks_of -/
namespace Gm
def un (g w : List Nat) : List Nat := ((g.zip w).filter fun p => !decide (p.1 = p.2)).map (·.2)
def go : List (Nat × Nat) → List Nat → List Nat
  | [], _ => []
  | (a, b) :: r, u => if a = b then 50 :: go r u else if a ∈ u then 49 :: go r (u.erase a) else 48 :: go r u
def mk (g w : List Nat) : List Nat := go (g.zip w) (un g w)
theorem drop_at {α : Type} {l : List α} {i : Nat} {x : α} (h : l[i]? = some x) : l.drop i = x :: l.drop (i + 1) := by
  have hi := (List.getElem?_eq_some_iff.mp h).1
  have e := (List.getElem?_eq_some_iff.mp h).2
  rw [← e, List.getElem_cons_drop]
theorem zip_at {g w : List Nat} {i c e : Nat} (h1 : g[i]? = some c) (h2 : w[i]? = some e) : (g.zip w)[i]? = some (c, e) := by
  rw [List.getElem?_zip_eq_some]
  exact ⟨h1, h2⟩
theorem take_map_filter {l : List (Nat × Nat)} {i : Nat} {x : Nat × Nat} (p : Nat × Nat → Bool) (f : Nat × Nat → Nat) (h : l[i]? = some x) :
    ((l.take (i + 1)).filter p).map f = ((l.take i).filter p).map f ++ (if p x = true then [f x] else []) := by
  have hi := (List.getElem?_eq_some_iff.mp h).1
  have e := (List.getElem?_eq_some_iff.mp h).2
  rw [List.take_succ_eq_append_getElem hi, e, List.filter_append, List.map_append]
  congr 1
  by_cases c : p x = true
  · rw [if_pos c]; simp [c]
  · rw [if_neg c]; simp [c]
theorem go_length : ∀ (l : List (Nat × Nat)) (u : List Nat), (go l u).length = l.length
  | [], _ => rfl
  | (a, b) :: r, u => by
    unfold go
    split
    · rw [List.length_cons, go_length r u, List.length_cons]
    · split <;> rw [List.length_cons, go_length r _, List.length_cons]
end Gm

namespace L2
open PySem PySem.Spec PyProof.Rows
/-- two texts, sign by sign, in new pairs -/
def Itzs (x y : Str) : It :=
  ⟨fun i _ => i < x.cps.size ∧ i < y.cps.size,
    fun i H v H' => ∃ (T : Addr) (c e : Nat), v = .ref T ∧ H T = none ∧ H' = upd H T (.tup [.str ⟨#[c]⟩, .str ⟨#[e]⟩]) ∧ x.cps[i]? = some c ∧ y.cps[i]? = some e,
    fun i _ => i = x.cps.size ∧ i = y.cps.size⟩
theorem zs_sep (n : Nat) : ZipSep2 (n + 4) (n + 2) (n + 3) n (n + 1) [n] [n + 1] := by
  constructor <;> first | (simp; done) | (refine PySem.W.neN ?_; omega) | (simp; omega)
theorem turn_zips {P : Program} {w : World} {K : PySem.W.Frag} {elts : List Expr} {kk : Nat} {tpos : Pos} {z TI TO i1 i2 : Addr} {x y : Str} {t1 t2 : Tok} (D : ZipSep2 z TI TO i1 i2 [i1] [i2]) :
    Turn P w K (.Tuple elts kk tpos) (Itzs x y) [z, TI, TO, i1, i2] z (fun i h => IsZip h z TI TO .none ∧ IsTupOf2 h TI (.ref i1) (.ref i2) ∧ (∃ a b, IsTupOf2 h TO a b) ∧ h.IsStrIter i1 (strIterType x) x t1 i ∧ h.IsStrIter i2 (strIterType y) y t2 i) where
  mem := by simp
  obj := fun i h st c hc => by
    obtain ⟨hz, hTI, ⟨a, b, hTO⟩, ⟨o1, e1, _, d1⟩, ⟨o2, e2, _, d2⟩⟩ := st
    have q : c = z ∨ c = TI ∨ c = TO ∨ c = i1 ∨ c = i2 := by simpa using hc
    rcases q with rfl | rfl | rfl | rfl | rfl
    · exact ⟨_, hz, fun v q => nomatch q⟩
    · exact ⟨_, hTI, fun v q => nomatch q⟩
    · exact ⟨_, hTO, fun v q => nomatch q⟩
    · exact ⟨o1, e1, fun v q => by rw [d1] at q; cases q⟩
    · exact ⟨o2, e2, fun v q => by rw [d2] at q; cases q⟩
  keep := fun i h h' st k => by
    obtain ⟨hz, hTI, ⟨a, b, hTO⟩, ⟨o1, e1, r1⟩, ⟨o2, e2, r2⟩⟩ := st
    exact ⟨k z (by simp) _ hz, k TI (by simp) _ hTI, ⟨a, b, k TO (by simp) _ hTO⟩, ⟨o1, k i1 (by simp) _ e1, r1⟩, ⟨o2, k i2 (by simp) _ e2, r2⟩⟩
  item := by
    intro X hP hw hK hc i pins s σ H E I hf st hg
    subst hP hw hK
    obtain ⟨hz, hTI, ⟨a0, b0, hTO⟩, h1, h2⟩ := st
    have lz : z < s.heap.objs.size := Heap.lt_size hz
    refine wpAny_pyNext_zipD2_item (St1 := fun i h => h.IsStrIter i1 (strIterType x) x t1 i) (St2 := fun i h => h.IsStrIter i2 (strIterType y) y t2 i) D (Draws.text (A := X.A.in1) (show X.A.in1.handled = none from I.ok.hd hc) i1 x t1) (Draws.text (A := X.A.in1) (show X.A.in1.handled = none from I.ok.hd hc) i2 y t2) hz hTI hTO h1 h2 hg.1 hg.2 fun u u2 h' tk p1 p2 z' TO' h1' h2' hT hsz hk => ?_
    obtain ⟨c, v1, hcx, rfl⟩ := p1
    obtain ⟨e, v2, hey, rfl⟩ := p2
    refine ⟨_, rfl, wpAny_letOwnedTupleGo_zip (s := { s with heap := h', toks := tk }) z' fun g z'' sb => ?_⟩
    have hT2 := (sb.2 _ (Nat.ne_of_gt lz)).trans hT
    have fresh : ObjOk X.prog X.w (upd H s.heap.objs.size (.tup [.str ⟨#[c]⟩, .str ⟨#[e]⟩])) g s.heap.objs.size (.tup [.str ⟨#[c]⟩, .str ⟨#[e]⟩]) :=
      ⟨by show 2 ≤ sizeLine; decide, _, .cons ⟨v1, rfl⟩ (.cons ⟨v2, rfl⟩ .nil), ⟨_, hT2, rfl, _, rfl⟩⟩
    have J : Inv X pins σ (upd H s.heap.objs.size (.tup [.str ⟨#[c]⟩, .str ⟨#[e]⟩])) { s with heap := g, toks := tk } := by
      refine I.turnedNew (ch := [z, TI, TO, i1, i2]) (fun b o hb q => ?_) hf (Nat.le_refl _) fresh
      have nb : b ≠ z ∧ b ≠ TI ∧ b ≠ TO ∧ b ≠ i1 ∧ b ≠ i2 := by simpa using hb
      exact (sb.2 b nb.1).trans (hk b o nb.1 nb.2.2.1 nb.2.2.2.1 nb.2.2.2.2 q)
    refine ⟨.ref s.heap.objs.size, _, J, rfl, ⟨_, c, e, rfl, I.hok.fresh (Nat.le_refl _), rfl, hcx, hey⟩, ⟨z'', ?_, ⟨_, _, (sb.2 _ D.TOz).trans TO'⟩, ?_, ?_⟩, fun b hb => ?_⟩
    · exact (sb.2 _ D.TIz).trans (hk _ _ D.TIz D.TITO D.TIi1 D.TIi2 hTI)
    · obtain ⟨o1, e1, r1⟩ := h1'
      exact ⟨o1, (sb.2 _ D.zi1.symm).trans e1, r1⟩
    · obtain ⟨o2, e2, r2⟩ := h2'
      exact ⟨o2, (sb.2 _ D.zi2.symm).trans e2, r2⟩
    · have hlt : b < s.heap.objs.size := by
        have q : b = z ∨ b = TI ∨ b = TO ∨ b = i1 ∨ b = i2 := by simpa using hb
        obtain ⟨o1, e1, _⟩ := h1
        obtain ⟨o2, e2, _⟩ := h2
        rcases q with rfl | rfl | rfl | rfl | rfl
        · exact lz
        · exact Heap.lt_size hTI
        · exact Heap.lt_size hTO
        · exact Heap.lt_size e1
        · exact Heap.lt_size e2
      rw [upd_ne (Nat.ne_of_lt hlt)]
      exact (hf b hb).1
  done := by
    intro X hP hw hK hc i pins s σ H E I hf st hg
    subst hP hw hK
    obtain ⟨hz, hTI, ⟨a0, b0, hTO⟩, h1, h2⟩ := st
    refine wpAny_pyNext_zipD2_end (St1 := fun i h => h.IsStrIter i1 (strIterType x) x t1 i) (St2 := fun i h => h.IsStrIter i2 (strIterType y) y t2 i) D (Draws.text (A := X.A.in1) (show X.A.in1.handled = none from I.ok.hd hc) i1 x t1) (Draws.text (A := X.A.in1) (show X.A.in1.handled = none from I.ok.hd hc) i2 y t2) hz hTI hTO h1 h2 (Nat.le_of_eq hg.1) (Nat.le_of_eq hg.2) (.inl hg.1) fun h' tk hk => ⟨rfl, I.turnedL (ch := [z, TI, TO, i1, i2]) (fun b o hb q => ?_) hf⟩
    have nb : b ≠ z ∧ b ≠ TI ∧ b ≠ TO ∧ b ≠ i1 ∧ b ≠ i2 := by simpa using hb
    exact hk b o nb.1 nb.2.2.1 nb.2.2.2.1 nb.2.2.2.2 q
  self := fun A i s Q E st h => wpAny_pyIter_zip st.1 h
def iZips (ta : TA) : TI := fun σ H R => ta σ H fun vs H1 => ∃ x y, vs = [.str x, .str y] ∧ x.cps.size = y.cps.size ∧ R (Itzs x y) H1
theorem pi_zips {X : Cx} {e e2 : Expr} {ta : TA} {p pos tpos : Pos} {elts : List Expr} {kk : Nat} (hg : Gl X "zip") (hm : X.mg "zip" = none) (ha : PA X [e, e2] ta)
    (hs : starEach [e, e2] X.env = (false, eval e X.env) :: starEach [e2] X.env := by rfl) (hpl : (backTo pos (starEach [e2] X.env)).any (·.1) = false := by rfl) :
    PI X (.Tuple elts kk tpos) (.Call (.Name "zip" p) [e, e2] [] pos) (iZips ta) := by
  refine ⟨fun pins s σ H R I h => ?_⟩
  refine Call_ (ld_blt I hg hm PyProof.Rows.boot_zip (PyProof.Rows.callWith_type1 (thn (ha.run pos pins s σ H _ I h) fun us s1 hh => ?_) hs hpl))
  obtain ⟨vs, H1, I1, r1, x, y, rfl, hxy, q⟩ := hh
  cases r1 with
  | cons r rr =>
    cases rr with
    | cons r' rr =>
      cases rr
      obtain ⟨t1, rfl⟩ := r
      obtain ⟨t2, rfl⟩ := r'
      refine zip_begins2 (begins_text x t1) (begins_text y t2) trivial trivial fun h' hz hTI hTO h1 h2 hsz hk => wpAny_pyIter_zip hz ?_
      have J : Inv X pins σ H1 { s1 with heap := h' } := I1.kept (t' := s1.toks) hk
      refine ⟨s1.heap.objs.size + 4, [s1.heap.objs.size + 4, s1.heap.objs.size + 2, s1.heap.objs.size + 3, s1.heap.objs.size, s1.heap.objs.size + 1], _, _, H1, rfl, J, turn_zips (t1 := t1) (t2 := t2) (zs_sep s1.heap.objs.size), ⟨hz, hTI, ⟨_, _, hTO⟩, ⟨_, h1, rfl, rfl⟩, ⟨_, h2, rfl, rfl⟩⟩, fun b hb => ?_, q⟩
      have hle : s1.heap.objs.size ≤ b := by
        have q : b = s1.heap.objs.size + 4 ∨ b = s1.heap.objs.size + 2 ∨ b = s1.heap.objs.size + 3 ∨ b = s1.heap.objs.size ∨ b = s1.heap.objs.size + 1 := by simpa using hb
        rcases q with rfl | rfl | rfl | rfl | rfl
        · exact Nat.le_add_right _ _
        · exact Nat.le_add_right _ _
        · exact Nat.le_add_right _ _
        · exact Nat.le_refl _
        · exact Nat.le_add_right _ _
      exact I1.fpOk hle (I1.hok.fresh hle)
theorem walk_zips {x y : Str} (hxy : x.cps.size = y.cps.size) : Walk (Itzs x y) x.cps.size (fun _ => True) (fun i H v H' => ∃ (T : Addr) (c e : Nat), v = .ref T ∧ H T = none ∧ H' = upd H T (.tup [.str ⟨#[c]⟩, .str ⟨#[e]⟩]) ∧ x.cps[i]? = some c ∧ y.cps[i]? = some e) :=
  ⟨fun i _ hi _ => ⟨hi, hxy ▸ hi⟩, fun _ _ => ⟨rfl, hxy⟩, fun _ _ _ _ _ _ y => y⟩
end L2

namespace L2
open PySem PySem.Spec PyProof.Rows
section
variable {X : Cx} {CX : CXT} {k : Nat} {f : Addr} {fd : FuncData} {ps ks : List Str} {sp : Sp} {E : XK} {x : Str} {p pos : Pos} {kws : List Keyword} {tk : TA} {g : List Value → List Value → List Value} {gV : List V → List V → List V}
/-- f(k = v, ..), keywords alone -/
theorem pe_callK0 (F : FnOk X.prog X.w X.K X.mg X.base CX k f fd ps sp) (hr : Room k X.A) (hg : Gl X x) (hm : X.mg x = some (.ref f)) (hk : PySem.W.keepIn X.K (.ref f) = true) (hb : KBinds X.K fd ps ks g gV) (hx : Passes CX X E) (hkw : PK X kws tk)
    (hall : (backToKw pos (keywordEach kws X.env)).all (·.1.isSome) = true := by rfl) (hks : (backToKw pos (keywordEach kws X.env)).filterMap (·.1) = ks := by rfl) (hdb : (x == ("__debug__" : Str)) = false := by decide)
    (hpl : ((backTo pos (starEach [] X.env)).any (·.1) || (backToKw pos (keywordEach kws X.env)).any (·.1.isNone)) = false := by rfl) : PE X (.Call (.Name x p) [] kws pos) (tCallK sp gV E tNil tk) := by
  refine ⟨fun pins s σ H Q I h => wpAny_Call_Name_kw (ld_glob I hg hm ?_ hdb)⟩
  refine PySem.W.callWith_KW0 (h₀ := X.base) I.ok.mod.kin hk hall (thn (hkw.run pos pins s σ H _ I h) fun ws s2 hh => ?_) hpl
  obtain ⟨zs, H2, I2, rz, q2⟩ := hh
  refine ⟨I2.kIn, ?_⟩
  rw [hks]
  exact run_fnk (us := []) (vs := []) F hr hb hx I2 .nil rz q2
end
/-- list.remove of a text that is there -/
def rRemS : V → List V → Hp → VK → Prop := fun x xs H Q => ∃ (l : Addr) (ss : List Str) (k : Str) (j : Nat), x = .ref l ∧ xs = [.str k] ∧ H l = some (.lst (ss.map V.str)) ∧ ss[j]? = some k ∧ (∀ m : Nat, m < j → ss[m]? ≠ some k) ∧ Q .non (upd H l (.lst ((ss.eraseIdx j).map V.str)))
def eqs (k : Str) (v : Value) : Bool := match v with
  | .str n _ => n.cps.toList == k.cps.toList
  | _ => false
theorem erase_mapS : ∀ (l : List Str) (j : Nat), (l.map V.str).eraseIdx j = (l.eraseIdx j).map V.str
  | [], j => by simp
  | a :: r, 0 => by simp
  | a :: r, j + 1 => by simp [erase_mapS r j]
theorem eqs_gives {k : Str} {t : Tok} : ∀ {us : List Value} {ss : List Str}, Vals (ss.map V.str) us → ∀ y ∈ us, MeetsSeq.EqGives y (.str k t) (eqs k y)
  | _, [], .nil => fun y hy => by cases hy
  | _, n :: ss, .cons ⟨t', e⟩ h => fun y hy => by
    rcases List.mem_cons.mp hy with q | q
    · rw [q, e]
      exact SeqRoads2.EqGives.str n k t' t
    · exact eqs_gives h y q
theorem mt_removeS {X : Cx} : MtM X "list.remove" rRemS := by
  intro pins s σ H x xs v us Q I rx rxs h
  obtain ⟨l, ss, k, j, rfl, rfl, hH, hj, hno, q⟩ := h
  cases rx
  obtain ⟨u, rfl, t, rfl⟩ := rxs.one
  obtain ⟨z, its, n, r, hl, e⟩ := I.lstM hH
  have len := r.length
  rw [List.length_map] at hl z len
  have hjn : j < ss.length := (List.getElem?_eq_some_iff.mp hj).1
  have item : ∀ m (hm : m < ss.length) (hm' : m < its.toArray.size), ∃ tm, its.toArray[m] = .str ss[m] tm := fun m hm hm' => by
    obtain ⟨u, hu, ru⟩ := r.get (i := m) (x := V.str ss[m]) (by rw [List.getElem?_map, List.getElem?_eq_getElem hm]; rfl)
    obtain ⟨tm, rfl⟩ := ru
    exact ⟨tm, by simpa using (List.getElem?_eq_some_iff.mp hu).2⟩
  have sz : its.toArray.size = its.length := by simp
  have hjl : j < its.toArray.size := by omega
  refine call_meets PySem.F.slot_list_remove ⟨_, e, rfl⟩ PySem.F.entry_list_remove (PySem.F.args_list_remove_2 _ _)
    (MeetsSeq.list_remove l its.toArray n (.str k t) (eqs k) (fun y hy => eqs_gives r y (by simpa using hy)) j hjl ?_ ?_ (by omega)) ⟨e, ?_⟩
  · obtain ⟨tj, e1⟩ := item j hjn hjl
    have e2 : ss[j] = k := (List.getElem?_eq_some_iff.mp hj).2
    rw [e1, e2]
    exact beq_self_eq_true _
  · intro m hm hmj
    have hmn : m < ss.length := by omega
    obtain ⟨tm, e1⟩ := item m hmn hm
    rw [e1]
    refine beq_eq_false_iff_ne.mpr fun e2 => hno m hmj ?_
    rw [List.getElem?_eq_getElem hmn]
    exact congrArg some (TL.ext_tl e2)
  · have rr := r.eraseIdx j
    rw [erase_mapS] at rr
    refine ⟨.non, _, I.lset (its' := its.eraseIdx j) (t' := s.toks) hH e ?_ rr ?_, rfl, q⟩
    · show its.toArray.eraseIdxIfInBounds j = (its.eraseIdx j).toArray
      rw [List.eraseIdxIfInBounds_toArray]
    · have := List.length_eraseIdx_le ss j
      rw [List.length_map]
      omega
end L2

namespace Gm
open PySem L2
def spMarksOf : Sp := fun vs H Q _ => ∃ (g w : List Nat), vs = [.str (tx g), .str (tx w)] ∧ g.length = w.length ∧ g.length ≤ 6 ∧ ∀ H', Same H H' → Q (.str (tx (mk g w))) H'
theorem tx_app (a b : List Nat) : tx a ++ tx b = tx (a ++ b) := TL.ext_tl (TL.tl_append _ _)
theorem tx_at {g : List Nat} {i c : Nat} (h : (tx g).cps[i]? = some c) : g[i]? = some c := by simpa using h
theorem tx_size (g : List Nat) : (tx g).cps.size = g.length := by simp
theorem in_ones (a : Nat) (u : List Nat) : inV (.str (one a)) (u.map fun c => V.str (one c)) = decide (a ∈ u) := by
  induction u with
  | nil => rfl
  | cons b u ih =>
    have e : eqV (.str (one b)) (.str (one a)) = decide (a = b) := by
      show (one b == one a) = _
      by_cases h : a = b
      · subst h; simp
      · rw [decide_eq_false h]
        refine beq_eq_false_iff_ne.mpr fun q => h ?_
        have := congrArg (fun s : Str => s.cps.toList) q
        simpa using this.symm
    show (eqV (.str (one b)) (.str (one a)) || inV (.str (one a)) (u.map fun c => V.str (one c))) = _
    rw [ih, e]
    by_cases h : a = b <;> simp [h]
theorem flat_ones (u : List Nat) : (u.map fun c => V.str (one c)).all flatV = true := by
  rw [List.all_map, List.all_eq_true]
  exact fun c _ => rfl
theorem ones_inj {a b : Nat} (h : one a = one b) : a = b := by
  have := congrArg (fun s : Str => s.cps.toList) h
  simpa using this
/-- the first place of a in u -/
theorem first_at {u : List Nat} {a : Nat} (h : a ∈ u) : ∃ j, u[j]? = some a ∧ (∀ m : Nat, m < j → u[m]? ≠ some a) ∧ u.eraseIdx j = u.erase a := by
  induction u with
  | nil => cases h
  | cons b u ih =>
    by_cases hb : b = a
    · subst hb
      exact ⟨0, rfl, fun m hm => by omega, by simp⟩
    · have h' : a ∈ u := by
        rcases List.mem_cons.mp h with q | q
        · exact absurd q.symm hb
        · exact q
      obtain ⟨j, h1, h2, h3⟩ := ih h'
      refine ⟨j + 1, by simpa using h1, fun m hm => ?_, ?_⟩
      · cases m with
        | zero => simpa using hb
        | succ m => simpa using h2 m (by omega)
      · rw [List.erase_cons_tail (by simpa using hb)]
        simp [h3]
end Gm

/-! enumerate of a tuple, of a text -/
namespace PySem
open Builtin
set_option maxHeartbeats 1000000 in
theorem enum1_new {v : Value} {o : Obj} {H : Heap → Prop} (B : Begins v o H) :
    Meets (Builtin.«enumerate.__new__» ⟨[.type "enumerate", v], []⟩) (fun _ R s => H s.heap ∧
      R (.ok (.ret (.ref (s.heap.push o).objs.size))) { s with heap := (s.heap.push o).push { cls := .type "enumerate", data := .fields #[.none, .bool false, .ref s.heap.objs.size, rawInt 0, .none, .none] } }) :=
  .of_wp fun prog w A R s h => by
    obtain ⟨hp, g, d, tk, os⟩ := s
    obtain ⟨h1, hR⟩ := h
    have isS := sub_enumerate
    have go : ∀ {A' : Around} {E : Value → Shared → Prop} {Q : Value → Shared → Prop}, Q (.ref hp.objs.size) ⟨hp.push o, g, d, tk, os⟩ → wpAny (model prog w) A' (pyIter v) Q E ⟨hp, g, d, tk, os⟩ := fun q => B.iter prog w _ _ ⟨hp, g, d, tk, os⟩ _ h1 q
    wp_walk using go
    refine wpAny_stack_any fun st => wpAny_pure ?_
    split
    · rename_i c _ _ _ _ _
      cases (c == Value.type "enumerate") <;> (wp_walk using go; exact ⟨_, rfl, hR⟩)
    · wp_walk using go; exact ⟨_, rfl, hR⟩
theorem enum1_begins {prog : Program} {w : World} {A : Around} {E : Value → Shared → Prop} {s : Shared} {v : Value} {o : Obj} {H : Heap → Prop} {Q : Value → Shared → Prop} (B : Begins v o H) (h1 : H s.heap)
    (h : ∀ h', IsEnum h' (s.heap.objs.size + 1) s.heap.objs.size 0 .none → h'.get? s.heap.objs.size = some o → (∀ b o, s.heap.get? b = some o → h'.get? b = some o) → Q (.ref (s.heap.objs.size + 1)) { s with heap := h' }) :
    wpAny (model prog w) A (call (.type "enumerate") [v]) Q E s := by
  refine callType_new F.called_enumerate (by decide) (F.typeCall_enumerate_1 _) (F.newCall_enumerate_1 _) (fun obj => F.args_object_init_2 obj _) F.entry_enumerate_new (enum1_new B) ⟨h1, ?_⟩
  have sz : (s.heap.push o).objs.size = s.heap.objs.size + 1 := Heap.size_push ..
  show _ ∧ _
  rw [sz]
  have e : IsEnum ((s.heap.push o).push { cls := .type "enumerate", data := .fields #[.none, .bool false, .ref s.heap.objs.size, rawInt 0, .none, .none] }) (s.heap.objs.size + 1) s.heap.objs.size 0 .none := by
    rw [← sz]
    exact Heap.get?_push_size _ rfl
  exact ⟨⟨_, e, rfl⟩, h _ e (Heap.get?_push_of_some _ (Heap.get?_push_size _ B.free)) fun b u x => Heap.get?_push_of_some _ (Heap.get?_push_of_some _ x)⟩
end PySem
namespace L2
open PySem PySem.Spec PyProof.Rows
/-- pairs of a number and what Y tells of it; G stands, n turns -/
def Iten (n : Nat) (G : Hp → Prop) (Y : Nat → V → Prop) : It :=
  ⟨fun i H => i < n ∧ G H, fun i H v H' => ∃ T x, v = .ref T ∧ H T = none ∧ H' = upd H T (.tup [.int (i : Nat), x]) ∧ Y i x, fun i H => i = n ∧ G H⟩
theorem turn_enumD {P : Program} {w : World} {K : PySem.W.Frag} {elts : List Expr} {kk : Nat} {tpos : Pos} {n : Nat} {G : Hp → Prop} {Y : Nat → V → Prop} {e it : Addr} (ne : e ≠ it) (S : Nat → Heap → Prop) (sat : ∀ i h, S i h → ∃ o, h.get? it = some o ∧ ∀ v, o.data ≠ .cell v)
    (sk : ∀ i h h', S i h → (∀ o, h.get? it = some o → h'.get? it = some o) → S i h')
    (draws : ∀ (X : Cx) (pins : List (Addr × Obj)) (σ : St) (H : Hp) (s : Shared), X.prog = P → X.w = w → X.K = K → X.A.handled = none → Inv X pins σ H s → G H →
      ∃ (fp : List Addr) (V : Nat → Value → Prop) (St : Nat → Heap → Prop), Draws X.prog X.w X.A.in1 it fp n V St ∧ e ∉ fp ∧ (∀ i, S i s.heap → St i s.heap) ∧ (∀ i h', St i h' → S i h') ∧ ∀ i u, V i u → ∃ x, RelV x u ∧ Y i x) :
    Turn P w K (.Tuple elts kk tpos) (Iten n G Y) [e, it] e (fun i h => (∃ old, IsEnum h e it ((i : Nat) : Int) old) ∧ S i h) where
  mem := by simp
  obj := fun i h st b hb => by
    obtain ⟨⟨old, he⟩, hs⟩ := st
    have q : b = e ∨ b = it := by simpa using hb
    rcases q with rfl | rfl
    · exact ⟨_, he, fun v q => nomatch q⟩
    · exact sat i h hs
  keep := fun i h h' st k => by
    obtain ⟨⟨old, he⟩, hs⟩ := st
    exact ⟨⟨old, k e (by simp) _ he⟩, sk i h h' hs fun o q => k it (by simp) o q⟩
  item := by
    intro X hP hw hK hc i pins s σ H E I hf st hg
    obtain ⟨⟨old, he⟩, hs⟩ := st
    obtain ⟨hi, gg⟩ := hg
    obtain ⟨fp, Vp, St, D, nf, to, back, rel⟩ := draws X pins σ H s hP hw hK (I.ok.hd hc) I gg
    subst hP hw hK
    have hel : e < s.heap.objs.size := Heap.lt_size he
    have hil : it < s.heap.objs.size := let ⟨_, q, _⟩ := sat i _ hs; Heap.lt_size q
    refine wpAny_pyNext_enum_itemD D he (to i hs) hi ne nf fun u h' tk pu ho hs' hT hsz hk => ?_
    obtain ⟨x, rx, yx⟩ := rel i u pu
    refine ⟨_, rfl, wpAny_letOwnedTupleGo_enum (s := { s with heap := h', toks := tk + 1 }) ho fun g he' sb => ?_⟩
    have hT2 := (sb.2 _ (Nat.ne_of_gt hel)).trans hT
    have fresh : ObjOk X.prog X.w (upd H s.heap.objs.size (.tup [.int (i : Nat), x])) g s.heap.objs.size (.tup [.int (i : Nat), x]) :=
      ⟨by show 2 ≤ sizeLine; decide, _, .cons ⟨tk, rfl⟩ (.cons rx .nil), ⟨_, hT2, rfl, _, rfl⟩⟩
    have J : Inv X pins σ (upd H s.heap.objs.size (.tup [.int (i : Nat), x])) { s with heap := g, toks := tk + 1 } := by
      refine I.turnedNew (ch := [e, it]) (fun b o hb q => ?_) hf (Nat.le_refl _) fresh
      have nb : b ≠ e ∧ b ≠ it := by simpa using hb
      exact (sb.2 b nb.1).trans (hk b o nb.1 nb.2 q)
    refine ⟨.ref s.heap.objs.size, _, J, rfl, ⟨_, x, rfl, I.hok.fresh (Nat.le_refl _), rfl, yx⟩, ⟨⟨u, ?_⟩, sk _ _ _ (back _ _ hs') fun o q => (sb.2 it ne.symm).trans q⟩, fun b hb => ?_⟩
    · have c : ((i + 1 : Nat) : Int) = (i : Int) + 1 := by omega
      rw [c]
      exact he'
    · have q : b = e ∨ b = it := by simpa using hb
      have hlt : b < s.heap.objs.size := by
        rcases q with rfl | rfl
        · exact hel
        · exact hil
      rw [upd_ne (Nat.ne_of_lt hlt)]
      exact (hf b hb).1
  done := by
    intro X hP hw hK hc i pins s σ H E I hf st hg
    obtain ⟨⟨old, he⟩, hs⟩ := st
    obtain ⟨rfl, gg⟩ := hg
    obtain ⟨fp, Vp, St, D, nf, to, back, rel⟩ := draws X pins σ H s hP hw hK (I.ok.hd hc) I gg
    subst hP hw hK
    obtain ⟨f0, f1, f2, f3, f4, f5⟩ := hf it (by simp)
    exact wpAny_pyNext_enum_endD D he (to _ hs) fun h' eb => ⟨rfl, I.turned (t' := s.toks) (fun b o hb q => eb b o hb q) f0 f1 f3 f4 f5⟩
  self := fun A i s Q E st h => let ⟨⟨_, he⟩, _⟩ := st; wpAny_pyIter_enum he h
/-- enumerate(t), t a tuple -/
def iEnumT (K : PySem.W.Frag) (ta : TA) : TI := fun σ H R => ta σ H fun vs H1 => ∃ a xs, vs = [.ref a] ∧ SqT K H1 a xs ∧ R (Iten xs.length (fun H => SqT K H a xs) fun i x => xs[i]? = some x) H1
/-- enumerate(z), z a text -/
def iEnumS (ta : TA) : TI := fun σ H R => ta σ H fun vs H1 => ∃ z : Str, vs = [.str z] ∧ R (Iten z.cps.size (fun _ => True) fun i x => ∃ c, z.cps[i]? = some c ∧ x = .str ⟨#[c]⟩) H1
section
variable {X : Cx} {e : Expr} {ta : TA} {p pos tpos : Pos} {elts : List Expr} {kk : Nat}
theorem pi_enumT (hg : Gl X "enumerate") (hm : X.mg "enumerate" = none) (ha : PA X [e] ta) (hs : starEach [e] X.env = [(false, eval e X.env)] := by rfl) : PI X (.Tuple elts kk tpos) (.Call (.Name "enumerate" p) [e] [] pos) (iEnumT X.K ta) := by
  refine ⟨fun pins s σ H R I h => ?_⟩
  refine Call_ (ld_blt I hg hm boot_enumerate (PyProof.Rows.callWith_type1 (thn (ha.run pos pins s σ H _ I h) fun us s1 hh => ?_) hs rfl))
  obtain ⟨vs, H1, I1, r1, a, xs, rfl, hq, q⟩ := hh
  cases r1 with
  | cons r rr =>
    cases rr
    cases r
    obtain ⟨its, rv, pt, _⟩ := I1.tuple hq
    refine enum1_begins (begins_tuple a its.toArray) pt fun h' he hit hk => wpAny_pyIter_enum he ?_
    have J : Inv X pins σ H1 { s1 with heap := h' } := I1.kept (t' := s1.toks) hk
    have la : a < s1.heap.objs.size := let ⟨o, ho, _⟩ := pt; Heap.lt_size ho
    have na : s1.heap.objs.size + 1 ≠ a := Nat.ne_of_gt (Nat.lt_succ_of_lt la)
    have ni : a ≠ s1.heap.objs.size := Nat.ne_of_lt la
    have lx : xs.length = its.toArray.size := by rw [rv.length]; simp
    refine ⟨s1.heap.objs.size + 1, [s1.heap.objs.size + 1, s1.heap.objs.size], _, _, H1, rfl, J, turn_enumD (Nat.succ_ne_self _) (fun i h => h.IsTupleIter s1.heap.objs.size a i) (fun i h ⟨o, ho, _, hd⟩ => ⟨o, ho, fun v z => by rw [hd] at z; cases z⟩) (fun i h h' st k => st.at k) ?_, ⟨⟨.none, he⟩, ⟨_, hit, rfl, rfl⟩⟩, fun b hb => ?_, q⟩
    · intro X' pins' σ' H' s' hP hw hK hh I' g
      rw [← hK] at g
      obtain ⟨its', rv', pt', _⟩ := I'.tuple g
      have D := Draws.tuple (prog := X'.prog) (w := X'.w) (A := X'.A.in1) (show X'.A.in1.handled = none from hh) s1.heap.objs.size a ni its'.toArray
      have e' : its'.toArray.size = xs.length := by rw [rv'.length]; simp
      refine ⟨[s1.heap.objs.size, a], _, _, e' ▸ D, by simp [na], fun i st => ⟨st, pt'⟩, fun i h' st => st.1, fun i u hu => ?_⟩
      have hu' : its'[i]? = some u := by simpa using hu
      have hi : i < xs.length := by
        rw [rv'.length]
        exact (List.getElem?_eq_some_iff.mp hu').1
      obtain ⟨u2, h2, r2⟩ := rv'.get (List.getElem?_eq_getElem hi)
      rw [hu'] at h2
      cases h2
      exact ⟨_, r2, List.getElem?_eq_getElem hi⟩
    · have e' : b = s1.heap.objs.size + 1 ∨ b = s1.heap.objs.size := by simpa using hb
      have hle : s1.heap.objs.size ≤ b := e'.elim (fun z => z ▸ Nat.le_succ _) fun z => z ▸ Nat.le_refl _
      exact I1.fpOk hle (I1.hok.fresh hle)
theorem pi_enumS (hg : Gl X "enumerate") (hm : X.mg "enumerate" = none) (ha : PA X [e] ta) (hs : starEach [e] X.env = [(false, eval e X.env)] := by rfl) : PI X (.Tuple elts kk tpos) (.Call (.Name "enumerate" p) [e] [] pos) (iEnumS ta) := by
  refine ⟨fun pins s σ H R I h => ?_⟩
  refine Call_ (ld_blt I hg hm boot_enumerate (PyProof.Rows.callWith_type1 (thn (ha.run pos pins s σ H _ I h) fun us s1 hh => ?_) hs rfl))
  obtain ⟨vs, H1, I1, r1, z, rfl, q⟩ := hh
  cases r1 with
  | cons r rr =>
    cases rr
    obtain ⟨t, rfl⟩ := r
    refine enum1_begins (begins_text z t) trivial fun h' he hit hk => wpAny_pyIter_enum he ?_
    have J : Inv X pins σ H1 { s1 with heap := h' } := I1.kept (t' := s1.toks) hk
    refine ⟨s1.heap.objs.size + 1, [s1.heap.objs.size + 1, s1.heap.objs.size], _, _, H1, rfl, J, turn_enumD (Nat.succ_ne_self _) (fun i h => h.IsStrIter s1.heap.objs.size (strIterType z) z t i) (fun i h ⟨o, ho, _, hd⟩ => ⟨o, ho, fun v z => by rw [hd] at z; cases z⟩) (fun i h h' ⟨o, ho, st⟩ k => ⟨o, k o ho, st⟩) ?_, ⟨⟨.none, he⟩, ⟨_, hit, rfl, rfl⟩⟩, fun b hb => ?_, q⟩
    · intro X' pins' σ' H' s' hP hw hK hh I' g
      refine ⟨[s1.heap.objs.size], _, _, Draws.text (show X'.A.in1.handled = none from hh) s1.heap.objs.size z t, by simp, fun i st => st, fun i h' st => st, fun i u hu => ?_⟩
      obtain ⟨c, k, hc, rfl⟩ := hu
      exact ⟨.str ⟨#[c]⟩, ⟨k, rfl⟩, c, hc, rfl⟩
    · have e' : b = s1.heap.objs.size + 1 ∨ b = s1.heap.objs.size := by simpa using hb
      have hle : s1.heap.objs.size ≤ b := e'.elim (fun z => z ▸ Nat.le_succ _) fun z => z ▸ Nat.le_refl _
      exact I1.fpOk hle (I1.hok.fresh hle)
theorem walk_iten {n : Nat} {G : Hp → Prop} {Y : Nat → V → Prop} : Walk (Iten n G Y) n G (fun i H v H' => ∃ T x, v = .ref T ∧ H T = none ∧ H' = upd H T (.tup [.int (i : Nat), x]) ∧ Y i x) :=
  ⟨fun i _ hi g => ⟨hi, g⟩, fun _ g => ⟨rfl, g⟩, fun _ _ _ _ _ _ y => y⟩
end
end L2

/-! o.m(k = v, ..); C(e, .., *y) -/
namespace L2
open PySem PySem.Spec PyProof.Rows
section
variable {X : Cx} {CX : CXT} {k : Nat} {f C : Addr} {fd : FuncData} {ps ks : List Str} {sp : Sp} {E : XK} {x m : Str} {o e : Expr} {es : List Expr} {kws : List Keyword} {ta : TE} {t tk : TA} {p pos apos : Pos} {g : List Value → List Value → List Value} {gV : List V → List V → List V}
def tMethK (C : Addr) (m : Str) (n : Nat) (sp : Sp) (gV : List V → List V → List V) (E : XK) (ta : TE) (tk : TA) : TE := fun σ H Q => ta σ H fun x H1 => ∃ a dx fs, x = .ref a ∧ H1 a = some (.ins C dx fs) ∧ fs.lookup m = none ∧
  tk σ H1 fun zs H2 => zs.length = n ∧ sp (gV [x] zs) H2 Q E
/-- o.m(k = v, ..), keywords alone -/
theorem pe_methK0 {pl : Sem Bool} (he : PE X o ta) (c : Cls X.K C) (hm : Meth X.K C m f) (F : FnOk X.prog X.w X.K X.mg X.base CX k f fd ps sp) (hr : Room k X.A) (hb : KBn X.K fd ps 1 ks g gV) (hx : Passes CX X E) (hkw : PK X kws tk)
    (hall : (backToKw pos (keywordEach kws X.env)).all (·.1.isSome) = true := by rfl) (hks : (backToKw pos (keywordEach kws X.env)).filterMap (·.1) = ks := by rfl)
    (hpl : ((backTo pos (starEach [] X.env)).any (·.1) || (backToKw pos (keywordEach kws X.env)).any (·.1.isNone)) = false := by rfl)
    (ht : eval (.Call (.Attribute o m apos) [] kws pos) X.env = (do
      let ov ← eval o X.env
      standAt apos.atName
      let (f, first) ← holding [ov] (getMethod ov m pl)
      callWith pos f first (backTo pos (starEach [] X.env)) (backToKw pos (keywordEach kws X.env))) := by rfl) :
    PE X (.Call (.Attribute o m apos) [] kws pos) (tMethK C m ks.length sp gV E ta tk) := by
  constructor
  intro pins s σ H Q I h
  refine PySem.W.methodCall_KW (pl := pl) (thn (he.run pins s σ H _ I h) fun u s1 hh => ?_) ht
  obtain ⟨y, H1, I1, ry, a, dx, fs, rfl, ea, l, q⟩ := hh
  obtain rfl : u = Value.ref a := ry
  refine getmeth_ok I1 ea c hm l ?_
  refine PySem.W.callWith_KW0 (first := [.ref a]) (h₀ := X.base) I.ok.mod.kin hm.kp hall (thn (hkw.run pos pins s1 σ H1 _ I1 q) fun ws s2 h2 => ?_) hpl
  obtain ⟨zs, H2, I2, rz, lz, q2⟩ := h2
  refine ⟨I2.kIn, ?_⟩
  rw [hks]
  exact run_fnN (us := [.ref a]) (vs := [.ref a]) F hr hb hx I2 (.cons rfl .nil) rz rfl lz q2
/-- C(e, .., *y, ..) -/
theorem pe_makeS2 (M : Mk X.K C f) (F : FnR X.prog X.w X.K X.mg X.base CX k f sp) (hr : Room (k + 1) X.A) (hg : Gl X x) (hm : X.mg x = some (.ref C)) (hx : Passes CX X E) (ha : PA X (e :: es) t) (hdb : (x == ("__debug__" : Str)) = false := by decide)
    (he : starEach (e :: es) X.env = (false, eval e X.env) :: starEach es X.env := by rfl) (hst : (backTo pos (starEach es X.env)).any (·.1) = true := by rfl) : PE X (.Call (.Name x p) (e :: es) [] pos) (StX.tMakeR C sp E t) := by
  constructor
  intro pins s σ H Q I h
  refine wpAny_Call_Name_kw (ld_glob I hg hm ?_ hdb)
  refine PySem.W.callWith_S2 (h₀ := X.base) I.ok.mod.kin M.kp (thn (ha.run pos pins s σ H _ I h) fun us s1 hh => ?_) he hst
  obtain ⟨vs, H1, I1, r, q⟩ := hh
  exact ⟨I1.kIn, StX.run_makeR M F hr hx I1 r q⟩
end
end L2

namespace Gm
open PySem L2


abbrev sChkW : Stmt := top 15

def spOver (K : PySem.W.Frag) : Sp := fun vs H Q _ => ∃ (v : V) (ch : List Nat) (n : Int), vs = [v, .str (tx ch), .int n] ∧
  ((∃ s : List Nat, v = .str (tx s) ∧ s.length ≤ 1000 ∧ ∀ H', Same H H' → Q (.bl (decide ((s.length : Int) = n ∧ ∀ c ∈ s, c ∈ ch))) H') ∨ (∃ t, TyX K H v t ∧ PySem.W.kitOne K t (.type "str") = some false ∧ Q (.bl false) H))
/-- words of the board of l and n -/
def Wd (l : List Nat) (n : Int) (s : List Nat) : Prop := (s.length : Int) = n ∧ ∀ c ∈ s, c ∈ l
def Bd (C : Addr) (H : Hp) (p : Addr) (l : List Nat) (n : Int) : Prop := BoardAt C H p (tx l) n ∧ l.length ≤ 26 ∧ 1 ≤ n ∧ n ≤ 6
theorem Bd.same {C p : Addr} {H H' : Hp} {l : List Nat} {n : Int} (h : Bd C H p l n) (e : Same H H') : Bd C H' p l n := ⟨let ⟨dx, h⟩ := h.1; ⟨dx, e _ _ h⟩, h.2⟩
def spChkW (C : Addr) : Sp := fun vs H Q _ => ∃ (p : Addr) (l s : List Nat) (n : Int), vs = [.ref p, .str (tx s)] ∧ Bd C H p l n ∧ Wd l n s ∧ ∀ H', Same H H' → Q .non H'
def spChkM (C : Addr) : Sp := fun vs H Q _ => ∃ (p : Addr) (l s : List Nat) (n : Int), vs = [.ref p, .str (tx s)] ∧ Bd C H p l n ∧ Wd [48, 49, 50] n s ∧ ∀ H', Same H H' → Q .non H'
def spChkB (C : Addr) : Sp := fun vs H Q _ => ∃ (p : Addr) (l : List Nat) (n : Int), vs = [.ref p] ∧ Bd C H p l n ∧ Q .non H
instance {l : List Nat} {n : Int} {s : List Nat} : Decidable (Wd l n s) := by unfold Wd; infer_instance
/-- is_word, are_marks: ch = none: the board's letters -/
def spIsW (K : PySem.W.Frag) (C : Addr) (ch : Option (List Nat)) : Sp := fun vs H Q _ => ∃ (p : Addr) (l : List Nat) (n : Int) (v : V), vs = [.ref p, v] ∧ Bd C H p l n ∧
  ((∃ s : List Nat, v = .str (tx s) ∧ s.length ≤ 1000 ∧ ∀ H', Same H H' → Q (.bl (decide (Wd (ch.getD l) n s))) H') ∨ (∃ t, TyX K H v t ∧ PySem.W.kitOne K t (.type "str") = some false ∧ Q (.bl false) H))
/-- a row stands at a -/
theorem in_tx {c : Nat} {l : List Nat} : decide (c ∈ (tx l).cps.toList) = decide (c ∈ l) := by simp
section
variable {P : Program} {w : World} {K : PySem.W.Frag} {mg : Str → Option Value} {base : Heap}
abbrev nO : List Str := ["value", "characters", "length", "character"]
theorem scOv : FnScope nO ["value", "characters", "length"] (defScope sOver) := ⟨rfl, rfl, rfl, by decide +kernel, rfl, by decide +kernel, by decide +kernel⟩
theorem ok_over {f : Addr} {fd : FuncData} (F : Fun K "is_text_over" "is_text_over" sOver f fd) (T : TxW mg) (mall : mg "all" = none) : FnOk P w K mg base CX0 1 f fd ["value", "characters", "length"] (spOver K) := by
  refine F.ok scOv (fun vs H Q E h => ?_) (fun cdv A outer s H vs Q E hr h => ?_)
  · obtain ⟨v, ch, n, rfl, _⟩ := h
    rfl
  · obtain ⟨v, ch, n, rfl, h⟩ := h
    have nd := scOv.nd
    have hline : sizeLine = 16777216 := sizeLine_eq
    refine ⟨_, pss_cons (ps_if (PW.pt (pw_or (pt_not (pt_val (pe_callB call_isi (by rfl) T.isi (by decide +kernel) (pa_cons (pv 0) (pa_cons (pe_bltn (v := .ty "str") (by rfl) T.str (by decide +kernel) rfl) pa_nil)))))
        (pw_or1 (pt_cmpR op_ne (pe_callB call_len_str (by rfl) T.len PySem.boot_len (pa_cons (pv 0) pa_nil)) (pv 2) (nomark _)))))
        (pss_one (ps_ret pe_bl)) pss_nil)
      (pss_one (ps_ret (pe_callB (cr_all rfl) (by rfl) mall (by decide +kernel) (pa_cons
        (pe_lc (own := [("character", 3)]) (g := gName 3) (by rfl) nd (pi_str (pv 0)) (blkOk_by (own := [("character", 3)]) (N := nO) (sc := defScope sOver) (by decide +kernel))
          (fun _ _ _ _ _ => pg_name (i := 3) nd rfl (Or.inl rfl)) (fun _ _ _ _ _ => pts_nil) (fun _ _ _ _ _ => pe_cmpR op_in_sign (pv 3) (pv 1) rfl)) pa_nil)))), ?_⟩
    rcases h with ⟨z, rfl, hz, q⟩ | ⟨t, ty, no, q⟩
    · have zl : (tx z).length = z.length := tx_len z
      refine ⟨_, rfl, _, _, _, _, _, rfl, .ty "str", .base (.str _), kit_ty (r := true) (by decide +kernel), _, rfl, iteF ?_⟩
      refine ⟨_, rfl, _, rfl, by omega, _, rfl, rfl, _, rfl, ?_⟩
      have ei : decide (V.int ((tx z).length : Nat) = V.int n) = decide ((z.length : Int) = n) := decide_eq_decide.mpr ⟨fun e => by rw [← zl]; exact V.int.inj e, fun e => by rw [zl, e]⟩
      rw [ei]
      refine ite2 (fun h => ?_) (fun h => ?_)
      · have e : decide ((z.length : Int) = n ∧ ∀ c ∈ z, c ∈ ch) = false := decide_eq_false fun a => by rw [decide_eq_true a.1] at h; cases h
        rw [e] at q
        exact q _ (Same.refl H)
      · have hn : (z.length : Int) = n := by
          refine Decidable.byContradiction fun c => h ?_
          rw [decide_eq_false c]
          rfl
        refine ⟨_, rfl, tx z, rfl, fun D hD => ?_⟩
        refine lc_it (walk_str (z := tx z)) (fun i H' => Same H H' ∧ H' D = some (.lst (((z.take i).map fun c => decide (c ∈ ch)).map V.bl))) ⟨same_upd hD, upd_same⟩ (fun _ _ _ _ => trivial) ?_ ?_
        · rintro i x H1 H2 hi ⟨sm, hDi⟩ ⟨rfl, c, hc, rfl⟩
          have hc' := tx_at hc
          have hi' : i < z.length := (List.getElem?_eq_some_iff.mp hc').1
          refine ⟨rfl, ⟨_, rfl, _, rfl, c, tx ch, rfl, rfl, _, hDi, ?_, fun b o q => ?_, ?_⟩⟩
          · rw [List.length_map, List.length_map, List.length_take]
            omega
          · rw [upd_ne (ne_of_none q hD)]
            exact sm b o q
          · have e2 : z.take (i + 1) = z.take i ++ [c] := by rw [List.take_succ_eq_append_getElem hi', (List.getElem?_eq_some_iff.mp hc').2]
            rw [upd_same, e2, List.map_append, List.map_append, in_tx]
            rfl
        · rintro H1 ⟨sm, hD1⟩
          refine ⟨D, _, rfl, SqL.of hD1, ?_⟩
          have e : decide ((z.length : Int) = n ∧ ∀ c ∈ z, c ∈ ch) = ((z.take (tx z).cps.size).map fun c => decide (c ∈ ch)).all id := by
            rw [tx_size, List.take_length, List.all_map]
            have : (List.all z (id ∘ fun c => decide (c ∈ ch))) = decide (∀ c ∈ z, c ∈ ch) := by
              rw [Bool.eq_iff_iff, List.all_eq_true, decide_eq_true_iff]
              exact ⟨fun h c hc => of_decide_eq_true (h c hc), fun h c hc => decide_eq_true (h c hc)⟩
            rw [this]
            exact decide_eq_decide.mpr ⟨fun a => a.2, fun a => ⟨hn, a⟩⟩
          rw [e] at q
          exact q _ sm
    · exact ⟨_, rfl, _, _, _, _, _, rfl, .ty "str", ty, no, _, rfl, iteT q⟩
theorem scIW : FnScope ["board", "value"] ["board", "value"] (defScope sIsW) := ⟨rfl, rfl, rfl, by decide +kernel, rfl, by decide +kernel, by decide +kernel⟩
theorem ok_isW {f C fO : Addr} {fd fdO : FuncData} (F : Fun K "is_word" "is_word" sIsW f fd) (TC : TxC K mg C) (GO : FnOk P w K mg base CX0 1 fO fdO ["value", "characters", "length"] (spOver K)) (DO : Df K mg "is_text_over" fO fdO ["value", "characters", "length"]) :
    FnOk P w K mg base CX0 2 f fd ["board", "value"] (spIsW K C none) := by
  refine F.ok scIW (fun vs H Q E h => ?_) (fun cdv A outer s H vs Q E hr h => ?_)
  · obtain ⟨p, l, n, v, rfl, _⟩ := h
    rfl
  · obtain ⟨p, l, n, v, rfl, ⟨⟨dx, hp⟩, l26, n1, n6⟩, h⟩ := h
    refine ⟨_, pss_one (ps_ret (pe_call GO hr (by rfl) DO.mg DO.kp DO.b .nil pass0 (pa_cons (pv 1) (pa_cons (pe_fld (pv 0) rfl) (pa_cons (pe_fld (pv 0) rfl) pa_nil))))), ?_⟩
    refine ⟨_, rfl, _, rfl, p, C, dx, _, _, rfl, hp, TC.cl, TC.nL, bf_letters _ _, _, rfl, p, C, dx, _, _, rfl, hp, TC.cl, TC.nN, bf_length _ _, _, _, _, rfl, ?_⟩
    exact h
theorem scCW : FnScope ["board", "word"] ["board", "word"] (defScope sChkW) := ⟨rfl, rfl, rfl, by decide +kernel, rfl, by decide +kernel, by decide +kernel⟩
theorem ok_chkW {f C fO : Addr} {fd fdO : FuncData} (F : Fun K "check_word" "check_word" sChkW f fd) (GO : FnOk P w K mg base CX0 2 fO fdO ["board", "value"] (spIsW K C none)) (DO : Df K mg "is_word" fO fdO ["board", "value"]) :
    FnOk P w K mg base CX0 3 f fd ["board", "word"] (spChkW C) := by
  refine F.ok scCW (fun vs H Q E h => ?_) (fun cdv A outer s H vs Q E hr h => ?_)
  · obtain ⟨p, l, s, n, rfl, _⟩ := h
    rfl
  · obtain ⟨p, l, z, n, rfl, hb, hw, q⟩ := h
    have n6 := hb.2.2.2
    refine ⟨_, pss_one (ps_if (pt_not (pt_val (pe_call GO hr (by rfl) DO.mg DO.kp DO.b .nil pass0 (pa_cons (pv 0) (pa_cons (pv 1) pa_nil))))) (pss_one ps_never) pss_nil), ?_⟩
    refine ⟨_, rfl, _, rfl, p, l, n, _, rfl, hb, .inl ⟨z, rfl, by have := hw.1; omega, fun H1 s1 => ⟨_, rfl, ?_⟩⟩⟩
    rw [decide_eq_true (show Wd ((none : Option (List Nat)).getD l) n z from hw)]
    exact iteF (q H1 s1)
theorem scCB : FnScope ["board"] ["board"] (defScope sChkB) := ⟨rfl, rfl, rfl, by decide +kernel, rfl, by decide +kernel, by decide +kernel⟩
theorem ok_chkB {f C : Addr} {fd : FuncData} (F : Fun K "check_board" "check_board" sChkB f fd) (T : TxW mg) (TC : TxC K mg C) : FnOk P w K mg base CX0 1 f fd ["board"] (spChkB C) := by
  refine F.ok scCB (fun vs H Q E h => ?_) (fun cdv A outer s H vs Q E hr h => ?_)
  · obtain ⟨p, l, n, rfl, _⟩ := h
    rfl
  · obtain ⟨p, l, n, rfl, ⟨⟨dx, hp⟩, l26, n1, n6⟩, q⟩ := h
    refine ⟨_, pss_one (ps_if (pt_not (pt_val (pe_callB call_isi (by rfl) T.isi (by decide +kernel) (pa_cons (pv 0) (pa_cons (pe_glob (v := .ref C) (by rfl) TC.mgC rfl) pa_nil))))) (pss_one ps_never) pss_nil), ?_⟩
    exact ⟨_, rfl, _, _, _, _, _, rfl, .own C, ty_board TC hp, TC.own, _, rfl, iteF q⟩
end
end Gm

/-! several except clauses, each with a name -/
namespace L2
open PySem PySem.Spec PyProof.Rows
abbrev Clause := Value × Nat × (Addr → Value → Option Addr → TS)
/-- ends behind a suite: the clause's name is gone -/
def endsGone (D : Ends) (i : Nat) : Ends := { nx := fun σ H => D.nx (σ.set i none) H, rt := D.rt, bk := fun σ H => D.bk (σ.set i none) H, ct := fun σ H => D.ct (σ.set i none) H }
def wNamed (K : PySem.W.Frag) (Wo : WX) (D : Ends) : List Clause → WX
  | [] => Wo
  | k :: r => fun cl d σ H => ∃ b, PySem.W.exmOne K cl k.1 = some b ∧ (b = true → ∀ a, H a = none → k.2.2 a cl d (endsGone D k.2.1) (σ.set k.2.1 (some (.ref a))) H) ∧ (b = false → wNamed K Wo D r cl d σ H)
def wLen (n : Nat) (W : WX) : WX := fun cl d σ H => σ.length = n → W cl d σ H
structure ClauseOk (X : Cx) (x n : Str) (suite : List Stmt) (k : Clause) : Prop where
  names : Names X x k.1
  at_ : X.N[k.2.1]? = some n
  loc : X.env.kindOf n = some .local
  run : ∀ (a : Addr) (o : Obj) (cl : Value) (d : Option Addr) (pn : List (Addr × Obj)), Zc cl d o → (∃ vs, o.data = .fields vs) → PSs (X.suite a ((a, o) :: pn)) suite (k.2.2 a cl d)
inductive NamedOk (X : Cx) : List ExceptHandler → List Clause → Prop
  | nil : NamedOk X [] []
  | cons {x n : Str} {k : Clause} {b : Stmt} {su : List Stmt} {p1 p2 : Pos} {hd : List ExceptHandler} {l : List Clause} (ok : ClauseOk X x n (b :: su) k) (r : NamedOk X hd l) : NamedOk X (.ExceptHandler (some (.Name x p1)) (some n) (b :: su) p2 :: hd) (k :: l)
section
variable {X : Cx} {hd0 : ExceptHandler} {hds : List ExceptHandler} {l : List Clause} {pos : Pos} {body : List Stmt} {tb : WX → TS} {Wo : WX} {pins : List (Addr × Obj)} {σ : L2.St} {H : Hp} {D : Ends}
/-- try: body, then except C as n: .. clauses, each by a name of its own -/
theorem ps_try_named (st : X.stack = X.env :: X.outer) (fr : X.env.frame = some X.env.locals) (nd : X.N.Nodup) (take : Takes X Wo)
    (run : ∀ (W : WX) (pn : List (Addr × Obj)) (xe : Value → Shared → Prop), Takes (X.tr pn xe) W → PassesOwn (model X.prog X.w) X.A X.env xe → PSs (X.tr pn xe) body (tb W)) (all : NamedOk X (hd0 :: hds) l) :
    PS X (.Try body (hd0 :: hds) [] [] pos) (fun D σ H => tb (wLen X.N.length (wNamed X.K Wo D l)) D σ H) := by
  constructor
  intro pins s σ H D I h
  have okX := I.ok
  have frs_eq : X.A.frames = some (X.env :: X.outer) := okX.frames.trans (congrArg some st)
  apply wpAny_Try_except
  refine wpAny_mono ((run (wLen X.N.length (wNamed X.K Wo D l)) (X.pn ++ pins) (fun e r1 => wpAny (model X.prog X.w) X.A (noteFrame e X.env) (fun _ r2 => wpAny (model X.prog X.w) X.A (setFlight e none) (fun _ r3 => wpAny (model X.prog X.w) X.A (handleBy e X.env (hd0 :: hds)) (SP X pins D) X.xe r3) X.xe r2) X.xe r1) (fun u s' x => ?_) PassesOwn.looking).run [] s σ H D (I.toTry _) h) (fun f s1 e => ?_) (fun _ _ z => z)
  · obtain ⟨a, B, sI, ps', τ, G, cl, d, rfl, J0, nb, up, sk, ga, eo, ag, wish⟩ := x
    have J : Inv X pins τ G sI := J0.ofTry okX
    rw [st] at sk
    show wpAny (model X.prog X.w) X.A (noteFrame (.ref a) X.env) _ _ _
    refine Sky.land Zc.steady frs_eq fr sk fun g3 dn up3 => ?_
    have J3 : Inv X pins τ G { s' with heap := g3 } := J.landed nb dn.1 (up.trans up3) eo ag
    obtain ⟨o3, v3, ho, zo, fo⟩ := dn.there
    have off : a ∉ frs (X.env :: X.outer) := fun m => by
      obtain ⟨_, o', ho', no⟩ := dn.2.2.1.mem m
      exact no _ ((Option.some.inj (ho.symm.trans ho')) ▸ fo)
    have aL : a ≠ X.env.locals := fun z => off (List.mem_filterMap.mpr ⟨X.env, List.mem_cons_self, z ▸ fr⟩)
    have aF : a ∉ X.fs := fun m => by
      obtain ⟨e, i, q⟩ := List.mem_filterMap.mp m
      exact off (List.mem_filterMap.mpr ⟨e, List.mem_cons_of_mem _ i, q⟩)
    have S3 := J3.suite ho fo ga aL aF
    have each : ∀ {hd : List ExceptHandler} {l : List Clause}, NamedOk X hd l → wNamed X.K Wo D l cl d τ G → wpAny (model X.prog X.w) X.A (handleBy (.ref a) X.env hd) (SP X pins D) X.xe { s' with heap := g3 } := by
      intro hd l m
      induction m with
      | nil =>
        intro wish
        apply wpAny_handleBy_nil
        obtain ⟨k1, k2, k3, oe, vs, T, oT, t', e1, e2, e3, e4, e5⟩ := id dn
        unfold PySem.passOn
        refine wpAny_bind (wpAny_field e1 e3 e4 ?_)
        rw [if_neg (show ¬ ((Value.ref T == Value.none) = true) from by simp)]
        have out : wpAny (model X.prog X.w) X.A (setFlight (.ref a) X.env.frame) (fun _ r => wpAny (model X.prog X.w) X.A (throw (.ref a) : Sem Flow) (SP X pins D) X.xe r) X.xe { s' with heap := g3 } := by
          rw [fr]
          exact HandSPX.setFlight_upZ dn fun g4 k4 up4 => wpAny_throw (take _ _ ⟨a, B, sI, pins, τ, G, cl, d, rfl, J, nb, (up.trans up3).trans up4, .inr (.inr (st ▸ k4)), ga, eo, ag, wish⟩)
        first | exact wpAny_bind (wpAny_pure (wpAny_bind out)) | exact wpAny_bind out
      | @cons x n k b su p1 p2 hd2 l2 C m2 ih =>
        intro wish
        obtain ⟨v, isK, yes, no⟩ := wish
        refine wpAny_handleBy_cons (codeAny_handlers_test ?_) nofun
        have tyA : PySem.W.Looks (model X.prog X.w) g3 (typeOf (.ref a)) cl := fun A Q E r k q => wpAny_typeOf_ref (k _ _ ho) (zo.1.symm ▸ q)
        have ans := PySem.W.exm_one (M := model X.prog X.w) (J3.kIn) tyA isK
        have reads : ∀ {Q E : Value → Shared → Prop}, Q k.1 { s' with heap := g3 } → wpAny (model X.prog X.w) (X.A.mark (some (.ref a))) (eval (.Name x p1) X.env) Q E { s' with heap := g3 } := fun {Q E} q => by
          rcases C.names with ⟨n1, n2, n3 | ⟨n3, n4, n5⟩⟩
          · exact ld_glob (X := X.suite a ((a, o3) :: (X.pn ++ pins))) S3 n1 n3 q n2
          · exact ld_blt (X := X.suite a ((a, o3) :: (X.pn ++ pins))) S3 n1 n3 n4 q n5 n2
        refine reads (ans.here ?_)
        cases v with
        | false => exact ih (no rfl)
        | true =>
          apply codeAny_handlers_suite_as
          refine HandSPX.lands_againZ dn fun g4 dn4 up4 => ?_
          have J4 : Inv X pins τ G { s' with heap := g4 } := J.landed nb dn4.1 ((up.trans up3).trans up4) eo ag
          obtain ⟨o4, v4, h4, z4, f4⟩ := dn4.there
          refine store_ok (X := X.suite a ((a, o4) :: (X.pn ++ pins))) (v := .ref a) (J4.suite h4 f4 ga aL aF) nd C.at_ (.inl C.loc) rfl (fun s5 S5 => ?_) (.inr C.loc)
          refine wpAny_mono ((C.run a o4 cl d (X.pn ++ pins) z4 ⟨_, f4⟩).run [] s5 _ G _ S5 (yes rfl a ga)) (fun f s6 e => ?_) (fun _ _ z => z.elim)
          have bye : ∀ {σ6 : L2.St} {H6 : Hp} {Q : Shared → Prop}, Inv (X.suite a ((a, o4) :: (X.pn ++ pins))) [] σ6 H6 s6 → (∀ s7, Inv X pins (σ6.set k.2.1 none) H6 s7 → Q s7) →
              wpAny (model X.prog X.w) X.A (do bindName X.env n .none; unbindBehindTheSuite X.env n p2) (fun _ s7 => Q s7) X.xe s6 := fun S6 q => gone_ok (S6.unsuite okX) nd C.at_ C.loc q
          cases f with
          | ret u =>
            obtain ⟨v6, σ6, H6, S6, r6, q6⟩ := e
            exact bye S6 fun s7 J7 => ⟨_, _, _, J7, r6, q6⟩
          | _ =>
            obtain ⟨σ6, H6, S6, q6⟩ := e
            exact bye S6 fun s7 J7 => ⟨_, _, J7, q6⟩
    exact each all (wish J.len)
  · cases f with
    | next =>
      obtain ⟨τ, G, J, q⟩ := e
      exact wpAny_execs_nil ⟨τ, G, J.ofTry okX, q⟩
    | ret u =>
      obtain ⟨v, τ, G, J, r, q⟩ := e
      exact ⟨v, τ, G, J.ofTry okX, r, q⟩
    | _ =>
      obtain ⟨τ, G, J, q⟩ := e
      exact ⟨τ, G, J.ofTry okX, q⟩
end
end L2

/-! error classes of the program that keep their argument: made, raised, caught, asked for their class -/
namespace L2
open PySem PySem.Spec PyProof.Rows
/-- what stands of an error class C with the field f; its __init__ at fI -/
structure ErrC (K : PySem.W.Frag) (mg : Str → Option Value) (x f : Str) (C fI : Addr) : Prop where
  gC : mg x = some (.ref C)
  ox : OexC K C
  no : PySem.W.findIn K (.ref C) f = some none
  iC : PySem.W.findIn K (.ref C) "__init__" = some (some (.ref fI))
  tI : PySem.W.typeIn K (.ref fI) = some (.type "function")
  ga : PySem.W.findIn K (.ref C) "__getattribute__" = some (some (.builtin "BaseException.__getattribute__"))
  gg : PySem.W.findIn K (.ref C) "__getattr__" = some none
  hd : PySem.W.hasDictIn K C = true
  ac : PySem.W.findIn K (.ref C) "__class__" = some (some (.builtin "object.__class__"))
  gt : PySem.W.specialIn K (.builtin "object.__class__") "__get__" = some (some (.builtin "getset_descriptor.__get__"))
  tk : PySem.W.takesIn K (.builtin "object.__class__") = some true
  ob : PySem.W.mroIn K C (.type "object") = some true
theorem ErrC.xf {K : PySem.W.Frag} {mg : Str → Option Value} {x f : Str} {C fI : Addr} (T : ErrC K mg x f C fI) : XfC K C := ⟨T.ga, T.gg, T.ox.exC, T.hd⟩
theorem ErrC.cl {K : PySem.W.Frag} {mg : Str → Option Value} {x f : Str} {C fI : Addr} (T : ErrC K mg x f C fI) : (PySem.W.clsIn K C).isSome = true := by
  obtain ⟨cd, hc, _⟩ := PySem.W.any_some T.hd
  rw [hc]
  rfl
def spErr (C : Addr) (f : Str) : Sp := fun vs H Q _ => ∃ (a : Addr) (v : V), vs = [.ref a, v] ∧ H a = some (exo a C none) ∧ ∀ dx, H dx = none → dx ≠ a → Q .non (upd (upd H dx (exd dx [(f, v)])) a (exo a C (some dx)))
theorem ok_err {P : Program} {w : World} {K : PySem.W.Frag} {mg : Str → Option Value} {base : Heap} {qual f x par : Str} {st : Stmt} {fI C : Addr} {fd : FuncData} {p1 p2 p3 p4 : Pos} (F : Fun K "__init__" qual st fI fd) (T : ErrC K mg x f C fI)
    (hB : defBody st = [.Assign [.Attribute (.Name "self" p1) f p2] (.Name par p3) p4]) (S : FnScope ["self", par] ["self", par] (defScope st)) (v0 : Vis (defScope st) "self") (v1 : Vis (defScope st) par)
    (d0 : (par == ("__debug__" : Str)) = false := by decide) (d1 : (par == ("__classdict__" : Str)) = false := by decide) : FnOk P w K mg base CX0 1 fI fd ["self", par] (spErr C f) := by
  refine F.ok S (fun vs H Q E h => ?_) (fun cdv A outer s H vs Q E hr h => ?_)
  · obtain ⟨a, v, rfl, _⟩ := h
    rfl
  · obtain ⟨a, v, rfl, e, q⟩ := h
    rw [hB]
    refine ⟨_, pss_one (ps_ost (pe_var (i := 0) rfl v0 (by decide) (by decide)) (pe_var (i := 1) rfl v1 d0 d1)), ?_⟩
    exact ⟨_, rfl, _, rfl, a, C, rfl, T.ox, T.no, .inl ⟨e, fun dx n ne => q dx n ne⟩⟩
theorem mkErr {C : Addr} {f : Str} {v : V} {H1 : Hp} {Q : XK} (h : ∀ H' d, Same H1 H' → H1 d = none → H' d = some (.xd [(f, v)]) → Q (.ref C) (some d) H') :
    [v].length ≤ 1000 ∧ ∀ a, H1 a = none → spErr C f (.ref a :: ([v] ++ [])) (upd H1 a (exo a C none))
      (fun u H2 => u = .non ∧ ∃ (d : Addr) (fs : List (Str × V)), H2 a = some (exo a C (some d)) ∧ H2 d = some (exd d fs) ∧ H1 d = none ∧ Q (.ref C) (some d) (upd (del H2 a) d (.xd fs))) (fun _ _ _ => False) := by
  refine ⟨(by decide : 1 ≤ 1000), fun a na => ⟨a, v, rfl, upd_same, fun dx nd ne => ⟨rfl, dx, [(f, v)], upd_same, (upd_ne ne).trans upd_same, ?_, ?_⟩⟩⟩
  · rwa [upd_ne ne] at nd
  · rw [upd_ne ne] at nd
    refine h _ dx (fun b o e => ?_) nd upd_same
    have n1 : b ≠ a := ne_of_none e na
    have n2 : b ≠ dx := ne_of_none e nd
    rw [upd_ne n2, del_ne n1, upd_ne n1, upd_ne n2, upd_ne n1]
    exact e
/-- isinstance(e, c) of the caught error with its dict -/
def rIsX (K : PySem.W.Frag) (D a : Addr) (cls : Value) (d : Option Addr) : List V → Hp → VK → Prop := fun xs H Q =>
  ∃ (c : V) (cv : Value) (b : Bool) (dd : Addr) (fs : List (Str × V)), xs = [.ref a, c] ∧ ClsV c cv ∧ cls = .ref D ∧ d = some dd ∧ H dd = some (.xd fs) ∧ PySem.W.kitOne K (.ref D) cv = some b ∧ Q (.bl b) H
theorem call_isX {X : Cx} {a D fI : Addr} {x f : Str} {oe : Obj} {cls : Value} {d : Option Addr} {pn : List (Addr × Obj)} (T : ErrC X.K X.mg x f D fI) (hz : Zc cls d oe) (hf : ∃ vs, oe.data = .fields vs) :
    CallR (X.suite a ((a, oe) :: pn)) (.builtin "isinstance") (rIsX X.K D a cls d) := by
  intro pins s σ H xs us Q I r h
  obtain ⟨c, cv, b, dd, fs, rfl, k, rfl, rfl, hd, e, q⟩ := h
  cases r with
  | cons rx rr =>
    cases rr with
    | cons rt rr =>
      cases rr
      cases rx
      have ec := k.eq rt
      subst ec
      obtain ⟨hget, _⟩ := I.pin (a, oe) (List.mem_append_left _ List.mem_cons_self)
      obtain ⟨vs, hv⟩ := hf
      have hx : ObjOk X.prog X.w H s.heap dd (.xd fs) := I.hok dd _ hd
      obtain ⟨mA, hns, _⟩ := hx
      obtain ⟨od, ho, _⟩ := lookIn_ns hns
      have J : PySem.W.InstAt s.heap a oe D (some od) := ⟨hget, hz.1, by unfold PySem.W.notCls; rw [hv] <;> rfl, by rw [hz.2]; exact ho⟩
      exact PySem.W.kia_one (PySem.W.kitx_exc T.cl T.ga T.gg T.ox.exC T.ac T.gt T.tk T.ob) I.kIn J e (fun z => nomatch z) fun tk => ⟨.bl b, H, I.kept (t' := tk) fun _ _ z => z, rfl, q⟩
theorem TyX.same {K : PySem.W.Frag} {H H' : Hp} {v : V} {t : Value} (ty : TyX K H v t) (s : Same H H') : TyX K H' v t := by
  cases ty with
  | base b =>
    cases b with
    | non => exact .base .non
    | bl y => exact .base (.bl y)
    | int i => exact .base (.int i)
    | str y => exact .base (.str y)
    | flt y => exact .base (.flt y)
    | lst e => exact .base (.lst (s _ _ e))
    | frz e => exact .base (.frz (s _ _ e))
    | tup e => exact .base (.tup (s _ _ e))
    | dK e => exact .base (.dK (s _ _ e))
    | dT e => exact .base (.dT (s _ _ e))
    | ins e cl ha hn htk hm => exact .base (.ins (s _ _ e) cl ha hn htk hm)
  | byt b => exact .byt b
  | set e => exact .set (s _ _ e)
  | kList e c => exact .kList e c
  | kTuple e c => exact .kTuple e c
  | kDict e c => exact .kDict e c
  | fTuple e => exact .fTuple (s _ _ e)
  | fDict e => exact .fDict (s _ _ e)
end L2

/-! things of any kind, as menus hold them -/
namespace L2
open PySem PySem.Spec PyProof.Rows
inductive Flat : V → PyData → Prop
  | non : Flat .non .none
  | bl (b : Bool) : Flat (.bl b) (.bool b)
  | int (i : Int) : Flat (.int i) (.int i)
  | str (x : Str) : Flat (.str x) (.str x)
inductive Flats : List V → List PyData → Prop
  | nil : Flats [] []
  | cons {v : V} {vs : List V} {d : PyData} {ds : List PyData} : Flat v d → Flats vs ds → Flats (v :: vs) (d :: ds)
/-- a thing that is not at p: its value, its data, its kind -/
inductive Thing (p : Addr) (H : Hp) : V → PyData → String → Prop
  | non : Thing p H .non .none "NoneType"
  | bl (b : Bool) : Thing p H (.bl b) (.bool b) "bool"
  | int (i : Int) : Thing p H (.int i) (.int i) "int"
  | str (x : Str) : Thing p H (.str x) (.str x) "str"
  | tup {a : Addr} {xs : List V} {ds : List PyData} : a ≠ p → H a = some (.tup xs) → Flats xs ds → Thing p H (.ref a) (.tuple ds) "tuple"
  | lst {a : Addr} {xs : List V} {ds : List PyData} : a ≠ p → H a = some (.lst xs) → Flats xs ds → Thing p H (.ref a) (.list ds) "list"
  | dic {a : Addr} : a ≠ p → H a = some (.dK []) → Thing p H (.ref a) (.dict []) "dict"
theorem Flat.dq {K : PySem.W.Frag} {H : Hp} {v : V} {d : PyData} (h : Flat v d) : Dq K H v d := by
  cases h with
  | non => exact .non
  | bl b => exact .bl b
  | int i => exact .int i
  | str x => exact .str x
theorem Flats.dq {K : PySem.W.Frag} {H : Hp} {vs : List V} {ds : List PyData} (h : Flats vs ds) : DqAll K H vs ds := by
  induction h with
  | nil => exact .nil
  | cons a _ ih => exact .cons a.dq ih
section
variable {K : PySem.W.Frag} {p : Addr} {H H' : Hp} {v : V} {d : PyData} {t : String}
/-- all but p and the tables of code objects stands as it stood -/
def Kp (p : Addr) (H H' : Hp) : Prop := ∀ b o, b ≠ p → (∀ ps, o ≠ .tbl ps) → H b = some o → H' b = some o
theorem Kp.refl : Kp p H H := fun _ _ _ _ e => e
theorem Kp.trans {H1 H2 H3 : Hp} (a : Kp p H1 H2) (b : Kp p H2 H3) : Kp p H1 H3 := fun c o n t e => b c o n t (a c o n t e)
theorem Kp.of (s : Same H H') : Kp p H H' := fun b o _ _ e => s b o e
theorem Kp.ext (s : LamX.ExtN H H') : Kp p H H' := fun b o _ t e => s b o e t
theorem Kp.but (s : ∀ b o, b ≠ p → H b = some o → H' b = some o) : Kp p H H' := fun b o n _ e => s b o n e
theorem Kp.new {q : Addr} {o : HO} (s : Kp p H H') (n : H q = none) : Kp p H (upd H' q o) := fun b u nb t e => by rw [upd_ne (ne_of_none e n)]; exact s b u nb t e
theorem Thing.keep (h : Thing p H v d t) (k : Kp p H H') : Thing p H' v d t := by
  cases h with
  | non => exact .non
  | bl b => exact .bl b
  | int i => exact .int i
  | str x => exact .str x
  | tup n e f => exact .tup n (k _ _ n (fun _ z => by cases z) e) f
  | lst n e f => exact .lst n (k _ _ n (fun _ z => by cases z) e) f
  | dic n e => exact .dic n (k _ _ n (fun _ z => by cases z) e)
theorem Thing.same (h : Thing p H v d t) (s : Same H H') : Thing p H' v d t := h.keep (.of s)
theorem Thing.ty (h : Thing p H v d t) : TyX K H v (.type t) := by
  cases h with
  | non => exact .base .non
  | bl b => exact .base (.bl b)
  | int i => exact .base (.int i)
  | str x => exact .base (.str x)
  | tup n e f => exact .base (.tup e)
  | lst n e f => exact .base (.lst e)
  | dic n e => exact .base (.dK e)
theorem Thing.dq (h : Thing p H v d t) : Dq K H v d := by
  cases h with
  | non => exact .non
  | bl b => exact .bl b
  | int i => exact .int i
  | str x => exact .str x
  | tup n e f => exact .tup (SqT.of e) f.dq
  | lst n e f => exact .lst (SqL.of e) f.dq
  | dic n e => exact .dic e
end
theorem Thing.free (h : Thing p H v d t) {q : Addr} (n : H q = none) : v ≠ .ref q := fun z => by
  cases h with
  | tup _ e f => cases z; rw [n] at e; cases e
  | lst _ e f => cases z; rw [n] at e; cases e
  | dic _ e => cases z; rw [n] at e; cases e
  | _ => cases z
/-! sizes of what repr shows -/
structure ShAll (ds : List PyData) (n m : Nat) : Prop where
  ok : PyData.showableAll ds = true
  long : ((PyData.shownAll ds).map (·.length)).sum + 2 * ds.length ≤ n
  deep : PyData.depthAll ds ≤ m
theorem ShAll.nil {m : Nat} : ShAll [] 0 m := ⟨by simp [PyData.showableAll], by simp [PyData.shownAll], by simp [PyData.depthAll]⟩
theorem ShAll.cons {d : PyData} {ds : List PyData} {n k m : Nat} (h : Sh d n m) (hs : ShAll ds k m) : ShAll (d :: ds) (n + 2 + k) m := by
  refine ⟨?_, ?_, ?_⟩
  · simp only [PyData.showableAll, h.ok, hs.ok, Bool.and_self]
  · have a := h.long
    have b := hs.long
    simp only [PyData.shownAll, List.map_cons, List.sum_cons, List.length_cons]
    omega
  · have a := h.deep
    have b := hs.deep
    simp only [PyData.depthAll]
    omega
theorem Sh.lst {ds : List PyData} {n m : Nat} (h : ShAll ds n m) : Sh (.list ds) (n + 3) (m + 1) := by
  refine ⟨?_, ?_, ?_⟩
  · simp only [PyData.showable, h.ok]
  · have a := h.long
    have b := listText_len_le (PyData.shownAll ds)
    rw [PyData.shownAll_length] at b
    simp only [PyData.shown]
    omega
  · have a := h.deep
    simp only [PyData.depth]
    omega
theorem Sh.tup {ds : List PyData} {n m : Nat} (h : ShAll ds n m) : Sh (.tuple ds) (n + 3) (m + 1) := by
  refine ⟨?_, ?_, ?_⟩
  · simp only [PyData.showable, h.ok]
  · have a := h.long
    have b := tupleText_len_le (PyData.shownAll ds)
    rw [PyData.shownAll_length] at b
    simp only [PyData.shown]
    omega
  · have a := h.deep
    simp only [PyData.depth]
    omega
theorem Sh.le {d : PyData} {n n' m m' : Nat} (h : Sh d n m) (hn : n ≤ n') (hm : m ≤ m') : Sh d n' m' := ⟨h.ok, Nat.le_trans h.long hn, Nat.le_trans h.deep hm⟩
theorem Sh.bl (b : Bool) {m : Nat} : Sh (.bool b) 5 m := ⟨by simp only [PyData.showable], by cases b <;> (simp only [PyData.shown]; decide), by simp only [PyData.depth]; omega⟩
theorem Sh.non {m : Nat} : Sh .none 4 m := ⟨by simp only [PyData.showable], by simp only [PyData.shown]; decide, by simp only [PyData.depth]; omega⟩
theorem Sh.str (x : Str) {n m : Nat} (h : (reprText x).length ≤ n) : Sh (.str x) n m := ⟨by simp only [PyData.showable], by simp only [PyData.shown]; exact h, by simp only [PyData.depth]; omega⟩
theorem Sh.int (i : Int) {n m : Nat} (h : i.natAbs.log2 < 1920) (h2 : ((toString i : String) : Str).length ≤ n) : Sh (.int i) n m := ⟨by simp only [PyData.showable]; exact decide_eq_true h, by simp only [PyData.shown]; exact h2, by simp only [PyData.depth]; omega⟩
theorem Sh.dic {m : Nat} : Sh (.dict []) 10 (m + 1) := ⟨by simp only [PyData.showable, PyData.showableKv], by simp only [PyData.shown, PyData.shownKv]; decide +kernel, by simp only [PyData.depth, PyData.depthKv]; omega⟩
/-- an item of a menu: a thing that can be shown, of which C holds -/
def Item (p : Addr) (H : Hp) (C : V → Prop) (v : V) : Prop := ∃ d t, Thing p H v d t ∧ Sh d 300 2 ∧ C v
section
variable {p : Addr} {H H' : Hp} {C : V → Prop}
theorem Item.keep {v : V} (h : Item p H C v) (k : Kp p H H') : Item p H' C v := let ⟨d, t, a, b, c⟩ := h; ⟨d, t, a.keep k, b, c⟩
theorem item_non (c : C .non) : Item p H C .non := ⟨_, _, .non, (Sh.non (m := 0)).le (by decide) (by decide), c⟩
theorem item_bl (b : Bool) (c : C (.bl b)) : Item p H C (.bl b) := ⟨_, _, .bl b, (Sh.bl b).le (by decide) (Nat.le_refl _), c⟩
theorem item_int (i : Int) (h : i.natAbs.log2 < 1920) (h2 : ((toString i : String) : Str).length ≤ 300) (c : C (.int i)) : Item p H C (.int i) := ⟨_, _, .int i, .int i h h2, c⟩
theorem item_str (x : Str) (h : (reprText x).length ≤ 300) (c : C (.str x)) : Item p H C (.str x) := ⟨_, _, .str x, .str x h, c⟩
theorem item_dic {a : Addr} (n : a ≠ p) (e : H a = some (.dK [])) (c : C (.ref a)) : Item p H C (.ref a) := ⟨_, _, .dic n e, (Sh.dic (m := 0)).le (by decide) (by decide), c⟩
theorem item_tup {a : Addr} {xs : List V} {ds : List PyData} {k : Nat} (n : a ≠ p) (e : H a = some (.tup xs)) (f : Flats xs ds) (s : ShAll ds k 0) (hk : k + 3 ≤ 300) (c : C (.ref a)) : Item p H C (.ref a) := ⟨_, _, .tup n e f, (Sh.tup s).le hk (by decide), c⟩
theorem item_lst {a : Addr} {xs : List V} {ds : List PyData} {k : Nat} (n : a ≠ p) (e : H a = some (.lst xs)) (f : Flats xs ds) (s : ShAll ds k 0) (hk : k + 3 ≤ 300) (c : C (.ref a)) : Item p H C (.ref a) := ⟨_, _, .lst n e f, (Sh.lst s).le hk (by decide), c⟩
end
end L2

/-! error classes over any built-in error: made, raised, caught, asked for their class (X0 has those over ValueError) -/
namespace PySem.HandSPX
open PySem PySem.W PySem.Calls PyProof.Rows Builtin Builtin.ObjectAttr
theorem passAE (self : Value) : refuseLoop self "__setattr__" [.type "ArithmeticError", .type "Exception", .type "BaseException", .type "object"] = pure () := by kernel_rfl
theorem passLE (self : Value) : refuseLoop self "__setattr__" [.type "LookupError", .type "Exception", .type "BaseException", .type "object"] = pure () := by kernel_rfl
section
variable {prog : Program} {w : World} {A : Around} {R : Result → Shared → Prop} {hp : Heap} {g : Array GenState} {dr : Drawn} {tk0 : Nat} {os : OsState}
/-- the first attribute of an error, whatever built-in error its class is over -/
theorem gm_store {K : W.Frag} {nm : Str} {tk : Tok} {v : Value} {x C : Addr} {fv : Array Value} {cd : ClassData} (X : K.In hp) (hx : hp.get? x = some { cls := .ref C, data := .fields fv }) (hcd : W.clsIn K C = some cd)
    (full : cd.mro.isEmpty = false) (hob : cd.mro.contains (.type "object") = true) (pass : refuseLoop (.ref x) "__setattr__" cd.mro = pure ()) (hh : cd.hasDict = true) (ha : W.findIn K (.ref C) nm = some none)
    (done : ∀ h1 tk1 dx, (∀ b o, b ≠ x → hp.get? b = some o → h1.get? b = some o) → hp.objs.size ≤ dx → dx ≠ x → h1.get? x = some { cls := .ref C, dict := some dx, data := .fields fv } → h1.Ns1 dx (fun y => if y = nm then some v else none) → R (.ok (.ret .none)) ⟨h1, g, dr, tk1, os⟩) :
    codeAny (model prog w) A (.call (.builtin "object.__setattr__") ⟨[.ref x, .str nm tk, v], []⟩) R ⟨hp, g, dr, tk0, os⟩ := by
  have J : W.InstAt hp x { cls := .ref C, data := .fields fv } C none := ⟨hx, rfl, rfl, trivial⟩
  have S := F.store_object
  have off : x ≠ hp.objs.size := Nat.ne_of_lt (Heap.lt_size hx)
  have mroO : W.mroIn K C (.type "object") = some true := by
    unfold W.mroIn
    rw [hcd, Option.bind_some, if_neg (by rw [full]; decide), hob]
  have isO : W.Looks (model prog w) hp (isInstance (.ref x) (.type "object")) true := J.type.andThen (W.looks_mroIn X mroO)
  refine codeAny_call_builtin S.slot.plain S.entry (@W.check_slot (model prog w) _ _ ⟨hp, g, dr, tk0, os⟩ "object.__setattr__" "object" "__setattr__" (.ref x) [.str nm tk, v] [] _ S.kind S.split isO (S.args (.ref x) (.str nm tk) v) ?_)
  have look : W.Looks (model prog w) hp (classData C) cd := W.looks_clsIn X hcd
  have order : W.Looks (model prog w) hp (mroOf (.ref C)) cd.mro := look.andThen .now
  have none3 : W.Looks (model prog w) hp (storeTaker? none) none := .now
  rw [W.osa_eq, refuse_eq]
  refine wpAny_bind <| wpAny_bind <| J.type.at <| wpAny_bind <| order.at ?_
  rw [pass]
  refine wpAny_pure <| wpAny_bind <| J.type.at <| wpAny_bind <| (W.looks_findIn X ha).at <| wpAny_bind <| none3.at ?_
  show wpAny _ _ (storeInOwnDict (.ref x) (.ref C) (.str nm tk) nm v false) _ _ _
  obtain ⟨c1, c2, c3, c4, c5, c6, c7, c8, c9, c10, c11⟩ := cd
  dsimp only at hh
  subst hh
  unfold storeInOwnDict ownDictForStores
  repeat (first | (with_reducible refine store_in_new ?_ ?_) | (with_reducible refine wpAny_loadPart_at hx ?_) | (with_reducible refine look.at ?_) | wp_step)
  · exact ⟨_, #[], _, (Heap.get?_update_ne _ _ _ _ off.symm).trans (Heap.get?_push_at rfl rfl), rfl, (fun e he => absurd he (by simp)), fun _ => rfl⟩
  intro h1 tk1 hn1 same
  have hx1 : (hp.push { cls := .type "dict", data := .dict #[] }).get? x = some { cls := .ref C, data := .fields fv } := Heap.get?_push_of_some _ hx
  refine done h1 tk1 hp.objs.size (fun b o nb e => ?_) (Nat.le_refl _) off.symm ?_ hn1
  · exact (same.2 b (Nat.ne_of_lt (Heap.lt_size e))).trans ((Heap.get?_update_ne _ _ _ _ nb).trans (Heap.get?_push_of_some _ e))
  · exact (same.2 x off).trans (Heap.get?_update_self _ hx1 rfl)
end
end PySem.HandSPX
namespace L2
open PySem PySem.Spec PyProof.Rows
/-- what the written part says of an error class over some built-in error -/
structure OexB (K : PySem.W.Frag) (C : Addr) : Prop where
  cls : ∃ (nm q : Str) (N : Addr) (bs bm sub bmB : List Value) (sn : List Str) (ab : Bool) (col : Option Bool) (dd : Option Addr) (k0 k1 k2 k3 k5 : Option Value) (B newId initId : String),
    K.lookup C = some (excClassObj nm q C N bs bm true sn sub ab col dd k0 k1 k2 k3 k5 newId) ∧ ExcBaseFacts B newId initId bmB ∧ (∀ Y : String, bm.contains (.type Y) = bmB.contains (.type Y)) ∧ (∀ self : Value, refuseLoop self "__setattr__" bm = pure ()) ∧ bmB.contains (.type "object") = true
  sa : PySem.W.findIn K (.ref C) "__setattr__" = some (some (.builtin "object.__setattr__"))
  exC : PySem.W.subIn K (.ref C) (.type "BaseException") = some true
  tyC : PySem.W.typeIn K (.ref C) = some (.type "type")
  kC : PySem.W.keepIn K (.ref C) = true
theorem OexC.toB {K : PySem.W.Frag} {C : Addr} (T : OexC K C) : OexB K C := by
  obtain ⟨nm, q, N, bs, bm, sn, sub, ab, col, dd, k0, k1, k2, k3, k5, hC, hbm⟩ := T.cls
  exact ⟨⟨nm, q, N, bs, bm, sub, _, sn, ab, col, dd, k0, k1, k2, k3, k5, _, _, _, hC, PySem.F.excBase_ValueError, fun Y => PySem.HandSPX.refsVE_contains Y bm hbm, fun self => PySem.HandSPX.refsVE_pass self bm hbm, by decide +kernel⟩, T.sa, T.exC, T.tyC, T.kC⟩
section
variable {X : Cx} {pins : List (Addr × Obj)} {σ : St} {H : Hp} {s : Shared} {a C : Addr} {f : Str} {y : V} {u : Value} {Q : Unit → Shared → Prop} {E : Value → Shared → Prop} {A : Around}
theorem gm_first (T : OexB X.K C) (I : Inv X pins σ H s) (e : H a = some (exo a C none)) (hno : PySem.W.findIn X.K (.ref C) f = some none) (ry : RelV y u)
    (h : ∀ dx s', H dx = none → dx ≠ a → Inv X pins σ (upd (upd H dx (exd dx [(f, y)])) a (exo a C (some dx))) s' → Q () s') : wpAny (model X.prog X.w) A (setAttr (.ref a) f u) Q E s := by
  obtain ⟨nm, q, N, bs, bm, sub, bmB, sn, ab, col, dd, k0, k1, k2, k3, k5, B, n1, n2, hC, FB, has, pass, ob⟩ := T.cls
  have hcl : PySem.W.clsIn X.K C = some { name := nm, bases := bs, mro := .ref C :: bm, ns := N, qualname := q, hasDict := true, slotNames := sn, subclasses := sub, abstract := ab, collection := col, hasDel := false } := by
    unfold PySem.W.clsIn
    rw [hC] <;> rfl
  obtain ⟨t1, ho⟩ := exo_at I.hok e
  obtain ⟨hp, g, d, t, os⟩ := s
  refine PySem.W.set_plain I.kIn (od := none) (ox := { cls := .ref C, dict := none, data := .fields #[.ref t1, .none, .none, .none, .bool false, .none] }) ⟨ho, rfl, rfl, trivial⟩ T.sa ?_
  refine PySem.HandSPX.gm_store I.kIn ho hcl rfl (show (Value.ref C :: bm).contains (.type "object") = true from by rw [List.contains_cons, has, ob, Bool.or_true]) ((PySem.refuseLoop_ref _ _ C bm).trans (pass _)) rfl hno fun h' tk' dx k dn dne hx hn => ?_
  have hnd : H dx = none := I.hok.fresh dn
  have nd : ∀ {b : Addr} {o : Obj}, hp.get? b = some o → b ≠ dx := fun {b o} z => Nat.ne_of_lt (Nat.lt_of_lt_of_le (Heap.lt_size z) dn)
  have na : ∀ {b : Addr}, H b = none → b ≠ a := fun {b} n z => by
    rw [z, e] at n
    cases n
  have U : Un X.fs [] H (upd (upd H dx (exd dx [(f, y)])) a (exo a C (some dx))) hp h' := by
    constructor
    · intro b o z n _ _
      exact k b o (na n) z
    · intro b o z n _ _
      exact ⟨o.slots, k b o (na n) z⟩
    · intro b o z n _
      rw [upd_ne (na n), upd_ne (nd z)]
      exact n
    · intro b o z _
      by_cases hb : b = a
      · rw [hb]
        exact ⟨_, hx⟩
      · exact ⟨o, k b o hb z⟩
    · intro b xs z
      rw [upd_ne (at_ne e z exo_tup), upd_ne (ne_of_none z hnd)]
      exact z
    · intro b o v z
      rw [upd_ne (at_ne e z exo_frz), upd_ne (ne_of_none z hnd)]
      exact z
    · intro b ps z
      refine ⟨#[], ?_⟩
      rw [upd_ne (at_ne e z exo_tbl), upd_ne (ne_of_none z hnd), z]
      simp
  refine h dx _ hnd dne (I.un (t' := tk') U fun b o z => ?_)
  by_cases hb : b = a
  · subst hb
    rw [upd_same] at z
    cases z
    exact exo_ok hx
  rw [upd_ne hb] at z
  by_cases hd : b = dx
  · subst hd
    rw [upd_same] at z
    cases z
    exact exd_ok hn (relO_put (fs := []) ry fun _ => True.intro)
  rw [upd_ne hd] at z
  refine (I.hok b o z).stay (fun c v hc y => k c v ?_ y) (fun c hc => ?_) (fun c xs hc => ?_)
  · rcases hc with hc | hc
    · rw [hc]
      exact hb
    · exact at_ne e hc exo_own
  · rw [upd_ne (at_ne e hc exo_own), upd_ne (ne_of_none hc hnd)]
    exact hc
  · rw [upd_ne (at_ne e hc exo_tup), upd_ne (ne_of_none hc hnd)]
    exact hc
end
/-- self.f = e, the first attribute of an error -/
def tOstB (K : PySem.W.Frag) (f : Str) (to te : TE) : TS := fun D σ H => te σ H fun y H1 => to σ H1 fun x H2 => ∃ a C : Addr, x = .ref a ∧ OexB K C ∧ PySem.W.findIn K (.ref C) f = some none ∧
  H2 a = some (exo a C none) ∧ ∀ dx, H2 dx = none → dx ≠ a → D.nx σ (upd (upd H2 dx (exd dx [(f, y)])) a (exo a C (some dx)))
section
variable {X : Cx} {o e : Expr} {es : List Expr} {to te : TE} {ta : TA} {f : Str} {p p' pos : Pos}
theorem ps_ostB (ho : PE X o to) (he : PE X e te) (hs : swapsWith e (some (.Attribute o f p')) pos.line X.env = pure false := by rfl) : PS X (.Assign [.Attribute o f p'] e pos) (tOstB X.K f to te) := by
  constructor
  intro pins s σ H D I h
  refine plainObj_wpAny_Assign_Attribute (thn (he.run pins s σ H _ I h) fun v s1 h1 => ?_) hs
  obtain ⟨y, H1, I1, r1, q1⟩ := h1
  refine thn (ho.run pins s1 σ H1 _ I1 q1) fun u s2 h2 => ?_
  obtain ⟨x, H2, I2, r2, a, C, rfl, T, hno, ea, q⟩ := h2
  obtain rfl : u = Value.ref a := r2
  exact gm_first T I2 ea hno r1 fun dx s' n ne J => ⟨σ, _, J, q dx n ne⟩
theorem pmk_oexB {CX : CXT} {x : Str} {C fI : Addr} {k : Nat} {fd : FuncData} {ps : List Str} {sp : Sp} (T : OexB X.K C) (iC : PySem.W.findIn X.K (.ref C) "__init__" = some (some (.ref fI))) (tI : PySem.W.typeIn X.K (.ref fI) = some (.type "function"))
    (F1 : FnOk X.prog X.w X.K X.mg X.base CX k fI fd ps sp) (hr : Room (k + 1) X.A) (hb : Binds X.K fd ps []) (hx : Passes CX X (fun _ _ _ => False)) (hg : Gl X x) (hm : X.mg x = some (.ref C)) (ha : PA X (e :: es) ta)
    (hdb : (x == ("__debug__" : Str)) = false := by decide) (he : starEach (e :: es) X.env = (false, eval e X.env) :: starEach es X.env := by rfl) (hpl : (backTo pos (starEach es X.env)).any (·.1) = false := by rfl) :
    PMk X (.Call (.Name x p) (e :: es) [] pos) (tMkO C sp [] ta) := by
  intro pins s σ H Q I h
  obtain ⟨nm, q, N, bs, bm, sub, bmB, sn, ab, col, dd, k0, k1, k2, k3, k5, B, n1, n2, hC, FB, has, pass, ob⟩ := T.cls
  refine wpAny_Call_Name_kw (ld_glob I hg hm ?_ hdb)
  refine PySem.W.callWith_K (h₀ := X.base) I.ok.mod.kin T.kC (thn (ha.run pos pins s σ H _ I h) fun us s1 h1 => ?_) he hpl
  obtain ⟨vs, H1, I1, r1, hz, q1⟩ := h1
  refine ⟨I1.kIn, ?_⟩
  show wpAny _ _ (call (.ref C) us) _ _ _
  obtain ⟨hp, g, dr, tk, os⟩ := s1
  obtain ⟨top, etop⟩ : ∃ z, z = hp.objs.size + 1 := ⟨_, rfl⟩
  have hsz : hp.objs.size ≤ top := etop ▸ Nat.le_succ _
  have hq := q1 top (I1.hok.fresh hsz)
  have kk : ∀ b o, hp.get? b = some o → ((hp.push (PySem.W.kdv_tup us)).push (PySem.HandSPX.excO C hp.objs.size)).get? b = some o := fun b o z => Heap.get?_push_of_some _ (Heap.get?_push_of_some _ z)
  have hget : ((hp.push (PySem.W.kdv_tup us)).push (PySem.HandSPX.excO C hp.objs.size)).get? top = some (PySem.HandSPX.excO C hp.objs.size) := by
    rw [etop]
    heap_get
  have I2 : Inv X pins σ (upd H1 top (exo top C none)) ⟨(hp.push (PySem.W.kdv_tup us)).push (PySem.HandSPX.excO C hp.objs.size), g, dr, tk, os⟩ := I1.laid (t' := tk) kk hsz (exo_ok hget)
  have r2 : Vals (V.ref top :: (vs ++ [])) (Value.ref top :: (us ++ [])) := .cons rfl (r1.append .nil)
  have hl : (Value.ref top :: us ++ []).length = ps.length := by
    have z := r2.length
    rw [F1.len _ _ _ _ hq] at z
    exact z.symm
  have hus : us.length ≤ sizeLine := by
    rw [← Paired.length r1, sizeLine_eq]
    omega
  have bound : BindsTo ⟨(hp.push (PySem.W.kdv_tup us)).push (PySem.HandSPX.excO C hp.objs.size), g, dr, tk, os⟩ fd ⟨Value.ref top :: us, []⟩ (ps.zip (Value.ref top :: us ++ [])) := hb _ (Value.ref top :: us) I2.kIn hl
  have run := F1.run _ X.stack _ _ ⟨Value.ref top :: us, []⟩ (Value.ref top :: us ++ []) _ _ (fun _ _ _ => False) (hr.make C us []) (I2.env0.make C us []) bound r2 hq
  subst etop
  refine wpAny_call (PySem.HandSPX.call_own FB has (I1.kIn _ _ hC) (PySem.W.looks_findIn I1.kIn iC) (fun self => PySem.W.bind_fn I1.kIn self tI) hus (codeAny_mono run fun r s' hq' => ?_))
  match r, hq' with
  | .error er, hq' => exact hx pins σ _ _ er s' I2 hq'
  | .ok (.ret u), hq' =>
    obtain ⟨v, H2, os2, bare2, un2, hok2, rv, ev, d, fs, ea, ed, hd1, q2⟩ := hq'
    subst ev
    obtain ⟨h2, g2, d2, t2, os'⟩ := s'
    exact ⟨rv, mk_end (raises_own T.exC T.tyC) I1 hsz kk un2 hok2 os2 bare2 ea ed hd1 q2⟩
end
/-- an error class with one attribute, over any built-in error -/
structure ErrB (K : PySem.W.Frag) (mg : Str → Option Value) (x f : Str) (C fI : Addr) : Prop where
  gC : mg x = some (.ref C)
  ox : OexB K C
  no : PySem.W.findIn K (.ref C) f = some none
  iC : PySem.W.findIn K (.ref C) "__init__" = some (some (.ref fI))
  tI : PySem.W.typeIn K (.ref fI) = some (.type "function")
  ga : PySem.W.findIn K (.ref C) "__getattribute__" = some (some (.builtin "BaseException.__getattribute__"))
  gg : PySem.W.findIn K (.ref C) "__getattr__" = some none
  hd : PySem.W.hasDictIn K C = true
  ac : PySem.W.findIn K (.ref C) "__class__" = some (some (.builtin "object.__class__"))
  gt : PySem.W.specialIn K (.builtin "object.__class__") "__get__" = some (some (.builtin "getset_descriptor.__get__"))
  tk : PySem.W.takesIn K (.builtin "object.__class__") = some true
  ob : PySem.W.mroIn K C (.type "object") = some true
section
variable {K : PySem.W.Frag} {mg : Str → Option Value} {x f : Str} {C fI : Addr}
theorem ErrC.toB (T : ErrC K mg x f C fI) : ErrB K mg x f C fI := ⟨T.gC, T.ox.toB, T.no, T.iC, T.tI, T.ga, T.gg, T.hd, T.ac, T.gt, T.tk, T.ob⟩
theorem ErrB.xf (T : ErrB K mg x f C fI) : XfC K C := ⟨T.ga, T.gg, T.ox.exC, T.hd⟩
theorem ErrB.cl (T : ErrB K mg x f C fI) : (PySem.W.clsIn K C).isSome = true := by
  obtain ⟨cd, hc, _⟩ := PySem.W.any_some T.hd
  rw [hc]
  rfl
end
theorem ok_errB {P : Program} {w : World} {K : PySem.W.Frag} {mg : Str → Option Value} {base : Heap} {qual f x par : Str} {st : Stmt} {fI C : Addr} {fd : FuncData} {p1 p2 p3 p4 : Pos} (F : Fun K "__init__" qual st fI fd) (T : ErrB K mg x f C fI)
    (hB : defBody st = [.Assign [.Attribute (.Name "self" p1) f p2] (.Name par p3) p4]) (S : FnScope ["self", par] ["self", par] (defScope st)) (v0 : Vis (defScope st) "self") (v1 : Vis (defScope st) par)
    (d0 : (par == ("__debug__" : Str)) = false := by decide) (d1 : (par == ("__classdict__" : Str)) = false := by decide) : FnOk P w K mg base CX0 1 fI fd ["self", par] (spErr C f) := by
  refine F.ok S (fun vs H Q E h => ?_) (fun cdv A outer s H vs Q E hr h => ?_)
  · obtain ⟨a, v, rfl, _⟩ := h
    rfl
  · obtain ⟨a, v, rfl, e, q⟩ := h
    rw [hB]
    refine ⟨_, pss_one (ps_ostB (pe_var (i := 0) rfl v0 (by decide) (by decide)) (pe_var (i := 1) rfl v1 d0 d1)), ?_⟩
    exact ⟨_, rfl, _, rfl, a, C, rfl, T.ox, T.no, e, fun dx n ne => q dx n ne⟩
theorem call_isXB {X : Cx} {a D fI : Addr} {x f : Str} {oe : Obj} {cls : Value} {d : Option Addr} {pn : List (Addr × Obj)} (T : ErrB X.K X.mg x f D fI) (hz : Zc cls d oe) (hf : ∃ vs, oe.data = .fields vs) :
    CallR (X.suite a ((a, oe) :: pn)) (.builtin "isinstance") (rIsX X.K D a cls d) := by
  intro pins s σ H xs us Q I r h
  obtain ⟨c, cv, b, dd, fs, rfl, k, rfl, rfl, hd, e, q⟩ := h
  cases r with
  | cons rx rr =>
    cases rr with
    | cons rt rr =>
      cases rr
      cases rx
      have ec := k.eq rt
      subst ec
      obtain ⟨hget, _⟩ := I.pin (a, oe) (List.mem_append_left _ List.mem_cons_self)
      obtain ⟨vs, hv⟩ := hf
      have hx : ObjOk X.prog X.w H s.heap dd (.xd fs) := I.hok dd _ hd
      obtain ⟨mA, hns, _⟩ := hx
      obtain ⟨od, ho, _⟩ := lookIn_ns hns
      have J : PySem.W.InstAt s.heap a oe D (some od) := ⟨hget, hz.1, by unfold PySem.W.notCls; rw [hv] <;> rfl, by rw [hz.2]; exact ho⟩
      exact PySem.W.kia_one (PySem.W.kitx_exc T.cl T.ga T.gg T.ox.exC T.ac T.gt T.tk T.ob) I.kIn J e (fun z => nomatch z) fun tk => ⟨.bl b, H, I.kept (t' := tk) fun _ _ z => z, rfl, q⟩
end L2

/-! errors as values: made by position and by keyword, asked for their class, read -/
namespace PySem.HandSPX
open PySem PySem.W PySem.Calls PyProof.Rows Builtin Builtin.ObjectAttr
section
variable {M : Model} {A : Around} {E : Value → Shared → Prop} {h : Heap} {g : Array GenState} {d : Drawn} {t : Nat} {os : OsState}
variable {nm q : Str} {C N : Addr} {bs bm bmB : List Value} {hdct : Bool} {sn : List Str} {sub : List Value} {ab : Bool} {col : Option Bool} {dd : Option Addr} {k0 k1 k2 k3 k5 : Option Value} {B newId initId : String}
theorem gm_checkKw (F : ExcBaseFacts B newId initId bmB) (hT : ∀ X : String, bm.contains (.type X) = bmB.contains (.type X)) {kw : List (Str × Value)} {Q : Unit → Shared → Prop}
    (hC : h.get? C = some (excClassObj nm q C N bs bm hdct sn sub ab col dd k0 k1 k2 k3 k5 newId)) (hq : Q () ⟨h, g, d, t, os⟩) : wpAny M A (checkBuiltinCall newId ⟨[.ref C], kw⟩) Q E ⟨h, g, d, t, os⟩ := by
  have inB : (Value.ref C :: bm).contains (.type B) = true := by rw [List.contains_cons, hT, F.hasB, Bool.or_true]
  have st := F.noStar
  simp only [checkBuiltinCall, F.newKind, F.newSplit, F.newRow]
  repeat (first | (refine wpAny_loadPart_at hC ?_) | ((refine wpAny_isSubtype_exc hC ?_); rw [inB]) | (refine wpAny_staticBase_exc hC ?_) | (refine wpAny_madeBy_exc hC ?_) | (simp only [bne_self_eq_false, Bool.false_eq_true, if_false]) | wp_step)
  exact hq
end
section
variable {prog : Program} {w : World} {A : Around} {E : Value → Shared → Prop} {R : Result → Shared → Prop} {h : Heap} {g : Array GenState} {d : Drawn} {t : Nat} {os : OsState}
variable {nm q : Str} {C N : Addr} {bs bm bmB : List Value} {hdct : Bool} {sn : List Str} {sub : List Value} {ab : Bool} {col : Option Bool} {dd : Option Addr} {k0 k1 k2 k3 k5 : Option Value} {B newId initId : String}
theorem gm_newKw (F : ExcBaseFacts B newId initId bmB) (hT : ∀ X : String, bm.contains (.type X) = bmB.contains (.type X)) {kw : List (Str × Value)}
    (hC : h.get? C = some (excClassObj nm q C N bs bm hdct sn sub ab col dd k0 k1 k2 k3 k5 newId))
    (hq : R (.ok (.ret (.ref (h.objs.size + 1)))) ⟨(h.push { cls := .type "tuple", data := .seq ([] : List Value).toArray }).push { cls := .ref C, data := .fields #[.ref h.objs.size, .none, .none, .none, .bool false, .none] }, g, d, t, os⟩) :
    codeAny (model prog w) A (.builtin newId ⟨[.ref C], kw⟩) R ⟨h, g, d, t, os⟩ := by
  have en := F.ends
  have inB : (Value.ref C :: bm).contains (.type B) = true := by rw [List.contains_cons, hT, F.hasB, Bool.or_true]
  have inA : (Value.ref C :: bm).contains (.type "AttributeError") = false := by rw [List.contains_cons, hT, F.noAttr] <;> rfl
  have inN : (Value.ref C :: bm).contains (.type "NameError") = false := by rw [List.contains_cons, hT, F.noName] <;> rfl
  refine codeAny_builtinAt F.entry ?_
  unfold Builtin.«BaseException.__new__»
  refine wpAt_bind ?_
  show wpAt _ _ _ (stack >>= _) _ _ _
  refine wpAt_bind (wpAt_stack fun p below => wpAt_of_wpAny ?_)
  wp_walk
  refine wpAt_of_wpAny ?_
  rw [F.owner]
  have hrest : ([] : List Value).length ≤ sizeLine := Nat.zero_le _
  repeat (first | (with_reducible refine wpAny_madeHere_exc F.canon hC ?_) | (with_reducible refine wpAny_loadPart_at hC ?_) | ((with_reducible refine wpAny_isSubtype_exc hC ?_); first | rw [inB] | rw [inA] | rw [inN]) | wp_step)
  show R _ _
  rw [Heap.size_push]
  exact hq
theorem gm_checkType {M : Model} {kw : List (Str × Value)} {Q : Unit → Shared → Prop} (hC : h.get? C = some (excClassObj nm q C N bs bm hdct sn sub ab col dd k0 k1 k2 k3 k5 newId)) (hq : Q () ⟨h, g, d, t, os⟩) :
    wpAny M A (checkBuiltinCall "type.__call__" ⟨[.ref C], kw⟩) Q E ⟨h, g, d, t, os⟩ := by
  have f3 := tc_sub
  have isT : (⟨h, g, d, t, os⟩ : Shared).TypeIs (.ref C) "type" := ⟨_, hC, rfl⟩
  simp only [checkBuiltinCall, tc_kind, tc_split]
  repeat (any_goals (first | assumption | (with_reducible refine wpAny_loadPart_at hC ?_) | (with_reducible refine wpAny_onRaise ?_) | (with_reducible refine wpAny_map ?_) | wp_step))
theorem gm_typeKw (F : ExcBaseFacts B newId initId bmB) (hT : ∀ X : String, bm.contains (.type X) = bmB.contains (.type X)) {kw : List (Str × Value)} {fI : Addr} {Q : Fin → Shared → Prop}
    (hC : h.get? C = some (excClassObj nm q C N bs bm hdct sn sub ab col dd k0 k1 k2 k3 k5 newId))
    (hi : W.Looks (model prog w) h (typeLookup (.ref C) "__init__") (some (.ref fI))) (hb : ∀ self, W.Looks (model prog w) h (bindSpecial (.ref fI) self) (.ref fI, [self]))
    (hq : codeAny (model prog w) A (.call (.ref fI) ⟨[.ref (h.objs.size + 1)], kw⟩)
      (fun r s' => match r with | .ok (.ret v) => v = .none ∧ Q (.done (.ret (.ref (h.objs.size + 1)))) s' | .ok _ => False | .error e => E e s')
      ⟨(h.push (W.kdv_tup [])).push (excO C h.objs.size), g, d, t, os⟩) :
    wpAny (model prog w) A (Builtin.«type.__call__» ⟨[.ref C], kw⟩) Q E ⟨h, g, d, t, os⟩ := by
  repeat (first | (with_reducible refine wpAny_loadPart_at hC ?_) | (with_reducible refine wpAny_madeBy_exc hC ?_) | wp_step)
  refine codeAny_call_builtin_code (Code.quiet_builtin _ F.quiet) (gm_checkKw F hT hC ?_)
  refine gm_newKw F hT hC ?_
  show wpAny _ _ _ _ _ _
  have k : ∀ b o, h.get? b = some o → ((h.push (W.kdv_tup [])).push (excO C h.objs.size)).get? b = some o := fun b o z => Heap.get?_push_of_some _ (Heap.get?_push_of_some _ z)
  have hC1 := k _ _ hC
  have at1 : ((h.push (W.kdv_tup [])).push (excO C h.objs.size)).get? (h.objs.size + 1) = some (excO C h.objs.size) := by heap_get
  have inC : (Value.ref C :: bm).contains (.ref C) = true := by simp
  have i1 := hi.keeps k
  have b1 := (hb (.ref (h.objs.size + 1))).keeps k
  unfold isInstance
  repeat (first | (with_reducible refine wpAny_loadPart_at at1 ?_) | ((with_reducible refine wpAny_isSubtype_exc hC1 ?_); rw [inC]) | wp_step)
  show wpAny _ _ (typeLookup (.ref C) _) _ _ _
  refine i1.at ?_
  refine wpAny_holding (wpAny_bind (b1.at ?_))
  refine wpAny_bind (wpAny_call (codeAny_mono hq fun r s' z => ?_))
  match r, z with
  | .error e, z => exact z
  | .ok (.ret v), z =>
    obtain ⟨rfl, z⟩ := z
    first
      | exact wpAny_pure (wpAny_pure z)
      | (wp_walk; exact z)
theorem gm_callKw (F : ExcBaseFacts B newId initId bmB) (hT : ∀ X : String, bm.contains (.type X) = bmB.contains (.type X)) {kw : List (Str × Value)} {fI : Addr}
    (hC : h.get? C = some (excClassObj nm q C N bs bm hdct sn sub ab col dd k0 k1 k2 k3 k5 newId))
    (hi : W.Looks (model prog w) h (typeLookup (.ref C) "__init__") (some (.ref fI))) (hb : ∀ self, W.Looks (model prog w) h (bindSpecial (.ref fI) self) (.ref fI, [self]))
    (hq : codeAny (model prog w) (A.under (.builtin "type.__call__" ⟨[.ref C], kw⟩)) (.call (.ref fI) ⟨[.ref (h.objs.size + 1)], kw⟩) (W.InitBack (h.objs.size + 1) R) ⟨(h.push (W.kdv_tup [])).push (excO C h.objs.size), g, d, t, os⟩) :
    codeAny (model prog w) A (.call (.ref C) ⟨[], kw⟩) R ⟨h, g, d, t, os⟩ := by
  have f1 := tc_lookup
  have f2 := tc_bind (.ref C)
  have isT : (⟨h, g, d, t, os⟩ : Shared).TypeIs (.ref C) "type" := ⟨_, hC, rfl⟩
  refine codeAny_of_tree ?_
  show wpAny _ _ (callAny (.ref C) _) _ _ _
  repeat (any_goals (first | assumption | (with_reducible refine wpAny_loadPart_at hC ?_) | wp_step))
  refine ⟨rfl, ?_⟩
  refine codeAny_call_builtin_at (Code.quiet_builtin _ (by decide +kernel)) entry_typeCall (gm_checkType hC (gm_typeKw F hT hC hi hb ?_))
  refine codeAny_mono hq fun r s' z => ?_
  rcases r with e | (v | _ | _ | _) <;> exact z
end
end PySem.HandSPX

/-! errors as values: made by position and by keyword, asked for their class, read -/
namespace L2
open PySem PySem.Spec PyProof.Rows
/-- C(e, ..), as a value -/
def tMkV (C : Addr) (sp : Sp) (ta : TA) : TE := fun σ H Q => ta σ H fun vs H1 => vs.length ≤ 1000 ∧ ∀ a, H1 a = none → sp (.ref a :: (vs ++ [])) (upd H1 a (exo a C none)) (fun v H2 => v = .non ∧ Q (.ref a) H2) (fun _ _ _ => False)
/-- C(k = v), as a value -/
def tMkVK (C : Addr) (m : Nat) (sp : Sp) (gV : List V → List V → List V) (tk : TA) : TE := fun σ H Q => tk σ H fun zs H1 => zs.length = m ∧ ∀ a, H1 a = none → sp (gV [.ref a] zs) (upd H1 a (exo a C none)) (fun v H2 => v = .non ∧ Q (.ref a) H2) (fun _ _ _ => False)
section
variable {X : Cx} {CX : CXT} {x : Str} {C fI : Addr} {k : Nat} {fd : FuncData} {ps ks : List Str} {sp : Sp} {e : Expr} {es : List Expr} {kws : List Keyword} {ta tk : TA} {p pos : Pos} {g : List Value → List Value → List Value} {gV : List V → List V → List V}
theorem pe_mkV (T : OexB X.K C) (iC : PySem.W.findIn X.K (.ref C) "__init__" = some (some (.ref fI))) (tI : PySem.W.typeIn X.K (.ref fI) = some (.type "function"))
    (F1 : FnOk X.prog X.w X.K X.mg X.base CX k fI fd ps sp) (hr : Room (k + 1) X.A) (hb : Binds X.K fd ps []) (hx : Passes CX X (fun _ _ _ => False)) (hg : Gl X x) (hm : X.mg x = some (.ref C)) (ha : PA X (e :: es) ta)
    (hdb : (x == ("__debug__" : Str)) = false := by decide) (he : starEach (e :: es) X.env = (false, eval e X.env) :: starEach es X.env := by rfl) (hpl : (backTo pos (starEach es X.env)).any (·.1) = false := by rfl) :
    PE X (.Call (.Name x p) (e :: es) [] pos) (tMkV C sp ta) := by
  refine ⟨fun pins s σ H Q I h => ?_⟩
  obtain ⟨nm, q, N, bs, bm, sub, bmB, sn, ab, col, dd, k0, k1, k2, k3, k5, B, n1, n2, hC, FB, has, pass, ob⟩ := T.cls
  refine wpAny_Call_Name_kw (ld_glob I hg hm ?_ hdb)
  refine PySem.W.callWith_K (h₀ := X.base) I.ok.mod.kin T.kC (thn (ha.run pos pins s σ H _ I h) fun us s1 h1 => ?_) he hpl
  obtain ⟨vs, H1, I1, r1, hz, q1⟩ := h1
  refine ⟨I1.kIn, ?_⟩
  show wpAny _ _ (call (.ref C) us) _ _ _
  obtain ⟨hp, gg, dr, tk0, os⟩ := s1
  have hsz : hp.objs.size ≤ hp.objs.size + 1 := Nat.le_succ _
  have hq := q1 (hp.objs.size + 1) (I1.hok.fresh hsz)
  have kk : ∀ b o, hp.get? b = some o → ((hp.push (PySem.W.kdv_tup us)).push (PySem.HandSPX.excO C hp.objs.size)).get? b = some o := fun b o z => Heap.get?_push_of_some _ (Heap.get?_push_of_some _ z)
  have hget : ((hp.push (PySem.W.kdv_tup us)).push (PySem.HandSPX.excO C hp.objs.size)).get? (hp.objs.size + 1) = some (PySem.HandSPX.excO C hp.objs.size) := by heap_get
  have I2 : Inv X pins σ (upd H1 (hp.objs.size + 1) (exo (hp.objs.size + 1) C none)) ⟨(hp.push (PySem.W.kdv_tup us)).push (PySem.HandSPX.excO C hp.objs.size), gg, dr, tk0, os⟩ := I1.laid (t' := tk0) kk hsz (exo_ok hget)
  have r2 : Vals (V.ref (hp.objs.size + 1) :: (vs ++ [])) (Value.ref (hp.objs.size + 1) :: (us ++ [])) := .cons rfl (r1.append .nil)
  have hl : (Value.ref (hp.objs.size + 1) :: us ++ []).length = ps.length := by
    have z := r2.length
    rw [F1.len _ _ _ _ hq] at z
    exact z.symm
  have hus : us.length ≤ sizeLine := by
    rw [← Paired.length r1, sizeLine_eq]
    omega
  have bound : BindsTo ⟨(hp.push (PySem.W.kdv_tup us)).push (PySem.HandSPX.excO C hp.objs.size), gg, dr, tk0, os⟩ fd ⟨Value.ref (hp.objs.size + 1) :: us, []⟩ (ps.zip (Value.ref (hp.objs.size + 1) :: us ++ [])) := hb _ (Value.ref (hp.objs.size + 1) :: us) I2.kIn hl
  have run := F1.run _ X.stack _ _ ⟨Value.ref (hp.objs.size + 1) :: us, []⟩ (Value.ref (hp.objs.size + 1) :: us ++ []) _ _ (fun _ _ _ => False) (hr.make C us []) (I2.env0.make C us []) bound r2 hq
  refine wpAny_call (PySem.HandSPX.call_own FB has (I1.kIn _ _ hC) (PySem.W.looks_findIn I1.kIn iC) (fun self => PySem.W.bind_fn I1.kIn self tI) hus (codeAny_mono run fun r s' hq' => ?_))
  match r, hq' with
  | .error er, hq' => exact hx pins σ _ _ er s' I2 hq'
  | .ok (.ret u), hq' =>
    obtain ⟨v, H', I3, rv, ev, q3⟩ := I2.after hq'
    subst ev
    exact ⟨rv, ⟨V.ref (hp.objs.size + 1), H', I3, rfl, q3⟩⟩
theorem pe_mkVK (T : OexB X.K C) (iC : PySem.W.findIn X.K (.ref C) "__init__" = some (some (.ref fI))) (tI : PySem.W.typeIn X.K (.ref fI) = some (.type "function"))
    (F1 : FnOk X.prog X.w X.K X.mg X.base CX k fI fd ps sp) (hr : Room (k + 1) X.A) (hb : KBn X.K fd ps 1 ks g gV) (hx : Passes CX X (fun _ _ _ => False)) (hg : Gl X x) (hm : X.mg x = some (.ref C)) (hkw : PK X kws tk)
    (hall : (backToKw pos (keywordEach kws X.env)).all (·.1.isSome) = true := by rfl) (hks : (backToKw pos (keywordEach kws X.env)).filterMap (·.1) = ks := by rfl) (hdb : (x == ("__debug__" : Str)) = false := by decide)
    (hpl : ((backTo pos (starEach [] X.env)).any (·.1) || (backToKw pos (keywordEach kws X.env)).any (·.1.isNone)) = false := by rfl) :
    PE X (.Call (.Name x p) [] kws pos) (tMkVK C ks.length sp gV tk) := by
  refine ⟨fun pins s σ H Q I h => ?_⟩
  obtain ⟨nm, q, N, bs, bm, sub, bmB, sn, ab, col, dd, k0, k1, k2, k3, k5, B, n1, n2, hC, FB, has, pass, ob⟩ := T.cls
  refine wpAny_Call_Name_kw (ld_glob I hg hm ?_ hdb)
  refine PySem.W.callWith_KW0 (h₀ := X.base) I.ok.mod.kin T.kC hall ?_ hpl
  refine thn (hkw.run pos pins s σ H _ I h) fun ws s1 ⟨zs, H1, I1, rz, l1, q1⟩ => ⟨I1.kIn, ?_⟩
  rw [hks]
  show wpAny _ _ (call (.ref C) [] (ks.zip ws)) _ _ _
  obtain ⟨hp, gg, dr, tk0, os⟩ := s1
  have hsz : hp.objs.size ≤ hp.objs.size + 1 := Nat.le_succ _
  have hq := q1 (hp.objs.size + 1) (I1.hok.fresh hsz)
  have kk : ∀ b o, hp.get? b = some o → ((hp.push (PySem.W.kdv_tup [])).push (PySem.HandSPX.excO C hp.objs.size)).get? b = some o := fun b o z => Heap.get?_push_of_some _ (Heap.get?_push_of_some _ z)
  have hget : ((hp.push (PySem.W.kdv_tup [])).push (PySem.HandSPX.excO C hp.objs.size)).get? (hp.objs.size + 1) = some (PySem.HandSPX.excO C hp.objs.size) := by heap_get
  have I2 : Inv X pins σ (upd H1 (hp.objs.size + 1) (exo (hp.objs.size + 1) C none)) ⟨(hp.push (PySem.W.kdv_tup [])).push (PySem.HandSPX.excO C hp.objs.size), gg, dr, tk0, os⟩ := I1.laid (t' := tk0) kk hsz (exo_ok hget)
  have r1 : Vals [V.ref (hp.objs.size + 1)] [Value.ref (hp.objs.size + 1)] := .cons rfl .nil
  have r2 := hb.rel r1 rz
  have bound := hb.to _ [Value.ref (hp.objs.size + 1)] ws I2.kIn rfl (rz.length.symm.trans l1)
  have run := F1.run _ X.stack _ _ ⟨[Value.ref (hp.objs.size + 1)], ks.zip ws⟩ (g [Value.ref (hp.objs.size + 1)] ws) _ _ (fun _ _ _ => False) (hr.make C [] (ks.zip ws)) (I2.env0.make C [] (ks.zip ws)) bound r2 hq
  refine wpAny_call (PySem.HandSPX.gm_callKw FB has (I1.kIn _ _ hC) (PySem.W.looks_findIn I1.kIn iC) (fun self => PySem.W.bind_fn I1.kIn self tI) (codeAny_mono run fun r s' hq' => ?_))
  match r, hq' with
  | .error er, hq' => exact hx pins σ _ _ er s' I2 hq'
  | .ok (.ret u), hq' =>
    obtain ⟨v, H', I3, rv, ev, q3⟩ := I2.after hq'
    subst ev
    exact ⟨rv, ⟨V.ref (hp.objs.size + 1), H', I3, rfl, q3⟩⟩
/-- C(), a class without own __init__ -/
theorem pe_mkV0 {bmB : List Value} {B newId initId : String} (F : ExcBaseFacts B newId initId bmB) (q : PySem.W.excIn X.K C bmB newId = true) (gC : X.mg x = some (.ref C)) (kC : PySem.W.keepIn X.K (.ref C) = true) (hg : Gl X x)
    (hdb : (x == ("__debug__" : Str)) = false := by decide) :
    PE X (.Call (.Name x p) [] [] pos) (fun σ H Q => ∀ a, H a = none → Q (.ref a) (upd H a (ExO (.ref C) a))) := by
  refine ⟨fun pins s σ H Q I h => ?_⟩
  refine wpAny_Call_Name_kw (ld_glob I hg gC ?_ hdb)
  refine PySem.W.callWith_K0 (I.tok _).kIn kC ?_
  show wpAny _ _ (call (.ref C) []) _ _ _
  obtain ⟨bm, N, nm, qn, bs, hdct, sn, sub, ab, col, dd, k0, k1, k2, k3, k5, mN, hC, hN, hni, T⟩ := exc_obj (I.tok _).kIn q
  refine wpAny_call_exc_subT F T hC hN hni (fun h' a hm => ?_) (Nat.zero_le _)
  have hn : H a = none := I.hok.gone hm.new
  obtain ⟨t, ht, _, _⟩ := hm.there
  exact ⟨.ref a, upd H a (ExO (.ref C) a), I.laidN hm.keeps hm.new hn (exO_ok ht ⟨rfl, rfl⟩ rfl rfl rfl (show 4 < 6 by decide)), rfl, h a hn⟩
end
/-- at a stands an error of the class C with these attributes -/
def ErAt (H : Hp) (a C : Addr) (fs : List (Str × V)) : Prop := (fs = [] ∧ H a = some (ExO (.ref C) a)) ∨ ∃ dx, H a = some (exo a C (some dx)) ∧ H dx = some (exd dx fs)
/-- what a class of errors has for its instances to be asked and read -/
structure ErI (K : PySem.W.Frag) (C : Addr) : Prop where
  cl : (PySem.W.clsIn K C).isSome = true
  ga : PySem.W.findIn K (.ref C) "__getattribute__" = some (some (.builtin "BaseException.__getattribute__"))
  gg : PySem.W.findIn K (.ref C) "__getattr__" = some none
  ex : PySem.W.subIn K (.ref C) (.type "BaseException") = some true
  hd : PySem.W.hasDictIn K C = true
  ac : PySem.W.findIn K (.ref C) "__class__" = some (some (.builtin "object.__class__"))
  gt : PySem.W.specialIn K (.builtin "object.__class__") "__get__" = some (some (.builtin "getset_descriptor.__get__"))
  tk : PySem.W.takesIn K (.builtin "object.__class__") = some true
  ob : PySem.W.mroIn K C (.type "object") = some true
theorem ErrB.erI {K : PySem.W.Frag} {mg : Str → Option Value} {x f : Str} {C fI : Addr} (T : ErrB K mg x f C fI) : ErI K C := ⟨T.cl, T.ga, T.gg, T.ox.exC, T.hd, T.ac, T.gt, T.tk, T.ob⟩
section
variable {X : Cx} {pins : List (Addr × Obj)} {σ : St} {H : Hp} {s : Shared} {a C : Addr} {fs : List (Str × V)}
theorem er_inst (I : Inv X pins σ H s) (h : ErAt H a C fs) : ∃ (oe : Obj) (od : Option Obj), PySem.W.InstAt s.heap a oe C od ∧ ∀ f v, fs.lookup f = some v → ∃ o u, od = some o ∧ PySem.W.lookIn f o = some (some u) ∧ RelV v u := by
  rcases h with ⟨rfl, e⟩ | ⟨dx, e, ed⟩
  · obtain ⟨⟨oe, vs, ho, hz, hd, _⟩, _, _⟩ := I.hok a _ e
    obtain ⟨oc, od, oda, osl⟩ := oe
    obtain ⟨h1, h2⟩ := hz
    dsimp only at h1 h2 hd
    subst h1 h2 hd
    exact ⟨_, none, ⟨ho, rfl, rfl, trivial⟩, fun f v z => nomatch z⟩
  · obtain ⟨t1, ho⟩ := exo_at I.hok e
    obtain ⟨mA, hns, rel⟩ := exd_at I.hok ed
    obtain ⟨od, ho2, hl⟩ := lookIn_ns hns
    refine ⟨_, some od, ⟨ho, rfl, rfl, ho2⟩, fun f v z => ?_⟩
    obtain ⟨u, hu, ru⟩ := RelO.some_of (v := v) (o := mA f) (by rw [← z]; exact rel f)
    exact ⟨od, u, rfl, by rw [hl, hu], ru⟩
/-- isinstance(e, c) of an error that is held -/
def rErI (K : PySem.W.Frag) : List V → Hp → VK → Prop := fun xs H Q =>
  ∃ (a C : Addr) (fs : List (Str × V)) (c : V) (cv : Value) (b : Bool), xs = [.ref a, c] ∧ ErAt H a C fs ∧ ErI K C ∧ ClsV c cv ∧ PySem.W.kitOne K (.ref C) cv = some b ∧ Q (.bl b) H
theorem call_erI : CallR X (.builtin "isinstance") (rErI X.K) := by
  intro pins s σ H xs us Q I r h
  obtain ⟨a, C, fs, c, cv, b, rfl, hat, T, k, e, q⟩ := h
  cases r with
  | cons rx rr =>
    cases rr with
    | cons rt rr =>
      cases rr
      cases rx
      have ec := k.eq rt
      subst ec
      obtain ⟨oe, od, J, _⟩ := er_inst I hat
      exact PySem.W.kia_one (PySem.W.kitx_exc T.cl T.ga T.gg T.ex T.ac T.gt T.tk T.ob) I.kIn J e (fun z => nomatch z) fun tk => ⟨.bl b, H, I.kept (t' := tk) fun _ _ z => z, rfl, q⟩
/-- e.f of an error that is held -/
def tErF (K : PySem.W.Frag) (f : Str) (te : TE) : TE := fun σ H Q => te σ H fun x H1 => ∃ (a C : Addr) (fs : List (Str × V)) (v : V), x = .ref a ∧ ErAt H1 a C fs ∧ ErI K C ∧ PySem.W.findIn K (.ref C) f = some none ∧ fs.lookup f = some v ∧ Q v H1
theorem pe_erF {e : Expr} {te : TE} {pos : Pos} {n : Str} (he : PE X e te) (hb : attributeBase e n X.env (eval e X.env) = eval e X.env := by rfl) : PE X (.Attribute e n pos) (tErF X.K n te) := by
  refine ⟨fun pins s σ H Q I h => ?_⟩
  refine attr_of hb (thn (he.run pins s σ H _ I h) fun u s1 hh => ?_)
  obtain ⟨x, H1, I1, rx, a, C, fs, v, ex, hat, T, hno, l, q⟩ := hh
  subst ex
  obtain rfl : u = Value.ref a := rx
  obtain ⟨oe, od, J, hl⟩ := er_inst I1 hat
  obtain ⟨o, u, rfl, hu, ru⟩ := hl n v l
  exact PySem.HandSPX.exc_get I1.kIn J T.ga T.gg T.ex (PySem.W.findObj_own T.hd hno rfl hu) (handed_of ru) ⟨v, H1, I1.tok _, ru, q⟩
end
end L2

/-! isinstance of a held error that has no attributes -/
namespace L2
open PySem PySem.Spec PyProof.Rows
def rIsX0 (K : PySem.W.Frag) (D a : Addr) (cls : Value) (d : Option Addr) : List V → Hp → VK → Prop := fun xs H Q =>
  ∃ (c : V) (cv : Value) (b : Bool), xs = [.ref a, c] ∧ ClsV c cv ∧ cls = .ref D ∧ d = none ∧ PySem.W.kitOne K (.ref D) cv = some b ∧ Q (.bl b) H
theorem call_isX0 {X : Cx} {a D : Addr} {oe : Obj} {cls : Value} {d : Option Addr} {pn : List (Addr × Obj)} (T : ErI X.K D) (hz : Zc cls d oe) (hf : ∃ vs, oe.data = .fields vs) :
    CallR (X.suite a ((a, oe) :: pn)) (.builtin "isinstance") (rIsX0 X.K D a cls d) := by
  intro pins s σ H xs us Q I r h
  obtain ⟨c, cv, b, rfl, k, rfl, rfl, e, q⟩ := h
  cases r with
  | cons rx rr =>
    cases rr with
    | cons rt rr =>
      cases rr
      cases rx
      have ec := k.eq rt
      subst ec
      obtain ⟨hget, _⟩ := I.pin (a, oe) (List.mem_append_left _ List.mem_cons_self)
      obtain ⟨vs, hv⟩ := hf
      have J : PySem.W.InstAt s.heap a oe D none := ⟨hget, hz.1, by unfold PySem.W.notCls; rw [hv] <;> rfl, by rw [hz.2]; trivial⟩
      exact PySem.W.kia_one (PySem.W.kitx_exc T.cl T.ga T.gg T.ex T.ac T.gt T.tk T.ob) I.kIn J e (fun z => nomatch z) fun tk => ⟨.bl b, H, I.kept (t' := tk) fun _ _ z => z, rfl, q⟩
end L2

-- NOREN
namespace Gm
open PySem L2 LamX

abbrev nGot : List Str := ["_law_ask", "_law_given", "e"]
theorem scGot : FnScope nGot ["_law_ask"] (defScope sGot) := ⟨rfl, rfl, rfl, by decide +kernel, rfl, by decide +kernel, by decide +kernel⟩
/-- an error class that _law_got tells: where it stands, how it is told, its attribute -/
structure Cat where
  at_ : Addr
  name : Str
  fld : Option Str
/-- what stands behind an error: none, or a dict with one attribute -/
def HasF (H : Hp) (d : Option Addr) : Option Str → List V → Prop
  | none, vs => d = none ∧ vs = []
  | some f, vs => ∃ (dd : Addr) (v : V), d = some dd ∧ H dd = some (.xd [(f, v)]) ∧ vs = [v]
def gotW (cs : List Cat) (Q : VK) : XK := fun cls d H' => ∃ c ∈ cs, cls = .ref c.at_ ∧ ∃ vs, HasF H' d c.fld vs ∧ ∀ p, H' p = none → Q (.ref p) (upd H' p (.lst (.str c.name :: (vs ++ [.bl true]))))
def TTgot (cs : List Cat) : (XK → Hp → VK → Prop) → Hp → VK → Prop := fun tl H Q => tl (gotW cs Q) H (fun v H' => ∀ p, H' p = none → Q (.ref p) (upd H' p (.lst [.str "given", v])))
abbrev Yg (X : Cx) (g : Addr) (cdg : Value) (s : Shared) (H : Hp) : Cx := (cxOf C8.CX0 X.prog X.w X.K X.mg X.base nGot "_law_got" (defScope sGot) g cdg X.A X.stack s H C8.E0).nox
theorem pe_weak {X : Cx} {e : Expr} {t : TE} (h : PE X e t) : PE X e (fun σ H Q => ∃ R : VK, t σ H R ∧ ∀ v H', R v H' → Q v H') := ⟨fun pins s σ H Q I ⟨R, hr, k⟩ =>
  wpAny_mono (h.run pins s σ H R I hr) (fun u s' ⟨v, H', I', r, q⟩ => ⟨v, H', I', r, k _ _ q⟩) fun _ _ z => z⟩
theorem look1 {f : Str} {v : V} : List.lookup f [(f, v)] = some v := by simp [List.lookup]
structure TxG (K : PySem.W.Frag) (mg : Str → Option Value) (CIn CGs CNb : Addr) : Prop where
  isi : mg "isinstance" = none
  pValueError : mg "ValueError" = none
  gIn : mg "InputError" = some (.ref CIn)
  xGs_Gs : PySem.W.exmOne K (.ref CGs) (.ref CGs) = some true
  xNb_Gs : PySem.W.exmOne K (.ref CNb) (.ref CGs) = some false
  xNb_Nb : PySem.W.exmOne K (.ref CNb) (.ref CNb) = some true
  bGs : PySem.W.kitOne K (.ref CGs) (.ref CIn) = some true
  vGs : PySem.W.kitOne K (.ref CGs) (.type "ValueError") = some true
  bNb : PySem.W.kitOne K (.ref CNb) (.ref CIn) = some true
  vNb : PySem.W.kitOne K (.ref CNb) (.type "ValueError") = some true
abbrev catsG (CGs CNb : Addr) : List Cat := [⟨CGs, "InvalidGuesses", some "index"⟩, ⟨CNb, "NotABoard", some "value"⟩]
theorem got_gives {X : Cx} {q : Str} {g CIn CGs CNb eGs eNb : Addr} {cdg : Value} (T : TxG X.K X.mg CIn CGs CNb) (EGs : ErrB X.K X.mg "InvalidGuesses" "index" CGs eGs) (ENb : ErrB X.K X.mg "NotABoard" "value" CNb eNb) :
    GivesTo X nGot "_law_got" (defScope sGot) g cdg (defBody sGot) "_law_ask" q (TTgot (catsG CGs CNb)) := by
  intro f c' s H Q tl act hc h
  have nd := scGot.nd
  refine ⟨_, pss_cons (ps_try_named (X := Yg X g cdg s H)
      (tb := fun W D σ H => ∃ Ech : XK, (∀ cls d σ' H', Ech cls d H' → W cls d σ' H') ∧ ∃ R : VK, (σ[0]? = some (some (.ref f)) ∧ H c' = some (CodeO c' q) ∧ tl Ech H R) ∧ ∀ v H', R v H' → D.nx (σ.set 1 (some v)) H')
      rfl rfl nd L2.takes0 (fun W pn xe tk _ => ?_)
      (.cons (k := (.ref CGs, 2, _)) ⟨⟨by rfl, by decide, .inl EGs.gC⟩, rfl, rfl, fun a oe cl d pn hz hf => pss_one (ps_ret (pe_lst (pa_cons pe_str (pa_cons (pe_xf (X := Yg X g cdg s H) EGs.xf EGs.no hz hf (pv 2))
          (pa_cons (pe_and (pe_callB (call_isXB (X := Yg X g cdg s H) EGs hz hf) (by rfl) T.isi (by decide +kernel) (pa_cons (pv 2) (pa_cons (pe_glob (v := .ref CIn) (by rfl) T.gIn rfl) pa_nil)))
            (pe_one (pe_callB (call_isXB (X := Yg X g cdg s H) EGs hz hf) (by rfl) T.isi (by decide +kernel) (pa_cons (pv 2) (pa_cons (pe_bltn (v := .ty "ValueError") (by rfl) T.pValueError (by decide +kernel) rfl) pa_nil))))) pa_nil)))))⟩
      (.cons (k := (.ref CNb, 2, _)) ⟨⟨by rfl, by decide, .inl ENb.gC⟩, rfl, rfl, fun a oe cl d pn hz hf => pss_one (ps_ret (pe_lst (pa_cons pe_str (pa_cons (pe_xf (X := Yg X g cdg s H) ENb.xf ENb.no hz hf (pv 2))
          (pa_cons (pe_and (pe_callB (call_isXB (X := Yg X g cdg s H) ENb hz hf) (by rfl) T.isi (by decide +kernel) (pa_cons (pv 2) (pa_cons (pe_glob (v := .ref CIn) (by rfl) T.gIn rfl) pa_nil)))
            (pe_one (pe_callB (call_isXB (X := Yg X g cdg s H) ENb hz hf) (by rfl) T.isi (by decide +kernel) (pa_cons (pv 2) (pa_cons (pe_bltn (v := .ty "ValueError") (by rfl) T.pValueError (by decide +kernel) rfl) pa_nil))))) pa_nil)))))⟩
      .nil)))
    (pss_one (ps_ret (pe_lst (pa_cons pe_str (pa_cons (pv 1) pa_nil))))), ?_⟩
  · refine ⟨fun pins s' σ H' D I h' => ?_⟩
    obtain ⟨Ech, hW, h1⟩ := h'
    exact (pss_one (ps_set (i := 1) nd rfl (Or.inl rfl) (pe_weak (act W pn xe Ech _ _ tk hW)))).run pins s' σ H' D I h1
  · refine ⟨_, ?_, _, ⟨rfl, hc, h⟩, ?_⟩
    · rintro cls d σ' H' ⟨c, m, rfl, vs, hF, k⟩ hl
      simp only [List.mem_cons, List.not_mem_nil, or_false] at m
      have h2 : ∀ u, (σ'.set 2 u)[2]? = some u := fun u => List.getElem?_set_self (by rw [hl]; exact (by decide : 2 < 3))
      have hz : 3 ≤ sizeLine := by rw [sizeLine_eq]; decide
      have hz2 : 2 ≤ sizeLine := by rw [sizeLine_eq]; decide
      rcases m with rfl | rfl
      · obtain ⟨dd, v, rfl, e, rfl⟩ := hF
        refine ⟨true, T.xGs_Gs, fun _ a na => ?_, fun z => nomatch z⟩
        refine ⟨_, h2 _, rfl, rfl, dd, _, v, rfl, e, look1, ?_⟩
        refine ⟨_, h2 _, _, _, true, dd, _, rfl, .own CIn, rfl, rfl, e, T.bGs, _, rfl, iteT ?_⟩
        exact ⟨_, h2 _, _, _, true, dd, _, rfl, .ty "ValueError", rfl, rfl, e, T.vGs, hz, k⟩
      · obtain ⟨dd, v, rfl, e, rfl⟩ := hF
        refine ⟨false, T.xNb_Gs, (fun z => nomatch z), fun _ => ⟨true, T.xNb_Nb, (fun _ a na => ?_), fun z => nomatch z⟩⟩
        refine ⟨_, h2 _, rfl, rfl, dd, _, v, rfl, e, look1, ?_⟩
        refine ⟨_, h2 _, _, _, true, dd, _, rfl, .own CIn, rfl, rfl, e, T.bNb, _, rfl, iteT ?_⟩
        exact ⟨_, h2 _, _, _, true, dd, _, rfl, .ty "ValueError", rfl, rfl, e, T.vNb, hz, k⟩
    · intro v H' k
      exact ⟨_, rfl, by show 2 ≤ sizeLine; rw [sizeLine_eq]; decide, k⟩
end Gm

-- NOREN
/-! checks that refuse, of laws without histories -/
namespace Gm
open PySem L2 LamX
/-- an own error comes out, with v in its attribute -/
def Comes (E : XK) (H : Hp) (C : Addr) (f : Str) (v : V) : Prop := ∀ H' d, Same H H' → H d = none → H' d = some (.xd [(f, v)]) → E (.ref C) (some d) H'
theorem Comes.same {E : XK} {H H1 : Hp} {C : Addr} {f : Str} {v : V} (h : Comes E H C f v) (s : Same H H1) : Comes E H1 C f v := fun H' d s' n e => h H' d (fun b o x => s' _ _ (s _ _ x)) (s.free n) e
/-- whether v is a text over ch of length n -/
def AsW (K : PySem.W.Frag) (H : Hp) (v : V) (ch : List Nat) (n : Int) (b : Bool) : Prop := (∃ s : List Nat, v = .str (tx s) ∧ s.length ≤ 1000 ∧ b = decide (Wd ch n s)) ∨ (∃ t, TyX K H v t ∧ PySem.W.kitOne K t (.type "str") = some false ∧ b = false)
section
variable {K : PySem.W.Frag} {H H' : Hp} {v : V} {l ch : List Nat} {n : Int} {b : Bool}
theorem AsW.same (h : AsW K H v ch n b) (s : Same H H') : AsW K H' v ch n b := by
  rcases h with h | ⟨t, ty, k⟩
  · exact .inl h
  · exact .inr ⟨t, ty.same s, k⟩
theorem AsW.sp {Q : VK} (h : AsW K H v ch n b) (q : ∀ H', Same H H' → Q (.bl b) H') : (∃ s : List Nat, v = .str (tx s) ∧ s.length ≤ 1000 ∧ ∀ H', Same H H' → Q (.bl (decide (Wd ch n s))) H') ∨ (∃ t, TyX K H v t ∧ PySem.W.kitOne K t (.type "str") = some false ∧ Q (.bl false) H) := by
  rcases h with ⟨s, e, hs, rfl⟩ | ⟨t, ty, no, rfl⟩
  · exact .inl ⟨s, e, hs, q⟩
  · exact .inr ⟨t, ty, no, q _ (Same.refl H)⟩
end
def spChkWX (K : PySem.W.Frag) (C CE : Addr) (ch : Option (List Nat)) : Sp := fun vs H Q E => ∃ (p : Addr) (l : List Nat) (n : Int) (v : V) (b : Bool), vs = [.ref p, v] ∧ Bd C H p l n ∧ AsW K H v (ch.getD l) n b ∧
  ((b = true ∧ ∀ H', Same H H' → Q .non H') ∨ (b = false ∧ Comes E H CE "value" v))
def spChkBX (K : PySem.W.Frag) (C CE : Addr) : Sp := fun vs H Q E => ∃ (v : V) (t : Value), vs = [v] ∧ TyX K H v t ∧ ((PySem.W.kitOne K t (.ref C) = some true ∧ Q .non H) ∨ (PySem.W.kitOne K t (.ref C) = some false ∧ Comes E H CE "value" v))
section
variable {P : Program} {w : World} {K : PySem.W.Frag} {mg : Str → Option Value} {base : Heap}
theorem ok_chkWX {f C CE fO eE : Addr} {fd fdO fdE : FuncData} (F : Fun K "check_word" "check_word" sChkW f fd) (GO : FnOk P w K mg base L2.CX0 2 fO fdO ["board", "value"] (spIsW K C none)) (DO : Df K mg "is_word" fO fdO ["board", "value"])
    (EW : ErrB K mg "InvalidWord" "value" CE eE) (GE : FnOk P w K mg base L2.CX0 1 eE fdE ["self", "value"] (spErr CE "value")) (bE : Binds K fdE ["self", "value"] []) : FnOk P w K mg base (L2.CX P w) 3 f fd ["board", "word"] (spChkWX K C CE none) := by
  refine F.okX scCW (fun vs H Q E h => ?_) (fun cdv A outer s H vs Q E hr h => ?_)
  · obtain ⟨p, l, n, v, b, rfl, _⟩ := h
    rfl
  · obtain ⟨p, l, n, v, b, rfl, hb, hv, h⟩ := h
    refine ⟨_, pss_one (ps_if (pt_not (pt_val (pe_call GO hr (by rfl) DO.mg DO.kp DO.b .nil L2.pass0 (pa_cons (pv 0) (pa_cons (pv 1) pa_nil)))))
      (pss_one (ps_raise rfl (takes_of rfl rfl rfl rfl) (pmk_oexB EW.ox EW.iC EW.tI GE hr bE L2.pass0 (by rfl) EW.gC (pa_cons (pv 1) pa_nil)))) pss_nil), ?_⟩
    refine ⟨_, rfl, _, rfl, p, l, n, _, rfl, hb, ?_⟩
    rcases hv with ⟨z, rfl, hz, ez⟩ | ⟨t, ty, no, rfl⟩
    · refine .inl ⟨z, rfl, hz, fun H1 s1 => ⟨_, rfl, ?_⟩⟩
      rw [show decide (Wd ((none : Option (List Nat)).getD l) n z) = b from ez.symm]
      rcases h with ⟨rfl, q⟩ | ⟨rfl, ex⟩
      · exact iteF (q _ s1)
      · exact iteT ⟨_, rfl, mkErr (ex.same s1)⟩
    · rcases h with ⟨h, _⟩ | ⟨_, ex⟩
      · cases h
      · exact .inr ⟨t, ty, no, _, rfl, iteT ⟨_, rfl, mkErr ex⟩⟩
theorem ok_chkBX {f C CE eE : Addr} {fd fdE : FuncData} (F : Fun K "check_board" "check_board" sChkB f fd) (T : TxW mg) (TC : TxC K mg C) (EW : ErrB K mg "NotABoard" "value" CE eE) (GE : FnOk P w K mg base L2.CX0 1 eE fdE ["self", "value"] (spErr CE "value")) (bE : Binds K fdE ["self", "value"] []) :
    FnOk P w K mg base (L2.CX P w) 3 f fd ["board"] (spChkBX K C CE) := by
  refine F.okX scCB (fun vs H Q E h => ?_) (fun cdv A outer s H vs Q E hr h => ?_)
  · obtain ⟨v, t, rfl, _⟩ := h
    rfl
  · obtain ⟨v, t, rfl, ty, h⟩ := h
    refine ⟨_, pss_one (ps_if (pt_not (pt_val (pe_callB call_isi (by rfl) T.isi (by decide +kernel) (pa_cons (pv 0) (pa_cons (pe_glob (v := .ref C) (by rfl) TC.mgC rfl) pa_nil)))))
      (pss_one (ps_raise rfl (takes_of rfl rfl rfl rfl) (pmk_oexB EW.ox EW.iC EW.tI GE hr bE L2.pass0 (by rfl) EW.gC (pa_cons (pv 0) pa_nil)))) pss_nil), ?_⟩
    rcases h with ⟨k, q⟩ | ⟨k, ex⟩
    · exact ⟨_, rfl, _, _, _, _, _, rfl, .own C, ty, k, _, rfl, iteF q⟩
    · exact ⟨_, rfl, _, _, _, _, _, rfl, .own C, ty, k, _, rfl, iteT ⟨_, rfl, mkErr ex⟩⟩
end
end Gm

/-! len and truth of an instance with its own __len__ -/
namespace PySem.W
open PySem PySem.Spec PySem.Calls PyProof.Rows Builtin
section
variable {prog : Program} {w : World} {A : Around} {E : Value → Shared → Prop} {s : Shared} {K : Frag} {x C f L : Addr} {ox : Obj} {od : Option Obj} {h₀ : Heap} {m : Str → Option Value}
theorem gm_lenBody {Q : Value → Shared → Prop} (X : K.In s.heap) (I : InstAt s.heap x ox C od) (hs : findIn K (.ref C) "__len__" = some (some (.ref f))) (hf : isFn K (.ref f) = true)
    (h : wpAny (model prog w) A (call (.ref f) [.ref x]) (LenBack Q) E s) : wpAny (model prog w) A (Builtin.«len» ⟨[.ref x], []⟩) (fun fin s' => ∃ r, fin = .done (.ret r) ∧ Q r s') E s := by
  unfold Builtin.«len»
  refine wpAny_bind (m := oneArg "len" _) (wpAny_pure ?_)
  refine wpAny_bind (m := callSpecial? (.ref x) (Str.ofString "__len__")) (special_fn X I hs (beq_iff_eq.mp hf) (wpAny_mono h (fun r s' hr => ?_) fun _ _ y => y))
  cases r <;> first | exact hr.elim | skip
  rename_i n u
  obtain ⟨⟨h0, h1⟩, hq⟩ := hr
  refine wpAny_bind (wpAny_holding (wpAny_pure ?_))
  refine wpAny_bind (wpAny_letGo ?_)
  show wpAny _ _ (if n < 0 then _ else _) _ _ _
  rw [if_neg (by omega)]
  show wpAny _ _ (if n ≥ 2 ^ 63 then _ else _) _ _ _
  rw [if_neg (by omega)]
  exact wpAny_bind (wpAny_mkInt (wpAny_pure ⟨_, rfl, hq⟩))
theorem gm_truthyLen {Q : Bool → Shared → Prop} (X : K.In s.heap) (I : InstAt s.heap x ox C od) (hb : findIn K (.ref C) "__bool__" = some none) (hs : findIn K (.ref C) "__len__" = some (some (.ref f))) (hf : isFn K (.ref f) = true)
    (h : wpAny (model prog w) A.in1 (call (.ref f) [.ref x]) (LenBack fun v s' => ∃ n u, v = .int n u ∧ Q (n != 0) s') E s) : wpAny (model prog w) A (truthy (.ref x)) Q E s := by
  unfold truthy
  refine wpAny_bind (m := callSpecial? (.ref x) (Str.ofString "__bool__")) (wpAny_bind (wpAny_bind (I.type.here ((looks_findIn X hb).here (wpAny_pure ?_)))))
  refine wpAny_bind (wpAny_bind (I.type.here ((looks_findIn X hs).here ?_)))
  show wpAny _ _ (if (some (Value.ref f)).isNone = true then _ else _) _ _ _
  rw [if_neg (by simp)]
  have key : wpAny (model prog w) A (runValue (.builtin "len" ⟨[.ref x], []⟩)) (fun v s' => ∃ n u, v = .int n u ∧ Q (n != 0) s') E s := by
    refine wpAny_runValue (codeAny_builtin entry_len ?_)
    rw [Around.under_plainId plain_len _]
    exact wpAny_mono (gm_lenBody (Q := fun v s' => ∃ n u, v = .int n u ∧ Q (n != 0) s') X I hs hf h) (fun fin s' h' => by obtain ⟨r, rfl, hq⟩ := h'; exact hq) fun _ _ e => e
  exact wpAny_bind (wpAny_mono key (fun r s' h' => by obtain ⟨n, u, rfl, hq⟩ := h'; exact wpAny_pure hq) fun _ _ e => e)
theorem gm_boolLen {Q : Value → Shared → Prop} (X : K.In s.heap) (I : InstAt s.heap x ox C od) (hb : findIn K (.ref C) "__bool__" = some none) (hs : findIn K (.ref C) "__len__" = some (some (.ref f))) (hf : isFn K (.ref f) = true)
    (h : wpAny (model prog w) A.in1.in1.in1 (call (.ref f) [.ref x]) (LenBack fun v s' => ∃ n u, v = .int n u ∧ Q (.bool (n != 0)) s') E s) : wpAny (model prog w) A (call (.type "bool") [.ref x]) Q E s := by
  refine callType_codes (T := "bool") (Bi := Builtin.«object.__init__») (Q₁ := fun r s₁ => ∃ b, r = .bool b ∧ Q r s₁) PySem.F.called_bool (PySem.F.typeCall_bool_1 _) PySem.F.entry_object_init ?_ ?_
  · refine codeAny_of_tree ?_
    show wpAny _ A.in1.in1 (do checkBuiltinCall "bool.__new__" ⟨[.type "bool", .ref x], []⟩; again (.builtin "bool.__new__" ⟨[.type "bool", .ref x], []⟩)) _ _ s
    refine wpAny_bind (wpAny_of_eq (PySem.F.newCall_bool_1 _) (wpAny_pure ⟨plainId_quiet (by decide +kernel) _, codeAny_builtin PySem.F.entry_bool_new ?_⟩))
    rw [Around.under_plainId (by decide +kernel) _]
    unfold Builtin.«bool.__new__»
    refine wpAny_bind (wpAny_pure ?_)
    refine wpAny_bind (wpAny_of_eq PySem.F.conv_sub_bool ?_)
    refine wpAny_bind (wpAny_pure ?_)
    exact wpAny_bind (wpAny_mono (gm_truthyLen (Q := fun b s₁ => Q (.bool b) s₁) X I hb hs hf h) (fun b s₁ hq => wpAny_pure ⟨_, rfl, hq⟩) fun _ _ y => y)
  · rintro obj s₁ ⟨b, rfl, hq⟩
    exact ⟨typeIs_bool _ _, PySem.F.args_object_init_2 _ _, object_init_meets PySem.F.called_bool.init.lookup PySem.F.called_bool.made (by decide) prog w A.in1 _ s₁ ⟨typeIs_bool _ _, rfl, hq⟩⟩
end
end PySem.W
namespace L2
open PySem PySem.Spec PyProof.Rows
section
variable {X : Cx} {n : Nat} {pins : List (Addr × Obj)} {σ : St} {H : Hp} {s : Shared}
/-- len(x), bool(x) by the class's own __len__ -/
def rLenO (C : Addr) (sp : Sp) (E : XK) (g : Int → V) : List V → Hp → VK → Prop := fun xs H Q => ∃ a dx fs, xs = [.ref a] ∧ H a = some (.ins C dx fs) ∧ sp [.ref a] H (fun v H' => ∃ i : Int, v = .int i ∧ 0 ≤ i ∧ i < 1073741824 ∧ Q (g i) H') E
theorem call_lenOwn {CX : CXT} {C f : Addr} {fd : FuncData} {ps : List Str} {sp : Sp} {E : XK} (hr : Room (n + 1) X.A) (F : FnOk X.prog X.w X.K X.mg X.base CX n f fd ps sp) (hs : PySem.W.findIn X.K (.ref C) "__len__" = some (some (.ref f))) (hf : PySem.W.isFn X.K (.ref f) = true)
    (hb : Binds X.K fd ps []) (hx : Passes CX X E) : CallR X (.builtin "len") (rLenO C sp E .int) := by
  intro pins s σ H xs us Q I r h
  obtain ⟨a, dx, fs, rfl, ha, hsp⟩ := h
  obtain ⟨mA, J, _⟩ := ins_get I.hok ha
  obtain ⟨od, J, _⟩ := J.look
  obtain ⟨m, hF⟩ := I.fr
  cases r with
  | cons r1 r2 =>
    cases r2
    cases r1
    refine PySem.W.len_K hF I.ok.mod.kin J hs hf ?_
    refine wpAny_mono (gm_call ⟨hr.in1, rfl⟩ I F hb hx (vs := [.ref a]) (us := [.ref a]) (.cons rfl .nil) hsp) (fun z s' hz => ?_) fun _ _ e => e
    obtain ⟨z', H', I', rz, i, rfl, h0, h1, q⟩ := hz
    obtain ⟨t, rfl⟩ := rz
    exact ⟨⟨h0, by omega⟩, .int i, H', I'.tok _, ⟨_, rfl⟩, q⟩
theorem call_boolOwn {CX : CXT} {C f : Addr} {fd : FuncData} {ps : List Str} {sp : Sp} {E : XK} (hr : Room (n + 3) X.A) (F : FnOk X.prog X.w X.K X.mg X.base CX n f fd ps sp) (hb0 : PySem.W.findIn X.K (.ref C) "__bool__" = some none) (hs : PySem.W.findIn X.K (.ref C) "__len__" = some (some (.ref f))) (hf : PySem.W.isFn X.K (.ref f) = true)
    (hb : Binds X.K fd ps []) (hx : Passes CX X E) : CallR X (.type "bool") (rLenO C sp E fun i => .bl (i != 0)) := by
  intro pins s σ H xs us Q I r h
  obtain ⟨a, dx, fs, rfl, ha, hsp⟩ := h
  obtain ⟨mA, J, _⟩ := ins_get I.hok ha
  obtain ⟨od, J, _⟩ := J.look
  cases r with
  | cons r1 r2 =>
    cases r2
    cases r1
    refine PySem.W.gm_boolLen I.kIn J hb0 hs hf ?_
    refine wpAny_mono (gm_call ⟨hr.in1.in1.in1, rfl⟩ I F hb hx (vs := [.ref a]) (us := [.ref a]) (.cons rfl .nil) hsp) (fun z s' hz => ?_) fun _ _ e => e
    obtain ⟨z', H', I', rz, i, rfl, h0, h1, q⟩ := hz
    obtain ⟨t, rfl⟩ := rz
    exact ⟨⟨h0, by omega⟩, _, _, rfl, .bl (i != 0), H', I'.tok _, rfl, q⟩
end
end L2

-- NOREN
namespace Gm
open PySem PySem.Spec PyProof.Rows L2 LamX
/-- a def whose code object stands at c -/
structure FunC (K : PySem.W.Frag) (x qual : Str) (st : Stmt) (f : Addr) (fd : FuncData) (c : Addr) : Prop where
  ex : ∃ (oc : Value) (od : Option Addr) (kV doc pm : Value) (an : Option Addr) (ct : Value) (osl : Array (Option Value)),
    fd = PySem.W.fnOf x qual (defArgs st) (defBody st) (defScope st) .none kV doc pm an (.ref c) ct ∧ K.lookup f = some ⟨oc, od, .func fd, osl⟩ ∧ PySem.W.codeIn K (.ref c) qual = true
  keep : PySem.W.keepIn K (.ref f) = true
theorem FunC.okG {P : Program} {w : World} {K : PySem.W.Frag} {mg : Str → Option Value} {base : Heap} {x qual : Str} {st : Stmt} {f c : Addr} {fd : FuncData} {N ps : List Str} {k : Nat} {sp : Sp} (F : FunC K x qual st f fd c) (S : FnScope N ps (defScope st))
    (many : ∀ vs H Q E, sp vs H Q E → vs.length = ps.length)
    (body : ∀ (A : Around) (outer : List Env) (s : Shared) (H : Hp) (vs : List V) (Q : VK) (E : XK), A.guards = some [] → Room k (A.deeper (envOfC qual (defScope st) s.heap.objs.size f (.ref c))) → sp vs H Q E →
      ∃ t, PSs (cxOf L2.CX0 P w K mg base N qual (defScope st) f (.ref c) A outer s H E).nox (defBody st) t ∧ t { nx := fun _ H' => Q .non H', rt := Q } (L2.start N vs) H) : FnG P w K mg base L2.CX0 (k + 1) f fd ps sp := by
  obtain ⟨oc, od, kV, doc, pm, an, ct, osl, rfl, lk, hcd⟩ := F.ex
  refine ⟨fun h => many _ _ _ _ h, fun {A outer s H args us vs Q E} g hr e b r h => ?_⟩
  refine LamX.run_ofS lk hcd S hr e b r (many _ _ _ _ h) fun hr' => ?_
  obtain ⟨t, ht, q⟩ := body A outer s H vs Q E g hr' h
  exact ⟨t, ht.nox, q⟩
/-- q is no address of what is known of H -/
def New (H : Hp) (q : Addr) : Prop := ∀ b o, H b = some o → (∀ ps, o ≠ .tbl ps) → b ≠ q
theorem New.of {H : Hp} {q : Addr} (n : H q = none) : New H q := fun b o e _ => ne_of_none e n
theorem Tabs.keep {p : Addr} {T : List (Addr × Str)} {H H' : Hp} (t : Tabs T H) (hp : ∃ xs, H p = some (.lst xs)) (k : ∀ b o, b ≠ p → H b = some o → H' b = some o) : Tabs T H' := fun z hz => by
  obtain ⟨ps, h1, h2, h3⟩ := t z hz
  obtain ⟨xs, e⟩ := hp
  have np : ∀ {b : Addr} {o : HO}, H b = some o → (∀ xs, o ≠ .lst xs) → b ≠ p := fun {b o} e' n q => by
    rw [q, e] at e'
    exact n xs (Option.some.inj e').symm
  refine ⟨ps, k _ _ (np h1 fun _ z => by cases z) h1, h2, fun pos cv hc => ?_⟩
  obtain ⟨c, e1, e2⟩ := h3 pos cv hc
  exact ⟨c, e1, k _ _ (np e2 fun xs z => by unfold CodeO at z; cases z) e2⟩
/-- what _law_got tells of an error that comes -/
def ComesG (E : XK) (H : Hp) (C : Addr) (f : Option Str) (vs : List V) : Prop := ∀ H' d, Same H H' → HasF H' d f vs → (∀ x, d = some x → H x = none) → E (.ref C) d H'
theorem ComesG.of {E : XK} {H : Hp} {C : Addr} {f : Str} {v : V} (h : ComesG E H C (some f) [v]) : Comes E H C f v := fun H' d s n e => h H' (some d) s ⟨d, v, rfl, e, rfl⟩ fun x hx => by cases hx; exact n
theorem comes_got {cs : List Cat} {c : Cat} {vs : List V} {H H2 : Hp} {Q : VK} {T : List (Addr × Str)} (m : c ∈ cs) (s : ExtN H H2) (t : Tabs T H2)
    (k : ∀ H' q, ExtN H H' → Tabs T H' → New H q → H' q = some (.lst (.str c.name :: (vs ++ [.bl true]))) → Q (.ref q) H') : ComesG (gotW cs Q) H2 c.at_ c.fld vs := fun H' d s' hF n =>
  ⟨c, m, rfl, vs, hF, fun q nq => by
    have x : ExtN H (upd H' q (.lst (.str c.name :: (vs ++ [.bl true])))) := fun b o e tb => by
      have e' := s' _ _ (s b o e tb)
      rw [upd_ne (ne_of_none e' nq)]
      exact e'
    exact k _ q x (t.ext fun b o e => by rw [upd_ne (ne_of_none (s' _ _ e) nq)]; exact s' _ _ e) (fun b o e tb z => by
      have e' := s' _ _ (s b o e tb)
      rw [z, nq] at e'
      cases e') upd_same⟩

def spOfL : Sp := fun vs H Q _ => ∃ (p l : Addr) (xs : List V), vs = [.ref p, .ref l] ∧ BowlAt H p ∧ l ≠ p ∧ H l = some (.lst xs) ∧ 0 < xs.length ∧ xs.length ≤ 1000 ∧ ∀ H' v, Stir p H H' → v ∈ xs → Q v H'
theorem scOf : FnScope ["_law_bowl_here", "_law_things"] ["_law_bowl_here", "_law_things"] (defScope sOf) := ⟨rfl, rfl, rfl, by decide +kernel, rfl, by decide +kernel, by decide +kernel⟩
section
variable {P : Program} {w : World} {K : PySem.W.Frag} {mg : Str → Option Value} {base : Heap}
theorem ok_ofL {f fD : Addr} {fd fdD : FuncData} (F : Fun K "_law_of" "_law_of" sOf f fd) (tl : mg "len" = none) (GD : FnOk P w K mg base L2.CX0 1 fD fdD ["_law_bowl_here", "_law_many"] spDip) (DD : Df K mg "_law_dip" fD fdD ["_law_bowl_here", "_law_many"]) :
    FnOk P w K mg base L2.CX0 2 f fd ["_law_bowl_here", "_law_things"] spOfL := by
  refine F.ok scOf (fun vs H Q E h => ?_) (fun cdv A outer s H vs Q E hr h => ?_)
  · obtain ⟨p, l, xs, rfl, _⟩ := h
    rfl
  · obtain ⟨p, l, xs, rfl, hp, nl, hl, l0, l1, q⟩ := h
    refine ⟨_, pss_one (ps_ret (pe_ix ix_list (pv 1) (pe_call GD hr (by rfl) DD.mg DD.kp DD.b .nil L2.pass0 (pa_cons (pv 0) (pa_cons (pe_callB call_len_seq (by rfl) tl PySem.boot_len (pa_cons (pv 1) pa_nil)) pa_nil))) (fun _ _ => rfl))), ?_⟩
    refine ⟨_, rfl, _, rfl, _, rfl, l, _, rfl, .inl (SqL.of hl), p, _, rfl, hp, by omega, by omega, fun H1 d R d0 d1 => ?_⟩
    obtain ⟨j, rfl⟩ := Int.eq_ofNat_of_zero_le d0
    have hj : j < xs.length := by omega
    exact ⟨l, _, _, xs[j], rfl, rfl, SqL.of (R.1 _ _ nl hl), atI_nat (List.getElem?_eq_getElem hj), q H1 _ R (List.getElem_mem hj)⟩
end
theorem new_at {H : Hp} {a : Addr} {o : HO} (_ : H a = none) : upd H a o a = some o := upd_same
theorem Same.trans {A B C : Hp} (x : Same A B) (y : Same B C) : Same A C := fun b o e => y _ _ (x _ _ e)
theorem forall_app {P : V → Prop} {xs ys : List V} (h : ∀ v ∈ xs, P v) (k : ∀ v ∈ ys, P v) : ∀ v ∈ xs ++ ys, P v := fun v m => (List.mem_append.mp m).elim (h v) (k v)
theorem ExtN.made {H H1 : Hp} {x dx : Addr} {o u : HO} (e : ExtN H H1) (nx : H1 x = none) (nd : H1 dx = none) : ExtN H (upd (upd H1 dx o) x u) := fun b v h t => by
  have h' := e b v h t
  rw [upd_ne (ne_of_none h' nx), upd_ne (ne_of_none h' nd)]
  exact h'
theorem tabs_made {T : List (Addr × Str)} {H1 : Hp} {x dx : Addr} {o u : HO} (t : Tabs T H1) (nx : H1 x = none) (nd : H1 dx = none) : Tabs T (upd (upd H1 dx o) x u) := t.ext fun b v h => by
  rw [upd_ne (ne_of_none h nx), upd_ne (ne_of_none h nd)]
  exact h
theorem tabs_put {T : List (Addr × Str)} {H : Hp} {S : Addr} {xs ys : List V} (t : Tabs T H) (e : H S = some (.lst xs)) : Tabs T (upd H S (.lst ys)) := Gm.Tabs.keep t ⟨xs, e⟩ fun b o n h => by rw [upd_ne n]; exact h

/-! ### things as data -/
def shortS : PyData → Bool
  | .str s => decide (s.length ≤ 1000)
  | _ => true
def shortD : PyData → Bool
  | .str s => decide (s.length ≤ 1000)
  | .tuple ds => decide (ds.length ≤ 1000) && ds.all shortS
  | _ => true
def wordB (ch : List Nat) (n : Int) : PyData → Bool
  | .str s => decide (Wd ch n s.cps.toList)
  | _ => false
theorem flats_len {vs : List V} {ds : List PyData} (h : Flats vs ds) : vs.length = ds.length := by
  induction h with
  | nil => rfl
  | cons _ _ ih => rw [List.length_cons, List.length_cons, ih]
theorem tx_self (s : Str) : s = tx s.cps.toList := TL.ext_tl rfl
theorem flat_word {K : PySem.W.Frag} {H : Hp} {v : V} {d : PyData} {ch : List Nat} {n : Int} (h : Flat v d) (sh : shortS d = true) : AsW K H v ch n (wordB ch n d) := by
  cases h with
  | str x => exact .inl ⟨x.cps.toList, by rw [← tx_self], by have := of_decide_eq_true sh; rw [str_len]; exact this, rfl⟩
  | non => exact .inr ⟨_, .base .non, kit_ty (by decide +kernel), rfl⟩
  | bl b => exact .inr ⟨_, .base (.bl b), kit_ty (by decide +kernel), rfl⟩
  | int i => exact .inr ⟨_, .base (.int i), kit_ty (by decide +kernel), rfl⟩
theorem thing_word {K : PySem.W.Frag} {p : Addr} {H : Hp} {v : V} {d : PyData} {t : String} {ch : List Nat} {n : Int} (h : Thing p H v d t) (sh : shortD d = true) : AsW K H v ch n (wordB ch n d) := by
  have ty := h.ty (K := K)
  cases h with
  | str x => exact .inl ⟨x.cps.toList, by rw [← tx_self], by have := of_decide_eq_true sh; rw [str_len]; exact this, rfl⟩
  | _ => exact .inr ⟨_, ty, kit_ty (by decide +kernel), rfl⟩
/-- an item of a menu, of whose data P holds, of whose value C -/
def ItemD (p : Addr) (H : Hp) (P : PyData → Prop) (C : V → Prop) (v : V) : Prop := ∃ d t, Thing p H v d t ∧ Sh d 300 2 ∧ P d ∧ C v
section
variable {p : Addr} {H H' : Hp} {P : PyData → Prop} {C : V → Prop}
theorem ItemD.keep {v : V} (h : ItemD p H P C v) (k : Kp p H H') : ItemD p H' P C v := let ⟨d, t, a, b, c⟩ := h; ⟨d, t, a.keep k, b, c⟩
theorem itd_non (c : P .none) (e : C .non) : ItemD p H P C .non := ⟨_, _, .non, (Sh.non (m := 0)).le (by decide) (by decide), c, e⟩
theorem itd_bl (b : Bool) (c : P (.bool b)) (e : C (.bl b)) : ItemD p H P C (.bl b) := ⟨_, _, .bl b, (Sh.bl b).le (by decide) (Nat.le_refl _), c, e⟩
theorem itd_int (i : Int) (h : i.natAbs.log2 < 1920) (h2 : ((toString i : String) : Str).length ≤ 300) (c : P (.int i)) (e : C (.int i)) : ItemD p H P C (.int i) := ⟨_, _, .int i, .int i h h2, c, e⟩
theorem itd_str (x : Str) (h : (reprText x).length ≤ 300) (c : P (.str x)) (e : C (.str x)) : ItemD p H P C (.str x) := ⟨_, _, .str x, .str x h, c, e⟩
theorem itd_dic {a : Addr} (n : a ≠ p) (h : H a = some (.dK [])) (c : P (.dict [])) (e : C (.ref a)) : ItemD p H P C (.ref a) := ⟨_, _, .dic n h, (Sh.dic (m := 0)).le (by decide) (by decide), c, e⟩
theorem itd_tup {a : Addr} {xs : List V} {ds : List PyData} {k : Nat} (n : a ≠ p) (h : H a = some (.tup xs)) (f : Flats xs ds) (s : ShAll ds k 0) (hk : k + 3 ≤ 300) (c : P (.tuple ds)) (e : C (.ref a)) : ItemD p H P C (.ref a) := ⟨_, _, .tup n h f, (Sh.tup s).le hk (by decide), c, e⟩
theorem itd_lst {a : Addr} {xs : List V} {ds : List PyData} {k : Nat} (n : a ≠ p) (h : H a = some (.lst xs)) (f : Flats xs ds) (s : ShAll ds k 0) (hk : k + 3 ≤ 300) (c : P (.list ds)) (e : C (.ref a)) : ItemD p H P C (.ref a) := ⟨_, _, .lst n h f, (Sh.lst s).le hk (by decide), c, e⟩
end
theorem itd_heap {p : Addr} {H : Hp} {o : HO} {xs : List V} {P : PyData → Prop} {C : V → Prop} (_ : H p = some o) (h : ∀ v ∈ xs, ItemD p H P C v) : ∀ v ∈ xs, ItemD p H P C v := h
/-! ### what stands while the law asks -/
/-- all but p, S and the tables as it stood -/
def Kq (p S : Addr) (H H' : Hp) : Prop := ∀ b o, b ≠ p → b ≠ S → (∀ ps, o ≠ .tbl ps) → H b = some o → H' b = some o
theorem Kq.refl {p S : Addr} {H : Hp} : Kq p S H H := fun _ _ _ _ _ e => e
theorem Kq.trans {p S : Addr} {A B D : Hp} (a : Kq p S A B) (b : Kq p S B D) : Kq p S A D := fun c o n m t e => b c o n m t (a c o n m t e)
theorem Kq.kp {p S : Addr} {H H' : Hp} (k : Kp p H H') : Kq p S H H' := fun b o n _ t e => k b o n t e
theorem Kq.put {p S : Addr} {H : Hp} {o : HO} : Kq p S H (upd H S o) := fun b u _ m _ e => by rw [upd_ne m]; exact e
/-- S is no address of a tuple or an instance of H -/
def NewL (H : Hp) (S : Addr) : Prop := ∀ b o, H b = some o → (∀ ps, o ≠ .tbl ps) → (∀ xs, o ≠ .lst xs) → b ≠ S
theorem NewL.of {H : Hp} {S : Addr} (w : New H S) : NewL H S := fun b o e t _ => w b o e t
theorem NewL.at_ {H : Hp} {S : Addr} {xs : List V} (h : H S = some (.lst xs)) : NewL H S := fun b o e _ l z => by
  rw [z, h] at e
  exact l _ (Option.some.inj e).symm
theorem Thing.kq {p S : Addr} {H H' : Hp} {v : V} {d : PyData} {t : String} (h : Thing p H v d t) (ne : v ≠ .ref S) (k : Kq p S H H') : Thing p H' v d t := by
  cases h with
  | non => exact .non
  | bl b => exact .bl b
  | int i => exact .int i
  | str x => exact .str x
  | tup n e f => exact .tup n (k _ _ n (fun z => ne (by rw [z])) (fun _ z => by cases z) e) f
  | lst n e f => exact .lst n (k _ _ n (fun z => ne (by rw [z])) (fun _ z => by cases z) e) f
  | dic n e => exact .dic n (k _ _ n (fun z => ne (by rw [z])) (fun _ z => by cases z) e)
theorem Thing.new {p S : Addr} {H : Hp} {v : V} {d : PyData} {t : String} (h : Thing p H v d t) (w : New H S) : v ≠ .ref S := fun z => by
  cases h with
  | tup _ e f => cases z; exact w _ _ e (fun _ z => by cases z) rfl
  | lst _ e f => cases z; exact w _ _ e (fun _ z => by cases z) rfl
  | dic _ e => cases z; exact w _ _ e (fun _ z => by cases z) rfl
  | _ => cases z
theorem ne_bowl {H : Hp} {p a : Addr} {o : HO} (hp : BowlAt H p) (h : H a = some o) (n : ∀ xs, o ≠ .lst xs) : a ≠ p := fun z => by
  obtain ⟨x, y, w, e⟩ := hp
  rw [z, e] at h
  exact n _ (Option.some.inj h).symm
section
variable {p S : Addr} {H H' : Hp} {l : List Nat} {n : Int}
theorem keep1 (hp : BowlAt H p) (w : NewL H S) (k : Kq p S H H') {b : Addr} {o : HO} (t : ∀ ps, o ≠ .tbl ps) (ls : ∀ xs, o ≠ .lst xs) (e : H b = some o) : H' b = some o := k b o (ne_bowl hp e ls) (w b o e t ls) t e
theorem Bd.kq {C b : Addr} (h : Bd C H b l n) (hp : BowlAt H p) (w : NewL H S) (k : Kq p S H H') : Bd C H' b l n := by
  obtain ⟨⟨dx, e⟩, r⟩ := h
  exact ⟨⟨dx, keep1 hp w k (fun _ z => by cases z) (fun _ z => by cases z) e⟩, r⟩
theorem BowlAt.ext (h : BowlAt H p) (x : ExtN H H') : BowlAt H' p := let ⟨a, b, c, e⟩ := h; ⟨a, b, c, x _ _ e fun _ z => by cases z⟩
end
abbrev RowX := Addr × List V
def rowO (x : RowX) : HO := .lst x.2
def refsX (qs : List RowX) : List V := qs.map fun x => V.ref x.1
/-- behind the base H0: nothing asked yet -/
structure Bs (p : Addr) (T : List (Addr × Str)) (H0 H : Hp) : Prop where
  kb : Kp p H0 H
  bowl : BowlAt H p
  tabs : Tabs T H
/-- behind the base H0: the list at S holds what came -/
structure Seen (p S : Addr) (T : List (Addr × Str)) (H0 H : Hp) (qs : List RowX) : Prop where
  at_ : H S = some (.lst (refsX qs))
  rows : ∀ x ∈ qs, H x.1 = some (rowO x) ∧ x.1 ≠ S ∧ x.1 ≠ p
  np : S ≠ p
  kb : Kq p S H0 H
  bowl : BowlAt H p
  tabs : Tabs T H
section
variable {p S : Addr} {T : List (Addr × Str)} {H0 H H' : Hp} {qs : List RowX}
theorem Bs.self (hp : BowlAt H p) (t : Tabs T H) : Bs p T H H := ⟨Kp.refl, hp, t⟩
theorem Bs.same (h : Bs p T H0 H) (s : Same H H') : Bs p T H0 H' := ⟨h.kb.trans (.of s), h.bowl.ext (ExtN.of s), h.tabs.ext s⟩
theorem Bs.stir (h : Bs p T H0 H) (R : Stir p H H') : Bs p T H0 H' := ⟨h.kb.trans (.but R.1), R.2, Tabs.keep h.tabs (let ⟨_, _, _, e⟩ := h.bowl; ⟨_, e⟩) R.1⟩
theorem Bs.base (h : Bs p T H0 H) : Bs p T H H := ⟨Kp.refl, h.bowl, h.tabs⟩
theorem new_ne {q : Addr} (w : New H q) {b : Addr} {xs : List V} (e : H b = some (.lst xs)) : q ≠ b := (w _ _ e fun _ z => by cases z).symm
theorem bowl_ne {q : Addr} (w : New H q) (hp : BowlAt H p) : q ≠ p := let ⟨_, _, _, e⟩ := hp; new_ne w e
theorem Bs.start (h : Bs p T H0 H) (x : ExtN H H') (t : Tabs T H') {q : Addr} (w : New H q) {vs : List V} (e : H' q = some (.lst vs)) (zS : H' S = none) : Seen p S T H0 (upd H' S (.lst [.ref q])) [(q, vs)] ∧ New H0 S := by
  have hp' := h.bowl.ext x
  have nS : S ≠ p := by
    obtain ⟨_, _, _, e⟩ := hp'
    exact (ne_of_none e zS).symm
  have s := same_upd (o := HO.lst [.ref q]) zS
  refine ⟨⟨upd_same, fun y hy => ?_, nS, fun b o n m tt eb => s _ _ (x _ _ (h.kb _ _ n tt eb) tt), hp'.ext (ExtN.of s), t.ext s⟩, fun b o eb tt => ?_⟩
  · rw [List.mem_singleton.mp hy]
    exact ⟨s _ _ e, ne_of_none e zS, bowl_ne w h.bowl⟩
  · by_cases hbp : b = p
    · rw [hbp]
      exact nS.symm
    · exact ne_of_none (x _ _ (h.kb _ _ hbp tt eb) tt) zS
theorem Seen.same (h : Seen p S T H0 H qs) (s : Same H H') : Seen p S T H0 H' qs := ⟨s _ _ h.at_, fun x hx => ⟨s _ _ (h.rows x hx).1, (h.rows x hx).2⟩, h.np, h.kb.trans (.kp (.of s)), h.bowl.ext (ExtN.of s), h.tabs.ext s⟩
theorem Seen.stir (h : Seen p S T H0 H qs) (R : Stir p H H') : Seen p S T H0 H' qs := ⟨R.1 _ _ h.np h.at_, fun x hx => ⟨R.1 _ _ (h.rows x hx).2.2 (h.rows x hx).1, (h.rows x hx).2⟩, h.np, h.kb.trans (.kp (.but R.1)), R.2, Tabs.keep h.tabs (let ⟨_, _, _, e⟩ := h.bowl; ⟨_, e⟩) R.1⟩
theorem Seen.base (h : Seen p S T H0 H qs) : Seen p S T H H qs := ⟨h.at_, h.rows, h.np, .refl, h.bowl, h.tabs⟩
theorem Seen.got (h : Seen p S T H0 H qs) (x : ExtN H H') (t : Tabs T H') {q : Addr} (w : New H q) {vs : List V} (e : H' q = some (.lst vs)) :
    H' S = some (.lst (refsX qs)) ∧ Seen p S T H0 (upd H' S (.lst (refsX qs ++ [.ref q]))) (qs ++ [(q, vs)]) := by
  have eS := x _ _ h.at_ fun _ z => by cases z
  have nq := new_ne w h.at_
  have nqp := bowl_ne w h.bowl
  refine ⟨eS, ⟨?_, fun y hy => ?_, h.np, fun b o n m tt eb => ?_, ?_, tabs_put t eS⟩⟩
  · rw [upd_same]
    unfold refsX
    rw [List.map_append]
    rfl
  · rcases List.mem_append.mp hy with hy | hy
    · obtain ⟨a, b, c⟩ := h.rows y hy
      exact ⟨(upd_ne b).trans (x _ _ a fun _ z => by cases z), b, c⟩
    · rw [List.mem_singleton.mp hy]
      exact ⟨(upd_ne nq).trans e, nq, nqp⟩
  · rw [upd_ne m]
    exact x _ _ (h.kb _ _ n m tt eb) tt
  · obtain ⟨a, b, c, e⟩ := h.bowl.ext x
    exact ⟨a, b, c, (upd_ne h.np.symm).trans e⟩
end
end Gm

/-! ways to go on, as a number -/
namespace Gm
open PySem
theorem idx_at {c : Nat} : ∀ {l : List Nat} {i : Nat}, l[i]? = some c → (∀ k, k < i → l[k]? ≠ some c) → l.idxOf c = i
  | [], i, h, _ => by simp at h
  | a :: l, 0, h, _ => by
    have : a = c := by simpa using h
    rw [this, List.idxOf_cons_self]
  | a :: l, i + 1, h, n => by
    have h0 : a ≠ c := fun e => n 0 (Nat.succ_pos _) (by simp [e])
    rw [List.idxOf_cons, cond_eq_if, if_neg (by simpa using h0), idx_at (l := l) (i := i) (by simpa using h) fun k hk e => n (k + 1) (Nat.succ_lt_succ hk) (by simpa using e)]
theorem find_one (l : List Nat) (c : Nat) : Txt.find (tx l) (one c) = if c ∈ l then ((l.idxOf c : Nat) : Int) else -1 := by
  have at_ : ∀ k, StrLaws.At (tx l) (one c) (tx l).length k ↔ l[k]? = some c := fun k => by
    have h := StrLaws.subAt_one (tx l) c k
    have e : (tx l).cps.toList = l := by simp
    rw [e] at h
    exact h
  rcases PyProof.Rows.find_whole (tx l) (one c) with ⟨e, n⟩ | ⟨i, e, a, n⟩
  · have : c ∉ l := fun h => by
      obtain ⟨j, hj, hx⟩ := List.getElem_of_mem h
      exact n j ((at_ j).mpr (List.getElem?_eq_some_iff.mpr ⟨hj, hx⟩))
    rw [e, if_neg this]
  · have hi := (at_ i).mp a
    rw [e, if_pos (List.mem_of_getElem? hi), idx_at hi fun k hk q => n k hk ((at_ k).mpr q)]
def owedI (le us : List Int) : Int := ((le.zip us).map fun p => if p.1 - p.2 > 0 then p.1 - p.2 else 0).sum
def bump (us : List Int) (i : Nat) : List Int := us.take i ++ [us.getD i 0 + 1] ++ us.drop (i + 1)
theorem bump_len {us : List Int} {i : Nat} (h : i < us.length) : (bump us i).length = us.length := by
  unfold bump
  simp only [List.length_append, List.length_take, List.length_drop, List.length_cons, List.length_nil]
  omega
/-- those of a that are among b -/
def cc (a b : List Nat) : List Nat := a.filter fun c => decide (c ∈ b)
def wayF (ct : List Nat) (le gr : List Int) : List (List Nat) → List Int → Int
  | [], us => if owedI le us > 0 then 0 else 1
  | a :: al, us => if owedI le us > ((al.length + 1 : Nat) : Int) then 0 else
      ((cc a ct).map fun c => if us.getD (ct.idxOf c) 0 = gr.getD (ct.idxOf c) 0 then 0 else wayF ct le gr al (bump us (ct.idxOf c))).sum +
      (if (a.length : Int) - ((cc a ct).length : Int) > 0 then ((a.length : Int) - ((cc a ct).length : Int)) * wayF ct le gr al us else 0)
/-- the numbers behind one more letter -/
def bumpC (ct : List Nat) (us : List Int) (c : Nat) : List Int := if c ∈ ct then bump us (ct.idxOf c) else us
theorem bumpC_len {ct : List Nat} {us : List Int} {c : Nat} (h : us.length = ct.length) : (bumpC ct us c).length = ct.length := by
  unfold bumpC
  split
  · rename_i m
    rw [bump_len (by rw [h]; exact List.idxOf_lt_length_of_mem m), h]
  · exact h
/-- the ways through a letter -/
def withF (ct : List Nat) (le gr : List Int) (al : List (List Nat)) (us : List Int) (c : Nat) : Int :=
  if c ∈ ct ∧ us.getD (ct.idxOf c) 0 = gr.getD (ct.idxOf c) 0 then 0 else wayF ct le gr al (bumpC ct us c)
theorem cc_mem {a b : List Nat} {c : Nat} : c ∈ cc a b ↔ c ∈ a ∧ c ∈ b := by
  unfold cc
  rw [List.mem_filter]
  exact and_congr_right fun _ => decide_eq_true_iff
theorem cc_le (a b : List Nat) : (cc a b).length ≤ a.length := List.length_filter_le _ _
theorem wayF_cons (ct : List Nat) (le gr : List Int) (a : List Nat) (al : List (List Nat)) (us : List Int) : wayF ct le gr (a :: al) us =
    if owedI le us > ((al.length + 1 : Nat) : Int) then 0 else ((cc a ct).map fun c => withF ct le gr al us c).sum + (if (a.length : Int) - ((cc a ct).length : Int) > 0 then ((a.length : Int) - ((cc a ct).length : Int)) * wayF ct le gr al us else 0) := by
  rw [wayF]
  have e : (cc a ct).map (fun c => if us.getD (ct.idxOf c) 0 = gr.getD (ct.idxOf c) 0 then 0 else wayF ct le gr al (bump us (ct.idxOf c))) = (cc a ct).map fun c => withF ct le gr al us c :=
    List.map_congr_left fun c hc => by
      have hm := (cc_mem.mp hc).2
      unfold withF bumpC
      rw [if_pos hm]
      simp only [hm, true_and]
  rw [e]
/-- how many entries the memory gains at most, if each place has at most b letters -/
def cap (b : Nat) : Nat → Nat
  | 0 => 0
  | r + 1 => (b + 1) * cap b r + 1
theorem cap_mono {b : Nat} {i j : Nat} (h : i ≤ j) : cap b i ≤ cap b j := by
  induction h with
  | refl => exact Nat.le_refl _
  | @step m _ ih =>
    refine Nat.le_trans ih ?_
    show _ ≤ (b + 1) * cap b m + 1
    rw [Nat.succ_mul]
    omega
theorem cap_wide {b c : Nat} (h : b ≤ c) : ∀ r, cap b r ≤ cap c r
  | 0 => Nat.le_refl _
  | r + 1 => Nat.succ_le_succ (Nat.mul_le_mul (Nat.succ_le_succ h) (cap_wide h r))
theorem cap_step (b r : Nat) : b * cap b r + cap b r ≤ cap b (r + 1) := by
  show _ ≤ (b + 1) * cap b r + 1
  rw [Nat.succ_mul]
  omega
/-- the most letters of a place -/
def wideOf (al : List (List Nat)) : Nat := al.foldr (fun a m => max a.length m) 0
theorem wide_le : ∀ {al : List (List Nat)} {a : List Nat}, a ∈ al → a.length ≤ wideOf al
  | b :: al, a, h => by
    show a.length ≤ max b.length (wideOf al)
    rcases List.mem_cons.mp h with rfl | h
    · exact Nat.le_max_left _ _
    · exact Nat.le_trans (wide_le h) (Nat.le_max_right _ _)
theorem wide_of {n : Nat} : ∀ {al : List (List Nat)}, (∀ a ∈ al, a.length ≤ n) → wideOf al ≤ n
  | [], _ => Nat.zero_le _
  | b :: al, h => Nat.max_le.mpr ⟨h b (List.mem_cons_self ..), wide_of fun a m => h a (List.mem_cons_of_mem _ m)⟩
end Gm

/-! max(ints, default=d) -/
namespace L2
open PySem PySem.Spec PyProof.Rows PySem.W
def mxDef (d : Int) : List Int → Int
  | [] => d
  | y :: ys => ys.foldl max y
def rMaxDef (K : PySem.W.Frag) : List V → List V → Hp → VK → Prop := fun vs zs H Q => ∃ (a : Addr) (ns : List Int) (d : Int), vs = [V.ref a] ∧ zs = [.int d] ∧ SqL K H a (ns.map V.int) ∧ Q (.int (mxDef d ns)) H
theorem dps_ints {K : PySem.W.Frag} {H : Hp} : ∀ c : List Int, DpAll K H (c.map V.int) (c.map PyData.int)
  | [] => .nil
  | x :: c => .cons (.int x) (dps_ints c)
theorem depth_ints : ∀ x : List Int, PyData.depthAll (x.map PyData.int) = 0 := fun x => by
  induction x with
  | nil => simp [PyData.depthAll]
  | cons k x ih =>
    show PyData.depthAll (.int k :: x.map PyData.int) = 0
    rw [PyData.depthAll, ih]
    simp [PyData.depth]
theorem cr_maxDef {X : Cx} (hc : X.calm = true) (hu : X.A.units + 8 < cLine) : CallRK X (.builtin "max") [Str.ofString "default"] (rMaxDef X.K) := by
  intro pins s σ H vs zs us ws Q I r rz h
  obtain ⟨a, ns, d, rfl, rfl, hs, q⟩ := h
  obtain ⟨its, rv, hl, _⟩ := I.list hs
  rw [Vals.ref1 r]
  obtain ⟨w1, rfl, td, e1⟩ := vals1 rz
  subst e1
  obtain ⟨as, hr⟩ := Dp.readsAll I _ _ _ (dps_ints ns) rv
  show wpAny _ _ (call (.builtin "max") [.ref a] [(Str.ofString "default", .int d td)]) _ _ s
  refine max_list_default (I.ok.hd hc) hl.isList (by simpa using hr) ?_ (by rw [depth_ints]; omega) (fun e h' tk hk => ?_) fun y ys i v h' tk bs e hi r hk => ?_
  · refine ⟨fun x hx y hy => ?_, fun x hx => ?_⟩
    · obtain ⟨i, _, rfl⟩ := List.mem_map.mp hx
      obtain ⟨j, _, rfl⟩ := List.mem_map.mp hy
      simp [alike]
    · obtain ⟨i, _, rfl⟩ := List.mem_map.mp hx
      exact fun z => nomatch z
  · obtain rfl : ns = [] := List.map_eq_nil_iff.mp e
    exact ⟨.int d, H, I.kept (t' := tk) hk, ⟨_, rfl⟩, q⟩
  · cases ns with
    | nil => cases e
    | cons n ns =>
      rw [List.map_cons] at e
      injection e with e1 e2
      subst e1 e2
      rw [maxD_ints] at r
      have hi' : its[i]? = some v := by simpa using hi
      have hlt := (List.getElem?_eq_some_iff.mp hi').1
      have hlen := rv.length
      obtain ⟨z, hz⟩ : ∃ z, ((n :: ns).map V.int)[i]? = some z := ⟨_, List.getElem?_eq_getElem (by omega)⟩
      obtain ⟨u, hu', ru⟩ := rv.get hz
      rw [hi'] at hu'
      cases hu'
      rw [List.getElem?_map] at hz
      cases hk2 : (n :: ns)[i]? with
      | none => rw [hk2] at hz; cases hz
      | some k =>
        rw [hk2] at hz
        obtain rfl := (Option.some.inj hz).symm
        obtain ⟨tk2, rfl⟩ := ru
        cases r
        exact ⟨.int (mxDef d (n :: ns)), H, I.kept (t' := tk) hk, ⟨_, rfl⟩, q⟩
end L2

/-! set(list of texts): how many there are -/
namespace GmS
open PySem PySem.Spec PyProof.Rows
def stepD (σ : List Str) (v : Str) : List Str := if σ.any (· == v) = true then σ else σ ++ [v]
def met (val : Nat → Str) (i : Nat) : List Str := ((List.range i).map val).foldl stepD []
theorem met_succ (val : Nat → Str) (i : Nat) : met val (i + 1) = stepD (met val i) (val i) := by
  unfold met; rw [List.range_succ, List.map_append, List.foldl_append]; rfl
theorem stepD_any (σ : List Str) (v k : Str) : (stepD σ v).any (· == k) = (σ.any (· == k) || decide (k = v)) := by
  unfold stepD
  by_cases h : σ.any (· == v) = true
  · rw [if_pos h]
    by_cases e : k = v
    · subst e; rw [h]; simp
    · simp [e]
  · rw [if_neg h, List.any_append]
    by_cases e : k = v
    · subst e; simp
    · have hb : (v == k) = false := by simpa [beq_iff_eq] using (fun h' : v = k => e h'.symm)
      simp [hb, e]
theorem stepD_len (σ : List Str) (v : Str) : (stepD σ v).length = if σ.any (· == v) then σ.length else σ.length + 1 := by
  unfold stepD; split <;> simp
theorem met_le (val : Nat → Str) : ∀ i, (met val i).length ≤ i
  | 0 => Nat.le_refl _
  | i + 1 => by
    rw [met_succ, stepD_len]
    have ih := met_le val i
    split <;> omega
theorem met_nd {xs : List Str} (nd : xs.Nodup) : ∀ i, i ≤ xs.length → met (fun i => xs.getD i ⟨#[]⟩) i = xs.take i
  | 0, _ => rfl
  | i + 1, hi => by
    have hi' : i < xs.length := hi
    rw [met_succ, met_nd nd i (by omega), List.take_succ_eq_append_getElem hi']
    have e : xs.getD i ⟨#[]⟩ = xs[i] := by rw [List.getD_eq_getElem?_getD, List.getElem?_eq_getElem hi']; rfl
    rw [e]
    unfold stepD
    rw [if_neg]
    intro h
    obtain ⟨y, hy, he⟩ := List.any_eq_true.mp h
    have he : y = xs[i] := by simpa using he
    obtain ⟨j, hj, hjy⟩ := List.getElem_of_mem hy
    rw [List.length_take] at hj
    rw [List.getElem_take] at hjy
    have := (List.getElem_inj nd).mp (hjy.trans he)
    omega
section
variable {prog : Program} {w : World} {A : Around} {R : Result → Shared → Prop} {I : Addr} {fp wr : List Addr} {G : Array GenState → Array GenState → Prop} {n : Nat} {P : Nat → Value → Prop} {St : Nat → Shared → Prop}
theorem loopS (W : WalksS prog w A.in1 I fp wr G n P St) (S : Addr) (hSf : S ∉ fp)
    (val : Nat → Str) (hval : ∀ i v, P i v → ∃ t, v = .str (val i) t) (hb : n + 1 < scanBound) :
    ∀ (k i : Nat) (s : Shared), n - i = k → i ≤ n → St i s →
      s.heap.SetOf (PySem.strKind prog w) S (fun k' => (met val i).any (· == k')) (met val i).length →
      (∀ s', Moved (S :: wr) G s s' → s'.heap.SetOf (PySem.strKind prog w) S (fun k' => (met val n).any (· == k')) (met val n).length → R (.ok (.ret .none)) s') →
      codeAny (model prog w) A (.builtin "set.update.loop" ⟨[.ref S, .ref I], []⟩) R s := by
  have hSw : S ∉ wr := fun h => hSf (W.sub _ h)
  have hsub : ∀ b ∈ wr, b ∈ S :: wr := fun b hb => List.mem_cons_of_mem _ hb
  intro k
  induction k with
  | zero =>
    intro i s hk hi hst hS hR
    have hin : i = n := by omega
    subst hin
    refine codeAny_builtin F.entry_set_update_loop ?_
    rw [Around.under_plainId F.plain_set_update_loop _]
    show wpAny _ A.in1 (pyNext (.ref I) >>= _) _ _ s
    refine wpAny_bind (W.done s _ _ hst fun s' hm => ?_)
    show wpAny _ A.in1 (ret Value.none) _ _ s'
    exact wpAny_pure (hR s' (hm.mono hsub) (by
      obtain ⟨o, es, ep, t, ho, rest⟩ := hS
      exact ⟨o, es, ep, t, hm.heap S _ hSw ho, rest⟩))
  | succ k ih =>
    intro i s hk hi hst hS hR
    have hlt : i < n := by omega
    refine codeAny_builtin F.entry_set_update_loop ?_
    rw [Around.under_plainId F.plain_set_update_loop _]
    show wpAny _ A.in1 (pyNext (.ref I) >>= _) _ _ s
    refine wpAny_bind (W.item i s _ _ hlt hst fun v s' hP hst' hm => ?_)
    obtain ⟨t, rfl⟩ := hval i v hP
    have hS' : s'.heap.SetOf (PySem.strKind prog w) S (fun k' => (met val i).any (· == k')) (met val i).length := by
      obtain ⟨o, es, ep, tb, ho, rest⟩ := hS
      exact ⟨o, es, ep, tb, hm.heap S _ hSw ho, rest⟩
    show wpAny _ A.in1 (holding [Value.str (val i) t] (setAdd S (.str (val i) t)) >>= _) _ _ s'
    refine wpAny_bind (wpAny_holding ?_)
    unfold setAdd
    refine wpAny_holding ?_
    have isK : (PySem.strKind prog w).is (val i) (.str (val i) t) = true := by
      show Value.isStrOf (val i) (.str (val i) t) = true
      simp [Value.isStrOf]
    refine wpAny_bind ((PySem.strKind prog w).pyHash (k := val i) isK ?_)
    have hroom : (met val i).length + 1 < scanBound := by have := met_le val i; omega
    refine wpAny_setAddHashed_of (knd := PySem.strKind prog w) (s := { s' with toks := s'.toks + 1 }) isK rfl hS' hroom fun h' hsb hS2 => ?_
    have hSi : h'.SetOf (PySem.strKind prog w) S (fun k' => (met val (i + 1)).any (· == k')) (met val (i + 1)).length :=
      SetOf_congr hS2 (fun k' => by rw [met_succ, stepD_any]) (by rw [met_succ, stepD_len])
    refine wpAny_pure ⟨plainId_quiet F.plain_set_update_loop _, ih (i + 1) _ (by omega) hlt (W.frame _ s' _ _ hst' (Nat.le_succ _) fun b hb o e => ?_) hSi fun s'' hm'' hS'' => ?_⟩
    · rw [hsb.2 b (fun h : b = S => hSf (by rw [← h]; exact hb))]; exact e
    · refine hR s'' (Moved.trans W.gtrans ((hm.mono hsub).then_heap (Nat.le_succ _) fun b o hb e => ?_) hm'') hS''
      rw [hsb.2 b (fun h : b = S => hb (by rw [h]; exact List.mem_cons_self))]; exact e
end
theorem strsAt : ∀ {vs : List Value} {ns : List Str}, StrsAre vs ns → ∀ (i : Nat) (v : Value), vs[i]? = some v → ∃ t, v = .str (ns.getD i ⟨#[]⟩) t
  | _, _, .nil, i, v, h => by simp at h
  | _, _, .cons n t hr, 0, v, h => by simp at h; exact ⟨t, by rw [← h]; rfl⟩
  | _, _, .cons n t hr, i + 1, v, h => by
    simp only [List.getElem?_cons_succ] at h
    obtain ⟨t', e⟩ := strsAt hr i v h
    exact ⟨t', by rw [e]; rfl⟩
section
variable {prog : Program} {w : World} {A : Around} {E : Value → Shared → Prop} {s : Shared}
theorem call_setS {l : Addr} {items : Array Value} {ns : List Str} {Q : Value → Shared → Prop}
    (hh : A.handled = none) (hl : s.heap.IsList l items) (hi : StrsAre items.toList ns) (hb : items.size + 1 < scanBound)
    (h : ∀ (h' : Heap) (tk : Nat), h'.SetOf (PySem.strKind prog w) s.heap.objs.size (fun k' => (met (fun i => ns.getD i ⟨#[]⟩) items.size).any (· == k')) (met (fun i => ns.getD i ⟨#[]⟩) items.size).length →
      (∀ b o, b < s.heap.objs.size → s.heap.get? b = some o → h'.get? b = some o) → Q (.ref s.heap.objs.size) { s with heap := h', toks := tk }) :
    wpAny (model prog w) A (call (.type "set") [.ref l]) Q E s := by
  obtain ⟨c, tl, hmro⟩ := F.called_set.mro
  have hmade := F.called_set.made
  have hsub := F.called_set.sub
  refine wpAny_call (codeAny_of_tree ?_)
  show wpAny _ _ (callAny (.type "set") _) _ _ _
  refine wpAny_pure ⟨Code.quiet_builtin _ (by decide +kernel), codeAny_builtin F.entry_type_call ?_⟩
  rw [Around.under_plain (weight_type_call_type "set" [.ref l] []) rfl]
  have h1 := F.called_set.notType
  have h2 := F.called_set.canCreate
  have hct := F.typeCall_set_1 (.ref l)
  repeat (any_goals (first | assumption | wp_step))

  refine codeAny_mono (code_set_new_1 (.ref l) (E := E) (Q₁ := fun obj s₁ => ∃ led : Bool, obj = .ref s.heap.objs.size ∧ s₁ = { s with heap := s.heap.push { cls := .type "set", dict := none, data := .set #[] 0 (.fresh 0 0 led) } }) fun led => ⟨led, rfl, rfl⟩) fun r s₁ hr => ?_
  cases r with
  | error e => exact hr
  | ok fl =>
    cases fl with
    | ret obj =>
      obtain ⟨led, rfl, rfl⟩ := hr
      have hS : (s.heap.push { cls := .type "set", dict := none, data := .set #[] 0 (.fresh 0 0 led) }).get? s.heap.objs.size = some { cls := .type "set", dict := none, data := .set #[] 0 (.fresh 0 0 led) } := Heap.get?_push_size _ rfl
      have hT : Shared.TypeIs { s with heap := s.heap.push { cls := .type "set", dict := none, data := .set #[] 0 (.fresh 0 0 led) } } (.ref s.heap.objs.size) "set" := ⟨_, hS, rfl⟩
      have hli := F.called_set.init.lookup
      have hbi := F.called_set.init.bind (.ref s.heap.objs.size)
      repeat (any_goals (first | assumption | wp_step))

      refine codeAny_mono (codeAny_call_builtin (R := wants (fun r s₂ => r = .none ∧ ∃ h' tk, s₂ = { s with heap := h', toks := tk } ∧
          h'.SetOf (PySem.strKind prog w) s.heap.objs.size (fun k' => (met (fun i => ns.getD i ⟨#[]⟩) items.size).any (· == k')) (met (fun i => ns.getD i ⟨#[]⟩) items.size).length ∧
          (∀ b o, b < s.heap.objs.size → s.heap.get? b = some o → h'.get? b = some o)) E) F.called_set.init.plain F.entry_set_init (check_set_init_1 hT ?_)) fun r₂ s₂ hr₂ => ?_
      · obtain ⟨ol, hol, hcl, nl, hdl⟩ := hl
        obtain ⟨ocls, odict, odata, oslots⟩ := ol
        simp only at hcl hdl
        subst hcl; subst hdl
        have hol' : (s.heap.push { cls := .type "set", dict := none, data := .set #[] 0 (.fresh 0 0 led) }).get? l = some { cls := .type "list", dict := odict, data := .seq items nl, slots := oslots } := Heap.get?_push_of_some _ hol
        have hsls := F.sub_list_set
        have hslf := F.sub_list_frozenset
        have hne : (Value.type "list" == Value.type "dict") = false := by decide
        have hl1 : (s.heap.push { cls := .type "set", dict := none, data := .set #[] 0 (.fresh 0 0 led) }).IsList l items := ⟨_, hol', rfl, nl, rfl⟩
        unfold Builtin.«set.__init__» noKeywords Builtin.Frozenset.updateFrom
        generalize hPI : pyIter = PI
        wp_walk
        subst hPI

        refine wpAny_pyIter_list hl1 ?_
        refine wpAny_bind (wpAny_runValue ?_)
        have hlS : l < s.heap.objs.size := Heap.lt_size hol
        have hh3 : A.in1.in1.in1.handled = none := by simp [hh]
        have hneI : l ≠ (s.heap.push { cls := .type "set", dict := none, data := .set #[] 0 (.fresh 0 0 led) }).objs.size := by
          rw [Heap.size_push]; exact Nat.ne_of_lt (Nat.lt_succ_of_lt hlS)
        have hSf : s.heap.objs.size ∉ [(s.heap.push { cls := .type "set", dict := none, data := .set #[] 0 (.fresh 0 0 led) }).objs.size, l] := by
          rw [Heap.size_push]; simp only [List.mem_cons, List.mem_singleton, List.not_mem_nil, or_false, not_or]
          exact ⟨Nat.ne_of_lt (Nat.lt_succ_self _), Nat.ne_of_gt hlS⟩
        have hval : ∀ (i : Nat) (v : Value), items[i]? = some v → ∃ t, v = .str ((fun i => ns.getD i ⟨#[]⟩) i) t := fun i v hv =>
          strsAt hi i v (by rw [Array.getElem?_toList]; exact hv)
        refine loopS ((Walks.list hh3 _ l hneI items).toS) s.heap.objs.size
          hSf (fun i => ns.getD i ⟨#[]⟩) hval hb (items.size - 0) 0 _ (by omega) (Nat.zero_le _)
          ⟨⟨_, Heap.get?_push_size _ rfl, rfl, rfl⟩, (hl1.push _)⟩ ?hS0 ?hR
        case hS0 =>
          have hget : ((s.heap.push { cls := .type "set", dict := none, data := .set #[] 0 (.fresh 0 0 led) }).push { cls := .type "list_iterator", data := .fields #[.ref l, .int 0 0] }).get? s.heap.objs.size
              = some { cls := .type "set", dict := none, data := .set #[] 0 (.fresh 0 0 led) } := Heap.get?_push_of_some _ hS
          exact PyProof.Rows.SetOf_congr ((PyProof.Rows.setObjOf_fresh (knd := PySem.strKind prog w) led).setOf hget (by unfold scanBound; omega)) (fun _ => rfl) rfl
        case hR =>
          intro s' hm hS'
          obtain ⟨h', g', d', tk', os'⟩ := s'
          have eg : g' = s.gens := hm.gens
          have ed : d' = s.drawn := hm.drawn
          have eo : os' = s.os := hm.os
          subst eg; subst ed; subst eo
          show wpAny _ _ _ _ _ _
          refine wpAny_pure ?_
          show wpAny _ _ (ret Value.none) _ _ _
          refine wpAny_pure ⟨rfl, h', tk', rfl, hS', fun b o hb e => ?_⟩
          have hb1 : b ≠ s.heap.objs.size := Nat.ne_of_lt hb
          have hb2 : b ≠ (s.heap.push { cls := .type "set", dict := none, data := .set #[] 0 (.fresh 0 0 led) }).objs.size := by
            rw [Heap.size_push]; exact Nat.ne_of_lt (Nat.lt_succ_of_lt hb)
          exact hm.heap b o (by simp only [List.mem_cons, List.mem_singleton, List.not_mem_nil, or_false, not_or]; exact ⟨hb1, hb2⟩) (Heap.get?_push_of_some _ (Heap.get?_push_of_some _ e))

      · cases r₂ with
        | error e => exact hr₂
        | ok fl₂ =>
          cases fl₂ with
          | ret r =>
            obtain ⟨rfl, h', tk, rfl, hS', hk'⟩ := hr₂
            repeat (any_goals (first | assumption | wp_step))
            exact h _ _ hS' hk'
          | _ => exact hr₂.elim
    | _ => exact hr.elim
end
/-- len(set(xs)), xs a list of different texts -/
def tLenSetN (K : PySem.W.Frag) (ta : L2.TE) : L2.TE := fun σ H Q => ta σ H fun x H1 => ∃ l, ∃ xs : List Str, x = .ref l ∧ L2.SqL K H1 l (xs.map L2.V.str) ∧ xs.Nodup ∧ xs.length + 1 < scanBound ∧ Q (.int xs.length) H1
open L2 in
theorem pe_lenSetN {X : Cx} {a : Expr} {ta : TE} {p p2 q pos : Pos} (hc : X.calm = true) (hg : Gl X "len") (hm : X.mg "len" = none) (hg2 : Gl X "set") (hm2 : X.mg "set" = none) (ha : PE X a ta)
    (na : starEach [a] X.env = (false, eval a X.env) :: starEach [] X.env := by rfl) : PE X (.Call (.Name "len" p) [.Call (.Name "set" p2) [a] [] q] [] pos) (tLenSetN X.K ta) := by
  refine ⟨fun pins s σ H Q I h => ?_⟩
  refine Call_ (ld_blt I hg hm boot_len ?_)
  refine PyProof.Rows.callWith_builtin1 (PyProof.Rows.args_cons ?_ rfl) rfl rfl
  refine Call_ (ld_blt I hg2 hm2 boot_set ?_)
  refine PyProof.Rows.callWith_type1 (PyProof.Rows.args_cons (thn (ha.run pins s σ H _ I h) fun v s1 ⟨x, H1, I1, r1, q1⟩ => PyProof.Rows.args_nil ?_) na) na rfl
  obtain ⟨l, xs, rfl, hq, hnd, hsb, q1⟩ := q1
  cases r1
  obtain ⟨its, r, pl, hz⟩ := I1.list hq
  have hl : its.toArray.size = xs.length := by rw [List.size_toArray, ← r.length, List.length_map]
  refine call_setS (ns := xs) (I1.ok.hd hc) pl.isList (by simpa using strsAre_of r) (by rw [hl]; exact hsb) fun h' tk hS hk => ?_
  refine PyProof.Rows.args_nil ?_
  rw [hl, met_nd hnd _ (Nat.le_refl _), List.take_length] at hS
  obtain ⟨o, es, ep, t, ho, hex, hd, _, _, _, hf, hn⟩ := hS
  have I2 : Inv X pins σ H1 { s1 with heap := h', toks := tk } := I1.kept fun b o e => hk b o (Heap.lt_size e) e
  have h4 : xs.length < 4096 := by unfold scanBound at hsb; omega
  refine call_len_set ho hex hd hf (by rw [hn] <;> omega) ⟨.int xs.length, H1, I2.tok _, ⟨_, by rw [hn]⟩, q1⟩
end GmS

/-! sets of texts that can be walked: set(list of texts) -/
namespace GmR
open PySem PySem.Spec PyProof.Rows L2
theorem strs_len : ∀ {vs : List Value} {ns : List Str}, StrsAre vs ns → vs.length = ns.length
  | _, _, .nil => rfl
  | _, _, .cons n t h => by rw [List.length_cons, List.length_cons, strs_len h]
def keyT (e : Int × Value) : Str := match e.2 with | .str k _ => k | _ => ⟨#[]⟩
def GoodT (w : World) (e : Int × Value) : Prop := ∃ k tk, e.2 = Value.str k tk ∧ e.1 = hashStr w k

/-- the set of ints at a: S its members, n their number; its table rises and can be walked -/
def SetT (w : World) (h : Heap) (a : Addr) (S : Str → Bool) (n : Nat) : Prop :=
  ∃ o es ep t, h.get? a = some o ∧ o.ExactSet ∧ o.data = .set es ep t ∧ (∀ e ∈ es.toList, GoodT w e) ∧ (es.toList.map keyT).Nodup ∧ (∀ k, S k = true ↔ k ∈ es.toList.map keyT) ∧
    es.size < scanBound ∧ t.fits es.size = true ∧ es.size = n ∧ Ris t.place.toList ∧ (w.params.followText "set-order" = true ∨ t.led = true)

section
variable {P : Program} {w : World} {h h' : Heap} {a : Addr} {S : Str → Bool} {n : Nat}

theorem SetT.at (R : SetT w h a S n) (k : ∀ o, h.get? a = some o → h'.get? a = some o) : SetT w h' a S n := by
  obtain ⟨o, es, ep, t, ho, r⟩ := R
  exact ⟨o, es, ep, t, k o ho, r⟩
theorem SetT.lt (R : SetT w h a S n) : a < h.objs.size := by
  obtain ⟨o, es, ep, t, ho, r⟩ := R
  exact Heap.lt_size ho
theorem SetT.congr {S' : Str → Bool} (R : SetT w h a S n) (e : ∀ k, S' k = S k) : SetT w h a S' n := by
  have q : S' = S := funext e
  rw [q]; exact R
theorem goodT_elems {l : List (Int × Value)} (g : ∀ e ∈ l, GoodT w e) : ElemsOf (strKind P w) l := fun e he => by
  obtain ⟨k, tk, h1, h2⟩ := g e he
  exact ⟨⟨k, by rw [h1]; exact strKind_is P w k tk, h2⟩, by rw [h1] <;> rfl⟩
theorem goodT_is {e : Int × Value} (g : GoodT w e) (k : Str) : (strKind P w).is k e.2 = true ↔ keyT e = k := by
  obtain ⟨k0, tk, h1, _⟩ := g
  unfold keyT
  rw [h1]
  show (Value.isStrOf k (.str k0 tk) = true) ↔ k0 = k
  simp [Value.isStrOf]
theorem goodT_mem {l : List (Int × Value)} (g : ∀ e ∈ l, GoodT w e) (k : Str) : k ∈ l.map keyT ↔ ∃ e ∈ l, (strKind P w).is k e.2 = true := by
  rw [List.mem_map]
  constructor
  · rintro ⟨e, he, q⟩
    exact ⟨e, he, (goodT_is (g e he) k).2 q⟩
  · rintro ⟨e, he, q⟩
    exact ⟨e, he, (goodT_is (g e he) k).1 q⟩
theorem SetT.setOf (R : SetT w h a S n) : h.SetOf (strKind P w) a S n := by
  obtain ⟨o, es, ep, t, ho, hx, hd, g, nd, hm, hb, hf, hn, _⟩ := R
  exact ⟨o, es, ep, t, ho, hx, hd, goodT_elems g, fun k => (hm k).trans (goodT_mem g k), hb, hf, hn⟩
end

section
variable {P : Program} {w : World} {A : Around} {E : Value → Shared → Prop} {s : Shared} {a : Addr} {S : Str → Bool} {n : Nat}

/-! ### add -/
theorem storeT_at {h : Heap} {a : Addr} {o : Obj} {es es' : Array (Int × Value)} {ep : Nat} {t t' : SetTable} (ho : h.get? a = some o) (hd : o.data = .set es ep t) :
    (h.update a (Obj.putSet es' t')).get? a = some { o with data := .set es' (ep + 1) t' } := by
  have q := Heap.get?_update_self (Obj.putSet es' t') ho (by rw [putSet_of es' t' hd]; rfl)
  rw [putSet_of es' t' hd] at q
  exact q

theorem setT_add_tail {g : Bool → Sem Unit} (hg : ∀ (b : Bool) (s₁ : Shared) (Q' : Unit → Shared → Prop), Q' () s₁ → wpAny (model P w) A (g b) Q' E s₁)
    {o : Obj} {es : Array (Int × Value)} {ep : Nat} {t : SetTable} (ho : s.heap.get? a = some o) (hex : o.ExactSet) (hd : o.data = .set es ep t)
    {es1 : Array (Int × Value)} {t2 : SetTable} {S' : Str → Bool} (g1 : ∀ e ∈ es1.toList, GoodT w e) (nd1 : (es1.toList.map keyT).Nodup) (m1 : ∀ k, S' k = true ↔ k ∈ es1.toList.map keyT)
    (hb1 : es1.size < scanBound) (hf2 : t2.fits es1.size = true) (hr : Ris t2.place.toList) (hl : w.params.followText "set-order" = true ∨ t2.led = true) {wasDummy : Bool} {R : Option Bool → Shared → Prop}
    (hR : ∀ h', Heap.SameBut a s.heap h' → SetT w h' a S' es1.size → R (some true) { s with heap := h' }) :
    wpAny (model P w) A (do
        storeSet a es1 t2
        if (!wasDummy && t2.tooFull) = true then do
            g (relayAll t2 es1 (SetTable.grown es1.size)).2.2
            storeSet a (relayAll t2 es1 (SetTable.grown es1.size)).1 (relayAll t2 es1 (SetTable.grown es1.size)).2.1
            pure (some true)
          else pure (some true)) R E s := by
  refine wpAny_bind (wpAny_storeSet_of ho hd ?_ (fits_of_scanBound hb1))
  have ho1 := storeT_at (es' := es1) (t' := t2) ho hd
  have sb1 := Heap.SameBut.update s.heap a (Obj.putSet es1 t2)
  split
  · have pm := relayAll_perm t2 es1 (SetTable.grown es1.size)
    have hf3 := relayAll_fits t2 es1 (SetTable.grown es1.size)
    have hr3 := relayAll_ris t2 es1 (SetTable.grown es1.size)
    have hl3 := relayAll_led t2 es1 (SetTable.grown es1.size)
    generalize relayAll t2 es1 (SetTable.grown es1.size) = Z at pm hf3 hr3 hl3 ⊢
    obtain ⟨es2, t3, gave⟩ := Z
    dsimp only at pm hf3 hr3 hl3 ⊢
    have hsz : es2.size = es1.size := by rw [← Array.length_toList, pm.length_eq, Array.length_toList]
    have hb2 : es2.size < scanBound := by rw [hsz]; exact hb1
    refine wpAny_bind (hg _ _ _ ?_)
    refine wpAny_bind (wpAny_storeSet_of ho1 rfl ?_ (fits_of_scanBound hb2))
    have ho2 := storeT_at (es' := es2) (t' := t3) ho1 rfl
    refine wpAny_pure (hR _ (sb1.trans (Heap.SameBut.update _ a _)) ?_)
    exact ⟨_, es2, _, t3, ho2, hex, rfl, fun e he => g1 e (pm.mem_iff.mp he), (pm.map keyT).nodup_iff.mpr nd1, fun k => (m1 k).trans (pm.map keyT).mem_iff.symm, hb2, hf3, hsz, hr3,
      hl.imp id fun z => by rw [hl3]; exact z⟩
  · exact wpAny_pure (hR _ sb1 ⟨_, es1, _, t2, ho1, hex, rfl, g1, nd1, m1, hb1, hf2, rfl, hr, hl⟩)

theorem setT_add_hashed {k : Str} {tk : Tok} {Q : Bool → Shared → Prop} (R : SetT w s.heap a S n) (room : n + 1 < scanBound)
    (hQ : ∀ h', Heap.SameBut a s.heap h' → SetT w h' a (fun j => S j || decide (j = k)) (if S k = true then n else n + 1) → Q (!S k) { s with heap := h' }) :
    wpAny (model P w) A (setAddHashed a (.str k tk) ((strKind P w).hash k)) Q E s := by
  obtain ⟨o, es, ep, t, ho, hex, hd, g, nd, hm, hb, hf, hn, hr, hl⟩ := R
  have hkey : (strKind P w).is k (.str k tk) = true := strKind_is P w k tk
  have hsc : (Value.str k tk).scannable = true := rfl
  have hel : ElemsOf (strKind P w) es.toList := goodT_elems g
  unfold setAddHashed setAddHashedIn
  refine wpAny_holding (wpAny_bind (wpAny_setState_of ho hd hf ?_))
  dsimp only
  rw [byScan_of hsc hb hel]
  simp only [↓reduceIte]
  unfold setAddByScan
  refine wpAny_bind ?_
  refine wpAny_bind (wpAny_rule ?_)
  refine wpAny_bind (wpAny_setScan_of hkey ho hd hf hel ?_)
  cases hfi : List.findIdx? (fun e => (strKind P w).is k e.2) es.toList with
  | some j =>
    dsimp only
    obtain ⟨hj, pj, _⟩ := List.findIdx?_eq_some_iff_getElem.mp hfi
    have hSk : S k = true := (hm k).2 ((goodT_mem (P := P) (w := w) g k).2 ⟨es.toList[j], List.getElem_mem hj, pj⟩)
    refine wpAny_pure (wpAny_pure ?_)
    have q := hQ s.heap (Heap.SameBut.refl a s.heap) ⟨o, es, ep, t, ho, hex, hd, g, nd, fun i => by
      rw [Bool.or_eq_true, decide_eq_true_eq, ← hm i]
      exact ⟨fun z => z.elim id (fun e => e ▸ hSk), .inl⟩, hb, hf, by rw [if_pos hSk]; exact hn, hr, hl⟩
    rw [hSk] at q
    exact q
  | none =>
    dsimp only
    have hnk : k ∉ es.toList.map keyT := fun z => by
      obtain ⟨e, he, q⟩ := (goodT_mem (P := P) (w := w) g k).1 z
      have c := List.findIdx?_eq_none_iff.mp hfi e he
      rw [q] at c
      cases c
    have hSk : S k = false := by
      cases q : S k with
      | false => rfl
      | true => exact absurd ((hm k).1 q) hnk
    have hgw : ∀ (b : Bool) {s₁ : Shared} {Q' : Unit → Shared → Prop}, Q' () s₁ → wpAny (model P w) A (match b with | true => rule "set.scan.the-table-gave-way" | false => pure ()) Q' E s₁ :=
      fun b s₁ Q' q => by cases b <;> first | exact wpAny_pure q | exact wpAny_rule q
    have pm := layNew_perm t es ((strKind P w).hash k) (.str k tk)
    have hf1 := layNew_fits t es ((strKind P w).hash k) (.str k tk)
    have hr1 := layNew_ris t es ((strKind P w).hash k) (.str k tk) hr
    have hl1 := layNew_led t es ((strKind P w).hash k) (.str k tk)
    generalize layNew t es ((strKind P w).hash k) (.str k tk) = Z at pm hf1 hr1 hl1 ⊢
    obtain ⟨es1, t1, wasDummy, gave⟩ := Z
    dsimp only at pm hf1 hr1 hl1 ⊢
    rw [Array.toList_push] at pm
    have pc : es1.toList.Perm (((strKind P w).hash k, Value.str k tk) :: es.toList) := pm.trans (List.perm_append_singleton _ _)
    have pk : (es1.toList.map keyT).Perm (k :: es.toList.map keyT) := pc.map keyT
    have g1 : ∀ e ∈ es1.toList, GoodT w e := fun e he => by
      rcases List.mem_cons.mp (pc.mem_iff.mp he) with z | z
      · rw [z]; exact ⟨k, tk, rfl, rfl⟩
      · exact g e z
    have nd1 : (es1.toList.map keyT).Nodup := pk.nodup_iff.mpr (List.nodup_cons.mpr ⟨hnk, nd⟩)
    have m1 : ∀ i, (S i || decide (i = k)) = true ↔ i ∈ es1.toList.map keyT := fun i => by
      rw [Bool.or_eq_true, decide_eq_true_eq, hm i, pk.mem_iff, List.mem_cons]
      exact Or.comm
    have hsz : es1.size = n + 1 := by rw [← Array.length_toList, pc.length_eq, List.length_cons, Array.length_toList, hn]
    have hb1 : es1.size < scanBound := by rw [hsz]; exact room
    have hled : w.params.followText "set-order" = true ∨ t1.led = true := hl.imp id fun z => by rw [hl1]; exact z
    have fin : ∀ h', Heap.SameBut a s.heap h' → SetT w h' a (fun j => S j || decide (j = k)) es1.size → Q true { s with heap := h' } := fun h' sb r => by
      have q := hQ h' sb
      rw [hSk] at q
      rw [hsz] at r
      exact q r
    refine wpAny_bind (hgw _ ?_)
    split
    · refine wpAny_bind ?_
      rw [hashByValue_scannable 8 hsc]
      refine wpAny_pure ?_
      refine setT_add_tail ?_ ho hex hd g1 nd1 m1 hb1 ?_ ?_ ?_ ?_
      · intro b s₁ Q' q; cases b <;> first | exact wpAny_pure q | exact wpAny_rule q
      · first | (split <;> first | exact hf1 | exact SetTable.fits_plain_off hf1) | exact hf1
      · first | (split <;> exact hr1) | exact hr1
      · first | (split <;> exact hled) | exact hled
      · intro h' sb r; dsimp only; exact wpAny_pure (fin h' sb r)
    · refine wpAny_bind (wpAny_pure ?_)
      simp only [↓reduceIte]
      refine setT_add_tail ?_ ho hex hd g1 nd1 m1 hb1 hf1 hr1 hled ?_
      · intro b s₁ Q' q; cases b <;> first | exact wpAny_pure q | exact wpAny_rule q
      · intro h' sb r; dsimp only; exact wpAny_pure (fin h' sb r)

end

theorem setT_new_at {w : World} {h : Heap} {a : Addr} {ns : List Str} (ho : h.get? a = some { cls := .type "set", dict := none, data := .set #[] 0 (.fresh 0 0 (!w.params.followText "set-order")) }) : SetT w h a (fun j => decide (j ∈ ns.take 0)) 0 :=
  ⟨_, #[], 0, _, ho, ⟨rfl, rfl, rfl⟩, rfl, (fun e he => by simp at he), (by simp), (fun k => by simp), (by decide), (by rfl), rfl, List.Pairwise.nil, by
    show _ ∨ (!w.params.followText "set-order") = true
    cases w.params.followText "set-order"
    · exact .inr rfl
    · exact .inl rfl⟩
section
variable {P : Program} {w : World} {A : Around} {E : Value → Shared → Prop} {s : Shared}
theorem set_update_strs {I : Addr} {fp wr : List Addr} {G : Array GenState → Array GenState → Prop} {n : Nat} {Pv : Nat → Value → Prop} {St : Nat → Shared → Prop} {R : Result → Shared → Prop}
    (W : WalksS P w A.in1 I fp wr G n Pv St) (S : Addr) (hSf : S ∉ fp) (ns : List Str) (hn : n = ns.length) (hb : ns.length + 1 < scanBound) (hval : ∀ i v, Pv i v → ∃ k t, ns[i]? = some k ∧ v = .str k t) :
    ∀ (k i : Nat) (s : Shared), n - i = k → i ≤ n → St i s → (∃ c, c ≤ i ∧ SetT w s.heap S (fun j => decide (j ∈ ns.take i)) c) →
      (∀ s' c, Moved (S :: wr) G s s' → c ≤ n → SetT w s'.heap S (fun j => decide (j ∈ ns)) c → R (.ok (.ret .none)) s') →
      codeAny (model P w) A (.builtin "set.update.loop" ⟨[.ref S, .ref I], []⟩) R s := by
  have hSw : S ∉ wr := fun h => hSf (W.sub _ h)
  have hsub : ∀ b ∈ wr, b ∈ S :: wr := fun b hb => List.mem_cons_of_mem _ hb
  intro k
  induction k with
  | zero =>
    intro i s hk' hi hst ⟨c, hc, hS⟩ hR
    have hin : i = n := by omega
    subst hin
    refine codeAny_builtin F.entry_set_update_loop ?_
    rw [Around.under_plainId F.plain_set_update_loop _]
    show wpAny _ A.in1 (pyNext (.ref I) >>= _) _ _ s
    refine wpAny_bind (W.done s _ _ hst fun s' hm => ?_)
    show wpAny _ A.in1 (ret Value.none) _ _ s'
    have e : ns.take i = ns := List.take_of_length_le (by omega)
    rw [e] at hS
    exact wpAny_pure (hR s' c (hm.mono hsub) hc (hS.at fun o e => hm.heap S o hSw e))
  | succ k ih =>
    intro i s hk' hi hst ⟨c, hc, hS⟩ hR
    have hlt : i < n := by omega
    refine codeAny_builtin F.entry_set_update_loop ?_
    rw [Around.under_plainId F.plain_set_update_loop _]
    show wpAny _ A.in1 (pyNext (.ref I) >>= _) _ _ s
    refine wpAny_bind (W.item i s _ _ hlt hst fun v s' hP hst' hm => ?_)
    obtain ⟨z, t, hz, rfl⟩ := hval i v hP
    have hS' : SetT w s'.heap S (fun j => decide (j ∈ ns.take i)) c := hS.at fun o e => hm.heap S o hSw e
    show wpAny _ A.in1 (holding [Value.str z t] (setAdd S (.str z t)) >>= _) _ _ s'
    refine wpAny_bind (wpAny_holding ?_)
    unfold setAdd
    refine wpAny_holding ?_
    refine wpAny_bind ((strKind P w).pyHash (k := z) (strKind_is _ _ _ _) ?_)
    refine setT_add_hashed (s := { s' with toks := s'.toks + 1 }) hS' (by omega) fun h' hsb hS2 => ?_
    have hS3 : SetT w h' S (fun j => decide (j ∈ ns.take (i + 1))) (if decide (z ∈ ns.take i) = true then c else c + 1) := hS2.congr fun j => by
      rw [List.take_add_one, hz]
      simp [List.mem_append]
    have hc3 : (if decide (z ∈ ns.take i) = true then c else c + 1) ≤ i + 1 := by
      split <;> omega
    refine wpAny_pure ⟨plainId_quiet F.plain_set_update_loop _, ih (i + 1) _ (by omega) hlt (W.frame _ s' _ _ hst' (Nat.le_succ _) fun b hb o e => ?_) ⟨_, hc3, hS3⟩ fun s'' c2 hm'' hc'' hS'' => ?_⟩
    · rw [hsb.2 b (fun h : b = S => hSf (by rw [← h]; exact hb))]; exact e
    · refine hR s'' c2 (Moved.trans W.gtrans ((hm.mono hsub).then_heap (Nat.le_succ _) fun b o hb e => ?_) hm'') hc'' hS''
      rw [hsb.2 b (fun h : b = S => hb (by rw [h]; exact List.mem_cons_self))]; exact e


set_option maxRecDepth 100000 in
set_option maxHeartbeats 3200000 in
theorem call_set_lstS {l : Addr} {items : Array Value} (ns : List Str) {Q : Value → Shared → Prop} (hh : A.handled = none) (hl : s.heap.IsList l items) (hit : StrsAre items.toList ns) (hb : ns.length + 1 < scanBound)
    (h : ∀ (h' : Heap) (tk c : Nat), SetT w h' s.heap.objs.size (fun j => decide (j ∈ ns)) c → c ≤ ns.length → (∀ b o, s.heap.get? b = some o → h'.get? b = some o) → Q (.ref s.heap.objs.size) { s with heap := h', toks := tk }) :
    wpAny (model P w) A (call (.type "set") [.ref l]) Q E s := by
  have hisz : items.size = ns.length := by
    have q := strs_len hit
    rw [Array.length_toList] at q
    exact q
  obtain ⟨c, tl, hmro⟩ := F.called_set.mro
  have hmade := F.called_set.made
  have hsub := F.called_set.sub
  refine wpAny_call (codeAny_of_tree ?_)
  show wpAny _ _ (callAny (.type "set") _) _ _ _
  refine wpAny_pure ⟨Code.quiet_builtin _ (by decide +kernel), codeAny_builtin F.entry_type_call ?_⟩
  rw [Around.under_plain (weight_type_call_type "set" [.ref l] []) rfl]
  have h1 := F.called_set.notType
  have h2 := F.called_set.canCreate
  have hct := F.typeCall_set_1 (.ref l)
  repeat (any_goals (first | assumption | wp_step))

  refine codeAny_mono (L2.code_set_led1 (.ref l) (E := E) (Q₁ := fun obj s₁ => obj = .ref s.heap.objs.size ∧ s₁ = { s with heap := s.heap.push { cls := .type "set", dict := none, data := .set #[] 0 (.fresh 0 0 (!w.params.followText "set-order")) } }) ⟨rfl, rfl⟩) fun r s₁ hr => ?_
  cases r with
  | error e => exact hr
  | ok fl =>
    cases fl with
    | ret obj =>
      obtain ⟨rfl, rfl⟩ := hr
      have hS : (s.heap.push { cls := .type "set", dict := none, data := .set #[] 0 (.fresh 0 0 (!w.params.followText "set-order")) }).get? s.heap.objs.size = some { cls := .type "set", dict := none, data := .set #[] 0 (.fresh 0 0 (!w.params.followText "set-order")) } := Heap.get?_push_size _ rfl
      have hT : Shared.TypeIs { s with heap := s.heap.push { cls := .type "set", dict := none, data := .set #[] 0 (.fresh 0 0 (!w.params.followText "set-order")) } } (.ref s.heap.objs.size) "set" := ⟨_, hS, rfl⟩
      have hli := F.called_set.init.lookup
      have hbi := F.called_set.init.bind (.ref s.heap.objs.size)
      repeat (any_goals (first | assumption | wp_step))

      refine codeAny_mono (codeAny_call_builtin (R := wants (fun r s₂ => r = .none ∧ ∃ h' tk c, s₂ = { s with heap := h', toks := tk } ∧ SetT w h' s.heap.objs.size (fun j => decide (j ∈ ns)) c ∧ c ≤ ns.length ∧
          (∀ b o, s.heap.get? b = some o → h'.get? b = some o)) E) F.called_set.init.plain F.entry_set_init (check_set_init_1 hT ?_)) fun r₂ s₂ hr₂ => ?_
      · obtain ⟨ol, hol, hcl, nl, hdl⟩ := hl
        obtain ⟨ocls, odict, odata, oslots⟩ := ol
        simp only at hcl hdl
        subst hcl; subst hdl
        have hol' : (s.heap.push { cls := .type "set", dict := none, data := .set #[] 0 (.fresh 0 0 (!w.params.followText "set-order")) }).get? l = some { cls := .type "list", dict := odict, data := .seq items nl, slots := oslots } := Heap.get?_push_of_some _ hol
        have hsls := F.sub_list_set
        have hslf := F.sub_list_frozenset
        have hne : (Value.type "list" == Value.type "dict") = false := by decide
        have hl1 : (s.heap.push { cls := .type "set", dict := none, data := .set #[] 0 (.fresh 0 0 (!w.params.followText "set-order")) }).IsList l items := ⟨_, hol', rfl, nl, rfl⟩
        unfold Builtin.«set.__init__» noKeywords Builtin.Frozenset.updateFrom
        generalize hPI : pyIter = PI
        wp_walk
        subst hPI

        refine wpAny_pyIter_list hl1 ?_
        refine wpAny_bind (wpAny_runValue ?_)
        have hlS : l < s.heap.objs.size := Heap.lt_size hol
        have hh3 : A.in1.in1.in1.handled = none := by simp [hh]
        have hz1 : (s.heap.push { cls := .type "set", dict := none, data := .set #[] 0 (.fresh 0 0 (!w.params.followText "set-order")) }).objs.size = s.heap.objs.size + 1 := Heap.size_push ..
        have hneI : l ≠ (s.heap.push { cls := .type "set", dict := none, data := .set #[] 0 (.fresh 0 0 (!w.params.followText "set-order")) }).objs.size := by
          rw [Heap.size_push]; exact Nat.ne_of_lt (Nat.lt_succ_of_lt hlS)
        have hSf : s.heap.objs.size ∉ [(s.heap.push { cls := .type "set", dict := none, data := .set #[] 0 (.fresh 0 0 (!w.params.followText "set-order")) }).objs.size, l] := by
          rw [Heap.size_push]; simp only [List.mem_cons, List.mem_singleton, List.not_mem_nil, or_false, not_or]
          exact ⟨Nat.ne_of_lt (Nat.lt_succ_self _), Nat.ne_of_gt hlS⟩
        have hval : ∀ (i : Nat) (v : Value), items[i]? = some v → ∃ k t, ns[i]? = some k ∧ v = .str k t := fun i v hv => by
          have hi : i < ns.length := by rw [← hisz]; exact (Array.getElem?_eq_some_iff.mp hv).1
          obtain ⟨t, e⟩ := GmS.strsAt hit i v (by rw [Array.getElem?_toList]; exact hv)
          refine ⟨ns[i], t, List.getElem?_eq_getElem hi, ?_⟩
          rw [e, List.getD_eq_getElem?_getD, List.getElem?_eq_getElem hi] <;> rfl
        refine set_update_strs ((Walks.list hh3 _ l hneI items).toS) s.heap.objs.size
          hSf ns hisz hb hval (items.size - 0) 0 _ (by omega) (Nat.zero_le _)
          ⟨⟨_, Heap.get?_push_size _ rfl, rfl, rfl⟩, (hl1.push _)⟩ ?hS0 ?hR
        case hS0 =>
          have hget : ((s.heap.push { cls := .type "set", dict := none, data := .set #[] 0 (.fresh 0 0 (!w.params.followText "set-order")) }).push { cls := .type "list_iterator", data := .fields #[.ref l, .int 0 0] }).get? s.heap.objs.size
              = some { cls := .type "set", dict := none, data := .set #[] 0 (.fresh 0 0 (!w.params.followText "set-order")) } := Heap.get?_push_of_some _ hS
          exact ⟨0, Nat.le_refl 0, setT_new_at hget⟩
        case hR =>
          intro s' c' hm hc' hS'
          obtain ⟨h', g2, d', tk', os'⟩ := s'
          have eg : g2 = s.gens := hm.gens
          have ed : d' = s.drawn := hm.drawn
          have eo : os' = s.os := hm.os
          subst eg; subst ed; subst eo
          show wpAny _ _ _ _ _ _
          refine wpAny_pure ?_
          show wpAny _ _ (ret Value.none) _ _ _
          rw [hisz] at hc'
          refine wpAny_pure ⟨rfl, h', tk', c', rfl, hS', hc', fun b o e => ?_⟩
          have hb0 : b < s.heap.objs.size := Heap.lt_size e
          have hb1 : b ≠ s.heap.objs.size := Nat.ne_of_lt hb0
          have hb2 : b ≠ (s.heap.push { cls := .type "set", dict := none, data := .set #[] 0 (.fresh 0 0 (!w.params.followText "set-order")) }).objs.size := by
            rw [Heap.size_push]; exact Nat.ne_of_lt (Nat.lt_succ_of_lt hb0)
          exact hm.heap b o (by simp only [List.mem_cons, List.mem_singleton, List.not_mem_nil, or_false, not_or]; exact ⟨hb1, hb2⟩) (Heap.get?_push_of_some _ (Heap.get?_push_of_some _ e))

      · cases r₂ with
        | error e => exact hr₂
        | ok fl₂ =>
          cases fl₂ with
          | ret r =>
            obtain ⟨rfl, h', tk, c', rfl, hS', hc', hk'⟩ := hr₂
            repeat (any_goals (first | assumption | wp_step))
            exact h _ _ _ hS' hc' hk'
          | _ => exact hr₂.elim
    | _ => exact hr.elim

end

end GmR

/-! sorted(list of texts) of any length; d.items() of a dict of texts or ints; sorted(d.items()) of texts and ints -/
namespace Gm
open PySem PySem.Spec PyProof.Rows L2 PySem.W
abbrev leS (a b : Str) : Bool := decide (a.cps.toList ≤ b.cps.toList)
theorem each_of_vals {xs : List V} {us : List Value} {β : Type} (f : β → V) : ∀ {bs : List β} {us : List Value}, Vals (bs.map f) us → EachIs (fun v b => RelV (f b) v) us bs
  | [], _, .nil => .nil
  | b :: bs, _, .cons h t => .cons h (each_of_vals (xs := xs) (us := us) f t)
theorem vals_of_each {β : Type} (f : β → V) : ∀ {us : List Value} {bs : List β}, EachIs (fun v b => RelV (f b) v) us bs → Vals (bs.map f) us
  | _, _, .nil => .nil
  | _, _, .cons h t => .cons h (vals_of_each f t)
section
variable {X : Cx}
def rSortedT (K : PySem.W.Frag) : List V → Hp → VK → Prop := fun vs H Q => ∃ (a : Addr) (xs : List Str), vs = [V.ref a] ∧ SqL K H a (xs.map V.str) ∧ xs.length ≤ sizeLine ∧
  ∀ p, H p = none → Q (.ref p) (upd H p (.lst ((xs.mergeSort leS).map V.str)))
theorem cr_sortedT (hu : X.A.units + 8 < cLine) : CallR X (.builtin "sorted") (rSortedT X.K) := by
  intro pins s σ H vs us Q I r h
  obtain ⟨a, xs, rfl, hs, hlen, q⟩ := h
  obtain ⟨its, rv, hl, _⟩ := I.list hs
  rw [Vals.ref1 r]
  have ev := each_of_vals (xs := []) (us := []) V.str rv
  refine sorted_data (vs := its) (bs := xs) (enc := PyData.str) (R := fun v b => RelV (V.str b) v) hl.isList ev (ev.mono fun v b ⟨t, e⟩ => ⟨[], by rw [e]; exact .str _ _⟩) (AllAlike.of fun b b' => by simp [alike]) (Sortable.others fun b => ⟨fun z => (nomatch z), fun _ z => (nomatch z)⟩) hlen
    (fun b _ => by simp only [PyData.depth]; omega) fun out ol oe => ?_
  have el : dataLe false PyData.str = leS := dataLe_str (fun b : Str => b)
  rw [el] at oe
  obtain ⟨ep, he'⟩ := PyProof.Rows.sortedAll_at s.heap its out.toArray
  have hlen2 : ((xs.mergeSort leS).map V.str).length ≤ sizeLine := by rw [List.length_map, List.length_mergeSort]; exact hlen
  exact ⟨.ref _, upd H (s.heap.objs.size + 1) (.lst ((xs.mergeSort leS).map V.str)), I.laid (t' := s.toks) (fun _ _ => PyProof.Rows.sortedAll_old) (Nat.le_succ _) ⟨hlen2, out, ep, vals_of_each V.str oe, he'⟩, rfl, q _ (I.hok.fresh (Nat.le_succ _))⟩
/-- d.items(), the view -/
def rItemsK : V → List V → Hp → VK → Prop := fun x xs H Q => ∃ (a : Addr) (kvs : List (L2.Key × V)), x = .ref a ∧ xs = [] ∧ H a = some (.dK kvs) ∧ ∀ p, H p = none → Q (.ref p) (upd H p (DX.itemsO p a))
theorem mt_itemsK : MtR X "dict.items" rItemsK := by
  intro pins s σ H x xs v us Q I rx rxs h
  obtain ⟨a, kvs, rfl, rfl, ha, q⟩ := h
  cases rx
  cases rxs
  obtain ⟨z, hd, xs', rel, o, es, ep, ho, hx, hdat, _⟩ := dk_of I.hok ha
  refine DT.callItems (es := es) (ep := ep) hd ⟨o, ho, hx, hdat⟩ ?_
  have hf : H s.heap.objs.size = none := I.hok.fresh (Nat.le_refl _)
  exact ⟨.ref s.heap.objs.size, upd H s.heap.objs.size (DX.itemsO s.heap.objs.size a), I.laid (t' := s.toks) (fun b u e => Heap.get?_push_of_some _ e) (Nat.le_refl _) (DX.itemsO_ok (Heap.get?_push_size _ rfl)), rfl, q _ hf⟩
abbrev encI (e : Str × Int) : PyData := .tuple [.str e.1, .int e.2]
abbrev entI (e : Str × Int) : L2.Key × V := (Sum.inr e.1, V.int e.2)
def rSortItK : List V → Hp → VK → Prop := fun vs H Q => ∃ (p a : Addr) (L : List (Str × Int)), vs = [.ref p] ∧ H p = some (DX.itemsO p a) ∧ H a = some (.dK (L.map entI)) ∧
  ∀ (H' : Hp) (l : Addr) (ps : List (Addr × Str × Int)), (∀ b o, H b = some o → H' b = some o) → ps.map (·.2) = L.mergeSort (dataLe false encI) → H' l = some (.lst (ps.map fun z => V.ref z.1)) →
    (∀ z ∈ ps, H' z.1 = some (.tup [.str z.2.1, .int z.2.2])) → Q (.ref l) H'
theorem pairs_get {P : Program} {w : World} : ∀ {es : List DictEntry} {vs : List (L2.Key × Value)}, Pairs (mixKind P w) es vs → ∀ {j : Nat} {kv : L2.Key × Value}, vs[j]? = some kv → ∃ en, es[j]? = some en ∧ keyIs kv.1 en.key = true ∧ en.val = kv.2
  | _, _, .nil, j, kv, h => by simp at h
  | _, _, .cons (e := en) h1 h2 t, 0, kv, h => by
    have : _ = kv := Option.some.inj h
    subst this
    exact ⟨_, rfl, h1, h2⟩
  | _, _, .cons h1 h2 t, j + 1, kv, h => by
    obtain ⟨en, e1, e2⟩ := pairs_get t (j := j) (by simpa using h)
    exact ⟨en, by simpa using e1, e2⟩
theorem each_get {α β : Type} {R : α → β → Prop} : ∀ {as : List α} {bs : List β}, as.length = bs.length → (∀ (j : Nat) (a : α) (b : β), as[j]? = some a → bs[j]? = some b → R a b) → EachIs R as bs
  | [], [], _, _ => .nil
  | [], _ :: _, h, _ => by simp at h
  | _ :: _, [], h, _ => by simp at h
  | a :: as, b :: bs, h, f => .cons (f 0 a b rfl rfl) (each_get (by simpa using h) fun j x y h1 h2 => f (j + 1) x y (by simpa using h1) (by simpa using h2))
theorem each_addr {T : Addr → Str × Int → Prop} : ∀ {out : List Value} {bs : List (Str × Int)}, EachIs (fun v b => ∃ a, v = Value.ref a ∧ T a b) out bs → ∃ ps : List (Addr × Str × Int), out = ps.map (fun z => Value.ref z.1) ∧ ps.map (·.2) = bs ∧ ∀ z ∈ ps, T z.1 z.2
  | _, _, .nil => ⟨[], rfl, rfl, fun _ h => nomatch h⟩
  | _, _, .cons (b := b) ⟨a, e, h⟩ t => by
    obtain ⟨ps, e1, e2, e3⟩ := each_addr t
    refine ⟨(a, b) :: ps, by rw [List.map_cons, ← e1, e], by rw [List.map_cons, e2], fun z hz => ?_⟩
    rcases List.mem_cons.mp hz with rfl | hz
    · exact h
    · exact e3 z hz
theorem cr_sortedItK (hc : X.calm = true) (hu : X.A.units + 8 < cLine) : CallR X (.builtin "sorted") rSortItK := by
  intro pins s σ H xs us Q I r h
  obtain ⟨p, a, L, rfl, hp, ha, q⟩ := h
  obtain rfl := Vals.ref1 r
  have view : s.heap.IsItemsView p a := (show ObjOk X.prog X.w H s.heap p (DX.itemsO p a) from I.hok p _ hp).1
  obtain ⟨z, hd, vs, rel, o, es, ep, ho, hx, hdat, _, hes, hn⟩ := dk_of I.hok ha
  have l1 : (L.map entI).length = vs.length := Paired.length rel
  rw [List.length_map] at l1 z
  have l2 : es.size = vs.length := by rw [← Array.length_toList]; exact hes.length
  have hh : X.A.handled = none := I.ok.hd hc
  refine DT.sortedI (es := es) (ep := ep) hh view ⟨o, ho, hx, hdat⟩ (by omega) fun h' tk as hk hlt hl hG => ?_
  have lak : as.length = L.length := by omega
  have nd : as.Nodup := List.Pairwise.imp (fun h => Nat.ne_of_lt h) hG.rise
  have pr : ∀ (j : Nat) (b : Addr) (e : Str × Int), as[j]? = some b → L[j]? = some e → ∃ t t', h'.get? b = some { cls := .type "tuple", data := .seq #[Value.str e.1 t, Value.int e.2 t'] } := by
    intro j b e hj he
    obtain ⟨en, hen, hg⟩ := hG.pairs j b hj
    have he' : (L.map entI)[j]? = some (entI e) := by rw [List.getElem?_map, he]; rfl
    obtain ⟨kv, hkv, r1, r2⟩ := LiI.paired_get rel he'
    obtain ⟨en', e1, e2, e3⟩ := pairs_get hes hkv
    have ee : en' = en := Option.some.inj (e1.symm.trans (by rw [Array.getElem?_toList]; exact hen))
    subst ee
    rw [← r1] at e2
    obtain ⟨t, ek⟩ := (show ∃ t, en'.key = Value.str e.1 t from keyIs_rel e2)
    obtain ⟨t', ev⟩ := (show ∃ t', kv.2 = Value.int e.2 t' from r2)
    rw [ek, e3, ev] at hg
    exact ⟨t, t', hg⟩
  have hob : (h'.push { cls := .type "list", data := .seq (as.map Value.ref).toArray }).get? h'.objs.size = some (seqObj "list" (as.map Value.ref).toArray 0) := Heap.get?_push_size _ rfl
  have ne0 : ∀ b o, h'.get? b = some o → b ≠ h'.objs.size := fun b o e => Nat.ne_of_lt (Heap.lt_size e)
  generalize hh2 : h'.push { cls := .type "list", data := .seq (as.map Value.ref).toArray } = h2 at hob ⊢
  have ka : ∀ b o, h'.get? b = some o → h2.get? b = some o := fun b o e => by rw [← hh2]; exact Heap.get?_push_of_some _ e
  have kb : ∀ b o, s.heap.get? b = some o → h2.get? b = some o := fun b o e => ka b o (hk b o e)
  have E0 : EachIs (fun v (e : Str × Int) => ∃ b, v = Value.ref b ∧ (b ∈ as ∧ ∃ t t', h'.get? b = some { cls := .type "tuple", data := .seq #[Value.str e.1 t, Value.int e.2 t'] })) (as.map Value.ref) L := by
    refine each_get (by rw [List.length_map]; exact lak) fun j v e h1 h2' => ?_
    rw [List.getElem?_map] at h1
    cases hj : as[j]? with
    | none => rw [hj] at h1; cases h1
    | some b =>
      rw [hj] at h1
      exact ⟨b, (Option.some.inj h1).symm, List.mem_of_getElem? hj, pr j b e hj h2'⟩
  refine list_sort_data (s := { s with heap := h2, toks := tk }) (vs := as.map Value.ref) (bs := L) (enc := encI) (n := 0) hob E0 (E0.mono fun v e ⟨b, ev, _, t, t', hg⟩ => ⟨[], by rw [ev]; exact .tuple (as := []) (ka _ _ hg) rfl rfl (.cons (as := []) (bs := []) (.str _ _) (.cons (as := []) (bs := []) (.int _ _) .nil)), List.not_mem_nil⟩)
    (AllAlike.of fun b b' => by simp [alike, alikeAll]) (Sortable.tuples fun b => ⟨_, _, rfl⟩) (by omega) (fun b _ => ?_) fun out ol oe => ?_
  · show X.A.units + 1 + 1 + (PyData.tuple [.str b.1, .int b.2]).depth < cLine
    simp only [PyData.depth, PyData.depthAll]
    omega
  · show EP X pins σ Q (.ref h'.objs.size) { s with heap := sortedHeap h2 h'.objs.size (as.map Value.ref) out.toArray, toks := tk }
    obtain ⟨ps, ep1, ep2, ep3⟩ := each_addr oe
    have kF : ∀ b o, b ≠ h'.objs.size → h2.get? b = some o → (sortedHeap h2 h'.objs.size (as.map Value.ref) out.toArray).get? b = some o := fun b o hb e => (PyProof.Rows.sortedHeap_old hb (Heap.lt_size e)).trans e
    have kS : ∀ b o, s.heap.get? b = some o → (sortedHeap h2 h'.objs.size (as.map Value.ref) out.toArray).get? b = some o := fun b o e => kF b o (ne0 _ _ (hk b o e)) (kb b o e)
    obtain ⟨eF, heF⟩ := PyProof.Rows.sortedHeap_at (vs := as.map Value.ref) (out := out.toArray) hob
    have I1 : Inv X pins σ H { s with heap := sortedHeap h2 h'.objs.size (as.map Value.ref) out.toArray, toks := tk } := I.kept (t' := tk) kS
    have hn0 : H h'.objs.size = none := I.hok.fresh (Nat.le_of_lt hlt)
    have hlen : (ps.map fun z => V.ref z.1).length ≤ sizeLine := by
      have e := congrArg List.length ep2
      rw [List.length_map, List.length_mergeSort] at e
      rw [List.length_map]
      omega
    have rv : Vals (ps.map fun z => V.ref z.1) out := by
      rw [ep1]
      exact vals_maps (fun z : Addr × Str × Int => V.ref z.1) (fun z => Value.ref z.1) ps fun _ _ => rfl
    have I2 : Inv X pins σ (upd H h'.objs.size (.lst (ps.map fun z => V.ref z.1))) { s with heap := sortedHeap h2 h'.objs.size (as.map Value.ref) out.toArray, toks := tk } :=
      I1.take (h' := sortedHeap h2 h'.objs.size (as.map Value.ref) out.toArray) (t' := tk) (fun b ob _ e => e) (I.fpOk (Nat.le_of_lt hlt) hn0) ⟨hlen, out, eF, rv, heF⟩
    obtain ⟨H2, I3, g, qt⟩ := DX.takeT (P := fun b vs => ∃ (e : Str × Int) (t t' : Nat), vs = [.str e.1, .int e.2] ∧ h'.get? b = some { cls := .type "tuple", data := .seq #[Value.str e.1 t, Value.int e.2 t'] }) I as _ I2 nd fun b hb => by
      obtain ⟨j, hj⟩ := List.mem_iff_getElem?.mp hb
      have hjl := (List.getElem?_eq_some_iff.mp hj).1
      obtain ⟨t, t', hg⟩ := pr j b (L[j]'(by omega)) hj (List.getElem?_eq_getElem _)
      have hbl : s.heap.objs.size ≤ b := Nat.le_of_lt (hG.above b hb)
      refine ⟨hbl, ?_, _, ⟨_, t, t', rfl, hg⟩, fun H3 => ⟨(by rw [sizeLine_eq]; show 2 ≤ 16777216; omega), [Value.str _ t, Value.int _ t'], .cons ⟨t, rfl⟩ (.cons ⟨t', rfl⟩ .nil), ⟨_, kF _ _ (ne0 _ _ hg) (ka _ _ hg), rfl, 0, rfl⟩⟩⟩
      rw [upd_ne (ne0 _ _ hg)]
      exact I.hok.fresh hbl
    have gr : ∀ b o, H b = some o → H2 b = some o := fun b o e => g b o (by rw [upd_ne (ne_of_none e hn0)]; exact e)
    refine ⟨.ref h'.objs.size, H2, I3, rfl, q H2 h'.objs.size ps gr ep2 (g _ _ upd_same) fun z' hz' => ?_⟩
    obtain ⟨hb, t, t', hg⟩ := ep3 z' hz'
    obtain ⟨vs, ⟨e, u, u', ev, hg'⟩, hH⟩ := qt z'.1 hb
    have same := Option.some.inj (hg.symm.trans hg')
    have e1 : z'.2.1 = e.1 ∧ z'.2.2 = e.2 := by
      injection same with _ _ s3
      injection s3 with s4
      have s5 := congrArg Array.toList s4
      injection s5 with s6 s7
      injection s7 with s8 _
      injection s6 with s9
      injection s8 with s10
      exact ⟨s9, s10⟩
    rw [ev, ← e1.1, ← e1.2] at hH
    exact hH
/-- up to the texts' order, if no text comes twice -/
theorem le_encI (a b : Str × Int) : dataLe false encI a b = true → ¬ b.1.cps.toList < a.1.cps.toList := by
  intro h
  have h : (!dataLt (encI b) (encI a)) = true := h
  intro c
  have : dataLt (encI b) (encI a) = true := by
    show dataLt (.tuple [.str b.1, .int b.2]) (.tuple [.str a.1, .int a.2]) = true
    rw [dataLt_pair (by simp [alike]) (by simp [alike])]
    have ne : PyData.eqv (.str b.1) (.str a.1) = false := by
      simp only [PyData.eqv, beq_eq_false_iff_ne]
      intro z
      rw [z] at c
      exact List.lt_irrefl _ c
    rw [if_neg (by rw [ne]; exact Bool.false_ne_true), dataLt_str]
    exact decide_eq_true c
  rw [this] at h
  cases h
end
end Gm

/-! the order of (text, number) -/
namespace Gm
open PySem PySem.Spec PyProof.Rows L2 PySem.W
theorem str_ext {a b : Str} (h : a.cps.toList = b.cps.toList) : a = b := by
  obtain ⟨⟨x⟩⟩ := a
  obtain ⟨⟨y⟩⟩ := b
  have h : x = y := h
  rw [h]
theorem lst_tri {a b : List Nat} (h1 : ¬ a < b) (h2 : ¬ b < a) : a = b := List.le_antisymm (List.not_lt.mp h2) (List.not_lt.mp h1)
theorem le_enc : dataLe false encI = fun a b => decide (a.1.cps.toList < b.1.cps.toList ∨ (a.1 = b.1 ∧ a.2 ≤ b.2)) := by
  funext a b
  show (!dataLt (.tuple [.str b.1, .int b.2]) (.tuple [.str a.1, .int a.2])) = _
  rw [dataLt_pair (by simp [alike]) (by simp [alike]), dataLt_str, dataLt_int]
  simp only [PyData.eqv, beq_iff_eq]
  by_cases e : b.1 = a.1
  · rw [if_pos e, e]
    have i : ¬ a.1.cps.toList < a.1.cps.toList := List.lt_irrefl _
    by_cases e2 : b.2 = a.2
    · rw [if_pos e2]
      simp [i, e2]
    · rw [if_neg e2]
      by_cases c : b.2 < a.2
      · have : ¬ a.2 ≤ b.2 := by omega
        simp [i, c, this]
      · have : a.2 ≤ b.2 := by omega
        simp [i, c, this]
  · rw [if_neg e]
    have e' : ¬ a.1 = b.1 := fun z => e z.symm
    by_cases c : b.1.cps.toList < a.1.cps.toList
    · have : ¬ a.1.cps.toList < b.1.cps.toList := List.lt_asymm c
      simp [c, e', this]
    · have : a.1.cps.toList < b.1.cps.toList := by
        by_cases d : a.1.cps.toList < b.1.cps.toList
        · exact d
        · exact absurd (str_ext (lst_tri c d)) e
      simp [c, this]
theorem sorted_enc (L : List (Str × Int)) : (L.mergeSort (dataLe false encI)).Pairwise fun a b => ¬ b.1.cps.toList < a.1.cps.toList := by
  have h := List.pairwise_mergeSort (le := dataLe false encI) (fun a b c h1 h2 => by
      rw [le_enc] at *
      have h1 := of_decide_eq_true h1
      have h2 := of_decide_eq_true h2
      refine decide_eq_true ?_
      rcases h1 with h1 | ⟨h1, g1⟩
      · rcases h2 with h2 | ⟨h2, g2⟩
        · exact .inl (List.lt_trans h1 h2)
        · exact .inl (by rw [← h2]; exact h1)
      · rcases h2 with h2 | ⟨h2, g2⟩
        · exact .inl (by rw [h1]; exact h2)
        · exact .inr ⟨h1.trans h2, by omega⟩) (fun a b => by
      rw [le_enc]
      simp only [Bool.or_eq_true, decide_eq_true_eq]
      by_cases c : a.1.cps.toList < b.1.cps.toList
      · exact .inl (.inl c)
      · by_cases d : b.1.cps.toList < a.1.cps.toList
        · exact .inr (.inl d)
        · have e := str_ext (lst_tri c d)
          by_cases g : a.2 ≤ b.2
          · exact .inl (.inr ⟨e, g⟩)
          · exact .inr (.inr ⟨e.symm, by omega⟩)) L
  refine h.imp fun {a b} q => ?_
  rw [le_enc] at q
  rcases of_decide_eq_true q with q | ⟨q, _⟩
  · exact List.lt_asymm q
  · rw [q]
    exact List.lt_irrefl _
end Gm

/-! the order of (number, text) -/
namespace Gm
open PySem PySem.Spec PyProof.Rows L2 PySem.W
abbrev encN (e : Int × Str) : PyData := .tuple [.int e.1, .str e.2]
theorem le_encN : dataLe false encN = fun a b => decide (a.1 < b.1 ∨ (a.1 = b.1 ∧ a.2.cps.toList ≤ b.2.cps.toList)) := by
  funext a b
  show (!dataLt (.tuple [.int b.1, .str b.2]) (.tuple [.int a.1, .str a.2])) = _
  rw [dataLt_pair (by simp [alike]) (by simp [alike]), dataLt_str, dataLt_int]
  simp only [PyData.eqv, beq_iff_eq]
  by_cases e : b.1 = a.1
  · rw [if_pos e, e]
    have i : ¬ a.1 < a.1 := by omega
    by_cases c : b.2.cps.toList < a.2.cps.toList
    · have : ¬ a.2.cps.toList ≤ b.2.cps.toList := fun z => (List.not_lt.mpr z) c
      have n : ¬ b.2 = a.2 := fun z => List.lt_irrefl _ (by rw [z] at c; exact c)
      simp [i, c, this, n]
    · have : a.2.cps.toList ≤ b.2.cps.toList := List.not_lt.mp c
      simp [i, c, this]
  · rw [if_neg e]
    have e' : ¬ a.1 = b.1 := fun z => e z.symm
    by_cases c : b.1 < a.1
    · have : ¬ a.1 < b.1 := by omega
      simp [c, e', this]
    · have : a.1 < b.1 := by omega
      simp [c, this]
/-- pairs that are in order already stay as they are -/
theorem sorted_encN {L : List (Int × Str)} (h : L.Pairwise fun a b => a.1 < b.1 ∨ (a.1 = b.1 ∧ a.2.cps.toList ≤ b.2.cps.toList)) : L.mergeSort (dataLe false encN) = L := by
  refine List.mergeSort_of_pairwise (h.imp fun {a b} q => ?_)
  rw [le_encN]
  exact decide_eq_true q
end Gm

/-! dict(zip(text, tuple)) -/
namespace PySem
section
variable {prog : Program} {w : World} {A : Around} {E : Value → Shared → Prop} {s : Shared} {z TI TO T i1 i2 : Addr} {fp1 fp2 : List Addr} {n1 n2 i : Nat} {P1 P2 : Nat → Value → Prop} {St1 St2 : Nat → Heap → Prop} {f : Bool} {oT : Obj}
theorem zipD2_next_item_held {Q : Value → Shared → Prop} (S : ZipSep2 z TI TO i1 i2 fp1 fp2) (D1 : Draws prog w A i1 fp1 n1 P1 St1) (D2 : Draws prog w A i2 fp2 n2 P2 St2)
    (hz : IsZipHeld s.heap z TI TO T f) (hT : s.heap.get? T = some oT) (hTI : IsTupOf2 s.heap TI (.ref i1) (.ref i2)) (st1 : St1 i s.heap) (st2 : St2 i s.heap) (hlt1 : i < n1) (hlt2 : i < n2)
    (hQ : ∀ x1 x2 h' tk, P1 i x1 → P2 i x2 → IsZipHeld h' z TI TO T true → St1 (i + 1) h' → St2 (i + 1) h' → IsTupOf2 h' s.heap.objs.size x1 x2 → h'.objs.size = s.heap.objs.size + 1 →
      (∀ c o, c ≠ z → c ≠ i1 → c ≠ i2 → s.heap.get? c = some o → h'.get? c = some o) → Q (.ref s.heap.objs.size) { s with heap := h', toks := tk }) :
    wpAny (model prog w) A (Builtin.«zip.__next__» ⟨[.ref z], []⟩) (fun fin s' => ∃ v, fin = .done (.ret v) ∧ Q v s') E s := by
  obtain ⟨hp, g, d, tk0, os⟩ := s
  show wpAny _ _ (field (.ref z) 2 >>= _) _ _ _
  refine wpAny_bind (wpAny_field hz rfl (x := .bool false) rfl ?_)
  show wpAny _ _ (field (.ref z) 3 >>= _) _ _ _
  refine wpAny_bind (wpAny_field hz rfl (x := .ref TI) rfl ?_)
  refine wpAny_bind (wpAny_seqItems hTI rfl ?_)
  show wpAny _ _ (Builtin.SmallTypes.ownedTupleIsFree (.ref z) >>= _) _ _ _
  refine wpAny_bind (wpAny_tupleHeld_zip hz hT fun h₁ hz₁ hs₁ => ?_)
  replace hs₁ : Heap.SameBut z hp h₁ := hs₁
  simp only [Bool.false_eq_true, if_false]
  refine wpAny_bind ?_
  rw [← Array.forIn_toList]
  simp only [List.forIn_cons, List.forIn_nil]
  refine wpAny_bind (wpAny_bind (wpAny_holding ?_))
  show wpAny _ _ (Builtin.SmallTypes.nextOf (.ref i1) >>= _) _ _ ⟨h₁, g, d, tk0, os⟩
  refine wpAny_bind (D1.item i _ _ _ hlt1 (D1.over st1 hs₁ S.zf1) fun x1 h₂ tk1 hx1 sn1 hs₂ => wpAny_pure ?_)
  replace hs₂ : Heap.SameBut i1 h₁ h₂ := hs₂
  refine wpAny_pure ?_
  refine wpAny_bind (wpAny_bind (wpAny_holding ?_))
  show wpAny _ _ (Builtin.SmallTypes.nextOf (.ref i2) >>= _) _ _ ⟨h₂, g, d, tk1, os⟩
  refine wpAny_bind (D2.item i _ _ _ hlt2 (D2.over (D2.over st2 hs₁ S.zf2) hs₂ S.sep1_2) fun x2 h₃ tk2 hx2 sn2 hs₃ => wpAny_pure ?_)
  replace hs₃ : Heap.SameBut i2 h₂ h₃ := hs₃
  refine wpAny_pure (wpAny_pure ?_)
  show wpAny _ _ (newTuple [x1, x2] >>= _) _ _ _
  refine wpAny_bind (wpAny_newTuple ?_)
  have hsz : h₃.objs.size = hp.objs.size := by rw [hs₃.1, hs₂.1, hs₁.1]
  have hz₃ : IsZipHeld h₃ z TI TO T true := hs₃.extBut _ _ S.zi2 (hs₂.extBut _ _ S.zi1 hz₁)
  have hk : ∀ c o, c ≠ z → c ≠ i1 → c ≠ i2 → hp.get? c = some o → h₃.get? c = some o := fun c o c1 c2 c3 e => hs₃.extBut _ _ c3 (hs₂.extBut _ _ c2 (hs₁.extBut _ _ c1 e))
  have j1 : St1 (i + 1) h₃ := D1.over sn1 hs₃ S.sep2_1
  refine wpAny_pure ⟨_, rfl, ?_⟩
  show Q (.ref h₃.objs.size) _
  have hp' : IsTupOf2 (h₃.push { cls := .type "tuple", data := .seq #[x1, x2] }) h₃.objs.size x1 x2 := Heap.get?_push_size _ rfl
  have hz4 : (h₃.push { cls := .type "tuple", data := .seq #[x1, x2] }).objs.size = h₃.objs.size + 1 := Heap.size_push ..
  rw [hsz] at hp' hz4 ⊢
  exact hQ _ _ _ tk2 hx1 hx2 (Heap.get?_push_of_some _ hz₃) (D1.frame _ _ _ j1 fun b _ o e => Heap.get?_push_of_some _ e) (D2.frame _ _ _ sn2 fun b _ o e => Heap.get?_push_of_some _ e) hp' hz4 fun c o c1 c2 c3 e => Heap.get?_push_of_some _ (hk c o c1 c2 c3 e)
theorem zipD2_next_end_held {Q : Fin → Shared → Prop} (S : ZipSep2 z TI TO i1 i2 fp1 fp2) (D1 : Draws prog w A i1 fp1 n1 P1 St1) (D2 : Draws prog w A i2 fp2 n2 P2 St2)
    (hz : IsZipHeld s.heap z TI TO T f) (hT : s.heap.get? T = some oT) (hTI : IsTupOf2 s.heap TI (.ref i1) (.ref i2)) (st1 : St1 i s.heap) (st2 : St2 i s.heap) (hle1 : i ≤ n1) (hle2 : i ≤ n2) (hend : i = n1 ∨ i = n2)
    (hE : ∀ h' tk e, (∀ c o, c ≠ z → c ≠ i1 → c ≠ i2 → s.heap.get? c = some o → h'.get? c = some o) → (∃ o, h'.get? e = some o ∧ o.cls = .type "StopIteration") → E (.ref e) { s with heap := h', toks := tk }) :
    wpAny (model prog w) A (Builtin.«zip.__next__» ⟨[.ref z], []⟩) Q E s := by
  obtain ⟨hp, g, d, tk0, os⟩ := s
  show wpAny _ _ (field (.ref z) 2 >>= _) _ _ _
  refine wpAny_bind (wpAny_field hz rfl (x := .bool false) rfl ?_)
  show wpAny _ _ (field (.ref z) 3 >>= _) _ _ _
  refine wpAny_bind (wpAny_field hz rfl (x := .ref TI) rfl ?_)
  refine wpAny_bind (wpAny_seqItems hTI rfl ?_)
  show wpAny _ _ (Builtin.SmallTypes.ownedTupleIsFree (.ref z) >>= _) _ _ _
  refine wpAny_bind (wpAny_tupleHeld_zip hz hT fun h₁ hz₁ hs₁ => ?_)
  replace hs₁ : Heap.SameBut z hp h₁ := hs₁
  simp only [Bool.false_eq_true, if_false]
  refine wpAny_bind ?_
  rw [← Array.forIn_toList]
  simp only [List.forIn_cons, List.forIn_nil]
  refine wpAny_bind (wpAny_bind (wpAny_holding ?_))
  show wpAny _ _ (Builtin.SmallTypes.nextOf (.ref i1) >>= _) _ _ ⟨h₁, g, d, tk0, os⟩
  by_cases hlt1 : i < n1
  · refine wpAny_bind (D1.item i _ _ _ hlt1 (D1.over st1 hs₁ S.zf1) fun x1 h₂ tk1 hx1 sn1 hs₂ => wpAny_pure ?_)
    replace hs₂ : Heap.SameBut i1 h₁ h₂ := hs₂
    refine wpAny_pure ?_
    have hi2 : i = n2 := by omega
    refine wpAny_bind (wpAny_bind (wpAny_holding ?_))
    show wpAny _ _ (Builtin.SmallTypes.nextOf (.ref i2) >>= _) _ _ ⟨h₂, g, d, tk1, os⟩
    refine wpAny_bind (D2.done ⟨h₂, g, d, tk1, os⟩ _ _ (by rw [← hi2]; exact D2.over (D2.over st2 hs₁ S.zf2) hs₂ S.sep1_2) fun q e hq he => ?_)
    exact hE q tk1 e (fun c o c1 c2 c3 x => hq _ _ c3 (hs₂.extBut _ _ c2 (hs₁.extBut _ _ c1 x))) he
  · have hi1 : i = n1 := by omega
    refine wpAny_bind (D1.done ⟨h₁, g, d, tk0, os⟩ _ _ (by rw [← hi1]; exact D1.over st1 hs₁ S.zf1) fun q e hq he => ?_)
    exact hE q tk0 e (fun c o c1 c2 c3 x => hq _ _ c2 (hs₁.extBut _ _ c1 x)) he
theorem wpAny_pyNext_zipD2_item_held {Q : Option Value → Shared → Prop} (S : ZipSep2 z TI TO i1 i2 fp1 fp2) (D1 : Draws prog w A.in1 i1 fp1 n1 P1 St1) (D2 : Draws prog w A.in1 i2 fp2 n2 P2 St2)
    (hz : IsZipHeld s.heap z TI TO T f) (hT : s.heap.get? T = some oT) (hTI : IsTupOf2 s.heap TI (.ref i1) (.ref i2)) (st1 : St1 i s.heap) (st2 : St2 i s.heap) (hlt1 : i < n1) (hlt2 : i < n2)
    (hQ : ∀ x1 x2 h' tk, P1 i x1 → P2 i x2 → IsZipHeld h' z TI TO T true → St1 (i + 1) h' → St2 (i + 1) h' → IsTupOf2 h' s.heap.objs.size x1 x2 → h'.objs.size = s.heap.objs.size + 1 →
      (∀ c o, c ≠ z → c ≠ i1 → c ≠ i2 → s.heap.get? c = some o → h'.get? c = some o) → Q (some (.ref s.heap.objs.size)) { s with heap := h', toks := tk }) :
    wpAny (model prog w) A (pyNext (.ref z)) Q E s := by
  have hTy : s.TypeIs (.ref z) "zip" := ⟨_, hz, rfl⟩
  unfold pyNext
  exact wpAny_bind (wpAny_attempt (wpAny_callSpecial?_slot (name := Str.ofString "__next__") hTy F.slot_zip_next
    (wpAny_call_entry F.slot_zip_next hTy F.entry_zip_next
      (zipD2_next_item_held S D1 D2 hz hT hTI st1 st2 hlt1 hlt2 fun x1 x2 h' tk y1 y2 b1 d1 d2 b5 b6 b7 => wpAny_pure (hQ x1 x2 h' tk y1 y2 b1 d1 d2 b5 b6 b7)) (F.args_zip_next_1 _))))
theorem wpAny_pyNext_zipD2_end_held {Q : Option Value → Shared → Prop} (S : ZipSep2 z TI TO i1 i2 fp1 fp2) (D1 : Draws prog w A.in1 i1 fp1 n1 P1 St1) (D2 : Draws prog w A.in1 i2 fp2 n2 P2 St2)
    (hz : IsZipHeld s.heap z TI TO T f) (hT : s.heap.get? T = some oT) (hTI : IsTupOf2 s.heap TI (.ref i1) (.ref i2)) (st1 : St1 i s.heap) (st2 : St2 i s.heap) (hle1 : i ≤ n1) (hle2 : i ≤ n2) (hend : i = n1 ∨ i = n2)
    (hQ : ∀ h' tk, (∀ c o, c ≠ z → c ≠ i1 → c ≠ i2 → s.heap.get? c = some o → h'.get? c = some o) → Q none { s with heap := h', toks := tk }) : wpAny (model prog w) A (pyNext (.ref z)) Q E s := by
  have hTy : s.TypeIs (.ref z) "zip" := ⟨_, hz, rfl⟩
  unfold pyNext
  refine wpAny_bind (wpAny_attempt (wpAny_callSpecial?_slot (name := Str.ofString "__next__") hTy F.slot_zip_next
    (wpAny_call_entry F.slot_zip_next hTy F.entry_zip_next (zipD2_next_end_held S D1 D2 hz hT hTI st1 st2 hle1 hle2 hend fun h' tk e hk he => ?_) (F.args_zip_next_1 _))))
  obtain ⟨o, ho, hc⟩ := he
  refine wpAny_bind (wpAny_isInstance (T := "StopIteration") (b := true) ⟨o, ho, hc⟩ isSubtype_stop ?_)
  exact wpAny_pure (hQ _ _ hk)
end
theorem PairArg.zipTx {prog : Program} {w : World} (z TI TO i1 i2 l2 : Addr) (D : ZipSep2 z TI TO i1 i2 [i1] [i2, l2]) (hl : l2 ≠ i2) (x : Str) (t : Tok) (ys : Array Value) :
    PairArg prog w "zip" z [z, TI, TO, i1, i2, l2] [z, TO, i1, i2] (min x.cps.size ys.size) (fun i k v => (∃ c u, x.cps[i]? = some c ∧ k = .str ⟨#[c]⟩ u) ∧ ys[i]? = some v)
      (fun h => IsZip h z TI TO .none ∧ IsTupOf2 h TI (.ref i1) (.ref i2) ∧ (∃ a b, IsTupOf2 h TO a b) ∧ h.IsStrIter i1 (strIterType x) x t 0 ∧ h.IsTupleIter i2 l2 0 ∧ h.IsTuple l2 ys) where
  type := fun s ok => ⟨_, ok.1, rfl⟩
  notDict := by decide
  keep := fun h h' ok hk => by
    obtain ⟨hz, hTI, ⟨a, b, hTO⟩, ⟨o1, h1, r1⟩, h2, hl2⟩ := ok
    exact ⟨hk _ _ hz, hk _ _ hTI, ⟨a, b, hk _ _ hTO⟩, ⟨o1, hk _ _ h1, r1⟩, h2.at fun o e => hk _ o e, hl2.at fun o e => hk _ o e⟩
  there := fun h ok b hb => by
    obtain ⟨hz, hTI, ⟨a, c, hTO⟩, ⟨o1, h1, _⟩, ⟨o2, h2, _⟩, ⟨o4, hl2, _⟩⟩ := ok
    simp only [List.mem_cons, List.not_mem_nil, or_false] at hb
    rcases hb with rfl | rfl | rfl | rfl | rfl | rfl
    all_goals first | exact ⟨_, hz⟩ | exact ⟨_, hTI⟩ | exact ⟨_, hTO⟩ | exact ⟨_, h1⟩ | exact ⟨_, h2⟩ | exact ⟨_, hl2⟩
  sub := fun b hb => by simp at hb ⊢; rcases hb with rfl | rfl | rfl | rfl <;> simp
  noKeys := fun A s Q E hA ok h => getAttrOr_miss_zip ok.1 rfl rfl rfl zip_no_keys (by decide +kernel) hA h
  iter := fun A s d Q E hA ok hd hdf h => by
    obtain ⟨hz, hTI, ⟨a, b, hTO⟩, h1, h2, hl2⟩ := ok
    simp only [List.mem_cons, List.not_mem_nil, or_false, not_or] at hdf
    obtain ⟨dz, dTI, dTO, di1, di2, dl2⟩ := hdf
    have d1 : Draws prog w A.in1 i1 [i1] x.cps.size (fun i v => ∃ c u, x.cps[i]? = some c ∧ v = .str ⟨#[c]⟩ u) (fun i h => h.IsStrIter i1 (strIterType x) x t i) := Draws.text (A := A.in1) hA i1 x t
    have d2 : Draws prog w A.in1 i2 [i2, l2] ys.size (fun i v => ys[i]? = some v) (fun i h => h.IsTupleIter i2 l2 i ∧ h.IsTuple l2 ys) := Draws.tuple (A := A.in1) hA i2 l2 hl ys
    refine wpAny_pyIter_zip hz (h z [z, TO, i1, i2] (fun i h => IsTupOf2 h TI (.ref i1) (.ref i2) ∧ h.IsStrIter i1 (strIterType x) x t i ∧ (h.IsTupleIter i2 l2 i ∧ h.IsTuple l2 ys) ∧
      ((IsZip h z TI TO .none ∧ ∃ a b, IsTupOf2 h TO a b) ∨ ∃ T f oT, IsZipHeld h z TI TO T f ∧ h.get? T = some oT ∧ T ≠ z ∧ T ≠ i1 ∧ T ≠ i2 ∧ T ≠ d)) s.heap s.toks ?_
      ⟨hTI, h1, ⟨h2, hl2⟩, .inl ⟨hz, a, b, hTO⟩⟩ (fun _ _ e => e) fun b hb => .inl hb)
    exact {
      off := fun hm => by
        simp only [List.mem_cons, List.not_mem_nil, or_false] at hm
        rcases hm with e | e | e | e
        · exact dz e
        · exact dTO e
        · exact di1 e
        · exact di2 e
      frame := fun i h₁ h₂ st hk => by
        obtain ⟨hTI, h1, h2, hz⟩ := st
        refine ⟨hk _ _ (Ne.symm dTI) hTI, d1.frame _ _ _ h1 fun b hb o e => hk b o (by rw [List.mem_singleton.mp hb]; exact Ne.symm di1) e, d2.frame _ _ _ h2 fun b hb o e => hk b o (by
          simp only [List.mem_cons, List.not_mem_nil, or_false] at hb
          rcases hb with rfl | rfl
          · exact Ne.symm di2
          · exact Ne.symm dl2) e, ?_⟩
        rcases hz with ⟨hz, a, b, hTO⟩ | ⟨T, f, oT, hz, hT, r1, r2, r3, r4⟩
        · exact .inl ⟨hk _ _ (Ne.symm dz) hz, a, b, hk _ _ (Ne.symm dTO) hTO⟩
        · exact .inr ⟨T, f, oT, hk _ _ (Ne.symm dz) hz, hk _ _ r4 hT, r1, r2, r3, r4⟩
      item := fun i s₁ Q₁ E₁ hi st hds hQ => by
        obtain ⟨hTI, h1, h2, hz⟩ := st
        have hix : i < x.cps.size := Nat.lt_of_lt_of_le hi (Nat.min_le_left ..)
        have hiy : i < ys.size := Nat.lt_of_lt_of_le hi (Nat.min_le_right ..)
        have lt : ∀ {c o}, s₁.heap.get? c = some o → s₁.heap.objs.size ≠ c := fun e => Nat.ne_of_gt (Heap.lt_size e)
        have n1 : s₁.heap.objs.size ≠ i1 := let ⟨_, e, _⟩ := h1; lt e
        have n2 : s₁.heap.objs.size ≠ i2 := let ⟨_, e, _⟩ := h2.1; lt e
        rcases hz with ⟨hz, a, b, hTO⟩ | ⟨T, f, oT, hz, hT, r1, r2, r3, r4⟩
        · refine wpAny_pyNext_zipD2_item (St1 := fun i h => h.IsStrIter i1 (strIterType x) x t i) (St2 := fun i h => h.IsTupleIter i2 l2 i ∧ h.IsTuple l2 ys) D d1 d2 hz hTI hTO h1 h2 hix hiy fun u u2 h' tk q1 q2 z' TO' h1' h2' hT hsz hk => ?_
          exact hQ s₁.heap.objs.size u u2 h' tk ⟨q1, q2⟩ (.inl ⟨_, hT, rfl, _, rfl⟩)
            ⟨hk _ _ D.TIz D.TITO D.TIi1 D.TIi2 hTI, h1', h2', .inr ⟨s₁.heap.objs.size, false, _, z', hT, lt hz, n1, n2, Nat.ne_of_gt hds⟩⟩
            fun c o hc e => hk c o (fun x => hc (by simp [x])) (fun x => hc (by simp [x])) (fun x => hc (by simp [x])) (fun x => hc (by simp [x])) e
        · refine wpAny_pyNext_zipD2_item_held (St1 := fun i h => h.IsStrIter i1 (strIterType x) x t i) (St2 := fun i h => h.IsTupleIter i2 l2 i ∧ h.IsTuple l2 ys) D d1 d2 hz hT hTI h1 h2 hix hiy fun u u2 h' tk q1 q2 z' h1' h2' hT' hsz hk => ?_
          exact hQ s₁.heap.objs.size u u2 h' tk ⟨q1, q2⟩ (.inl ⟨_, hT', rfl, _, rfl⟩)
            ⟨hk _ _ D.TIz D.TIi1 D.TIi2 hTI, h1', h2', .inr ⟨T, true, oT, z', hk _ _ r1 r2 r3 hT, r1, r2, r3, r4⟩⟩
            fun c o hc e => hk c o (fun x => hc (by simp [x])) (fun x => hc (by simp [x])) (fun x => hc (by simp [x])) e
      done := fun s₁ Q₁ E₁ st hQ => by
        obtain ⟨hTI, h1, h2, hz⟩ := st
        have hend : min x.cps.size ys.size = x.cps.size ∨ min x.cps.size ys.size = ys.size := by
          rcases Nat.le_total x.cps.size ys.size with h | h
          · exact .inl (Nat.min_eq_left h)
          · exact .inr (Nat.min_eq_right h)
        rcases hz with ⟨hz, a, b, hTO⟩ | ⟨T, f, oT, hz, hT, r1, r2, r3, r4⟩
        · exact wpAny_pyNext_zipD2_end (St1 := fun i h => h.IsStrIter i1 (strIterType x) x t i) (St2 := fun i h => h.IsTupleIter i2 l2 i ∧ h.IsTuple l2 ys) D d1 d2 hz hTI hTO h1 h2 (Nat.min_le_left ..) (Nat.min_le_right ..) hend fun h' tk hk => hQ h' tk fun c o hc e => hk c o (fun x => hc (by simp [x])) (fun x => hc (by simp [x])) (fun x => hc (by simp [x])) (fun x => hc (by simp [x])) e
        · exact wpAny_pyNext_zipD2_end_held (St1 := fun i h => h.IsStrIter i1 (strIterType x) x t i) (St2 := fun i h => h.IsTupleIter i2 l2 i ∧ h.IsTuple l2 ys) D d1 d2 hz hT hTI h1 h2 (Nat.min_le_left ..) (Nat.min_le_right ..) hend fun h' tk hk => hQ h' tk fun c o hc e => hk c o (fun x => hc (by simp [x])) (fun x => hc (by simp [x])) (fun x => hc (by simp [x])) e }
end PySem
namespace L2
open PySem PySem.Spec PyProof.Rows
theorem zt_sep {n b : Nat} (hb : b < n) : ZipSep2 (n + 4) (n + 2) (n + 3) n (n + 1) [n] [n + 1, b] := by
  constructor <;> first | (refine PySem.W.neN ?_; omega) | (intro z; simp only [List.mem_cons, List.not_mem_nil, or_false] at z; rcases z with z | z <;> (have z : (_ : Nat) = _ := z; omega)) | (intro z; have z : (_ : Nat) = _ := List.mem_singleton.mp z; omega) | (simp; done)
theorem kv_zip : ∀ (ks : List Key) {ys : List V} {us : List Value}, Vals ys us → KV (ks.zip ys) (ks.zip us)
  | [], _, _, _ => .nil
  | k :: ks, _, _, .nil => .nil
  | k :: ks, _, _, .cons h t => .cons ⟨rfl, h⟩ (kv_zip ks t)
/-- dict(zip(text, tuple)), one value for a letter -/
def tDictZip (K : PySem.W.Frag) (ta : TA) : TE := fun σ H Q => ta σ H fun vs H1 => ∃ (x : Str) (b : Addr) (ys : List V), vs = [.str x, .ref b] ∧ SqT K H1 b ys ∧ x.cps.size = ys.length ∧
  ∀ p, H1 p = none → Q (.ref p) (upd H1 p (.dK (mergeK [] ((x.cps.toList.map fun c => (Sum.inr (⟨#[c]⟩ : Str) : Key)).zip ys))))
theorem pe_dictZip {X : Cx} {e e2 : Expr} {ta : TA} {p p2 pos pos2 : Pos} (hc : X.calm = true) (hg : Gl X "dict") (hm : X.mg "dict" = none) (hv : bootBuiltins "dict" = some (.type "dict")) (hgz : Gl X "zip") (hmz : X.mg "zip" = none) (ha : PA X [e, e2] ta)
    (hs : starEach [e, e2] X.env = (false, eval e X.env) :: starEach [e2] X.env := by rfl) (hpl : (backTo pos2 (starEach [e2] X.env)).any (·.1) = false := by rfl)
    (hs1 : starEach [.Call (.Name "zip" p2) [e, e2] [] pos2] X.env = (false, eval (.Call (.Name "zip" p2) [e, e2] [] pos2) X.env) :: starEach [] X.env := by rfl) :
    PE X (.Call (.Name "dict" p) [.Call (.Name "zip" p2) [e, e2] [] pos2] [] pos) (tDictZip X.K ta) := by
  refine ⟨fun pins s σ H Q I hq => ?_⟩
  refine wpAny_Call_Name_kw (ld_blt I hg hm hv ?_)
  refine PyProof.Rows.callWith_type1 ?_ hs1 rfl
  rw [hs1]
  show wpAny _ _ (spliced ((false, eval (.Call (.Name "zip" p2) [e, e2] [] pos2) X.env) :: backTo pos (starEach [] X.env))) _ _ s
  refine Calls.spliced_cons ?_
  refine Call_ (ld_blt I hgz hmz PyProof.Rows.boot_zip (PyProof.Rows.callWith_type1 (thn (ha.run pos2 pins s σ H _ I hq) fun us s1 hh => ?_) hs hpl))
  obtain ⟨vs, H1, I1, r1, x, b, ys, rfl, hys, hl, q⟩ := hh
  cases r1 with
  | cons r rr =>
    cases rr with
    | cons r' rr =>
      cases rr
      obtain ⟨t, rfl⟩ := r
      cases r'
      obtain ⟨its2, rv2, p2', hlen⟩ := I1.tuple hys
      obtain ⟨o2, ho2, _⟩ := id p2'
      have lb : b < s1.heap.objs.size := Heap.lt_size ho2
      have e2 := rv2.length
      refine zip_begins2 (begins_text x t) (begins_tuple b its2.toArray) trivial p2' fun h' hz hTI hTO h1 h2 hsz hk => Calls.spliced_nil ?_
      have J : Inv X pins σ H1 { s1 with heap := h' } := I1.kept (t' := s1.toks) hk
      have sz : min x.cps.size its2.toArray.size = ys.length := by
        have e3 : its2.toArray.size = ys.length := by rw [e2]; simp
        rw [e3, hl, Nat.min_self]
      refine PySem.call_dict_pairs (s := { s1 with heap := h' }) (knd := mixKind X.prog X.w) (kvs := (x.cps.toList.map fun c => (Sum.inr (⟨#[c]⟩ : Str) : Key)).zip its2) (PairArg.zipTx _ _ _ _ _ b (zt_sep lb) (Nat.ne_of_lt (Nat.lt_succ_of_lt lb)) x t its2.toArray) (J.ok.hd hc) ⟨hz, hTI, ⟨_, _, hTO⟩, ⟨_, h1, rfl, rfl⟩, ⟨_, h2, rfl, rfl⟩, (let ⟨o, ho, r⟩ := p2'; ⟨o, hk _ _ ho, r⟩)⟩ ⟨?_, fun i key v ⟨⟨c, u, hc', ek⟩, hv'⟩ => ⟨Sum.inr ⟨#[c]⟩, ?_, ?_⟩⟩ (by rw [sz]; exact hlen) fun h'' tk hd' hk' => ?_
      · rw [sz, List.length_zip, List.length_map, Array.length_toList, hl, ← e2, Nat.min_self]
      · refine List.getElem?_zip_eq_some.mpr ⟨?_, by simpa using hv'⟩
        rw [List.getElem?_map, Array.getElem?_toList, hc']
        rfl
      · rw [ek]
        exact keyIs_str _ u
      · have kk : ∀ b o, s1.heap.get? b = some o → h''.get? b = some o := fun c o e => hk' c o (fun hm => by
          have lt := Heap.lt_size e
          simp only [List.mem_cons, List.not_mem_nil, or_false] at hm
          rcases hm with z | z | z | z
          · rw [z] at lt; exact absurd lt (Nat.not_lt.mpr (Nat.le_add_right _ _))
          · rw [z] at lt; exact absurd lt (Nat.not_lt.mpr (Nat.le_add_right _ _))
          · rw [z] at lt; exact absurd lt (Nat.lt_irrefl _)
          · rw [z] at lt; exact absurd lt (Nat.not_lt.mpr (Nat.le_add_right _ _))) (hk c o e)
        have hge : s1.heap.objs.size ≤ h'.objs.size := by omega
        have kvr : KV ((x.cps.toList.map fun c => (Sum.inr (⟨#[c]⟩ : Str) : Key)).zip ys) ((x.cps.toList.map fun c => (Sum.inr (⟨#[c]⟩ : Str) : Key)).zip its2) := kv_zip _ rv2
        have hlen2 : (mergeK [] ((x.cps.toList.map fun c => (Sum.inr (⟨#[c]⟩ : Str) : Key)).zip ys)).length ≤ sizeLine := by
          refine Nat.le_trans (length_mergeK _ []) ?_
          rw [List.length_zip, List.length_nil]
          have := Nat.min_le_right (x.cps.toList.map fun c => (Sum.inr (⟨#[c]⟩ : Str) : Key)).length ys.length
          omega
        have hm' : (h'.objs.size == sysModules) = false := beq_eq_false_iff_ne.mpr (Nat.ne_of_gt J.big)
        exact ⟨.ref h'.objs.size, upd H1 h'.objs.size (.dK (mergeK [] ((x.cps.toList.map fun c => (Sum.inr (⟨#[c]⟩ : Str) : Key)).zip ys))), I1.laid (t' := tk) kk hge (show ObjOk X.prog X.w _ _ _ (.dK _) from ⟨hlen2, hm', _, KV.merge kvr .nil, hd'⟩), rfl, q _ (I1.hok.fresh hge)⟩
end L2

/-! list of the pairs of zip(list, list), as `collect` makes it -/
namespace Gm
open PySem PySem.Spec PyProof.Rows L2 PySem.W
structure ZLow (S z TI TO i1 i2 l1 l2 : Addr) : Prop where
  z : z < S
  TI : TI < S
  TO : TO < S
  i1 : i1 < S
  i2 : i2 < S
  l1 : l1 < S
  l2 : l2 < S
def ZSt (z TI TO i1 i2 l1 l2 : Addr) (xs ys : Array Value) (S : Addr) (i : Nat) (h : Heap) : Prop :=
  IsPair h TI (.ref i1) (.ref i2) ∧ h.IsListIter i1 l1 i ∧ h.IsListIter i2 l2 i ∧ h.IsList l1 xs ∧ h.IsList l2 ys ∧
    ((IsZip h z TI TO .none ∧ ∃ a b, IsPair h TO a b) ∨ ∃ T f oT, IsZipHeld h z TI TO T f ∧ h.get? T = some oT ∧ S < T)
section
variable {prog : Program} {w : World} {A : Around} {E : Value → Shared → Prop} {s : Shared} {R : Result → Shared → Prop} {z TI TO i1 i2 l1 l2 S : Addr} {xs ys : Array Value}
theorem ZSt.keep (L : ZLow S z TI TO i1 i2 l1 l2) {i : Nat} {h h' : Heap} (st : ZSt z TI TO i1 i2 l1 l2 xs ys S i h) (hk : ∀ b o, b ≠ S → h.get? b = some o → h'.get? b = some o) : ZSt z TI TO i1 i2 l1 l2 xs ys S i h' := by
  obtain ⟨hTI, h1, h2, hl1, hl2, hz⟩ := st
  refine ⟨hk _ _ (Nat.ne_of_lt L.TI) hTI, h1.at fun o e => hk _ o (Nat.ne_of_lt L.i1) e, h2.at fun o e => hk _ o (Nat.ne_of_lt L.i2) e, hl1.at fun o e => hk _ o (Nat.ne_of_lt L.l1) e, hl2.at fun o e => hk _ o (Nat.ne_of_lt L.l2) e, ?_⟩
  rcases hz with ⟨hz, a, b, hTO⟩ | ⟨T, f, oT, hz, hT, r⟩
  · exact .inl ⟨hk _ _ (Nat.ne_of_lt L.z) hz, a, b, hk _ _ (Nat.ne_of_lt L.TO) hTO⟩
  · exact .inr ⟨T, f, oT, hk _ _ (Nat.ne_of_lt L.z) hz, hk _ _ (Nat.ne_of_gt r) hT, r⟩
theorem nxtZ {Q : Option Value → Shared → Prop} {i : Nat} (D : ZipApart z TI TO i1 i2 l1 l2) (L : ZLow S z TI TO i1 i2 l1 l2) (st : ZSt z TI TO i1 i2 l1 l2 xs ys S i s.heap) (hS : S < s.heap.objs.size) {x y : Value} (ex : xs[i]? = some x) (ey : ys[i]? = some y)
    (hQ : ∀ h', ZSt z TI TO i1 i2 l1 l2 xs ys S (i + 1) h' → IsPair h' s.heap.objs.size x y → h'.objs.size = s.heap.objs.size + 1 → (∀ c o, c ≠ z → c ≠ TO → c ≠ i1 → c ≠ i2 → s.heap.get? c = some o → h'.get? c = some o) → Q (some (.ref s.heap.objs.size)) { s with heap := h' }) :
    wpAny (model prog w) A (pyNext (.ref z)) Q E s := by
  obtain ⟨hTI, h1, h2, hl1, hl2, hz⟩ := st
  rcases hz with ⟨hz, a, b, hTO⟩ | ⟨T, f, oT, hz, hT, r⟩
  · refine wpAny_pyNext_zip_item D hz hTI hTO h1 h2 hl1 hl2 ex ey fun h' a1 a2 a3 a4 a5 a6 hk => hQ h' ?_ a5 a6 hk
    exact ⟨hk _ _ D.TIz D.TITO D.TIi1 D.TIi2 hTI, a3, a4, hl1.at fun o e => hk _ o D.l1z D.l1TO D.l1i1 D.l1i2 e, hl2.at fun o e => hk _ o D.l2z D.l2TO D.l2i1 D.l2i2 e, .inr ⟨s.heap.objs.size, false, _, a1, a5, hS⟩⟩
  · have n : ∀ {c : Addr}, c < S → T ≠ c := fun q => Nat.ne_of_gt (Nat.lt_trans q r)
    refine wpAny_pyNext_zip_item_held D hz hT hTI h1 h2 hl1 hl2 ex ey fun h' a1 a3 a4 a5 a6 hk => hQ h' ?_ a5 a6 fun c o c1 _ c3 c4 e => hk c o c1 c3 c4 e
    exact ⟨hk _ _ D.TIz D.TIi1 D.TIi2 hTI, a3, a4, hl1.at fun o e => hk _ o D.l1z D.l1i1 D.l1i2 e, hl2.at fun o e => hk _ o D.l2z D.l2i1 D.l2i2 e, .inr ⟨T, true, oT, a1, hk _ _ (n L.z) (n L.i1) (n L.i2) hT, r⟩⟩
theorem finZ {Q : Option Value → Shared → Prop} {i : Nat} (hh : A.handled = none) (D : ZipApart z TI TO i1 i2 l1 l2) (st : ZSt z TI TO i1 i2 l1 l2 xs ys S i s.heap) (hend : xs[i]? = none ∨ ys[i]? = none)
    (hQ : ∀ h', (∀ c o, c ≠ z → c ≠ TO → c ≠ i1 → c ≠ i2 → s.heap.get? c = some o → h'.get? c = some o) → Q none { s with heap := h' }) :
    wpAny (model prog w) A (pyNext (.ref z)) Q E s := by
  obtain ⟨hTI, h1, h2, hl1, hl2, hz⟩ := st
  rcases hz with ⟨hz, a, b, hTO⟩ | ⟨T, f, oT, hz, hT, r⟩
  · exact wpAny_pyNext_zip_end hh D hz hTI hTO h1 h2 hl1 hl2 hend fun h' hk => hQ h' fun c o c1 c2 c3 c4 e => hk c o (by first | exact c1 | exact c2 | exact c3 | exact c4) (by first | exact c2 | exact c1 | exact c3 | exact c4) (by first | exact c3 | exact c1 | exact c2 | exact c4) (by first | exact c4 | exact c3) e
  · exact wpAny_pyNext_zip_end_held hh D hz hT hTI h1 h2 hl1 hl2 hend fun h' hk => hQ h' fun c o c1 _ c3 c4 e => hk c o c1 c3 c4 e
structure MadeZ (xs ys : Array Value) (lo : Addr) (h : Heap) (as : List Addr) : Prop where
  rise : as.Pairwise (· < ·)
  above : ∀ a ∈ as, lo < a
  pairs : ∀ (j : Nat) (a : Addr), as[j]? = some a → ∃ x y, xs[j]? = some x ∧ ys[j]? = some y ∧ IsPair h a x y
theorem MadeZ.there {lo : Addr} {h : Heap} {as : List Addr} (g : MadeZ xs ys lo h as) {a : Addr} (ha : a ∈ as) : a < h.objs.size := by
  obtain ⟨j, hj⟩ := List.mem_iff_getElem?.mp ha
  obtain ⟨_, _, _, _, e⟩ := g.pairs j a hj
  exact Heap.lt_size e
theorem loopZ (hh : A.handled = none) (D : ZipApart z TI TO i1 i2 l1 l2) (L : ZLow S z TI TO i1 i2 l1 l2) (hxy : xs.size = ys.size) (hn : xs.size ≤ sizeLine) (res : Value) {h₁ : Heap}
    (hR : ∀ h' tk acc c as, (∀ b o, b ≠ S → b ≠ z → b ≠ TO → b ≠ i1 → b ≠ i2 → h₁.get? b = some o → h'.get? b = some o) → h'.get? S = some { cls := .type "list", dict := none, data := .seq acc c, slots := #[] } → as.length = xs.size → MadeZ xs ys S h' as →
      acc.toList = as.map Value.ref → R (.ok (.ret res)) { s with heap := h', toks := tk }) :
    ∀ (k i : Nat) (h : Heap) (tk c : Nat) (acc : Array Value) (as : List Addr), xs.size - i = k → i ≤ xs.size → ZSt z TI TO i1 i2 l1 l2 xs ys S i h → (∀ b o, b ≠ S → b ≠ z → b ≠ TO → b ≠ i1 → b ≠ i2 → h₁.get? b = some o → h.get? b = some o) →
      h.get? S = some { cls := .type "list", dict := none, data := .seq acc c, slots := #[] } → acc.toList = as.map Value.ref → as.length = i → MadeZ xs ys S h as →
      codeAny (model prog w) A (.builtin "list.extend.loop" ⟨[.ref S, .ref z, res], []⟩) R { s with heap := h, toks := tk } := by
  have ab : ∀ {a c : Addr}, S < a → c < S → a ≠ c := fun h q => Nat.ne_of_gt (Nat.lt_trans q h)
  intro k
  induction k with
  | zero =>
    intro i h tk c acc as hk hi hst hkeep hS hacc hal hG
    refine codeAny_builtin PySem.F.entry_extend_loop ?_
    rw [Around.under_plainId PySem.F.plain_extend_loop _]
    show wpAny _ A.in1 (pyNext (.ref z) >>= _) _ _ _
    refine wpAny_bind (finZ (s := { s with heap := h, toks := tk }) (A := A.in1) hh D hst (.inl (Array.getElem?_eq_none (by omega))) fun h' he => ?_)
    refine wpAny_pure (hR h' tk acc c as (fun b o n0 n1 n2 n3 n4 e => he b o n1 n2 n3 n4 (hkeep b o n0 n1 n2 n3 n4 e)) (he S _ (Nat.ne_of_gt L.z) (Nat.ne_of_gt L.TO) (Nat.ne_of_gt L.i1) (Nat.ne_of_gt L.i2) hS) (by omega) ⟨hG.rise, hG.above, fun j a hj => ?_⟩ hacc)
    obtain ⟨x, y, e1, e2, e3⟩ := hG.pairs j a hj
    have g := hG.above a (List.mem_of_getElem? hj)
    exact ⟨x, y, e1, e2, he a _ (ab g L.z) (ab g L.TO) (ab g L.i1) (ab g L.i2) e3⟩
  | succ k ih =>
    intro i h tk c acc as hk hi hst hkeep hS hacc hal hG
    have hlt : i < xs.size := by omega
    have hsz : acc.size = i := by rw [← Array.length_toList, hacc, List.length_map, hal]
    have ex : xs[i]? = some (xs[i]'hlt) := Array.getElem?_eq_getElem hlt
    have ey : ys[i]? = some (ys[i]'(by omega)) := Array.getElem?_eq_getElem (by omega)
    have hSl : S < h.objs.size := Heap.lt_size hS
    refine codeAny_builtin PySem.F.entry_extend_loop ?_
    rw [Around.under_plainId PySem.F.plain_extend_loop _]
    show wpAny _ A.in1 (pyNext (.ref z) >>= _) _ _ _
    refine wpAny_bind (nxtZ (s := { s with heap := h, toks := tk }) D L hst hSl ex ey fun h' hst' ht hz hkp => ?_)
    dsimp only at ht hz hkp ⊢
    have hS' := hkp S _ (Nat.ne_of_gt L.z) (Nat.ne_of_gt L.TO) (Nat.ne_of_gt L.i1) (Nat.ne_of_gt L.i2) hS
    have up : ∀ b o, b ≠ S → h'.get? b = some o → (h'.update S (Obj.mapSeq (·.push (Value.ref h.objs.size)))).get? b = some o := fun b o hb e => (Heap.get?_update_other _ _ (Ne.symm hb)).trans e
    show wpAny _ A.in1 (updateSeq S (·.push (Value.ref h.objs.size)) >>= _) _ _ _
    refine wpAny_bind ?_
    refine wpAny_updateSeq hS' rfl (wpAny_pure ⟨plainId_quiet PySem.F.plain_extend_loop _, ih (i + 1) _ tk _ (acc.push (Value.ref h.objs.size)) (as ++ [h.objs.size]) (by omega) hlt (hst'.keep L up)
      (fun b o n0 n1 n2 n3 n4 e => up b o n0 (hkp b o n1 n2 n3 n4 (hkeep b o n0 n1 n2 n3 n4 e))) (Heap.get?_update_self _ hS' rfl) (by rw [Array.toList_push, hacc, List.map_append]; rfl) (by rw [List.length_append, hal]; rfl) ⟨?_, ?_, ?_⟩⟩) (by rw [hsz]; omega) (by show (acc.push (Value.ref h.objs.size)).size ≤ sizeLine + 1; rw [Array.size_push, hsz]; omega)
    · refine List.pairwise_append.mpr ⟨hG.rise, List.pairwise_singleton _ _, fun a ha b hb => ?_⟩
      rw [List.mem_singleton.mp hb]
      exact hG.there ha
    · intro a ha
      rcases List.mem_append.mp ha with ha | ha
      · exact hG.above a ha
      · rw [List.mem_singleton.mp ha]; exact hSl
    · intro j b hj
      rcases Nat.lt_trichotomy j as.length with h1 | h1 | h1
      · rw [List.getElem?_append_left h1] at hj
        obtain ⟨x, y, e1, e2, e3⟩ := hG.pairs j b hj
        have g := hG.above b (List.mem_of_getElem? hj)
        exact ⟨x, y, e1, e2, up b _ (Nat.ne_of_gt g) (hkp b _ (ab g L.z) (ab g L.TO) (ab g L.i1) (ab g L.i2) e3)⟩
      · subst h1
        have hb : h.objs.size = b := by simpa using hj
        subst hb
        subst hal
        exact ⟨_, _, ex, ey, up _ _ (Nat.ne_of_gt hSl) ht⟩
      · have hnone : (as ++ [h.objs.size])[j]? = none := List.getElem?_eq_none (by rw [List.length_append, List.length_singleton]; omega)
        rw [hnone] at hj; cases hj
end
end Gm

/-! sorted(zip(list, list)) up to the sort -/
namespace Gm
open PySem PySem.Spec PyProof.Rows L2 PySem.W
theorem zip_no_len : typeLookup (.type "zip") "__len__" = pure none := by rw [typeLookup_type, builtinLookup_eq_fast]; kernel_rfl
theorem zip_no_hint : typeLookup (.type "zip") "__length_hint__" = pure none := by rw [typeLookup_type, builtinLookup_eq_fast]; kernel_rfl
section
variable {prog : Program} {w : World} {A : Around} {E : Value → Shared → Prop} {s : Shared} {z TI TO i1 i2 l1 l2 : Addr} {xs ys : Array Value}
theorem collectZ {R : List Value → Shared → Prop} (hh : A.handled = none) (D : ZipApart z TI TO i1 i2 l1 l2) (hxy : xs.size = ys.size) (hn : xs.size ≤ sizeLine)
    (hz : IsZip s.heap z TI TO .none) (hTI : IsPair s.heap TI (.ref i1) (.ref i2)) {a0 b0 : Value} (hTO : IsPair s.heap TO a0 b0) (h1 : s.heap.IsListIter i1 l1 0) (h2 : s.heap.IsListIter i2 l2 0) (hl1 : s.heap.IsList l1 xs) (hl2 : s.heap.IsList l2 ys)
    (h : ∀ (h' : Heap) (tk : Nat) (as : List Addr), (∀ b o, b ≠ z → b ≠ TO → b ≠ i1 → b ≠ i2 → s.heap.get? b = some o → h'.get? b = some o) → s.heap.objs.size < h'.objs.size → as.length = xs.size → MadeZ xs ys s.heap.objs.size h' as → R (as.map Value.ref) { s with heap := h', toks := tk }) :
    wpAny (model prog w) A (collect (.ref z)) R E s := by
  have L : ZLow s.heap.objs.size z TI TO i1 i2 l1 l2 := ⟨Heap.lt_size hz, Heap.lt_size hTI, Heap.lt_size hTO, (let ⟨_, e, _⟩ := h1; Heap.lt_size e), (let ⟨_, e, _⟩ := h2; Heap.lt_size e), (let ⟨_, e, _⟩ := hl1; Heap.lt_size e), (let ⟨_, e, _⟩ := hl2; Heap.lt_size e)⟩
  have hSz : s.heap.objs.size ≠ z := Nat.ne_of_gt L.z
  unfold collect
  refine wpAny_bind (wpAny_runValue (codeAny_builtin PySem.F.entry_proto_collect ?_))
  rw [Around.under_plainId PySem.F.plain_proto_collect _]
  show wpAny _ A.in1 (newList [] >>= fun l => again (.builtin "list.__iadd__" ⟨[l, .ref z], []⟩)) _ _ s
  refine wpAny_bind (wpAny_newObj_type ?_)
  refine wpAny_pure ⟨plainId_quiet PySem.F.plain_list_iadd _, codeAny_builtin PySem.F.entry_list_iadd ?_⟩
  rw [Around.under_plainId PySem.F.plain_list_iadd _]
  have hz₁ : IsZip (s.heap.push { cls := .type "list", data := .seq ([] : List Value).toArray }) z TI TO .none := Heap.get?_push_of_some _ hz
  show wpAny _ A.in1 (Builtin.List.listExtendWith (.ref s.heap.objs.size) (.ref z) (.ref s.heap.objs.size)) _ _ _
  unfold Builtin.List.listExtendWith
  refine wpAny_bind (wpAny_typeOf (T := "zip") ⟨_, hz₁, rfl⟩ ?_)
  have k1 : Builtin.List.listSameRef (.ref s.heap.objs.size) (.ref z) = false := by simp [Builtin.List.listSameRef, hSz]
  have k2 : (Value.type "zip" == Value.type "list") = false := by decide
  have k3 : (Value.type "zip" == Value.type "tuple") = false := by decide
  simp only [k1, k2, k3, Bool.or_false, Bool.false_eq_true, if_false]
  refine wpAny_bind (wpAny_pyIter_zip hz₁ ?_)
  refine wpAny_bind (wpAny_holding ?_)
  unfold Builtin.List.listLengthHint
  refine wpAny_bind (wpAny_specialOf (T := "zip") ⟨_, hz₁, rfl⟩ zip_no_len ?_)
  show wpAny _ A.in1 (specialOf (Value.ref z) (Str.ofString "__length_hint__") >>= _) _ _ _
  refine wpAny_bind (wpAny_specialOf (T := "zip") ⟨_, hz₁, rfl⟩ zip_no_hint ?_)
  refine wpAny_pure ?_
  show wpAny _ A.in1 (rule "list.extend.makes-room" >>= fun _ => Builtin.List.listTouch (.ref s.heap.objs.size) >>= fun _ =>
    again (.builtin "list.extend.loop" ⟨[.ref s.heap.objs.size, .ref z, .ref s.heap.objs.size], []⟩)) _ _ _
  refine wpAny_bind (wpAny_rule ?_)
  have hS₁ : (s.heap.push { cls := .type "list", data := .seq ([] : List Value).toArray }).get? s.heap.objs.size = some { cls := .type "list", data := .seq ([] : List Value).toArray } := Heap.get?_push_size _ rfl
  refine wpAny_bind ?_
  show wpAny _ A.in1 (updateSeq s.heap.objs.size (·.push .none) >>= fun _ => updateSeq s.heap.objs.size (·.pop)) _ _ _
  refine wpAny_bind (wpAny_updateSeq hS₁ rfl ?_)
  have hS₂ := Heap.get?_update_self (Obj.mapSeq (·.push Value.none)) hS₁ rfl
  refine wpAny_updateSeq hS₂ rfl ?_
  have hS₃ := Heap.get?_update_self (Obj.mapSeq (·.pop)) hS₂ rfl
  have oth : ∀ b o, s.heap.get? b = some o →
      (((s.heap.push { cls := .type "list", data := .seq ([] : List Value).toArray }).update s.heap.objs.size (Obj.mapSeq (·.push Value.none))).update s.heap.objs.size (Obj.mapSeq (·.pop))).get? b = some o :=
    fun b o e => (Heap.get?_update_other _ _ (Nat.ne_of_gt (Heap.lt_size e))).trans ((Heap.get?_update_other _ _ (Nat.ne_of_gt (Heap.lt_size e))).trans (Heap.get?_push_of_some _ e))
  refine wpAny_pure ⟨plainId_quiet PySem.F.plain_extend_loop _, loopZ (s := s) (h₁ := s.heap) hh D L hxy hn (.ref s.heap.objs.size) (fun h' tk acc c as hk hS' hl hG hacc => ?_) xs.size 0 _ s.toks _ #[] [] (Nat.sub_zero _) (Nat.zero_le _)
    ⟨oth _ _ hTI, h1.at fun o e => oth _ o e, h2.at fun o e => oth _ o e, hl1.at fun o e => oth _ o e, hl2.at fun o e => oth _ o e, .inl ⟨oth _ _ hz, _, _, oth _ _ hTO⟩⟩ (fun b o _ _ _ _ _ e => oth b o e) hS₃ rfl rfl
    ⟨List.Pairwise.nil, (fun _ ha => nomatch ha), (fun j a hj => by simp at hj)⟩⟩
  show wpAny _ A (load s.heap.objs.size >>= _) _ _ _
  refine wpAny_bind (wpAny_load hS' ?_)
  refine wpAny_pure ?_
  show R acc.toList _
  rw [hacc]
  exact h h' tk as (fun b o n1 n2 n3 n4 e => hk b o (Nat.ne_of_lt (Heap.lt_size e)) n1 n2 n3 n4 e) (Heap.lt_size hS') hl hG
theorem sortedZ {Q : Value → Shared → Prop} (hh : A.handled = none) (D : ZipApart z TI TO i1 i2 l1 l2) (hxy : xs.size = ys.size) (hn : xs.size ≤ sizeLine)
    (hz : IsZip s.heap z TI TO .none) (hTI : IsPair s.heap TI (.ref i1) (.ref i2)) {a0 b0 : Value} (hTO : IsPair s.heap TO a0 b0) (h1 : s.heap.IsListIter i1 l1 0) (h2 : s.heap.IsListIter i2 l2 0) (hl1 : s.heap.IsList l1 xs) (hl2 : s.heap.IsList l2 ys)
    (h : ∀ (h' : Heap) (tk : Nat) (as : List Addr), (∀ b o, b ≠ z → b ≠ TO → b ≠ i1 → b ≠ i2 → s.heap.get? b = some o → h'.get? b = some o) → s.heap.objs.size < h'.objs.size → as.length = xs.size → MadeZ xs ys s.heap.objs.size h' as →
      wpAny (model prog w) A.in1 (call (.builtin "list.sort") [.ref h'.objs.size]) (fun _ s' => Q (.ref h'.objs.size) s') E { s with heap := h'.push { cls := .type "list", data := .seq (as.map Value.ref).toArray }, toks := tk }) :
    wpAny (model prog w) A (call (.builtin "sorted") [.ref z]) Q E s := by
  refine PySem.Calls.call_function_entry PyProof.Rows.kind_sorted PyProof.Rows.plain_sorted PyProof.Rows.entry_sorted (PyProof.Rows.args_sorted1 _) ?_
  unfold Builtin.«sorted»
  refine wpAny_bind (m := checkCount "sorted" 1 1 _) (wpAny_pure ?_)
  refine wpAny_bind (collectZ (A := A.in1) hh D hxy hn hz hTI hTO h1 h2 hl1 hl2 fun h' tk as hk hlt hl hG => ?_)
  refine wpAny_bind (wpAny_newList ?_ (by rw [List.length_map, hl]; exact hn))
  have hg := h h' tk as hk hlt hl hG
  refine wpAny_bind (wpAny_holding (wpAny_mono hg (fun _ s' x => ?_) fun _ _ e => e))
  exact wpAny_pure ⟨_, rfl, x⟩
end
end Gm

/-! sorted(set(list of texts)) -/
namespace GmR
open PySem PySem.Spec PyProof.Rows L2 PySem.W
def txtV (v : Value) : Str := match v with | .str k _ => k | _ => ⟨#[]⟩
theorem strs_of : ∀ (l : List Value), (∀ v ∈ l, ∃ k tk, v = Value.str k tk) → EachIs (fun v b => RelV (V.str b) v) l (l.map txtV)
  | [], _ => .nil
  | v :: l, h => by
    obtain ⟨k, tk, rfl⟩ := h v List.mem_cons_self
    exact .cons ⟨tk, rfl⟩ (strs_of l fun u hu => h u (List.mem_cons_of_mem _ hu))
theorem leS_sorted (L : List Str) : (L.mergeSort Gm.leS).Pairwise fun a b => ¬ b.cps.toList < a.cps.toList := by
  have h := List.pairwise_mergeSort (le := Gm.leS) (fun a b c h1 h2 => decide_eq_true (List.le_trans (of_decide_eq_true h1) (of_decide_eq_true h2))) (fun a b => by
      simp only [Bool.or_eq_true, decide_eq_true_eq]
      exact List.le_total _ _) L
  refine h.imp fun {a b} q => ?_
  exact List.not_lt.mpr (of_decide_eq_true q)
section
variable {P : Program} {w : World} {A : Around} {E : Value → Shared → Prop} {s : Shared} {a : Addr} {S : Str → Bool} {n : Nat}
theorem sorted_setT {Q : Value → Shared → Prop} (R : SetT w s.heap a S n) (hh : A.handled = none) (hn0 : n ≤ sizeLine) (hu : A.units + 8 < cLine)
    (hQ : ∀ s' p (out : List Value) (c : Nat) (ys : List Str), (∀ b o, s.heap.get? b = some o → s'.heap.get? b = some o) → s'.gens = s.gens → s'.os = s.os → s.heap.objs.size ≤ p →
      s'.heap.get? p = some (seqObj "list" out.toArray c) → Vals (ys.map V.str) out → ys.Pairwise (fun a b => ¬ b.cps.toList < a.cps.toList) → ys.Nodup → (∀ k, k ∈ ys ↔ S k = true) → ys.length = n → Q (.ref p) s') :
    wpAny (model P w) A (call (.builtin "sorted") [.ref a]) Q E s := by
  obtain ⟨o, es, ep, t, ho, hex, hd, g, nd, hm, hb, hf, hn, hr, hl⟩ := R
  refine Calls.call_function_entry kind_sorted plain_sorted entry_sorted (args_sorted1 _) ?_
  unfold Builtin.«sorted»
  refine wpAny_bind (m := checkCount "sorted" 1 1 _) (wpAny_pure ?_)
  refine wpAny_bind (collect_set (A := A.in1) hh ⟨o, ho, hex.1, hd⟩ hf hb hr hl fun s1 vs k1 hz g1 o1 pm => ?_)
  have hvl : vs.length = n := by rw [pm.length_eq, List.length_map, Array.length_toList]; exact hn
  have hI := strs_of vs fun v hv => by
    obtain ⟨e, he, q⟩ := List.mem_map.mp (pm.mem_iff.mp hv)
    obtain ⟨k, tk, h1, _⟩ := g e he
    exact ⟨k, tk, by rw [← q]; exact h1⟩
  have pk : (vs.map txtV).Perm (es.toList.map keyT) := by
    have q := pm.map txtV
    rw [List.map_map] at q
    exact q
  have pn : ((vs.map txtV).mergeSort Gm.leS).Perm (es.toList.map keyT) := (List.mergeSort_perm _ _).trans pk
  refine wpAny_bind (wpAny_newList ?_ (by rw [hvl]; exact hn0))
  have hoL : (s1.heap.push (seqObj "list" vs.toArray 0)).get? s1.heap.objs.size = some (seqObj "list" vs.toArray 0) := Heap.get?_push_size _ rfl
  refine wpAny_bind (wpAny_holding (list_sort_data (vs := vs) (bs := vs.map txtV) (enc := PyData.str) (n := 0) (R := fun v b => RelV (V.str b) v) hoL hI (hI.mono fun v b ⟨t, e⟩ => ⟨[], by rw [e]; exact .str _ _, List.not_mem_nil⟩)
    (AllAlike.of fun b b' => by simp [alike]) (Sortable.others fun b => ⟨fun z => (nomatch z), fun _ z => (nomatch z)⟩) (by rw [List.length_map, hvl]; exact hn0) (fun b _ => by show A.units + 1 + 1 + _ < cLine; simp only [PyData.depth]; omega) fun out ol oe => ?_))
  have el : dataLe false PyData.str = Gm.leS := dataLe_str (fun b : Str => b)
  rw [el] at oe
  obtain ⟨c, hc⟩ := sortedHeap_at (vs := vs) (out := out.toArray) hoL
  refine wpAny_pure ⟨_, rfl, hQ _ s1.heap.objs.size out c _ (fun b u e => ?_) g1 o1 hz hc (Gm.vals_of_each V.str oe) (leS_sorted _) (pn.nodup_iff.mpr nd) (fun k => by rw [pn.mem_iff, ← hm k]) ?_⟩
  · have q := k1 b u e
    have hlt := Heap.lt_size q
    show (sortedHeap (s1.heap.push (seqObj "list" vs.toArray 0)) s1.heap.objs.size vs out.toArray).get? b = some u
    rw [sortedHeap_old (Nat.ne_of_lt hlt) (by rw [size_push']; exact Nat.lt_succ_of_lt hlt)]
    exact Heap.get?_push_of_some _ q
  · rw [pn.length_eq, List.length_map, Array.length_toList]; exact hn
end
/-- sorted(set(xs)), xs a list of texts -/
def tSortSet (K : PySem.W.Frag) (ta : TE) : TE := fun σ H Q => ta σ H fun x H1 => ∃ (l : Addr) (xs : List Str), x = .ref l ∧ SqL K H1 l (xs.map V.str) ∧ xs.length + 1 < scanBound ∧
  ∀ (H' : Hp) (p : Addr) (ys : List Str), (∀ b o, H1 b = some o → H' b = some o) → H' p = some (.lst (ys.map V.str)) → ys.Pairwise (fun a b => ¬ b.cps.toList < a.cps.toList) → ys.Nodup → (∀ k, k ∈ ys ↔ k ∈ xs) → Q (.ref p) H'
theorem pe_sortedSet {X : Cx} {a : Expr} {ta : TE} {p p2 q pos : Pos} (hc : X.calm = true) (hu : X.A.units + 8 < cLine) (hg : Gl X "sorted") (hm : X.mg "sorted" = none) (hv : bootBuiltins "sorted" = some (.builtin "sorted")) (hg2 : Gl X "set") (hm2 : X.mg "set" = none) (ha : PE X a ta)
    (na : starEach [a] X.env = (false, eval a X.env) :: starEach [] X.env := by rfl)
    (hs1 : starEach [.Call (.Name "set" p2) [a] [] q] X.env = (false, eval (.Call (.Name "set" p2) [a] [] q) X.env) :: starEach [] X.env := by rfl) : PE X (.Call (.Name "sorted" p) [.Call (.Name "set" p2) [a] [] q] [] pos) (tSortSet X.K ta) := by
  refine ⟨fun pins s σ H Q I h => ?_⟩
  refine wpAny_Call_Name_kw (ld_blt I hg hm hv ?_)
  refine PyProof.Rows.callWith_builtin1 ?_ hs1 rfl
  rw [hs1]
  show wpAny _ _ (spliced ((false, eval (.Call (.Name "set" p2) [a] [] q) X.env) :: backTo pos (starEach [] X.env))) _ _ s
  refine Calls.spliced_cons ?_
  refine Call_ (ld_blt I hg2 hm2 boot_set ?_)
  refine PyProof.Rows.callWith_type1 (PyProof.Rows.args_cons (thn (ha.run pins s σ H _ I h) fun v s1 ⟨x, H1, I1, r1, q1⟩ => PyProof.Rows.args_nil ?_) na) na rfl
  obtain ⟨l, xs, rfl, hq, hsb, q1⟩ := q1
  cases r1
  obtain ⟨its, r, pl, hz⟩ := I1.list hq
  have hh : X.A.handled = none := I1.ok.hd hc
  refine call_set_lstS xs hh pl.isList (by simpa using L2.strsAre_of r) hsb fun h' tk c hS hc' hk => ?_
  refine Calls.spliced_nil ?_
  have hx : xs.length ≤ sizeLine := by unfold scanBound at hsb; rw [sizeLine_eq]; omega
  refine sorted_setT (s := { s1 with heap := h', toks := tk }) hS hh (by omega) hu fun s' p out c2 ys k g o hp hgp hv' hsrt hnd hmem hlen => ?_
  have hlenV : (ys.map V.str).length ≤ sizeLine := by rw [List.length_map]; omega
  have kk : ∀ b o, s1.heap.get? b = some o → s'.heap.get? b = some o := fun b o e => k b o (hk b o e)
  have hp1 : s1.heap.objs.size ≤ p := by
    have : s1.heap.objs.size ≤ h'.objs.size := by
      have := hS.lt
      exact Nat.le_of_lt this
    exact Nat.le_trans this hp
  have hn0 : H1 p = none := I1.hok.fresh hp1
  have J : Inv X pins σ (upd H1 p (.lst (ys.map V.str))) { s1 with heap := s'.heap, gens := s'.gens, drawn := s'.drawn, toks := s'.toks } :=
    I1.call (ch := []) (Un.laid kk hp1 hn0) (I1.hok.laid kk hp1 ⟨hlenV, out, c2, hv', hgp⟩) (by rw [g]; exact I1.bare) (fun _ z => nomatch z)
  have e : s' = { s1 with heap := s'.heap, gens := s'.gens, drawn := s'.drawn, toks := s'.toks } := by
    cases s'
    cases s1
    cases o
    rfl
  show EP X pins σ Q (.ref p) s'
  rw [e]
  exact ⟨.ref p, _, J, rfl, q1 _ p ys (fun b o eb => by rw [upd_ne (ne_of_none eb hn0)]; exact eb) upd_same hsrt hnd fun k => by rw [hmem k]; exact decide_eq_true_iff⟩
end GmR

/-! check_guesses, letters_at, most_copies, tried_by, tried (k19; by gen_ta.py) -/
namespace Gm
open PySem PySem.Spec PyProof.Rows L2





abbrev txs (ws : List (List Nat)) : List V := ws.map fun w => .str (tx w)
theorem txs_len (ws : List (List Nat)) : (txs ws).length = ws.length := List.length_map ..
theorem sm_tr {A B D : Hp} (x : Same A B) (y : Same B D) : Same A D := fun b o e => y _ _ (x _ _ e)
theorem cnt_tx (w : List Nat) (a : Nat) : Txt.count (tx w) (one a) = (w.count a : Nat) := by
  rw [PyProof.Rows.count_cnt]
  show PyProof.Rows.cnt a w = _
  induction w with
  | nil => rfl
  | cons b w ih =>
    rw [PyProof.Rows.cnt_cons, ih, List.count_cons]
    by_cases h : b = a <;> simp [h] <;> omega
theorem takeS {α : Type} {xs : List α} {i : Nat} {x : α} (h : xs[i]? = some x) : xs.take (i + 1) = xs.take i ++ [x] := by
  rw [List.take_succ_eq_append_getElem (List.getElem?_eq_some_iff.mp h).1, (List.getElem?_eq_some_iff.mp h).2]
theorem same_putN {H H' : Hp} {N : Addr} {o : HO} (s : Same H H') (n : H N = none) : Same H (upd H' N o) := fun b u e => by
  rw [upd_ne (ne_of_none e n)]
  exact s b u e
theorem same_free {H H' : Hp} {N : Addr} (s : Same H H') (n : H' N = none) : H N = none := by
  cases e : H N with
  | none => rfl
  | some o => exact absurd ((s _ _ e).symm.trans n) (by simp)
theorem at_txs {ws : List (List Nat)} {i : Nat} {x : V} (h : (txs ws)[i]? = some x) : ∃ w, ws[i]? = some w ∧ x = .str (tx w) := by
  rw [List.getElem?_map] at h
  cases e : ws[i]? with
  | none => rw [e] at h; cases h
  | some w => rw [e] at h; exact ⟨w, rfl, (Option.some.inj h).symm⟩
/-- the letters of the guesses at a place, ascending -/
def atL (l : List Nat) (gs : List (List Nat)) (i : Nat) : List Nat := l.filter fun c => decide (c ∈ gs.map fun g => g.getD i 0)
/-- the most copies of a letter in a guess -/
def mostC (gs : List (List Nat)) (c : Nat) : Int := mxDef 0 (gs.map fun g => ((g.count c : Nat) : Int))
/-- what tried tells -/
def TrAt (H : Hp) (T : Addr) (l : List Nat) (n : Nat) (gs : List (List Nat)) : Prop := ∃ A B : Addr, H T = some (.tup [.ref A, .ref B]) ∧ H A = some (.tup ((List.range n).map fun i => V.str (tx (atL l gs i)))) ∧ H B = some (.tup (l.map fun c => V.int (mostC gs c)))
def spChkG (C : Addr) : Sp := fun vs H Q _ => ∃ (b a : Addr) (l : List Nat) (n : Int) (gs : List (List Nat)), vs = [.ref b, .ref a] ∧ Bd C H b l n ∧ H a = some (.tup (txs gs)) ∧ gs.length ≤ 20 ∧ (∀ g ∈ gs, Wd l n g) ∧ ∀ H', Same H H' → Q .non H'
def spLatT (C : Addr) : Sp := fun vs H Q _ => ∃ (b a : Addr) (l : List Nat) (n : Int) (gs : List (List Nat)) (i : Nat), vs = [.ref b, .ref a, .int (i : Int)] ∧ Bd C H b l n ∧ H a = some (.tup (txs gs)) ∧ (∀ g ∈ gs, Wd l n g) ∧ gs.length ≤ 20 ∧ (i : Int) < n ∧ ∀ H', Same H H' → Q (.str (tx (atL l gs i))) H'
def spMost : Sp := fun vs H Q _ => ∃ (a : Addr) (gs : List (List Nat)) (c : Nat), vs = [.ref a, .str (one c)] ∧ H a = some (.tup (txs gs)) ∧ gs.length ≤ 20 ∧ (∀ g ∈ gs, g.length ≤ 6) ∧ ∀ H', Same H H' → Q (.int (mostC gs c)) H'
def spTrBy (C : Addr) : Sp := fun vs H Q _ => ∃ (b a : Addr) (l : List Nat) (n : Int) (gs : List (List Nat)), vs = [.ref b, .ref a] ∧ Bd C H b l n ∧ H a = some (.tup (txs gs)) ∧ (∀ g ∈ gs, Wd l n g) ∧ gs.length ≤ 20 ∧ ∀ H' T, Same H H' → H T = none → TrAt H' T l n.toNat gs → Q (.ref T) H'
section
variable {P : Program} {w : World} {K : PySem.W.Frag} {mg : Str → Option Value} {base : Heap} {C : Addr}
abbrev nCG : List Str := ["board", "guesses", "index", "guess"]
theorem scChkG : FnScope nCG ["board", "guesses"] (defScope sChkG) := ⟨rfl, rfl, rfl, by decide +kernel, rfl, by decide +kernel, by decide +kernel⟩
theorem ok_chkG {f C fR : Addr} {fd fdR : FuncData} (F : Fun K "check_guesses" "check_guesses" sChkG f fd) (tl : mg "len" = none) (te : mg "enumerate" = none) (ti : mg "isinstance" = none) (tt : mg "tuple" = none) (tm : ∃ t, mg "MOST_GUESSES" = some (.int 20 t)) (GR : FnOk P w K mg base CX0 2 fR fdR ["board", "value"] (spIsW K C none)) (DR : Df K mg "is_word" fR fdR ["board", "value"]) :
    FnOk P w K mg base CX0 3 f fd ["board", "guesses"] (spChkG C) := by
  refine F.ok scChkG (fun vs H Q E h => ?_) (fun cdv A outer s H vs Q E hr h => ?_)
  · obtain ⟨p, r, l, n, gs, rfl, _⟩ := h
    rfl
  · obtain ⟨p, r, l, n, gs, rfl, hb, hv, hl, ok, q⟩ := h
    have nd := scChkG.nd
    obtain ⟨t20, m20⟩ := tm
    refine ⟨_, pss_cons (ps_if (PW.pt (pw_or (pt_not (pt_val (pe_callB call_isi (by rfl) ti (by decide +kernel) (pa_cons (pv 1) (pa_cons (pe_bltn (v := .ty "tuple") (by rfl) tt (by decide +kernel) rfl) pa_nil))))) (pw_or1 (pt_cmpR op_gt (pe_callB call_len_seq (by rfl) tl PySem.boot_len (pa_cons (pv 1) pa_nil)) (pe_glob (v := .int 20) (by rfl) m20 ⟨_, rfl⟩) (nomark _))))) (pss_one ps_never) pss_nil)
      (pss_one (ps_for PassesOwn.never rfl (pi_enumT (by rfl) te (pa_cons (pv 1) pa_nil)) (pg_tup (by rfl) (pgs_cons (pg_name (i := 2) nd rfl (Or.inl rfl)) (pgs_cons (pg_name (i := 3) nd rfl (Or.inl rfl)) pgs_nil)))
        (pss_one (ps_if (pt_not (pt_val (pe_call GR hr (by rfl) DR.mg DR.kp DR.b .nil pass0 (pa_cons (pv 0) (pa_cons (pv 3) pa_nil))))) (pss_one ps_never) pss_nil)))), ?_⟩
    refine ⟨_, rfl, _, _, _, _, _, rfl, .ty "tuple", .base (.tup hv), kit_ty (r := true) (by decide +kernel), _, rfl, iteF ?_⟩
    refine ⟨_, rfl, r, _, rfl, .inr (SqT.of hv), _, _, rfl, rfl, _, rfl, ?_⟩
    rw [decide_eq_false (show ¬ (((txs gs).length : Nat) : Int) > 20 from by rw [txs_len]; omega)]
    refine iteF ⟨_, rfl, r, txs gs, rfl, SqT.of hv, for_it walk_iten (fun i σ H' => (∃ v2 v3 : Option V, σ = [some (.ref p), some (.ref r), v2, v3]) ∧ Same H H') ⟨⟨_, _, rfl⟩, Same.refl H⟩ (fun i σ H' _ ⟨_, sm⟩ => SqT.of (sm _ _ hv)) ?_ ?_⟩
    · rintro i x σ H1 H2 hi ⟨⟨v2, v3, rfl⟩, sm⟩ ⟨T, y, rfl, hT, rfl, hy⟩
      unfold txs at hy
      rw [List.getElem?_map] at hy
      obtain ⟨g, hg, rfl⟩ := Option.map_eq_some_iff.mp hy
      have sm2 : Same H (upd H1 T (.tup [.int (i : Nat), .str (tx g)])) := sm_tr sm (same_upd hT)
      refine ⟨T, _, rfl, SqT.of upd_same, rfl, _, _, rfl, _, _, rfl, rfl, ?_⟩
      have wd := ok g (List.mem_of_getElem? hg)
      have n6 := hb.2.2.2
      have wl := wd.1
      refine ⟨_, rfl, _, rfl, p, l, n, _, rfl, hb.same sm2, .inl ⟨g, rfl, by omega, fun H3 s3 => ⟨_, rfl, ?_⟩⟩⟩
      rw [decide_eq_true (show Wd ((none : Option (List Nat)).getD l) n g from wd)]
      exact iteF ⟨⟨_, _, rfl⟩, sm_tr sm2 s3⟩
    · rintro σ H1 ⟨_, sm⟩
      exact q _ sm
abbrev nLatT : List Str := ["board", "guesses", "place", "found", "guess", "letter"]
theorem scLatT : FnScope nLatT ["board", "guesses", "place"] (defScope sLatT) := ⟨rfl, rfl, rfl, by decide +kernel, rfl, by decide +kernel, by decide +kernel⟩
theorem ok_latT {f : Addr} {fd : FuncData} (F : Fun K "letters_at" "letters_at" sLatT f fd) (TC : TxC K mg C)
    : FnOk P w K mg base CX0 1 f fd ["board", "guesses", "place"] (spLatT C) := by
  refine F.ok scLatT (fun vs H Q E h => ?_) (fun cdv A outer s H vs Q E hr h => ?_)
  · obtain ⟨b, a, l, n, gs, i, rfl, _⟩ := h
    rfl
  · obtain ⟨b, a, l, n, gs, i, rfl, hb, ha, ok, lg, hi, q⟩ := h
    have nd := scLatT.nd
    have hline : sizeLine = 16777216 := sizeLine_eq
    refine ⟨_, pss_cons (ps_set (i := 3) nd rfl (Or.inr rfl) (pe_lc (own := [("guess", 4)]) (g := gName 4) (by rfl) nd (pi_tup (pv 1)) (blkOk_by (own := [("guess", 4)]) (N := nLatT) (sc := defScope sLatT) (by decide +kernel)) (fun _ _ _ _ _ => pg_name (i := 4) nd rfl (Or.inl rfl)) (fun _ _ _ _ _ => pts_nil) (fun _ _ _ _ _ => pe_ix ix_str (pv 4) (pv 2) (fun _ _ => rfl))))
      (pss_one (ps_ret (pe_join pe_str (pe_lc (tt := (tTest (tOp (rIn K false) (tVar 5) (tVar 3)))) (own := [("letter", 5)]) (g := gName 5) (by rfl) nd (pi_str (pe_fld (pv 0) rfl)) (blkOk_by (own := [("letter", 5)]) (N := nLatT) (sc := defScope sLatT) (by decide +kernel)) (fun _ _ _ _ _ => pg_name (i := 5) nd rfl (Or.inl rfl)) (fun _ _ _ _ _ => by exact pts_one (pt_cmpR op_in_seq (pv 5) (pv 3) rfl)) (fun _ _ _ _ _ => by exact (pv 5)))))), ?_⟩
    obtain ⟨⟨dx, eb⟩, l26, n1, n6⟩ := _root_.id hb
    have gi : ∀ {j : Nat} {g : List Nat}, gs[j]? = some g → g[i]? = some (g.getD i 0) := fun {j} {g} hg => by
      have wl := (ok g (List.mem_of_getElem? hg)).1
      have hi' : i < g.length := by omega
      rw [List.getD_eq_getElem?_getD, List.getElem?_eq_getElem hi']
      rfl
    refine ⟨_, rfl, a, rfl, ⟨_, SqT.of ha⟩, fun M zM => lc_tup (xs := txs gs) (fun j H' => Same H H' ∧ H' M = some (.lst (((gs.take j).map fun g => g.getD i 0).map fun c => V.str (one c)))) ⟨same_upd zM, upd_same⟩ (fun j H' _ h => SqT.of (h.1 _ _ ha)) ?_ ?_⟩
    · rintro j y H1 hy ⟨sm, hM⟩
      obtain ⟨g, hg, rfl⟩ := at_txs hy
      have wl := (ok g (List.mem_of_getElem? hg)).1
      refine ⟨rfl, ⟨_, rfl, _, rfl, tx g, _, g.getD i 0, rfl, rfl, by rw [tx_len]; omega, atI_nat (gi hg), _, hM, ?_, same_putN sm zM, ?_⟩⟩
      · rw [List.length_map, List.length_map, List.length_take]
        omega
      · rw [upd_same, takeS hg, List.map_append, List.map_append]
        rfl
    rintro H1 ⟨s1, hM⟩
    rw [txs_len, List.take_length] at hM
    have eb1 := s1 _ _ eb
    refine ⟨⟨_, rfl⟩, _, rfl, b, C, dx, _, _, rfl, eb1, TC.cl, TC.nL, bf_letters _ _, tx l, rfl, fun M2 zM2 => ?_⟩
    refine lc_it (walk_str (z := tx l)) (fun k H' => Same H1 H' ∧ H' M2 = some (.lst (((l.take k).filter fun c => decide (c ∈ gs.map fun g => g.getD i 0)).map fun c => V.str (one c)))) ⟨same_upd zM2, upd_same⟩ (fun _ _ _ _ => trivial) ?_ ?_
    · rintro k y Ha Hb hk ⟨sm, hM2⟩ ⟨rfl, c, hc, rfl⟩
      have hc' := tx_at hc
      refine ⟨rfl, ?_⟩
      refine ⟨_, rfl, _, rfl, M, _, rfl, .inl (SqL.of (sm _ _ hM)), rfl, by rw [List.all_map]; exact List.all_eq_true.mpr fun _ _ => rfl, _, rfl, ?_⟩
      show if inV (.str (one c)) ((gs.map fun g => g.getD i 0).map fun c => V.str (one c)) = true then _ else _
      rw [in_ones]
      by_cases h : c ∈ gs.map fun g => g.getD i 0
      · rw [if_pos (decide_eq_true h)]
        refine ⟨_, rfl, _, hM2, ?_, same_putN sm zM2, ?_⟩
        · rw [List.length_map]
          have := List.length_filter_le (fun c => decide (c ∈ gs.map fun g => g.getD i 0)) (l.take k)
          rw [List.length_take] at this
          omega
        · rw [upd_same, takeS hc', List.filter_append, List.filter_cons, if_pos (decide_eq_true h), List.filter_nil, List.map_append]
          rfl
      · rw [if_neg (by rw [decide_eq_false h]; exact Bool.false_ne_true)]
        refine ⟨sm, ?_⟩
        rw [hM2, takeS hc', List.filter_append, List.filter_cons, if_neg (by rw [decide_eq_false h]; exact Bool.false_ne_true), List.filter_nil, List.append_nil]
    rintro H2 ⟨s2, hM2⟩
    rw [tx_size, List.take_length] at hM2
    refine ⟨_, M2, (atL l gs i).map one, rfl, rfl, .inl (SqL.of (by rw [List.map_map]; exact hM2)), ?_, ?_⟩
    · rw [sum_one, List.length_map]
      have := List.length_filter_le (fun c => decide (c ∈ gs.map fun g => g.getD i 0)) l
      show (atL l gs i).length + (atL l gs i).length * 0 ≤ 16777216
      unfold atL
      omega
    · show Q (.str (Txt.join (Str.ofString "") ((atL l gs i).map one))) H2
      rw [join_one]
      exact q H2 (sm_tr s1 s2)
abbrev nMost : List Str := ["guesses", "letter", "guess"]
theorem scMost : FnScope nMost ["guesses", "letter"] (defScope sMost) := ⟨rfl, rfl, rfl, by decide +kernel, rfl, by decide +kernel, by decide +kernel⟩
theorem ok_most {f : Addr} {fd : FuncData} (F : Fun K "most_copies" "most_copies" sMost f fd) (tmax_ : mg "max" = none)
    : FnOk P w K mg base CX0 1 f fd ["guesses", "letter"] spMost := by
  refine F.ok scMost (fun vs H Q E h => ?_) (fun cdv A outer s H vs Q E hr h => ?_)
  · obtain ⟨a, gs, c, rfl, _⟩ := h
    rfl
  · obtain ⟨a, gs, c, rfl, ha, lg, g6, q⟩ := h
    have nd := scMost.nd
    have hline : sizeLine = 16777216 := sizeLine_eq
    have hu8 : (A.deeper (PyProof.Rows.envOfC "most_copies" (defScope sMost) s.heap.objs.size f cdv)).units + 8 < cLine := by have := hr.units; omega
    refine ⟨_, pss_one (ps_ret (pe_callBK (cr_maxDef rfl hu8) (by rfl) tmax_ (by decide +kernel) (pa_cons (pe_lc (own := [("guess", 2)]) (g := gName 2) (by rfl) nd (pi_tup (pv 0)) (blkOk_by (own := [("guess", 2)]) (N := nMost) (sc := defScope sMost) (by decide +kernel)) (fun _ _ _ _ _ => pg_name (i := 2) nd rfl (Or.inl rfl)) (fun _ _ _ _ _ => pts_nil) (fun _ _ _ _ _ => pe_m1 PySem.F.slot_str_count PySem.F.type_str_count mt_count (pv 2) (pv 1))) pa_nil) (pk_cons pe_int pk_nil))), ?_⟩
    refine ⟨_, rfl, a, rfl, ⟨_, SqT.of ha⟩, fun M zM => lc_tup (xs := txs gs) (fun j H' => Same H H' ∧ H' M = some (.lst (((gs.take j).map fun g => ((g.count c : Nat) : Int)).map V.int))) ⟨same_upd zM, upd_same⟩ (fun j H' _ h => SqT.of (h.1 _ _ ha)) ?_ ?_⟩
    · rintro j y H1 hy ⟨sm, hM⟩
      obtain ⟨g, hg, rfl⟩ := at_txs hy
      refine ⟨rfl, ⟨_, rfl, ⟨_, rfl⟩, _, rfl, tx g, one c, rfl, rfl, _, hM, ?_, same_putN sm zM, ?_⟩⟩
      · rw [List.length_map, List.length_map, List.length_take]
        omega
      · rw [upd_same, takeS hg, List.map_append, List.map_append, cnt_tx]
        rfl
    rintro H1 ⟨s1, hM⟩
    rw [txs_len, List.take_length] at hM
    exact ⟨M, _, 0, rfl, rfl, SqL.of hM, q _ s1⟩
abbrev nTrBy : List Str := ["board", "guesses", "letters", "numbers", "place", "letter"]
theorem scTrBy : FnScope nTrBy ["board", "guesses"] (defScope sTrBy) := ⟨rfl, rfl, rfl, by decide +kernel, rfl, by decide +kernel, by decide +kernel⟩
theorem ok_trby {f fL fM : Addr} {fd fdL fdM : FuncData} (F : Fun K "tried_by" "tried_by" sTrBy f fd) (TC : TxC K mg C) (tran_ : mg "range" = none) (ttup_ : mg "tuple" = none)
    (GL : FnOk P w K mg base CX0 1 fL fdL ["board", "guesses", "place"] (spLatT C)) (DL : Df K mg "letters_at" fL fdL ["board", "guesses", "place"])
    (GM : FnOk P w K mg base CX0 1 fM fdM ["guesses", "letter"] spMost) (DM : Df K mg "most_copies" fM fdM ["guesses", "letter"])
    : FnOk P w K mg base CX0 2 f fd ["board", "guesses"] (spTrBy C) := by
  refine F.ok scTrBy (fun vs H Q E h => ?_) (fun cdv A outer s H vs Q E hr h => ?_)
  · obtain ⟨b, a, l, n, gs, rfl, _⟩ := h
    rfl
  · obtain ⟨b, a, l, n, gs, rfl, hb, ha, ok, lg, q⟩ := h
    have nd := scTrBy.nd
    have hline : sizeLine = 16777216 := sizeLine_eq
    have hrL : Room 1 _ := hr.mono (by decide)
    have hrM : Room 1 _ := hr.mono (by decide)
    refine ⟨_, pss_cons (ps_set (i := 2) nd rfl (Or.inl rfl) (pe_callTy call_tuple_of (by rfl) ttup_ (by decide +kernel) (pa_cons (pe_lc (own := [("place", 4)]) (g := gName 4) (by rfl) nd (pi_range1 (by rfl) tran_ (pa_cons (pe_fld (pv 0) rfl) pa_nil)) (blkOk_by (own := [("place", 4)]) (N := nTrBy) (sc := defScope sTrBy) (by decide +kernel)) (fun _ _ _ _ _ => pg_name (i := 4) nd rfl (Or.inl rfl)) (fun _ _ _ _ _ => pts_nil) (fun _ _ _ _ _ => pe_call GL hrL (by rfl) DL.mg DL.kp DL.b .nil pass0 (pa_cons (pv 0) (pa_cons (pv 1) (pa_cons (pv 4) pa_nil))))) pa_nil)))
      (pss_cons (ps_set (i := 3) nd rfl (Or.inl rfl) (pe_callTy call_tuple_of (by rfl) ttup_ (by decide +kernel) (pa_cons (pe_lc (own := [("letter", 5)]) (g := gName 5) (by rfl) nd (pi_str (pe_fld (pv 0) rfl)) (blkOk_by (own := [("letter", 5)]) (N := nTrBy) (sc := defScope sTrBy) (by decide +kernel)) (fun _ _ _ _ _ => pg_name (i := 5) nd rfl (Or.inl rfl)) (fun _ _ _ _ _ => pts_nil) (fun _ _ _ _ _ => pe_call GM hrM (by rfl) DM.mg DM.kp DM.b .nil pass0 (pa_cons (pv 1) (pa_cons (pv 5) pa_nil)))) pa_nil)))
      (pss_one (ps_ret (pe_tup (pa_cons (pv 2) (pa_cons (pv 3) pa_nil)))))), ?_⟩
    obtain ⟨⟨dx, eb⟩, l26, n1, n6⟩ := _root_.id hb
    refine ⟨_, rfl, b, C, dx, _, _, rfl, eb, TC.cl, TC.nN, bf_length _ _, n, rfl, by omega, by omega, fun M zM => ?_⟩
    refine lc_range (lo := 0) (n := n.toNat) (fun i H' => Same H H' ∧ H' M = some (.lst ((List.range i).map fun i => V.str (tx (atL l gs i))))) ⟨same_upd zM, upd_same⟩ ?_ ?_
    · rintro i H1 hi ⟨sm, hM⟩
      refine ⟨rfl, ⟨_, rfl, _, rfl, _, rfl, b, a, l, n, gs, i, ?_, hb.same sm, sm _ _ ha, ok, lg, by omega, fun H2 s2 => ⟨_, s2 _ _ hM, ?_, same_putN (sm_tr sm s2) zM, ?_⟩⟩⟩
      · rw [Int.zero_add]
        rfl
      · rw [List.length_map, List.length_range]
        omega
      · rw [upd_same, List.range_succ, List.map_append]
        rfl
    rintro H1 ⟨s1, hM⟩
    refine ⟨M, _, rfl, .inl ⟨SqL.of hM, fun A1 zA => ?_⟩⟩
    have sA := same_upd (o := .tup ((List.range n.toNat).map fun i => V.str (tx (atL l gs i)))) zA
    have s1A := sm_tr s1 sA
    have eA : upd H1 A1 (.tup ((List.range n.toNat).map fun i => V.str (tx (atL l gs i)))) A1 = some (.tup ((List.range n.toNat).map fun i => V.str (tx (atL l gs i)))) := upd_same
    generalize upd H1 A1 (.tup ((List.range n.toNat).map fun i => V.str (tx (atL l gs i)))) = H2 at s1A eA ⊢
    have eb2 := s1A _ _ eb
    refine ⟨_, rfl, b, C, dx, _, _, rfl, eb2, TC.cl, TC.nL, bf_letters _ _, tx l, rfl, fun M2 zM2 => ?_⟩
    refine lc_it (walk_str (z := tx l)) (fun k H' => Same H2 H' ∧ H' M2 = some (.lst ((l.take k).map fun c => V.int (mostC gs c)))) ⟨same_upd zM2, upd_same⟩ (fun _ _ _ _ => trivial) ?_ ?_
    · rintro k y Ha Hb hk ⟨sm, hM2⟩ ⟨rfl, c, hc, rfl⟩
      have hc' := tx_at hc
      refine ⟨rfl, ⟨_, rfl, _, rfl, a, gs, c, rfl, sm _ _ (s1A _ _ ha), lg, fun g hg => by have := (ok g hg).1; omega, fun H3 s3 => ⟨_, s3 _ _ hM2, ?_, same_putN (sm_tr sm s3) zM2, ?_⟩⟩⟩
      · rw [List.length_map, List.length_take]
        omega
      · rw [upd_same, takeS hc', List.map_append]
        rfl
    rintro H3 ⟨s3, hM2⟩
    rw [tx_size, List.take_length] at hM2
    refine ⟨M2, _, rfl, .inl ⟨SqL.of hM2, fun B1 zB => ?_⟩⟩
    have sB := same_upd (o := .tup (l.map fun c => V.int (mostC gs c))) zB
    refine ⟨_, rfl, _, rfl, by show 2 ≤ sizeLine; omega, fun T zT => ?_⟩
    have sT := same_upd (o := .tup [.ref A1, .ref B1]) zT
    have sAll := sm_tr (sm_tr (sm_tr s1A s3) sB) sT
    refine q _ T sAll (same_free (sm_tr (sm_tr s1A s3) sB) zT) ⟨A1, B1, upd_same, sT _ _ (sB _ _ (s3 _ _ eA)), sT _ _ upd_same⟩
abbrev nTried : List Str := ["board", "guesses"]
theorem scTried : FnScope nTried ["board", "guesses"] (defScope sTried) := ⟨rfl, rfl, rfl, by decide +kernel, rfl, by decide +kernel, by decide +kernel⟩
theorem ok_tried {f fB fG fT : Addr} {fd fdB fdG fdT : FuncData} (F : Fun K "tried" "tried" sTried f fd)
    (GB : FnOk P w K mg base CX0 1 fB fdB ["board"] (spChkB C)) (DB : Df K mg "check_board" fB fdB ["board"])
    (GG : FnOk P w K mg base CX0 3 fG fdG ["board", "guesses"] (spChkG C)) (DG : Df K mg "check_guesses" fG fdG ["board", "guesses"])
    (GT : FnOk P w K mg base CX0 2 fT fdT ["board", "guesses"] (spTrBy C)) (DT : Df K mg "tried_by" fT fdT ["board", "guesses"])
    : FnOk P w K mg base CX0 4 f fd ["board", "guesses"] (spTrBy C) := by
  refine F.ok scTried (fun vs H Q E h => ?_) (fun cdv A outer s H vs Q E hr h => ?_)
  · obtain ⟨b, a, l, n, gs, rfl, _⟩ := h
    rfl
  · obtain ⟨b, a, l, n, gs, rfl, hb, ha, ok, lg, q⟩ := h
    have nd := scTried.nd
    have hline : sizeLine = 16777216 := sizeLine_eq
    have hrB : Room 1 _ := hr.mono (by decide)
    have hrG : Room 3 _ := hr.mono (by decide)
    have hrT : Room 2 _ := hr.mono (by decide)
    refine ⟨_, pss_cons (ps_expr (pe_call GB hrB (by rfl) DB.mg DB.kp DB.b .nil pass0 (pa_cons (pv 0) pa_nil)))
      (pss_cons (ps_expr (pe_call GG hrG (by rfl) DG.mg DG.kp DG.b .nil pass0 (pa_cons (pv 0) (pa_cons (pv 1) pa_nil))))
      (pss_one (ps_ret (pe_call GT hrT (by rfl) DT.mg DT.kp DT.b .nil pass0 (pa_cons (pv 0) (pa_cons (pv 1) pa_nil)))))), ?_⟩
    refine ⟨_, rfl, b, l, n, rfl, hb, ?_⟩
    refine ⟨_, rfl, _, rfl, b, a, l, n, gs, rfl, hb, ha, lg, ok, fun H1 s1 => ?_⟩
    refine ⟨_, rfl, _, rfl, b, a, l, n, gs, rfl, hb.same s1, s1 _ _ ha, ok, lg, fun H2 T s2 zT hT => q _ T (sm_tr s1 s2) (same_free s1 zT) hT⟩
end
end Gm

/-! Pairs: letters_except, ways_from (terms by gen_pa.py) -/
namespace Gm
open PySem PySem.Spec PyProof.Rows L2


/-! ### the search, as it runs -/
abbrev Step := Nat × Nat × Nat
abbrev Ways := List (Nat × List Step)
def keysW (ws : Ways) : List Nat := ws.map (·.1)
def wGet (ws : Ways) (c : Nat) : List Step := (ws.lookup c).getD []
def addW (i a : Nat) (ws : Ways) (c : Nat) : Ways := ws ++ [(c, wGet ws a ++ [(i, a, c)])]
def placeW (un : List (List Nat)) (b : Option Nat) (a : Nat) (st : Ways × List Nat) (i : Nat) : Ways × List Nat :=
  if a ∈ un.getD i [] ∧ ¬ (b = some i ∨ i ∈ st.2) then (((un.getD i []).filter fun c => !decide (c ∈ keysW st.1)).foldl (addW i a) st.1, st.2 ++ [i]) else st
def turnW (un : List (List Nat)) (b : Option Nat) (st : Ways × List Nat) (k : Nat) : Ways × List Nat := (List.range un.length).foldl (placeW un b ((keysW st.1).getD k 0)) st
def goW (un : List (List Nat)) (b : Option Nat) : Nat → Ways × List Nat → Nat → Ways × List Nat
  | 0, st, _ => st
  | f + 1, st, k => if k < (keysW st.1).length then goW un b f (turnW un b st k) (k + 1) else st
def waysF (un : List (List Nat)) (c : Nat) (b : Option Nat) : Ways := (goW un b 27 ([(c, [])], []) 0).1
theorem keysW_add {i a c : Nat} {ws : Ways} : keysW (addW i a ws c) = keysW ws ++ [c] := by
  unfold keysW addW
  rw [List.map_append]
  rfl
theorem nodup_len : ∀ {a b : List Nat}, a.Nodup → (∀ c ∈ a, c ∈ b) → a.length ≤ b.length
  | [], _, _, _ => Nat.zero_le _
  | x :: a, b, h, k => by
    have hx := k x List.mem_cons_self
    have ih := nodup_len (a := a) (b := b.erase x) (List.nodup_cons.mp h).2 fun c hc => by
      have ne : c ≠ x := fun z => (List.nodup_cons.mp h).1 (z ▸ hc)
      exact (List.mem_erase_of_ne ne).mpr (k c (List.mem_cons_of_mem _ hc))
    rw [List.length_erase_of_mem hx] at ih
    have := List.length_pos_of_mem hx
    rw [List.length_cons]
    omega
/-- letters, each once, of l -/
def Wf (l : List Nat) (ws : Ways) : Prop := (keysW ws).Nodup ∧ ∀ c ∈ keysW ws, c ∈ l
theorem Wf.len {l : List Nat} {ws : Ways} (h : Wf l ws) : (keysW ws).length ≤ l.length := nodup_len h.1 h.2
theorem Wf.add {l : List Nat} {ws : Ways} {i a c : Nat} (h : Wf l ws) (hc : c ∈ l) (n : c ∉ keysW ws) : Wf l (addW i a ws c) := by
  unfold Wf
  rw [keysW_add]
  refine ⟨List.nodup_append.mpr ⟨h.1, by simp, fun x hx y hy z => ?_⟩, fun x hx => ?_⟩
  · rw [List.mem_singleton.mp hy] at z
    exact n (z ▸ hx)
  · rcases List.mem_append.mp hx with hx | hx
    · exact h.2 x hx
    · rw [List.mem_singleton.mp hx]
      exact hc
/-! ### how it stands in the heap -/
def stepV (s : Step) : List V := [.int (s.1 : Int), .str (one s.2.1), .str (one s.2.2)]
inductive Steps (H : Hp) : List V → List Step → Prop
  | nil : Steps H [] []
  | cons {a : Addr} {s : Step} {vs : List V} {ss : List Step} : H a = some (.tup (stepV s)) → Steps H vs ss → Steps H (.ref a :: vs) (s :: ss)
def StepsAt (H : Hp) (t : Addr) (ss : List Step) : Prop := ∃ vs, H t = some (.tup vs) ∧ Steps H vs ss
/-- tuples stay -/
def Kt' (H H' : Hp) : Prop := ∀ b xs, H b = some (.tup xs) → H' b = some (.tup xs)
theorem Kt'.of {H H' : Hp} (s : Same H H') : Kt' H H' := fun _ _ e => s _ _ e
theorem Kt'.put {H : Hp} {d : Addr} {o u : HO} (e : H d = some u) (n : ∀ xs, u ≠ .tup xs) : Kt' H (upd H d o) := fun b xs h => by
  rw [upd_ne fun z => ?_]
  · exact h
  · rw [z, e] at h
    exact n _ (Option.some.inj h)
theorem Steps.keep {H H' : Hp} {vs : List V} {ss : List Step} (h : Steps H vs ss) (k : Kt' H H') : Steps H' vs ss := by
  induction h with
  | nil => exact .nil
  | cons a _ ih => exact .cons (k _ _ a) ih
theorem Steps.len {H : Hp} {vs : List V} {ss : List Step} (h : Steps H vs ss) : vs.length = ss.length := by
  induction h with
  | nil => rfl
  | cons _ _ ih => rw [List.length_cons, List.length_cons, ih]
theorem Steps.app {H : Hp} {vs ws : List V} {ss ts : List Step} (h : Steps H vs ss) (k : Steps H ws ts) : Steps H (vs ++ ws) (ss ++ ts) := by
  induction h with
  | nil => exact k
  | cons a _ ih => exact .cons a ih
theorem StepsAt.keep {H H' : Hp} {t : Addr} {ss : List Step} (h : StepsAt H t ss) (k : Kt' H H') : StepsAt H' t ss := let ⟨vs, e, s⟩ := h; ⟨vs, k _ _ e, s.keep k⟩
inductive WRel (H : Hp) : List (Key × V) → Ways → Prop
  | nil : WRel H [] []
  | cons {c : Nat} {t : Addr} {ss : List Step} {kvs : List (Key × V)} {ws : Ways} : StepsAt H t ss → WRel H kvs ws → WRel H ((.inr (one c), .ref t) :: kvs) ((c, ss) :: ws)
theorem WRel.keep {H H' : Hp} {kvs : List (Key × V)} {ws : Ways} (h : WRel H kvs ws) (k : Kt' H H') : WRel H' kvs ws := by
  induction h with
  | nil => exact .nil
  | cons a _ ih => exact .cons (a.keep k) ih
theorem WRel.snoc {H : Hp} {kvs : List (Key × V)} {ws : Ways} {c : Nat} {t : Addr} {ss : List Step} (h : WRel H kvs ws) (a : StepsAt H t ss) : WRel H (kvs ++ [(.inr (one c), .ref t)]) (ws ++ [(c, ss)]) := by
  induction h with
  | nil => exact .cons a .nil
  | cons b _ ih => exact .cons b ih
theorem WRel.len {H : Hp} {kvs : List (Key × V)} {ws : Ways} (h : WRel H kvs ws) : kvs.length = (keysW ws).length := by
  induction h with
  | nil => rfl
  | cons _ _ ih =>
    show _ + 1 = (keysW _).length + 1
    rw [ih]
theorem one_inj {a b : Nat} (h : one a = one b) : a = b := by
  have := congrArg (fun s : Str => s.cps.toList) h
  simpa [one] using this
theorem WRel.at_ {H : Hp} {kvs : List (Key × V)} {ws : Ways} (h : WRel H kvs ws) (c : Nat) : (c ∈ keysW ws ∧ ∃ t, valV kvs (.inr (one c)) = some (.ref t) ∧ StepsAt H t (wGet ws c)) ∨ (c ∉ keysW ws ∧ valV kvs (.inr (one c)) = none) := by
  induction h with
  | nil => exact .inr ⟨List.not_mem_nil, rfl⟩
  | @cons a t ss kvs ws ht _ ih =>
    by_cases e : c = a
    · subst e
      refine .inl ⟨List.mem_cons_self, t, valV_pos rfl, ?_⟩
      unfold wGet
      rw [List.lookup_cons, beq_self_eq_true]
      exact ht
    · have e1 : ¬ ((.inr (one a) : Key) = .inr (one c)) := fun z => e (one_inj (Sum.inr.inj z)).symm
      have e2 : valV (((.inr (one a) : Key), V.ref t) :: kvs) (.inr (one c)) = valV kvs (.inr (one c)) := valV_neg e1
      have e3 : wGet ((a, ss) :: ws) c = wGet ws c := by
        unfold wGet
        rw [List.lookup_cons, show (c == a) = false from beq_eq_false_iff_ne.mpr e]
      rw [e2, e3]
      exact ih.imp (fun ⟨h1, h2⟩ => ⟨List.mem_cons_of_mem _ h1, h2⟩) fun ⟨h1, h2⟩ => ⟨fun z => (List.mem_cons.mp z).elim e h1, h2⟩
def WAt (H : Hp) (d : Addr) (ws : Ways) : Prop := ∃ kvs, H d = some (.dK kvs) ∧ WRel H kvs ws
def onesV (u : List Nat) : List V := u.map fun c => V.str (one c)
def barV : Option Nat → V
  | none => .non
  | some i => .int (i : Int)
def passV (b : Option Nat) (ps : List Nat) : List V := barV b :: ps.map fun i => V.int ((i : Nat) : Int)
theorem inV_pass {b : Option Nat} {ps : List Nat} {i : Nat} : inV (.int (i : Int)) (passV b ps) = decide (b = some i ∨ i ∈ ps) := by
  unfold passV
  have h2 : inV (.int (i : Int)) (ps.map fun i => V.int ((i : Nat) : Int)) = decide (i ∈ ps) := by
    induction ps with
    | nil => rfl
    | cons j ps ih =>
      show ((eqV (.int (j : Int)) (.int (i : Int))) || inV _ _) = _
      rw [ih]
      show (((j : Int) == (i : Int)) || _) = _
      rw [Bool.eq_iff_iff, Bool.or_eq_true, beq_iff_eq, decide_eq_true_iff, decide_eq_true_iff, List.mem_cons]
      exact ⟨fun h => h.imp (fun h => by omega) _root_.id, fun h => h.imp (fun h => by omega) _root_.id⟩
  show ((eqV (barV b) (.int (i : Int))) || inV _ _) = _
  rw [h2]
  cases b with
  | none =>
    show (false || _) = _
    simp
  | some j =>
    show (((j : Int) == (i : Int)) || _) = _
    rw [Bool.eq_iff_iff, Bool.or_eq_true, beq_iff_eq, decide_eq_true_iff, decide_eq_true_iff, Option.some.injEq]
    exact ⟨fun h => h.imp (fun h => by omega) _root_.id, fun h => h.imp (fun h => by omega) _root_.id⟩
theorem flat_pass {b : Option Nat} {ps : List Nat} : (passV b ps).all flatV = true := by
  unfold passV
  rw [List.all_cons, List.all_map]
  cases b <;> simp [barV, flatV]
/-! ### the readings -/
def spLtT : Sp := fun vs H Q _ => ∃ (l o : List Nat), vs = [.str (tx l), .str (tx o)] ∧ l.length ≤ 26 ∧ ∀ H', Same H H' → Q (.str (tx (l.filter fun c => !decide (c ∈ o)))) H'
def spLtD : Sp := fun vs H Q _ => ∃ (l : List Nat) (d : Addr) (ws : Ways), vs = [.str (tx l), .ref d] ∧ l.length ≤ 26 ∧ WAt H d ws ∧ ∀ H', Same H H' → Q (.str (tx (l.filter fun c => !decide (c ∈ keysW ws)))) H'
structure TxP (K : PySem.W.Frag) (mg : Str → Option Value) (CP : Addr) : Prop where
  cl : Cls K CP
  nU : PySem.W.findIn K (.ref CP) "untried" = some none
  nLe : PySem.W.findIn K (.ref CP) "letters" = some none
  nLn : PySem.W.findIn K (.ref CP) "length" = some none
  nCo : PySem.W.findIn K (.ref CP) "copies" = some none
  nAl : PySem.W.findIn K (.ref CP) "asked_letters" = some none
  nAc : PySem.W.findIn K (.ref CP) "asked_copies" = some none
  len : mg "len" = none
  enum : mg "enumerate" = none
  range : mg "range" = none
  min : mg "min" = none
section
variable {P : Program} {w : World} {K : PySem.W.Frag} {mg : Str → Option Value} {base : Heap}
abbrev nLtE : List Str := ["letters", "others", "letter"]
theorem scLtE : FnScope nLtE ["letters", "others"] (defScope sLtE) := ⟨rfl, rfl, rfl, by decide +kernel, rfl, by decide +kernel, by decide +kernel⟩
theorem WAt.same {H H' : Hp} {d : Addr} {ws : Ways} (h : WAt H d ws) (s : Same H H') : WAt H' d ws := let ⟨k, e, r⟩ := h; ⟨k, s _ _ e, r.keep (.of s)⟩
theorem ok_ltD {f : Addr} {fd : FuncData} (F : Fun K "letters_except" "letters_except" sLtE f fd) : FnOk P w K mg base CX0 1 f fd ["letters", "others"] spLtD := by
  refine F.ok scLtE (fun vs H Q E h => ?_) (fun cdv A outer s H vs Q E hr h => ?_)
  · obtain ⟨l, d, ws, rfl, _⟩ := h
    rfl
  · obtain ⟨l, d, ws, rfl, l26, hd, q⟩ := h
    have nd := scLtE.nd
    have hu1 : (A.deeper (PyProof.Rows.envOfC "letters_except" (defScope sLtE) s.heap.objs.size f cdv)).units + 1 < cLine := by
      have := hr.units
      omega
    have hline : sizeLine = 16777216 := sizeLine_eq
    refine ⟨_, pss_one (ps_ret (pe_join pe_str (pe_lc (tt := tTest (tDNotIn (tVar 2) (tVar 1))) (own := [("letter", 2)]) (g := gName 2) (by rfl) nd (pi_str (pv 0)) (blkOk_by (own := [("letter", 2)]) (N := nLtE) (sc := defScope sLtE) (by decide +kernel)) (fun _ _ _ _ _ => pg_name (i := 2) nd rfl (Or.inl rfl)) (fun _ _ _ _ _ => by exact pts_one (pt_cmp (pc_dnotin hu1 (pv 2) (pv 1)))) (fun _ _ _ _ _ => by exact (pv 2))))), ?_⟩
    refine ⟨⟨_, rfl⟩, _, rfl, tx l, rfl, fun M2 zM2 => ?_⟩
    refine lc_it (walk_str (z := tx l)) (fun k H' => Same H H' ∧ H' M2 = some (.lst (onesV ((l.take k).filter fun c => !decide (c ∈ keysW ws))))) ⟨same_upd zM2, upd_same⟩ (fun _ _ _ _ => trivial) ?_ ?_
    · rintro k y Ha Hb hk ⟨sm, hM2⟩ ⟨rfl, c, hc, rfl⟩
      have hc' := tx_at hc
      obtain ⟨kvs, ed, hw⟩ := hd.same sm
      refine ⟨rfl, ?_⟩
      refine ⟨_, rfl, _, rfl, d, _, rfl, DGet.k (k := .inr (one c)) ed, _, rfl, ?_⟩
      rcases hw.at_ c with ⟨hm, t, ev, _⟩ | ⟨hm, ev⟩
      · rw [ev]
        refine iteF ⟨sm, ?_⟩
        rw [hM2, takeS hc', List.filter_append, List.filter_cons, if_neg (by simp [hm]), List.filter_nil, List.append_nil]
      · rw [ev]
        refine iteT ⟨_, rfl, _, hM2, ?_, same_putN sm zM2, ?_⟩
        · unfold onesV
          rw [List.length_map]
          have := List.length_filter_le (fun c => !decide (c ∈ keysW ws)) (l.take k)
          rw [List.length_take] at this
          omega
        · rw [upd_same, takeS hc', List.filter_append, List.filter_cons, if_pos (by simp [hm]), List.filter_nil]
          unfold onesV
          rw [List.map_append]
          rfl
    rintro H2 ⟨s2, hM2⟩
    rw [tx_size, List.take_length] at hM2
    refine ⟨_, M2, (l.filter fun c => !decide (c ∈ keysW ws)).map one, rfl, rfl, .inl (SqL.of (by rw [List.map_map]; exact hM2)), ?_, ?_⟩
    · rw [sum_one, List.length_map]
      have := List.length_filter_le (fun c => !decide (c ∈ keysW ws)) l
      show (l.filter fun c => !decide (c ∈ keysW ws)).length + (l.filter fun c => !decide (c ∈ keysW ws)).length * 0 ≤ 16777216
      omega
    · show Q (.str (Txt.join (Str.ofString "") ((l.filter fun c => !decide (c ∈ keysW ws)).map one))) H2
      rw [join_one]
      exact q H2 s2
theorem ok_ltT {f : Addr} {fd : FuncData} (F : Fun K "letters_except" "letters_except" sLtE f fd) : FnOk P w K mg base CX0 1 f fd ["letters", "others"] spLtT := by
  refine F.ok scLtE (fun vs H Q E h => ?_) (fun cdv A outer s H vs Q E hr h => ?_)
  · obtain ⟨l, o, rfl, _⟩ := h
    rfl
  · obtain ⟨l, o, rfl, l26, q⟩ := h
    have nd := scLtE.nd
    have hu1 : (A.deeper (PyProof.Rows.envOfC "letters_except" (defScope sLtE) s.heap.objs.size f cdv)).units + 1 < cLine := by
      have := hr.units
      omega
    have hline : sizeLine = 16777216 := sizeLine_eq
    refine ⟨_, pss_one (ps_ret (pe_join pe_str (pe_lc (own := [("letter", 2)]) (g := gName 2) (by rfl) nd (pi_str (pv 0)) (blkOk_by (own := [("letter", 2)]) (N := nLtE) (sc := defScope sLtE) (by decide +kernel)) (fun _ _ _ _ _ => pg_name (i := 2) nd rfl (Or.inl rfl)) (fun _ _ _ _ _ => pts_one (pt_cmpR op_notIn_sign (pv 2) (pv 1) rfl)) (fun _ _ _ _ _ => pv 2)))), ?_⟩
    refine ⟨⟨_, rfl⟩, _, rfl, tx l, rfl, fun M2 zM2 => ?_⟩
    refine lc_it (walk_str (z := tx l)) (fun k H' => Same H H' ∧ H' M2 = some (.lst (onesV ((l.take k).filter fun c => !decide (c ∈ o))))) ⟨same_upd zM2, upd_same⟩ (fun _ _ _ _ => trivial) ?_ ?_
    · rintro k y Ha Hb hk ⟨sm, hM2⟩ ⟨rfl, c, hc, rfl⟩
      have hc' := tx_at hc
      refine ⟨rfl, ?_⟩
      refine ⟨_, rfl, _, rfl, c, tx o, rfl, rfl, _, rfl, ?_⟩
      show if (!decide (c ∈ o)) = true then _ else _
      by_cases hm : c ∈ o
      · rw [decide_eq_true hm]
        refine iteF ⟨sm, ?_⟩
        rw [hM2, takeS hc', List.filter_append, List.filter_cons, if_neg (by simp [hm]), List.filter_nil, List.append_nil]
      · rw [decide_eq_false hm]
        refine iteT ⟨_, rfl, _, hM2, ?_, same_putN sm zM2, ?_⟩
        · unfold onesV
          rw [List.length_map]
          have := List.length_filter_le (fun c => !decide (c ∈ o)) (l.take k)
          rw [List.length_take] at this
          omega
        · rw [upd_same, takeS hc', List.filter_append, List.filter_cons, if_pos (by simp [hm]), List.filter_nil]
          unfold onesV
          rw [List.map_append]
          rfl
    rintro H2 ⟨s2, hM2⟩
    rw [tx_size, List.take_length] at hM2
    refine ⟨_, M2, (l.filter fun c => !decide (c ∈ o)).map one, rfl, rfl, .inl (SqL.of (by rw [List.map_map]; exact hM2)), ?_, ?_⟩
    · rw [sum_one, List.length_map]
      have := List.length_filter_le (fun c => !decide (c ∈ o)) l
      show (l.filter fun c => !decide (c ∈ o)).length + (l.filter fun c => !decide (c ∈ o)).length * 0 ≤ 16777216
      omega
    · show Q (.str (Txt.join (Str.ofString "") ((l.filter fun c => !decide (c ∈ o)).map one))) H2
      rw [join_one]
      exact q H2 s2
end
end Gm

/-! Pairs.ways_from -/
namespace Gm
open PySem PySem.Spec PyProof.Rows L2
/-- untried letters of each place, of l -/
structure Unt (K : PySem.W.Frag) (CP : Addr) (H : Hp) (p : Addr) (l : List Nat) (un : List (List Nat)) : Prop where
  at_ : ∃ dx fs u, H p = some (.ins CP dx fs) ∧ fs.lookup ("untried" : Str) = some (.ref u) ∧ H u = some (.lst (txs un))
  l26 : l.length ≤ 26
  few : un.length ≤ 6
  nd : ∀ u ∈ un, u.Nodup
  sub : ∀ u ∈ un, ∀ c ∈ u, c ∈ l
theorem Unt.same {K : PySem.W.Frag} {CP p : Addr} {H H' : Hp} {l : List Nat} {un : List (List Nat)} (h : Unt K CP H p l un) (s : Same H H') : Unt K CP H' p l un := ⟨let ⟨dx, fs, u, a, b, c⟩ := h.at_; ⟨dx, fs, u, s _ _ a, b, s _ _ c⟩, h.l26, h.few, h.nd, h.sub⟩
def spWays (K : PySem.W.Frag) (CP : Addr) : Sp := fun vs H Q _ => ∃ (p : Addr) (l : List Nat) (un : List (List Nat)) (c : Nat) (b : Option Nat), vs = [.ref p, .str (one c), barV b] ∧ Unt K CP H p l un ∧ c ∈ l ∧
  ∀ H' d, Same H H' → H d = none → WAt H' d (waysF un c b) → (∀ x, (wGet (waysF un c b) x).length ≤ 26) → Q (.ref d) H'
/-- how the search stands: the dict, the letters reached, the places passed -/
structure Srch (l : List Nat) (b : Option Nat) (H0 H : Hp) (d r g : Addr) (st : Ways × List Nat) : Prop where
  sm : Same H0 H
  nd : H0 d = none
  nr : H0 r = none
  ng : H0 g = none
  dr : d ≠ r
  dg : d ≠ g
  rg : r ≠ g
  wf : Wf l st.1
  w : WAt H d st.1
  hr : H r = some (.lst (onesV (keysW st.1)))
  hg : H g = some (.lst (passV b st.2))
  pl : st.2.length ≤ 1000
  sl : ∀ x ∈ st.1, x.2.length ≤ (keysW st.1).length
section
variable {l : List Nat} {b : Option Nat} {H0 H H' : Hp} {d r g : Addr} {st : Ways × List Nat}
theorem Srch.same (h : Srch l b H0 H d r g st) (s : Same H H') : Srch l b H0 H' d r g st := ⟨sm_tr h.sm s, h.nd, h.nr, h.ng, h.dr, h.dg, h.rg, h.wf, h.w.same s, s _ _ h.hr, s _ _ h.hg, h.pl, h.sl⟩
theorem Srch.pass (h : Srch l b H0 H d r g st) {i : Nat} (lt : st.2.length < 1000) : Srch l b H0 (upd H g (.lst (passV b st.2 ++ [.int (i : Int)]))) d r g (st.1, st.2 ++ [i]) := by
  obtain ⟨kvs, ed, hw⟩ := h.w
  refine ⟨same_putN h.sm h.ng, h.nd, h.nr, h.ng, h.dr, h.dg, h.rg, h.wf, ⟨kvs, (upd_ne h.dg).trans ed, hw.keep (.put h.hg fun _ z => by cases z)⟩, (upd_ne h.rg).trans h.hr, ?_, ?_, h.sl⟩
  · rw [upd_same]
    unfold passV
    rw [List.map_append]
    rfl
  · show (st.2 ++ [i]).length ≤ 1000
    rw [List.length_append]
    exact lt
theorem wGet_mem {ws : Ways} {a : Nat} : wGet ws a = [] ∨ ∃ x ∈ ws, x.2 = wGet ws a := by
  unfold wGet
  induction ws with
  | nil => exact .inl rfl
  | cons y ws ih =>
    rw [List.lookup_cons]
    cases e : a == y.1 with
    | true => exact .inr ⟨y, List.mem_cons_self, rfl⟩
    | false => exact ih.imp _root_.id fun ⟨x, hx, h⟩ => ⟨x, List.mem_cons_of_mem _ hx, h⟩
theorem Srch.get (h : Srch l b H0 H d r g st) (a : Nat) : (wGet st.1 a).length ≤ (keysW st.1).length := by
  rcases wGet_mem (ws := st.1) (a := a) with e | ⟨x, hx, e⟩
  · rw [e]
    exact Nat.zero_le _
  · rw [← e]
    exact h.sl x hx
/-- a letter more: the dict first, then the list of those reached -/
theorem Srch.add (h : Srch l b H0 H d r g st) (L26 : l.length ≤ 26) {i a c : Nat} {t : Addr} (hc : c ∈ l) (n : c ∉ keysW st.1) (ht : StepsAt H t (wGet st.1 a ++ [(i, a, c)])) : ∃ kvs, H d = some (.dK kvs) ∧ kvs.length ≤ 1000 ∧
    (upd H d (.dK (putK kvs (.inr (one c)) (.ref t)))) r = some (.lst (onesV (keysW st.1))) ∧
    Srch l b H0 (upd (upd H d (.dK (putK kvs (.inr (one c)) (.ref t)))) r (.lst (onesV (keysW st.1) ++ [.str (one c)]))) d r g (addW i a st.1 c, st.2) := by
  have gl := h.get a
  obtain ⟨kvs, ed, hw⟩ := h.w
  have l26 := h.wf.len
  have hr1 : (upd H d (.dK (putK kvs (.inr (one c)) (.ref t)))) r = some (.lst (onesV (keysW st.1))) := (upd_ne h.dr.symm).trans h.hr
  have ev : valV kvs (.inr (one c)) = none := by
    rcases hw.at_ c with ⟨hm, _⟩ | ⟨_, ev⟩
    · exact absurd hm n
    · exact ev
  have k1 : Kt' H (upd H d (.dK (putK kvs (.inr (one c)) (.ref t)))) := .put ed fun _ z => by cases z
  have k2 : Kt' (upd H d (.dK (putK kvs (.inr (one c)) (.ref t)))) (upd (upd H d (.dK (putK kvs (.inr (one c)) (.ref t)))) r (.lst (onesV (keysW st.1) ++ [.str (one c)]))) := .put hr1 fun _ z => by cases z
  have k : Kt' H (upd (upd H d (.dK (putK kvs (.inr (one c)) (.ref t)))) r (.lst (onesV (keysW st.1) ++ [.str (one c)]))) := fun x xs e => k2 _ _ (k1 _ _ e)
  refine ⟨kvs, ed, ?_, hr1, same_putN (same_putN h.sm h.nd) h.nr, h.nd, h.nr, h.ng, h.dr, h.dg, h.rg, h.wf.add hc n, ⟨kvs ++ [(.inr (one c), .ref t)], ?_, ?_⟩, ?_, ?_, h.pl, ?_⟩
  · rw [hw.len]
    exact Nat.le_trans l26 (Nat.le_trans L26 (by decide))
  · rw [upd_ne h.dr, upd_same, putK_new _ ev]
  · exact (hw.keep k).snoc (ht.keep k)
  · rw [upd_same, keysW_add]
    unfold onesV
    rw [List.map_append]
    rfl
  · rw [upd_ne h.rg.symm, upd_ne h.dg.symm]
    exact h.hg
  · intro x hx
    show x.2.length ≤ (keysW (addW i a st.1 c)).length
    rw [keysW_add, List.length_append]
    unfold addW at hx
    rcases List.mem_append.mp hx with hx | hx
    · have := h.sl x hx
      show _ ≤ _ + 1
      omega
    · rw [List.mem_singleton.mp hx]
      show (wGet st.1 a ++ [(i, a, c)]).length ≤ _ + 1
      rw [List.length_append]
      show _ + 1 ≤ _ + 1
      omega
end
theorem cat_steps {K : PySem.W.Frag} {H : Hp} {t t2 : Addr} {ss ss2 : List Step} {Q : V → Hp → Prop} (h1 : StepsAt H t ss) (h2 : StepsAt H t2 ss2) (hz : ss.length + ss2.length ≤ 1000) (k : ∀ T H1, Same H H1 → StepsAt H1 T (ss ++ ss2) → Q (.ref T) H1) : rCatA K (.ref t) (.ref t2) H Q := by
  obtain ⟨vs, e1, r1⟩ := h1
  obtain ⟨vs2, e2, r2⟩ := h2
  have lv := r1.len
  have lv2 := r2.len
  refine ⟨t, t2, vs, vs2, rfl, rfl, SqT.of e1, SqT.of e2, by rw [sizeLine_eq]; omega, fun e => k t2 H (Same.refl H) ?_, fun _ e => k t H (Same.refl H) ?_, fun _ _ T zT => k T _ (same_upd zT) ⟨_, upd_same, (r1.app r2).keep (.of (same_upd zT))⟩⟩
  · have : ss = [] := List.eq_nil_of_length_eq_zero (by rw [← lv, e]; rfl)
    rw [this]
    exact ⟨vs2, e2, r2⟩
  · have : ss2 = [] := List.eq_nil_of_length_eq_zero (by rw [← lv2, e]; rfl)
    rw [this, List.append_nil]
    exact ⟨vs, e1, r1⟩
theorem ones_at {u : List Nat} {k a : Nat} (h : u[k]? = some a) : (onesV u)[k]? = some (.str (one a)) := by
  unfold onesV
  rw [List.getElem?_map, h]
  rfl
theorem nodup_take {u : List Nat} {j c : Nat} (h : u.Nodup) (e : u[j]? = some c) : c ∉ u.take j := fun m => by
  obtain ⟨hj, e'⟩ := List.getElem?_eq_some_iff.mp e
  have sp : u = u.take j ++ c :: u.drop (j + 1) := by
    conv => lhs; rw [← List.take_append_drop j u, List.drop_eq_getElem_cons hj, e']
  rw [sp] at h
  exact (List.nodup_append.mp h).2.2 c m c List.mem_cons_self rfl
theorem ones_len {u : List Nat} : (onesV u).length = u.length := List.length_map ..
theorem keysF {i a : Nat} : ∀ (cs : List Nat) (ws : Ways), keysW (cs.foldl (addW i a) ws) = keysW ws ++ cs
  | [], ws => by simp
  | c :: cs, ws => by rw [List.foldl_cons, keysF cs, keysW_add, List.append_assoc]; rfl
abbrev sigW (p D r g : Addr) (c : Nat) (b : Option Nat) (k : Nat) (v7 v8 v9 : Option V) : L2.St := [some (.ref p), some (.str (one c)), some (barV b), some (.ref D), some (.ref r), some (.ref g), some (.int (k : Int)), v7, v8, v9]
def WInv (un : List (List Nat)) (l : List Nat) (H : Hp) (p D r g : Addr) (c : Nat) (b : Option Nat) (m : Nat) (σ : L2.St) (H' : Hp) : Prop := ∃ (k : Nat) (st : Ways × List Nat) (v7 v8 v9 : Option V), σ = sigW p D r g c b k v7 v8 v9 ∧ Srch l b H H' D r g st ∧ goW un b m st k = goW un b 27 ([(c, [])], []) 0 ∧ k + m = 27 ∧ st.2.length ≤ 6 * k
section
variable {P : Program} {w : World} {K : PySem.W.Frag} {mg : Str → Option Value} {base : Heap}
abbrev nWays : List Str := ["self", "start", "barred", "ways", "reached", "passed", "at", "place", "letters", "letter"]
theorem scWays : FnScope nWays ["self", "start", "barred"] (defScope sWays) := ⟨rfl, rfl, rfl, by decide +kernel, rfl, by decide +kernel, by decide +kernel⟩
theorem ok_ways {f CP fL : Addr} {fd fdL : FuncData} (F : Fun K "ways_from" "Pairs.ways_from" sWays f fd) (T : TxP K mg CP) (GL : FnOk P w K mg base CX0 1 fL fdL ["letters", "others"] spLtD) (DL : Df K mg "letters_except" fL fdL ["letters", "others"]) :
    FnOk P w K mg base CX0 2 f fd ["self", "start", "barred"] (spWays K CP) := by
  refine F.ok scWays (fun vs H Q E h => ?_) (fun cdv A outer s H vs Q E hr h => ?_)
  · obtain ⟨p, l, un, c, b, rfl, _⟩ := h
    rfl
  · obtain ⟨p, l, un, c, b, rfl, hu, hc, q⟩ := h
    have nd := scWays.nd
    have hr1 : Room 1 _ := hr.mono (by decide)
    have hu1 : (A.deeper (PyProof.Rows.envOfC "Pairs.ways_from" (defScope sWays) s.heap.objs.size f cdv)).units + 1 < cLine := by
      have := hr.un
      omega
    have hline : sizeLine = 16777216 := sizeLine_eq
    obtain ⟨dx, fs, u, ep, eu, el⟩ := hu.at_
    have L26 := hu.l26
    have few := hu.few
    refine ⟨_, pss_cons (ps_set (i := 3) nd rfl (Or.inl rfl) (pe_disp (pps_cons (pv 1) (pe_tup pa_nil) pps_nil) rfl rfl (by simp) (by decide)))
      (pss_cons (ps_set (i := 4) nd rfl (Or.inl rfl) (pe_lst (pa_cons (pv 1) pa_nil)))
      (pss_cons (ps_set (i := 5) nd rfl (Or.inl rfl) (pe_lst (pa_cons (pv 2) pa_nil)))
      (pss_cons (ps_set (i := 6) nd rfl (Or.inl rfl) pe_int)
      (pss_cons (ps_while PassesOwn.never (pt_cmpR op_lt (pv 6) (pe_callB call_len_seq (by rfl) T.len PySem.boot_len (pa_cons (pv 4) pa_nil)) (nomark _))
        (pss_cons (ps_for PassesOwn.never rfl (pi_enum (by rfl) T.enum (pa_cons (pe_fld (pv 0) rfl) pa_nil)) (pg_tup (by rfl) (pgs_cons (pg_name (i := 7) nd rfl (Or.inl rfl)) (pgs_cons (pg_name (i := 8) nd rfl (Or.inl rfl)) pgs_nil)))
        (pss_one (ps_if (PW.pt (pw_and (pt_cmpR op_in_sign (pe_ix ix_list (pv 4) (pv 6) (fun _ _ => rfl)) (pv 8) rfl) (pw_and1 (pt_cmpR op_notIn_seq (pv 7) (pv 5) rfl)))) (pss_cons (ps_expr (pe_bm PySem.F.plainAttrs_list PySem.F.slot_list_append PySem.F.type_list_append mt_append (pv 5) (pa_cons (pv 7) pa_nil)))
      (pss_one (ps_for PassesOwn.never rfl (pi_str (pe_call GL hr1 (by rfl) DL.mg DL.kp DL.b .nil pass0 (pa_cons (pv 8) (pa_cons (pv 3) pa_nil)))) (pg_name (i := 9) nd rfl (Or.inl rfl))
        (pss_cons (ps_dput hu1 (pv 3) (pv 9) (pe_op op_catA (pe_dget hu1 (pv 3) (pe_ix ix_list (pv 4) (pv 6) (fun _ _ => rfl)) (fun _ _ => rfl)) (pe_tup (pa_cons (pe_tup (pa_cons (pv 7) (pa_cons (pe_ix ix_list (pv 4) (pv 6) (fun _ _ => rfl)) (pa_cons (pv 9) pa_nil)))) pa_nil))) (by rfl))
      (pss_one (ps_expr (pe_bm PySem.F.plainAttrs_list PySem.F.slot_list_append PySem.F.type_list_append mt_append (pv 4) (pa_cons (pv 9) pa_nil)))))))) pss_nil)))
      (pss_one (ps_aug (i := 6) nd rfl (Or.inl rfl) pe_int iop_add))))
      (pss_one (ps_ret (pv 3))))))), ?_⟩
    refine fun D zD => ⟨_, rfl, by show 0 ≤ sizeLine; rw [hline]; decide, fun t zt => ?_⟩
    have nt : t ≠ D := fun z => by rw [z, upd_same] at zt; cases zt
    refine ⟨(upd_ne nt.symm).trans upd_same, [(.inr (one c), .ref t)], rfl, by show 1 ≤ 15; decide, ?_⟩
    have s1 : Same H (upd (upd (upd H D (.dK [])) t (.tup [])) D (.dK (mergeK [] [(.inr (one c), .ref t)]))) := same_putN (sm_tr (same_upd zD) (same_upd zt)) zD
    have eD : (upd (upd (upd H D (.dK [])) t (.tup [])) D (.dK (mergeK [] [(.inr (one c), .ref t)]))) D = some (.dK [(.inr (one c), .ref t)]) := upd_same
    have et : (upd (upd (upd H D (.dK [])) t (.tup [])) D (.dK (mergeK [] [(.inr (one c), .ref t)]))) t = some (.tup []) := (upd_ne nt).trans upd_same
    generalize upd (upd (upd H D (.dK [])) t (.tup [])) D (.dK (mergeK [] [(.inr (one c), .ref t)])) = H1 at s1 eD et ⊢
    refine ⟨_, rfl, by show 1 ≤ sizeLine; rw [hline]; decide, fun r zr => ?_⟩
    have sr := same_upd (o := HO.lst [.str (one c)]) zr
    refine ⟨_, rfl, by show 1 ≤ sizeLine; rw [hline]; decide, fun g zg => ?_⟩
    have sg := same_upd (o := HO.lst [barV b]) zg
    have S0 : Srch l b H (upd (upd H1 r (.lst [.str (one c)])) g (.lst [barV b])) D r g ([(c, [])], []) := by
      have s2 := sm_tr s1 (sm_tr sr sg)
      refine ⟨s2, zD, same_free s1 zr, same_free (sm_tr s1 sr) zg, ne_of_none eD zr, ne_of_none (sr _ _ eD) zg, ne_of_none upd_same zg, ⟨by simp [keysW], fun x hx => ?_⟩, ⟨_, sg _ _ (sr _ _ eD), .cons ⟨[], sg _ _ (sr _ _ et), .nil⟩ .nil⟩, sg _ _ upd_same, upd_same, Nat.zero_le _, fun x hx => by rw [List.mem_singleton.mp hx]; exact Nat.zero_le _⟩
      rw [List.mem_singleton.mp hx]
      exact hc
    generalize upd (upd H1 r (.lst [.str (one c)])) g (.lst [barV b]) = H2 at S0 ⊢
    clear sr sg zr zg eD et s1 nt zt H1 zD
    refine ⟨WInv un l H p D r g c b, ⟨27, 0, _, none, none, none, rfl, S0, rfl, rfl, Nat.zero_le _⟩, ?_⟩
    rintro m σ H3 ⟨k, st, v7, v8, v9, rfl, S, eg, ek, lp⟩
    have kl := S.wf.len
    refine ⟨_, rfl, _, rfl, r, _, rfl, .inl (SqL.of S.hr), _, _, rfl, rfl, _, rfl, ?_⟩
    rw [ones_len]
    by_cases hk : k < (keysW st.1).length
    · rw [decide_eq_true (show ((k : Int) < ((keysW st.1).length : Nat)) by omega)]
      obtain ⟨m', rfl⟩ : ∃ m', m = m' + 1 := ⟨m - 1, by omega⟩
      refine iteT ⟨WInv un l H p D r g c b m', fun σ' H' h => ⟨m', Nat.lt_succ_self _, h⟩, ?_⟩
      have ka : (keysW st.1)[k]? = some ((keysW st.1).getD k 0) := by
        rw [List.getD_eq_getElem?_getD, List.getElem?_eq_getElem hk]
        rfl
      have eT : turnW un b st k = (List.range un.length).foldl (placeW un b ((keysW st.1).getD k 0)) st := rfl
      have eg' : goW un b m' (turnW un b st k) (k + 1) = goW un b 27 ([(c, [])], []) 0 := by
        rw [← eg]
        exact (if_pos hk).symm
      rw [eT] at eg'
      generalize (keysW st.1).getD k 0 = a at ka eg'
      clear eg eT
      refine ⟨_, rfl, p, CP, dx, _, _, rfl, S.sm _ _ ep, T.cl, T.nU, eu, u, txs un, rfl, SqL.of (S.sm _ _ el), for_it (walk_enum (xs := txs un)) (fun i σ H' => (∃ v7 v8 v9 : Option V, σ = sigW p D r g c b k v7 v8 v9) ∧ Srch l b H H' D r g ((List.range i).foldl (placeW un b a) st) ∧ ((List.range i).foldl (placeW un b a) st).2.length ≤ 6 * k + i ∧ (keysW ((List.range i).foldl (placeW un b a) st).1)[k]? = some a) ⟨⟨_, _, _, rfl⟩, S, lp, ka⟩ (fun i σ H' _ h => SqL.of (h.2.1.sm _ _ el)) ?_ ?_⟩
      · rintro i x σ H4 H5 hi ⟨⟨v7, v8, v9, rfl⟩, S, lp, ka⟩ ⟨T1, y0, y1, rfl, zT, rfl, hy0, hy1⟩
        cases hy0
        obtain ⟨wd, hw, rfl⟩ := at_txs hy1
        have hi' : i < un.length := by rw [← txs_len]; exact hi
        refine ⟨T1, _, rfl, SqT.of upd_same, rfl, _, _, rfl, _, _, rfl, rfl, ?_⟩
        have S := S.same (same_upd (o := .tup [.int (i : Int), .str (tx wd)]) zT)
        generalize upd H4 T1 (.tup [.int (i : Int), .str (tx wd)]) = H5 at S ⊢
        have ew : un.getD i [] = wd := by rw [List.getD_eq_getElem?_getD, hw]; rfl
        have es : (List.range (i + 1)).foldl (placeW un b a) st = placeW un b a ((List.range i).foldl (placeW un b a) st) i := by rw [List.range_succ, List.foldl_append]; rfl
        rw [es]
        generalize (List.range i).foldl (placeW un b a) st = s1 at S lp ka
        have wmem := List.mem_of_getElem? hw
        have wnd := hu.nd _ wmem
        have wsub := hu.sub _ wmem
        have w26 : wd.length ≤ 26 := Nat.le_trans (nodup_len wnd wsub) L26
        have ki : k < (onesV (keysW s1.1)).length := by rw [ones_len]; exact (List.getElem?_eq_some_iff.mp ka).1
        have stay : ¬ (a ∈ wd ∧ ¬ (b = some i ∨ i ∈ s1.2)) → (∃ v7 v8 v9 : Option V, sigW p D r g c b k (some (.int (i : Int))) (some (.str (tx wd))) v9 = sigW p D r g c b k v7 v8 v9) ∧ Srch l b H H5 D r g (placeW un b a s1 i) ∧ (placeW un b a s1 i).2.length ≤ 6 * k + (i + 1) ∧ (keysW (placeW un b a s1 i).1)[k]? = some a := fun hn => by
          unfold placeW
          rw [ew, if_neg hn]
          exact ⟨⟨some (.int (i : Int)), some (.str (tx wd)), v9, rfl⟩, S, by omega, ka⟩
        refine ⟨_, rfl, _, rfl, r, _, _, .str (one a), rfl, rfl, SqL.of S.hr, atI_nat (ones_at ka), _, rfl, a, tx wd, rfl, rfl, _, rfl, ?_⟩
        show if decide (a ∈ wd) = true then _ else _
        by_cases haw : a ∈ wd
        · rw [decide_eq_true haw]
          refine iteT ?_
          refine ⟨_, rfl, _, rfl, g, _, rfl, .inl (SqL.of S.hg), rfl, flat_pass, _, rfl, ?_⟩
          show if (!inV (.int (i : Int)) (passV b s1.2)) = true then _ else _
          rw [inV_pass]
          by_cases hps : b = some i ∨ i ∈ s1.2
          · rw [decide_eq_true hps]
            refine iteF ?_
            obtain ⟨_, h2, h3, h4⟩ := stay fun z => z.2 hps
            exact ⟨⟨some (.int (i : Int)), some (.str (tx wd)), v9, rfl⟩, h2, h3, h4⟩
          · rw [decide_eq_false hps]
            refine iteT ?_
            have pl' : s1.2.length < 1000 := by omega
            have fin : placeW un b a s1 i = ((wd.filter fun c => !decide (c ∈ keysW s1.1)).foldl (addW i a) s1.1, s1.2 ++ [i]) := by
              unfold placeW
              rw [ew, if_pos ⟨haw, hps⟩]
            have flm : ∀ c ∈ wd.filter fun c => !decide (c ∈ keysW s1.1), c ∈ l ∧ c ∉ keysW s1.1 := fun c hc => by
              obtain ⟨h1, h2⟩ := List.mem_filter.mp hc
              exact ⟨wsub c h1, by simpa using h2⟩
            have flnd : (wd.filter fun c => !decide (c ∈ keysW s1.1)).Nodup := wnd.filter _
            rw [fin]
            generalize hfl : (wd.filter fun c => !decide (c ∈ keysW s1.1)) = fl at flm flnd fin
            refine ⟨_, rfl, .inl ⟨rfl, _, SqL.of S.hg⟩, _, rfl, g, _, _, rfl, rfl, S.hg, ?_, ?_⟩
            · unfold passV
              rw [List.length_cons, List.length_map, hline]
              omega
            have S := S.pass (i := i) pl'
            generalize upd H5 g _ = H6 at S ⊢
            refine ⟨_, rfl, _, rfl, wd, D, s1.1, rfl, w26, S.w, fun H7 s7 => ?_⟩
            rw [hfl]
            have S := S.same s7
            refine ⟨tx fl, rfl, for_it (walk_str (z := tx fl)) (fun j σ H' => (∃ v9 : Option V, σ = sigW p D r g c b k (some (.int (i : Int))) (some (.str (tx wd))) v9) ∧ Srch l b H H' D r g ((fl.take j).foldl (addW i a) s1.1, s1.2 ++ [i])) ⟨⟨v9, rfl⟩, S⟩ (fun _ _ _ _ _ => trivial) ?_ ?_⟩
            · rintro j y σ H8 H9 hj ⟨⟨v9, rfl⟩, S⟩ ⟨rfl, c', hc', rfl⟩
              have hc2 := tx_at hc'
              obtain ⟨cl', cn⟩ := flm _ (List.mem_of_getElem? hc2)
              have hk2 := keysF (i := i) (a := a) (fl.take j) s1.1
              have et : (fl.take (j + 1)).foldl (addW i a) s1.1 = addW i a ((fl.take j).foldl (addW i a) s1.1) c' := by rw [takeS hc2, List.foldl_append]; rfl
              rw [et]
              have ka2 : (keysW ((fl.take j).foldl (addW i a) s1.1))[k]? = some a := by
                rw [hk2, List.getElem?_append_left (List.getElem?_eq_some_iff.mp ka).1]
                exact ka
              have cn2 : c' ∉ keysW ((fl.take j).foldl (addW i a) s1.1) := by
                rw [hk2]
                exact fun z => (List.mem_append.mp z).elim cn (nodup_take flnd hc2)
              generalize (fl.take j).foldl (addW i a) s1.1 = ws at S ka2 cn2
              have wl := S.wf.len
              have gl := S.get a
              obtain ⟨kvs, ed, hw⟩ := S.w
              rcases hw.at_ a with ⟨_, ta, eva, sta⟩ | ⟨hm, _⟩
              · have dg : DGet H9 D (.str (one a)) (some (.ref ta)) := by
                  have := DGet.k (k := .inr (one a)) ed
                  rw [eva] at this
                  exact this
                refine ⟨_, rfl, _, rfl, _, rfl, r, _, _, .str (one a), rfl, rfl, SqL.of S.hr, atI_nat (ones_at ka2), D, .ref ta, rfl, dg, ?_⟩
                refine ⟨_, rfl, _, rfl, _, rfl, r, _, _, .str (one a), rfl, rfl, SqL.of S.hr, atI_nat (ones_at ka2), _, rfl, by show 3 ≤ sizeLine; rw [hline]; decide, fun T3 z3 => ⟨by show 1 ≤ sizeLine; rw [hline]; decide, fun T4 z4 => ?_⟩⟩
                have s3 := same_upd (o := HO.tup [.int (i : Int), .str (one a), .str (one c')]) z3
                have s4 := same_upd (o := HO.tup [.ref T3]) z4
                refine cat_steps (ss2 := [(i, a, c')]) (sta.keep (.of (sm_tr s3 s4))) ⟨[.ref T3], upd_same, .cons (s4 _ _ upd_same) .nil⟩ (by show (wGet ws a).length + 1 ≤ 1000; have : (keysW ws).length ≤ l.length := wl; have : (wGet ws a).length ≤ (keysW ws).length := gl; omega) fun T5 H10 s5 hT5 => ?_
                have S := S.same (sm_tr (sm_tr s3 s4) s5)
                obtain ⟨kvs2, ed2, l2, er2, S2⟩ := S.add L26 cl' cn2 hT5
                refine ⟨_, rfl, _, rfl, D, _, rfl, DPut.k (k := .inr (one c')) ed2 (by rw [hline]; omega), ?_⟩
                refine ⟨_, rfl, .inl ⟨rfl, _, SqL.of er2⟩, _, rfl, r, _, _, rfl, rfl, er2, ?_, ⟨_, rfl⟩, S2⟩
                rw [ones_len, hline]
                show (keysW ws).length < 16777216
                have : (keysW ws).length ≤ l.length := wl
                omega
              · exact absurd (List.mem_of_getElem? ka2) hm
            · rintro σ H8 ⟨⟨v9, rfl⟩, S⟩
              rw [tx_size, List.take_length] at S
              refine ⟨⟨_, _, _, rfl⟩, S, ?_, ?_⟩
              · show (s1.2 ++ [i]).length ≤ _
                rw [List.length_append]
                show _ + 1 ≤ _
                omega
              · show (keysW (fl.foldl (addW i a) s1.1))[k]? = some a
                rw [keysF, List.getElem?_append_left (List.getElem?_eq_some_iff.mp ka).1]
                exact ka
        · rw [decide_eq_false haw]
          refine iteF (iteF ?_)
          obtain ⟨_, h2, h3, h4⟩ := stay fun z => haw z.1
          exact ⟨⟨some (.int (i : Int)), some (.str (tx wd)), v9, rfl⟩, h2, h3, h4⟩
      · rintro σ H4 ⟨⟨v7, v8, v9, rfl⟩, S, lp, ka⟩
        rw [txs_len] at S lp ka
        refine ⟨_, rfl, _, _, rfl, rfl, ?_⟩
        exact ⟨k + 1, _, v7, v8, v9, rfl, S, eg', by omega, by omega⟩
    · rw [decide_eq_false (show ¬ ((k : Int) < ((keysW st.1).length : Nat)) by omega)]
      refine iteF ⟨_, rfl, ?_⟩
      have : waysF un c b = st.1 := by
        unfold waysF
        rw [← eg]
        cases m with
        | zero => rfl
        | succ m => exact congrArg Prod.fst (if_neg hk)
      refine q _ _ S.sm S.nd (by rw [this]; exact S.w) fun x => ?_
      rw [this]
      have := S.get x
      omega
end
end Gm

/-! Pairs: word_of, pair_of -/
namespace Gm
open PySem PySem.Spec PyProof.Rows L2


/-- a dict from letters to numbers -/
def cpK (l : List Nat) (cp : Nat → Int) : List (Key × V) := l.map fun c => (.inr (one c), .int (cp c))
theorem cpK_at {l : List Nat} {cp : Nat → Int} {c : Nat} (h : c ∈ l) : valV (cpK l cp) (.inr (one c)) = some (.int (cp c)) := by
  unfold cpK
  induction l with
  | nil => exact absurd h List.not_mem_nil
  | cons a l ih =>
    by_cases e : a = c
    · subst e
      exact valV_pos rfl
    · rw [List.map_cons]
      exact (valV_neg fun z => e (one_inj (Sum.inr.inj z))).trans (ih ((List.mem_cons.mp h).resolve_left fun z => e z.symm))
abbrev prNames : List Str := ["letters", "length", "untried", "copies", "asked_letters", "asked_copies"]
/-- Pairs stands at p -/
structure PrsAt (CP : Addr) (H : Hp) (p : Addr) (l : List Nat) (n : Nat) (un al : List (List Nat)) (cp aq : Nat → Int) : Prop where
  at_ : ∃ dx fs u cd at_ ad, H p = some (.ins CP dx fs) ∧ fs.lookup ("letters" : Str) = some (.str (tx l)) ∧ fs.lookup ("length" : Str) = some (.int (n : Int)) ∧ fs.lookup ("untried" : Str) = some (.ref u) ∧ fs.lookup ("copies" : Str) = some (.ref cd) ∧
    fs.lookup ("asked_letters" : Str) = some (.ref at_) ∧ fs.lookup ("asked_copies" : Str) = some (.ref ad) ∧ H u = some (.lst (txs un)) ∧ H cd = some (.dK (cpK l cp)) ∧ H at_ = some (.tup (txs al)) ∧ H ad = some (.dK (cpK l aq)) ∧ ∀ m : Str, prNames.contains m = false → fs.lookup m = none
  l26 : l.length ≤ 26
  n6 : n ≤ 6
  few : un.length = n
  fal : al.length = n
  nd : ∀ u ∈ un, u.Nodup
  sub : ∀ u ∈ un, ∀ c ∈ u, c ∈ l
theorem PrsAt.same {CP p : Addr} {H H' : Hp} {l : List Nat} {n : Nat} {un al : List (List Nat)} {cp aq : Nat → Int} (h : PrsAt CP H p l n un al cp aq) (s : Same H H') : PrsAt CP H' p l n un al cp aq :=
  ⟨let ⟨dx, fs, u, cd, a, ad, h1, h2, h3, h4, h5, h6, h7, h8, h9, h10, h11, h12⟩ := h.at_; ⟨dx, fs, u, cd, a, ad, s _ _ h1, h2, h3, h4, h5, h6, h7, s _ _ h8, s _ _ h9, s _ _ h10, s _ _ h11, h12⟩, h.l26, h.n6, h.few, h.fal, h.nd, h.sub⟩
theorem PrsAt.unt {K : PySem.W.Frag} {CP p : Addr} {H : Hp} {l : List Nat} {n : Nat} {un al : List (List Nat)} {cp aq : Nat → Int} (h : PrsAt CP H p l n un al cp aq) : Unt K CP H p l un :=
  ⟨let ⟨dx, fs, u, cd, a, ad, h1, h2, h3, h4, h5, h6, h7, h8, h9, h10, h11, h12⟩ := h.at_; ⟨dx, fs, u, h1, h4, h8⟩, h.l26, by have := h.n6; have := h.few; omega, h.nd, h.sub⟩
/-- a dict from places to letters -/
abbrev PL := List (Nat × Nat)
def plK (m : PL) : List (Key × V) := m.map fun x => (.inl (x.1 : Int), .str (one x.2))
def putP (m : PL) (i c : Nat) : PL := if (m.any fun x => decide (x.1 = i)) = true then m.map (fun x => if x.1 = i then (x.1, c) else x) else m ++ [(i, c)]
def getP (m : PL) (i : Nat) : Option Nat := (m.find? fun x => decide (x.1 = i)).map (·.2)
theorem plK_len (m : PL) : (plK m).length = m.length := List.length_map ..
theorem plK_put (m : PL) (i c : Nat) : putK (plK m) (.inl (i : Int)) (.str (one c)) = plK (putP m i c) := by
  have any : ((plK m).any fun kv => decide (kv.1 = (.inl (i : Int) : Key))) = (m.any fun x => decide (x.1 = i)) := by
    unfold plK
    rw [List.any_map]
    congr 1
    funext x
    show decide ((Sum.inl (x.1 : Int) : Key) = Sum.inl (i : Int)) = decide (x.1 = i)
    rw [Bool.eq_iff_iff, decide_eq_true_iff, decide_eq_true_iff, Sum.inl.injEq]
    omega
  unfold putK putP
  rw [any]
  split
  · unfold plK
    rw [List.map_map, List.map_map]
    congr 1
    funext x
    show (if (Sum.inl (x.1 : Int) : Key) = Sum.inl (i : Int) then _ else _) = _
    by_cases e : x.1 = i
    · rw [if_pos (by rw [e]), Function.comp_apply, if_pos e]
    · rw [if_neg (by rw [Sum.inl.injEq]; omega), Function.comp_apply, if_neg e]
  · unfold plK
    rw [List.map_append]
    rfl
theorem plK_get (m : PL) (i : Nat) : valV (plK m) (.inl (i : Int)) = (getP m i).map fun c => V.str (one c) := by
  unfold getP plK
  induction m with
  | nil => rfl
  | cons x m ih =>
    rw [List.map_cons, List.find?_cons]
    by_cases e : x.1 = i
    · rw [decide_eq_true e]
      exact valV_pos (by rw [e])
    · rw [decide_eq_false e]
      exact (valV_neg (by show ¬ (Sum.inl (x.1 : Int) : Key) = Sum.inl (i : Int); rw [Sum.inl.injEq]; omega)).trans ih
theorem getP_put (m : PL) (i j c : Nat) : getP (putP m i c) j = if j = i then some c else getP m j := by
  have h : valV (putK (plK m) (.inl (i : Int)) (.str (one c))) (.inl (j : Int)) = valV (plK (putP m i c)) (.inl (j : Int)) := by rw [plK_put]
  rw [valV_put, plK_get, plK_get] at h
  by_cases e : j = i
  · rw [if_pos e]
    rw [if_pos (by rw [e])] at h
    cases g : getP (putP m i c) j with
    | none => rw [g] at h; cases h
    | some d =>
      rw [g] at h
      rw [one_inj (V.str.inj (Option.some.inj h))]
  · rw [if_neg e]
    rw [if_neg (by rw [Sum.inl.injEq]; omega)] at h
    cases g : getP (putP m i c) j with
    | none =>
      rw [g] at h
      cases g2 : getP m j with
      | none => rfl
      | some d => rw [g2] at h; cases h
    | some d =>
      rw [g] at h
      cases g2 : getP m j with
      | none => rw [g2] at h; cases h
      | some d2 => rw [g2] at h; rw [one_inj (V.str.inj (Option.some.inj h))]
def wordP (m : PL) (n : Nat) : List Nat := (List.range n).map fun i => (getP m i).getD 0
def spWordOf (CP : Addr) : Sp := fun vs H Q _ => ∃ (p d : Addr) (l : List Nat) (n : Nat) (un al : List (List Nat)) (cp aq : Nat → Int) (m : PL), vs = [.ref p, .ref d] ∧ PrsAt CP H p l n un al cp aq ∧ H d = some (.dK (plK m)) ∧ (∀ i, i < n → (getP m i).isSome = true) ∧
  ∀ H', Same H H' → Q (.str (tx (wordP m n))) H'
section
variable {P : Program} {w : World} {K : PySem.W.Frag} {mg : Str → Option Value} {base : Heap}
abbrev nWdO : List Str := ["self", "letters", "place"]
theorem scWdO : FnScope nWdO ["self", "letters"] (defScope sWordOf) := ⟨rfl, rfl, rfl, by decide +kernel, rfl, by decide +kernel, by decide +kernel⟩
theorem ok_wordOf {f CP : Addr} {fd : FuncData} (F : Fun K "word_of" "Pairs.word_of" sWordOf f fd) (T : TxP K mg CP) : FnOk P w K mg base CX0 1 f fd ["self", "letters"] (spWordOf CP) := by
  refine F.ok scWdO (fun vs H Q E h => ?_) (fun cdv A outer s H vs Q E hr h => ?_)
  · obtain ⟨p, d, l, n, un, al, cp, aq, m, rfl, _⟩ := h
    rfl
  · obtain ⟨p, d, l, n, un, al, cp, aq, m, rfl, hP, hd, all, q⟩ := h
    have nd := scWdO.nd
    have hline : sizeLine = 16777216 := sizeLine_eq
    have hu1 : (A.deeper (PyProof.Rows.envOfC "Pairs.word_of" (defScope sWordOf) s.heap.objs.size f cdv)).units + 1 < cLine := by
      have := hr.un
      omega
    have n6 := hP.n6
    refine ⟨_, pss_one (ps_ret (pe_join pe_str (pe_lc (te := (tDGet (tVar 1) (tVar 2))) (own := [("place", 2)]) (g := gName 2) (by rfl) nd (pi_range1 (by rfl) T.range (pa_cons (pe_fld (pv 0) rfl) pa_nil)) (blkOk_by (own := [("place", 2)]) (N := nWdO) (sc := defScope sWordOf) (by decide +kernel)) (fun _ _ _ _ _ => pg_name (i := 2) nd rfl (Or.inl rfl)) (fun _ _ _ _ _ => by exact pts_nil) (fun _ _ _ _ _ => by exact (pe_dget hu1 (pv 1) (pv 2) (fun _ _ => rfl)))))), ?_⟩
    obtain ⟨dx, fs, u, cd, at_, ad, h1, h2, h3, _⟩ := hP.at_
    refine ⟨⟨_, rfl⟩, _, rfl, p, CP, dx, _, _, rfl, h1, T.cl, T.nLn, h3, n, rfl, by omega, by omega, fun M zM => ?_⟩
    refine lc_range (lo := 0) (n := (n : Int).toNat) (fun i H' => Same H H' ∧ H' M = some (.lst (onesV ((List.range i).map fun i => (getP m i).getD 0)))) ⟨same_upd zM, upd_same⟩ ?_ ?_
    · rintro i H1 hi ⟨sm, hM⟩
      have hi' : i < n := by omega
      obtain ⟨c, hc⟩ := Option.isSome_iff_exists.mp (all i hi')
      refine ⟨rfl, ?_⟩
      have dg : DGet H1 d (.int (0 + (i : Nat))) (some (.str (one c))) := by
        have := DGet.k (k := .inl (i : Int)) (sm _ _ hd)
        rw [plK_get, hc] at this
        rw [Int.zero_add]
        exact this
      refine ⟨_, rfl, _, rfl, d, _, rfl, dg, _, hM, ?_, same_putN sm zM, ?_⟩
      · rw [ones_len, List.length_map, List.length_range]
        omega
      · rw [upd_same, List.range_succ, List.map_append]
        unfold onesV
        rw [List.map_append]
        show some (HO.lst (_ ++ [V.str (one c)])) = some (HO.lst (_ ++ [V.str (one ((getP m i).getD 0))]))
        rw [hc]
        rfl
    rintro H2 ⟨s2, hM⟩
    refine ⟨_, M, (wordP m n).map one, rfl, rfl, .inl (SqL.of (by rw [List.map_map]; exact hM)), ?_, ?_⟩
    · rw [sum_one, List.length_map]
      have : (wordP m n).length = n := by unfold wordP; rw [List.length_map, List.length_range]
      show (wordP m n).length + (wordP m n).length * 0 ≤ 16777216
      omega
    · show Q (.str (Txt.join (Str.ofString "") ((wordP m n).map one))) H2
      rw [join_one]
      exact q H2 s2
end
end Gm

/-! x = {k: v for ..} on one line, x a plain local -/
namespace L2
open PySem PySem.Spec PyProof.Rows
section
variable {X : Cx}
theorem ps_setDc {i : Nat} {y : Str} {py : Pos} {kx vx tg iter : Expr} {ifs : List Expr} {scope : Scope} {own : List (Str × Nat)} {pos spos : Pos} {wi : TI} {g : TG} {tt : TT} {tk tv : TE} (hc : X.calm = true) (hN : X.N.Nodup) (hy : X.N[i]? = some y) (hyl : X.env.scope.names.lookup y = some .local)
    (hsw : swapsWith (.DictComp kx vx [⟨tg, iter, ifs, 0⟩] scope pos) (some (.Name y py)) spos.line X.env = pure true) (hi : PI X tg iter wi) (ok : BlkOk X.N X.env.scope scope own)
    (hg : ∀ (s : Shared) (H : Hp) (C : Addr) (cl : List (Str × Addr)) (fp : List Addr), PG (X.blk s H scope (compEnvC scope cl C X.env) fp) tg g) (ht : ∀ (s : Shared) (H : Hp) (C : Addr) (cl : List (Str × Addr)) (fp : List Addr), PTs (X.blk s H scope (compEnvC scope cl C X.env) fp) ifs tt)
    (hk : ∀ (s : Shared) (H : Hp) (C : Addr) (cl : List (Str × Addr)) (fp : List Addr), PE (X.blk s H scope (compEnvC scope cl C X.env) fp) kx tk)
    (he : ∀ (s : Shared) (H : Hp) (C : Addr) (cl : List (Str × Addr)) (fp : List Addr), PE (X.blk s H scope (compEnvC scope cl C X.env) fp) vx tv) (hs : ∀ x, foldedSetIterable iter X.env x = pure x := by intro _; rfl) :
    PS X (.Assign [.Name y py] (.DictComp kx vx [⟨tg, iter, ifs, 0⟩] scope pos) spos) (tAsg (tDc wi g tt tk tv (own.map (·.2))) (gName i)) := by
  refine ⟨fun pins s σ H D I h => ?_⟩
  rw [exec_Assign_Name_used _ _ _ _ hsw]
  refine wpAny_bind (wpAny_standAt (wpAny_bind ?_))
  show wpAny _ X.A (do let _ ← comprehension (.DictComp kx vx [⟨tg, iter, ifs, 0⟩] scope pos) scope X.env (firstIterPos [⟨tg, iter, ifs, 0⟩] pos) newDict false (eval iter X.env) (some (assign (.Name y py) X.env))) _ _ s
  have h : tDc wi g tt tk tv (own.map (·.2)) σ H (fun x H1 => gName i x σ H1 D.nx) := h
  refine wpAny_bind (thn (dc_core (Qf := fun _ s' => SP X pins D .next s') hc hN I hi ok hg ht hk he hs h fun L C s' m H' I' q hn f => ?_) fun _ s' hq => wpAny_pure (wpAny_pure hq))
  show wpAny _ _ (assign (.Name y py) X.env (.ref L)) _ _ _
  refine wpAny_assign_Name (store_ok2 (v := V.ref L) I' hN hy (.inl hyl) rfl (fun s2 I2 ⟨a, sb, ha⟩ => ?_) (.inr hyl))
  obtain ⟨f0, f1, f2, f3, f4, f5⟩ := f
  have haC : C ≠ a := by
    rcases ha with z | z
    · rw [z]; exact f1
    · exact fun e => f4 y a z e.symm
  refine ⟨m, hn.sameBut sb haC, fun h3 sb3 => ?_⟩
  exact ⟨_, H', I2.turned (t' := s2.toks) (fun b o hb e => (sb3.2 b hb).trans e) f0 f1 f3 f4 f5, q⟩
theorem swDc_true {kx vx : Expr} {gs : List Comprehension} {scope : Scope} {pos py : Pos} {y : Str} {l : Nat} {env : Env} (hk : env.scope.kind = .function) (hy : env.scope.names.lookup y = some .local) (hl : (py.line == pos.line) = true)
    (ha : (scope.names.any fun (n, k) => n == y && (k == .local || k == .cell)) = false) : swapsWith (.DictComp kx vx gs scope pos) (some (.Name y py)) l env = pure true := by
  have ky : env.kindOf y = some .local := hy
  have hb : env.blockKind = .function := by unfold Env.blockKind; rw [hk]; rfl
  unfold swapsWith
  simp only [hb, ky, ha, Expr.pos, hl]
  rfl
end
end L2

/-! Pairs.pair_of -/
namespace Gm
open PySem PySem.Spec PyProof.Rows L2
theorem putP_len (m : PL) (i c : Nat) : (putP m i c).length ≤ m.length + 1 := by
  unfold putP
  split
  · rw [List.length_map]
    omega
  · rw [List.length_append]
    exact Nat.le_refl _
def onesP (ss : List Step) : PL := ss.foldl (fun m s => putP m s.1 s.2.1) []
def twosP (ss : List Step) : PL := ss.foldl (fun m s => putP m s.1 s.2.2) []
theorem onesP_snoc (ss : List Step) (s : Step) : onesP (ss ++ [s]) = putP (onesP ss) s.1 s.2.1 := by unfold onesP; rw [List.foldl_append]; rfl
theorem twosP_snoc (ss : List Step) (s : Step) : twosP (ss ++ [s]) = putP (twosP ss) s.1 s.2.2 := by unfold twosP; rw [List.foldl_append]; rfl
theorem stepsP_len (g : PL → Step → PL) (hg : ∀ m s, (g m s).length ≤ m.length + 1) : ∀ (ss : List Step) (m : PL), (ss.foldl g m).length ≤ m.length + ss.length
  | [], m => by simp
  | s :: ss, m => by
    have := stepsP_len g hg ss (g m s)
    have := hg m s
    rw [List.foldl_cons, List.length_cons]
    omega
theorem onesP_len (ss : List Step) : (onesP ss).length ≤ ss.length := by
  have := stepsP_len (fun m s => putP m s.1 s.2.1) (fun m s => putP_len ..) ss []
  rw [List.length_nil, Nat.zero_add] at this
  exact this
theorem twosP_len (ss : List Step) : (twosP ss).length ≤ ss.length := by
  have := stepsP_len (fun m s => putP m s.1 s.2.2) (fun m s => putP_len ..) ss []
  rw [List.length_nil, Nat.zero_add] at this
  exact this
def othersP (ss : List Step) (n : Nat) : List Nat := (List.range n).filter fun i => !(getP (onesP ss) i).isSome
def fillTo (os : List Nat) (cf : Int) (f₀ la : Nat) (m : PL) (k : Nat) : PL := (List.range k).foldl (fun m j => putP m (os.getD j 0) (if (j : Int) < cf then f₀ else la)) m
theorem fillTo_succ (os : List Nat) (cf : Int) (f₀ la : Nat) (m : PL) (k : Nat) : fillTo os cf f₀ la m (k + 1) = putP (fillTo os cf f₀ la m k) (os.getD k 0) (if (k : Int) < cf then f₀ else la) := by
  unfold fillTo
  rw [List.range_succ, List.foldl_append]
  rfl
/-- the two words of a chain of steps -/
def pairOfF (ss : List Step) (n : Nat) (cf : Int) (f₀ la : Nat) : List Nat × List Nat :=
  (wordP (fillTo (othersP ss n) cf f₀ la (onesP ss) (othersP ss n).length) n, wordP (fillTo (othersP ss n) cf f₀ la (twosP ss) (othersP ss n).length) n)
theorem isSome_put (m : PL) (i j c : Nat) : (getP (putP m i c) j).isSome = (decide (j = i) || (getP m j).isSome) := by
  rw [getP_put]
  by_cases e : j = i <;> simp [e]
theorem same_keys (ss : List Step) (j : Nat) : (getP (twosP ss) j).isSome = (getP (onesP ss) j).isSome := by
  unfold onesP twosP
  have : ∀ (ss : List Step) (m m2 : PL), (getP m2 j).isSome = (getP m j).isSome → (getP (ss.foldl (fun m s => putP m s.1 s.2.2) m2) j).isSome = (getP (ss.foldl (fun m s => putP m s.1 s.2.1) m) j).isSome := fun ss => by
    induction ss with
    | nil => exact fun m m2 h => h
    | cons s ss ih => exact fun m m2 h => ih _ _ (by rw [isSome_put, isSome_put, h])
  exact this ss [] [] rfl
theorem fill_some (os : List Nat) (cf : Int) (f₀ la : Nat) (m : PL) (j : Nat) : ∀ k, k ≤ os.length → (getP (fillTo os cf f₀ la m k) j).isSome = (decide (j ∈ os.take k) || (getP m j).isSome)
  | 0, _ => by simp [fillTo]
  | k + 1, h => by
    have hk : k < os.length := h
    rw [fillTo_succ, isSome_put, fill_some os cf f₀ la m j k (by omega), List.take_succ_eq_append_getElem hk, List.getD_eq_getElem?_getD, List.getElem?_eq_getElem hk, ← Bool.or_assoc]
    congr 1
    rw [Bool.eq_iff_iff, Bool.or_eq_true, decide_eq_true_iff, decide_eq_true_iff, decide_eq_true_iff, List.mem_append, List.mem_singleton]
    exact ⟨fun h => h.elim .inr .inl, fun h => h.elim .inr .inl⟩
theorem fill_all (ss : List Step) (n : Nat) (cf : Int) (f₀ la : Nat) (m : PL) (hm : ∀ j, (getP m j).isSome = (getP (onesP ss) j).isSome) (i : Nat) (hi : i < n) : (getP (fillTo (othersP ss n) cf f₀ la m (othersP ss n).length) i).isSome = true := by
  rw [fill_some _ _ _ _ _ _ _ (Nat.le_refl _), List.take_length, hm]
  cases e : (getP (onesP ss) i).isSome with
  | true => exact Bool.or_true _
  | false =>
    rw [Bool.or_false]
    exact decide_eq_true (List.mem_filter.mpr ⟨List.mem_range.mpr hi, by rw [e]; rfl⟩)
theorem Steps.get {H : Hp} {vs : List V} {ss : List Step} (h : Steps H vs ss) : ∀ {i : Nat} {x : V}, vs[i]? = some x → ∃ a s, x = .ref a ∧ ss[i]? = some s ∧ H a = some (.tup (stepV s)) := by
  induction h with
  | nil => intro i x e; cases e
  | @cons a s vs ss ha _ ih =>
    intro i x e
    cases i with
    | zero =>
      cases e
      exact ⟨a, s, rfl, rfl, ha⟩
    | succ i => exact ih (by simpa using e)
def spPairOf (CP : Addr) : Sp := fun vs H Q _ => ∃ (p t : Addr) (f₀ la : Nat) (l : List Nat) (n : Nat) (un al : List (List Nat)) (cp aq : Nat → Int) (ss : List Step), vs = [.ref p, .ref t, .str (one f₀), .str (one la)] ∧ PrsAt CP H p l n un al cp aq ∧ StepsAt H t ss ∧ ss.length ≤ 1000 ∧ f₀ ∈ l ∧
  ∀ H' T, Same H H' → H' T = some (.tup [.str (tx (pairOfF ss n (cp f₀) f₀ la).1), .str (tx (pairOfF ss n (cp f₀) f₀ la).2)]) → Q (.ref T) H'
section
variable {P : Program} {w : World} {K : PySem.W.Frag} {mg : Str → Option Value} {base : Heap}
abbrev nPrO : List Str := ["self", "steps", "first", "last", "one", "two", "others", "at", "place", "letter", "following"]
theorem scPrO : FnScope nPrO ["self", "steps", "first", "last"] (defScope sPairOf) := ⟨rfl, rfl, rfl, by decide +kernel, rfl, by decide +kernel, by decide +kernel⟩
theorem ok_pairOf {f CP fW : Addr} {fd fdW : FuncData} (F : Fun K "pair_of" "Pairs.pair_of" sPairOf f fd) (T : TxP K mg CP) (MW : Meth K CP "word_of" fW) (GW : FnOk P w K mg base CX0 1 fW fdW ["self", "letters"] (spWordOf CP)) (bW : Binds K fdW ["self", "letters"] []) :
    FnOk P w K mg base CX0 2 f fd ["self", "steps", "first", "last"] (spPairOf CP) := by
  refine F.ok scPrO (fun vs H Q E h => ?_) (fun cdv A outer s H vs Q E hr h => ?_)
  · obtain ⟨p, t, f₀, la, l, n, un, al, cp, aq, ss, rfl, _⟩ := h
    rfl
  · obtain ⟨p, t, f₀, la, l, n, un, al, cp, aq, ss, rfl, hP, ⟨vs, et, hs⟩, ls, hf, q⟩ := h
    have nd := scPrO.nd
    have hline : sizeLine = 16777216 := sizeLine_eq
    have hr1 : Room 1 _ := hr.mono (by decide)
    have hu1 : (A.deeper (PyProof.Rows.envOfC "Pairs.pair_of" (defScope sPairOf) s.heap.objs.size f cdv)).units + 1 < cLine := by
      have := hr.un
      omega
    have n6 := hP.n6
    have lv := hs.len
    refine ⟨_, pss_cons (ps_set (i := 4) nd rfl (Or.inr rfl) (pe_dc (own := [("place", 8), ("letter", 9), ("following", 10)]) (g := gTup K 3 (gCons (gName 8) (gCons (gName 9) (gCons (gName 10) gNil)))) (by rfl) nd (pi_tup (pv 1)) (blkOk_by (own := [("place", 8), ("letter", 9), ("following", 10)]) (N := nPrO) (sc := defScope sPairOf) (by decide +kernel))
          (fun _ _ _ _ _ => pg_tup (by rfl) (pgs_cons (pg_name (i := 8) nd rfl (Or.inl rfl)) (pgs_cons (pg_name (i := 9) nd rfl (Or.inl rfl)) (pgs_cons (pg_name (i := 10) nd rfl (Or.inl rfl)) pgs_nil)))) (fun _ _ _ _ _ => pts_nil) (fun _ _ _ _ _ => pv 8) (fun _ _ _ _ _ => pv 9)))
      (pss_cons (ps_setDc (i := 5) (own := [("place", 8), ("letter", 9), ("following", 10)]) (g := gTup K 3 (gCons (gName 8) (gCons (gName 9) (gCons (gName 10) gNil)))) (by rfl) nd rfl rfl (swDc_true rfl rfl rfl (by decide +kernel)) (pi_tup (pv 1)) (blkOk_by (own := [("place", 8), ("letter", 9), ("following", 10)]) (N := nPrO) (sc := defScope sPairOf) (by decide +kernel))
          (fun _ _ _ _ _ => pg_tup (by rfl) (pgs_cons (pg_name (i := 8) nd rfl (Or.inl rfl)) (pgs_cons (pg_name (i := 9) nd rfl (Or.inl rfl)) (pgs_cons (pg_name (i := 10) nd rfl (Or.inl rfl)) pgs_nil)))) (fun _ _ _ _ _ => pts_nil) (fun _ _ _ _ _ => pv 8) (fun _ _ _ _ _ => pv 10))
      (pss_cons (ps_setLc (i := 6) (tt := (tTest (tDNotIn (tVar 8) (tVar 4)))) (own := [("place", 8)]) (g := gName 8) (by rfl) nd rfl rfl (sw_true rfl rfl rfl (by decide +kernel)) (pi_range1 (by rfl) T.range (pa_cons (pe_fld (pv 0) rfl) pa_nil)) (blkOk_by (own := [("place", 8)]) (N := nPrO) (sc := defScope sPairOf) (by decide +kernel)) (fun _ _ _ _ _ => pg_name (i := 8) nd rfl (Or.inl rfl)) (fun _ _ _ _ _ => by exact pts_one (pt_cmp (pc_dnotin hu1 (pv 8) (pv 4)))) (fun _ _ _ _ _ => by exact (pv 8)))
      (pss_cons (ps_for PassesOwn.never rfl (pi_enum (by rfl) T.enum (pa_cons (pv 6) pa_nil)) (pg_tup (by rfl) (pgs_cons (pg_name (i := 7) nd rfl (Or.inl rfl)) (pgs_cons (pg_name (i := 8) nd rfl (Or.inl rfl)) pgs_nil)))
          (pss_one (ps_asg2 (pe_ifExp (pt_cmpR op_lt (pv 7) (pe_dget hu1 (pe_fld (pv 0) rfl) (pv 2) (fun _ _ => rfl)) (nomark _)) (pv 2) (pv 3)) (pg_sub (pv 4) (pv 8) (set_dict hu1)) (pg_sub (pv 5) (pv 8) (set_dict hu1)))))
      (pss_one (ps_ret (pe_tup (pa_cons (pe_meth (pv 0) T.cl MW GW hr1 bW .nil pass0 (pa_cons (pv 4) pa_nil)) (pa_cons (pe_meth (pv 0) T.cl MW GW hr1 bW .nil pass0 (pa_cons (pv 5) pa_nil)) pa_nil)))))))), ?_⟩
    obtain ⟨dx, fs, u, cd, at_, ad, h1, h2, h3, h4, h5, h6, h7, h8, h9, h10, h11, h12⟩ := hP.at_
    refine ⟨_, rfl, t, rfl, ⟨_, SqT.of et⟩, fun D1 z1 => dc_tup (xs := vs) (fun i H' => Same H H' ∧ H' D1 = some (.dK (plK (onesP (ss.take i))))) ⟨same_upd z1, upd_same⟩ (fun i H' _ h => SqT.of (h.1 _ _ et)) ?_ ?_⟩
    · rintro i x H1 hx ⟨sm, hD⟩
      obtain ⟨a, st, rfl, hst, ea⟩ := hs.get hx
      refine ⟨a, _, rfl, SqT.of (sm _ _ ea), rfl, _, _, rfl, _, _, rfl, _, _, rfl, rfl, rfl, ?_⟩
      refine ⟨_, rfl, _, rfl, _, .inl (st.1 : Int), rfl, hD, ?_, same_putN sm z1, ?_⟩
      · rw [plK_len, hline]
        have := onesP_len (ss.take i)
        rw [List.length_take] at this
        omega
      · rw [upd_same, plK_put, takeS hst, onesP_snoc]
    rintro H1 ⟨sm, hD1⟩
    rw [lv, List.take_length] at hD1
    refine ⟨_, rfl, t, rfl, ⟨_, SqT.of (sm _ _ et)⟩, fun D2 z2' => dc_tup (xs := vs) (fun i H' => Same H1 H' ∧ H' D2 = some (.dK (plK (twosP (ss.take i))))) ⟨same_upd z2', upd_same⟩ (fun i H' _ h => SqT.of (h.1 _ _ (sm _ _ et))) ?_ ?_⟩
    · rintro i x H2 hx ⟨sm2, hD⟩
      obtain ⟨a, st, rfl, hst, ea⟩ := hs.get hx
      refine ⟨a, _, rfl, SqT.of (sm2 _ _ (sm _ _ ea)), rfl, _, _, rfl, _, _, rfl, _, _, rfl, rfl, rfl, ?_⟩
      refine ⟨_, rfl, _, rfl, _, .inl (st.1 : Int), rfl, hD, ?_, same_putN sm2 z2', ?_⟩
      · rw [plK_len, hline]
        have := twosP_len (ss.take i)
        rw [List.length_take] at this
        omega
      · rw [upd_same, plK_put, takeS hst, twosP_snoc]
    rintro H2 ⟨sm2, hD2⟩
    rw [lv, List.take_length] at hD2
    have d12 : D1 ≠ D2 := ne_of_none hD1 z2'
    have z2 := same_free sm z2'
    have hD1 := sm2 _ _ hD1
    have sm := sm_tr sm sm2
    clear sm2
    refine ⟨_, rfl, p, CP, dx, _, _, rfl, sm _ _ h1, T.cl, T.nLn, h3, n, rfl, by omega, by omega, fun M zM => ?_⟩
    refine lc_range (lo := 0) (n := (n : Int).toNat) (fun i H' => Same H2 H' ∧ H' M = some (.lst (((List.range i).filter fun i => !(getP (onesP ss) i).isSome).map fun i => V.int ((i : Nat) : Int)))) ⟨same_upd zM, upd_same⟩ ?_ ?_
    · rintro i H3 hi ⟨s3, hM⟩
      refine ⟨rfl, ?_⟩
      have dg : DGet H3 D1 (.int (0 + (i : Nat))) ((getP (onesP ss) i).map fun c => V.str (one c)) := by
        have := DGet.k (k := .inl (i : Int)) (s3 _ _ hD1)
        rw [plK_get] at this
        rw [Int.zero_add]
        exact this
      refine ⟨_, rfl, _, rfl, D1, _, rfl, dg, _, rfl, ?_⟩
      cases e : getP (onesP ss) i with
      | some c =>
        refine iteF ⟨s3, ?_⟩
        rw [hM, List.range_succ, List.filter_append, List.filter_cons, if_neg (by rw [e]; simp), List.filter_nil, List.append_nil]
      | none =>
        refine iteT ⟨_, rfl, _, hM, ?_, same_putN s3 zM, ?_⟩
        · rw [List.length_map]
          have := List.length_filter_le (fun i => !(getP (onesP ss) i).isSome) (List.range i)
          rw [List.length_range] at this
          omega
        · rw [upd_same, List.range_succ, List.filter_append, List.filter_cons, if_pos (by rw [e]; rfl), List.filter_nil, List.map_append]
          show some (HO.lst (_ ++ [V.int (0 + (i : Nat))])) = _
          rw [Int.zero_add]
          rfl
    rintro H3 ⟨s3, hM⟩
    have hM : H3 M = some (.lst ((othersP ss n).map fun i => V.int ((i : Nat) : Int))) := hM
    have zMH := same_free sm zM
    have m1 : M ≠ D1 := (ne_of_none hD1 zM).symm
    have m2 : M ≠ D2 := (ne_of_none hD2 zM).symm
    have hD1 := s3 _ _ hD1
    have hD2 := s3 _ _ hD2
    have sm := sm_tr sm s3
    clear s3
    have ol : (othersP ss n).length ≤ n := by
      unfold othersP
      exact Nat.le_trans (List.length_filter_le ..) (by rw [List.length_range]; exact Nat.le_refl _)
    have l1 := onesP_len ss
    have l2 := twosP_len ss
    generalize hos : othersP ss n = os at hM ol
    have fl : ∀ m : PL, m.length ≤ 1000 → ∀ i, i ≤ os.length → (fillTo os (cp f₀) f₀ la m i).length ≤ 1006 := fun m hm i hi => by
      have : ∀ k, (fillTo os (cp f₀) f₀ la m k).length ≤ m.length + k := fun k => by
        induction k with
        | zero => exact Nat.le_refl _
        | succ k ih =>
          rw [fillTo_succ]
          exact Nat.le_trans (putP_len ..) (by omega)
      have := this i
      omega
    refine ⟨_, rfl, M, _, rfl, SqL.of hM, for_it (walk_enum (xs := os.map fun i => V.int ((i : Nat) : Int))) (fun i σ H' => (∃ v7 v8 : Option V, σ = [some (.ref p), some (.ref t), some (.str (one f₀)), some (.str (one la)), some (.ref D1), some (.ref D2), some (.ref M), v7, v8, none, none]) ∧ Same H H' ∧ H' D1 = some (.dK (plK (fillTo os (cp f₀) f₀ la (onesP ss) i))) ∧ H' D2 = some (.dK (plK (fillTo os (cp f₀) f₀ la (twosP ss) i))) ∧ H' M = some (.lst (os.map fun i => V.int ((i : Nat) : Int)))) ⟨⟨_, _, rfl⟩, sm, hD1, hD2, hM⟩ (fun i σ H' _ h => SqL.of h.2.2.2.2) ?_ ?_⟩
    · rintro i x σ H4 H5 hi ⟨⟨v7, v8, rfl⟩, sm, hA, hB, hM⟩ ⟨T1, y0, y1, rfl, zT, rfl, hy0, hy1⟩
      cases hy0
      have hy1 : (os.map fun i => V.int ((i : Nat) : Int))[i]? = some y1 := hy1
      rw [List.getElem?_map] at hy1
      obtain ⟨o, ho, rfl⟩ := Option.map_eq_some_iff.mp hy1
      have hi' : i < os.length := (List.getElem?_eq_some_iff.mp ho).1
      have eo : os.getD i 0 = o := by rw [List.getD_eq_getElem?_getD, ho]; rfl
      refine ⟨T1, _, rfl, SqT.of upd_same, rfl, _, _, rfl, _, _, rfl, rfl, ?_⟩
      have sT := same_upd (o := .tup [.int (i : Int), .int (o : Int)]) zT
      have sm := sm_tr sm sT
      have hA := sT _ _ hA
      have hB := sT _ _ hB
      have hM := sT _ _ hM
      clear sT
      generalize upd H4 T1 (.tup [.int (i : Int), .int (o : Int)]) = H5 at sm hA hB hM ⊢
      have f1 := fl (onesP ss) (by omega) i (by omega)
      have f2 := fl (twosP ss) (by omega) i (by omega)
      have dg : DGet H5 cd (.str (one f₀)) (some (.int (cp f₀))) := by
        have := DGet.k (k := .inr (one f₀)) (sm _ _ h9)
        rw [cpK_at hf] at this
        exact this
      refine ⟨_, rfl, _, rfl, p, CP, dx, _, _, rfl, sm _ _ h1, T.cl, T.nCo, h5, _, rfl, cd, .int (cp f₀), rfl, dg, _, _, rfl, rfl, _, rfl, ?_⟩
      by_cases h : (i : Int) < cp f₀
      · rw [decide_eq_true h]
        refine iteT ⟨_, rfl, ?_⟩
        have hch : (if (i : Int) < cp f₀ then f₀ else la) = f₀ := if_pos h
        refine ⟨_, rfl, _, rfl, D1, _, rfl, DPut.k (k := .inl (o : Int)) hA (by rw [plK_len, hline]; omega), ?_⟩
        refine ⟨_, rfl, _, rfl, D2, _, rfl, DPut.k (k := .inl (o : Int)) ((upd_ne d12.symm).trans hB) (by rw [plK_len, hline]; omega), ?_⟩
        refine ⟨⟨_, _, rfl⟩, same_putN (same_putN sm z1) z2, ?_, ?_, ?_⟩
        · rw [upd_ne d12, upd_same, plK_put, fillTo_succ, eo, hch]
        · rw [upd_same, plK_put, fillTo_succ, eo, hch]
        · rw [upd_ne m2, upd_ne m1]
          exact hM
      · rw [decide_eq_false h]
        refine iteF ⟨_, rfl, ?_⟩
        have hch : (if (i : Int) < cp f₀ then f₀ else la) = la := if_neg h
        refine ⟨_, rfl, _, rfl, D1, _, rfl, DPut.k (k := .inl (o : Int)) hA (by rw [plK_len, hline]; omega), ?_⟩
        refine ⟨_, rfl, _, rfl, D2, _, rfl, DPut.k (k := .inl (o : Int)) ((upd_ne d12.symm).trans hB) (by rw [plK_len, hline]; omega), ?_⟩
        refine ⟨⟨_, _, rfl⟩, same_putN (same_putN sm z1) z2, ?_, ?_, ?_⟩
        · rw [upd_ne d12, upd_same, plK_put, fillTo_succ, eo, hch]
        · rw [upd_same, plK_put, fillTo_succ, eo, hch]
        · rw [upd_ne m2, upd_ne m1]
          exact hM
    rintro σ H4 ⟨⟨v7, v8, rfl⟩, sm, hA, hB, hM⟩
    rw [List.length_map] at hA hB
    have nw : fs.lookup ("word_of" : Str) = none := h12 _ (by decide +kernel)
    subst hos
    refine ⟨_, rfl, p, dx, _, rfl, sm _ _ h1, nw, _, rfl, p, D1, l, n, un, al, cp, aq, _, rfl, hP.same sm, hA, fun i hi => fill_all ss n _ _ _ _ (fun _ => rfl) i hi, fun H5 s5 => ?_⟩
    have sm := sm_tr sm s5
    refine ⟨_, rfl, p, dx, _, rfl, sm _ _ h1, nw, _, rfl, p, D2, l, n, un, al, cp, aq, _, rfl, hP.same sm, s5 _ _ hB, fun i hi => fill_all ss n _ _ _ _ (same_keys ss) i hi, fun H6 s6 => ?_⟩
    refine ⟨by show 2 ≤ sizeLine; rw [hline]; decide, fun T zT => q _ T (sm_tr (sm_tr sm s6) (same_upd zT)) upd_same⟩
end
end Gm

/-! Pairs: pair_with (where it reaches no chain), pair_seen_at -/
namespace Gm
open PySem PySem.Spec PyProof.Rows L2


/-- a dict from the letters of u to the ways from them; d is its address -/
inductive WW (d : Addr) (H : Hp) (wf : Nat → Ways) : List (Key × V) → List Nat → Prop
  | nil : WW d H wf [] []
  | cons {c : Nat} {e : Addr} {kvs : List (Key × V)} {u : List Nat} : e ≠ d → WAt H e (wf c) → WW d H wf kvs u → WW d H wf ((.inr (one c), .ref e) :: kvs) (c :: u)
section
variable {d : Addr} {H H' : Hp} {wf : Nat → Ways} {kvs : List (Key × V)} {u : List Nat}
theorem WW.same (h : WW d H wf kvs u) (s : Same H H') : WW d H' wf kvs u := by
  induction h with
  | nil => exact .nil
  | cons n a _ ih => exact .cons n (a.same s) ih
theorem WW.put {o v : HO} (h : WW d H wf kvs u) (e : H d = some v) (n : ∀ xs, v ≠ .tup xs) : WW d (upd H d o) wf kvs u := by
  induction h with
  | nil => exact .nil
  | @cons c x kvs u nx a _ ih =>
    obtain ⟨k, ek, r⟩ := a
    exact .cons nx ⟨k, (upd_ne nx).trans ek, r.keep (.put e n)⟩ ih
theorem WW.snoc {c : Nat} {e : Addr} (h : WW d H wf kvs u) (n : e ≠ d) (a : WAt H e (wf c)) : WW d H wf (kvs ++ [(.inr (one c), .ref e)]) (u ++ [c]) := by
  induction h with
  | nil => exact .cons n a .nil
  | cons n' a' _ ih => exact .cons n' a' ih
theorem WW.len (h : WW d H wf kvs u) : kvs.length = u.length := by
  induction h with
  | nil => rfl
  | cons _ _ _ ih => rw [List.length_cons, List.length_cons, ih]
theorem WW.val (h : WW d H wf kvs u) (c : Nat) : (c ∈ u ∧ ∃ e, valV kvs (.inr (one c)) = some (.ref e) ∧ WAt H e (wf c)) ∨ (c ∉ u ∧ valV kvs (.inr (one c)) = none) := by
  induction h with
  | nil => exact .inr ⟨List.not_mem_nil, rfl⟩
  | @cons a e kvs u _ ht _ ih =>
    by_cases eq : c = a
    · subst eq
      exact .inl ⟨List.mem_cons_self, e, valV_pos rfl, ht⟩
    · have e1 : ¬ ((.inr (one a) : Key) = .inr (one c)) := fun z => eq (one_inj (Sum.inr.inj z)).symm
      have e2 : valV (((.inr (one a) : Key), V.ref e) :: kvs) (.inr (one c)) = valV kvs (.inr (one c)) := valV_neg e1
      rw [e2]
      exact ih.imp (fun ⟨h1, h2⟩ => ⟨List.mem_cons_of_mem _ h1, h2⟩) fun ⟨h1, h2⟩ => ⟨fun z => (List.mem_cons.mp z).elim eq h1, h2⟩
theorem WW.key (h : WW d H wf kvs u) : ∀ {i : Nat} {k : Key} {v : V}, kvs[i]? = some (k, v) → ∃ c, u[i]? = some c ∧ k = .inr (one c) := by
  induction h with
  | nil => intro i k v e; cases e
  | @cons c e kvs u _ _ _ ih =>
    intro i k v e
    cases i with
    | zero =>
      cases e
      exact ⟨c, rfl, rfl⟩
    | succ i => exact ih (by simpa using e)
end
def pairW (n : Nat) (cp : Nat → Int) (ws : Ways) (i a b : Nat) : List Nat × List Nat := pairOfF (wGet ws b ++ [(i, b, a)]) n (cp a) a b
def PairAt (H : Hp) (T : Addr) (q : List Nat × List Nat) : Prop := H T = some (.tup [.str (tx q.1), .str (tx q.2)])
def spWith (CP : Addr) : Sp := fun vs H Q _ => ∃ (p d i a b : Nat) (l : List Nat) (n : Nat) (un al : List (List Nat)) (cp aq : Nat → Int) (wf : Nat → Ways) (kvs : List (Key × V)) (u : List Nat), vs = [.ref p, .int (i : Int), .str (one a), .str (one b), .ref d] ∧
  PrsAt CP H p l n un al cp aq ∧ Rd H d (.dK kvs) ∧ WW d H wf kvs u ∧ a ∈ u ∧ a ∈ l ∧
  ((a = b ∧ Q .non H) ∨ (a ≠ b ∧ b ∈ keysW (wf a) ∧ (wGet (wf a) b).length ≤ 99 ∧ ∀ H' T, Same H H' → PairAt H' T (pairW n cp (wf a) i a b) → Q (.ref T) H'))
section
variable {P : Program} {w : World} {K : PySem.W.Frag} {mg : Str → Option Value} {base : Heap}
abbrev nWith : List Str := ["self", "place", "letter", "other", "ways", "first", "last", "steps"]
theorem scWith : FnScope nWith ["self", "place", "letter", "other", "ways"] (defScope sWith) := ⟨rfl, rfl, rfl, by decide +kernel, rfl, by decide +kernel, by decide +kernel⟩
theorem ok_with {f CP fP : Addr} {fd fdP : FuncData} (F : Fun K "pair_with" "Pairs.pair_with" sWith f fd) (T : TxP K mg CP) (MP : Meth K CP "pair_of" fP) (GP : FnOk P w K mg base CX0 2 fP fdP ["self", "steps", "first", "last"] (spPairOf CP)) (bP : Binds K fdP ["self", "steps", "first", "last"] []) :
    FnOk P w K mg base CX0 3 f fd ["self", "place", "letter", "other", "ways"] (spWith CP) := by
  refine F.ok scWith (fun vs H Q E h => ?_) (fun cdv A outer s H vs Q E hr h => ?_)
  · obtain ⟨p, d, i, a, b, l, n, un, al, cp, aq, wf, kvs, u, rfl, _⟩ := h
    rfl
  · obtain ⟨p, d, i, a, b, l, n, un, al, cp, aq, wf, kvs, u, rfl, hP, hd, hw, au, al', h⟩ := h
    have nd := scWith.nd
    have hline : sizeLine = 16777216 := sizeLine_eq
    have hu1 : (A.deeper (PyProof.Rows.envOfC "Pairs.pair_with" (defScope sWith) s.heap.objs.size f cdv)).units + 1 < cLine := by
      have := hr.un
      omega
    refine ⟨_, pss_cons (ps_if (pt_cmpR op_eq (pv 2) (pv 3) (nomark _)) (pss_one (ps_ret pe_non)) pss_nil)
      (pss_cons (ps_if (pt_cmp (pc_din hu1 (pv 3) (pe_dget hu1 (pv 4) (pv 2) (fun _ _ => rfl))))
          (pss_one (ps_ret (pe_meth (pv 0) T.cl MP GP hr bP .nil pass0 (pa_cons (pe_op op_catA (pe_dget hu1 (pe_dget hu1 (pv 4) (pv 2) (fun _ _ => rfl)) (pv 3) (fun _ _ => rfl)) (pe_tup (pa_cons (pe_tup (pa_cons (pv 1) (pa_cons (pv 3) (pa_cons (pv 2) pa_nil)))) pa_nil))) (pa_cons (pv 2) (pa_cons (pv 3) pa_nil)))))) pss_nil)
      (pss_cons ps_never (pss_cons ps_never (pss_cons ps_never (pss_one ps_never))))), ?_⟩
    refine ⟨_, rfl, _, rfl, rfl, _, rfl, ?_⟩
    rcases h with ⟨rfl, q⟩ | ⟨ne, hb, l99, q⟩
    · rw [decide_eq_true rfl]
      exact iteT q
    rw [decide_eq_false (show ¬ V.str (one a) = V.str (one b) from fun z => ne (one_inj (V.str.inj z)))]
    refine iteF ?_
    rcases hw.val a with ⟨_, e, ev, hwa⟩ | ⟨hm, _⟩
    · have dg : DGet H d (.str (one a)) (some (.ref e)) := by
        rw [← ev]
        exact .inl ⟨kvs, .inr (one a), hd, rfl, rfl⟩
      obtain ⟨kw, ek, hr2⟩ := hwa
      rcases hr2.at_ b with ⟨_, t, et, st⟩ | ⟨hm, _⟩
      · have dg2 : DGet H e (.str (one b)) (some (.ref t)) := by
          rw [← et]
          exact DGet.k (k := .inr (one b)) ek
        refine ⟨_, rfl, _, rfl, _, rfl, d, .ref e, rfl, dg, e, _, rfl, dg2, _, rfl, ?_⟩
        refine iteT ?_
        obtain ⟨dx, fs, ux, cd, at_, ad, h1, h2, h3, h4, h5, h6, h7, h8, h9, h10, h11, h12⟩ := hP.at_
        refine ⟨_, rfl, p, dx, _, rfl, h1, h12 _ (by decide +kernel), ?_⟩
        refine ⟨_, rfl, _, rfl, d, .ref e, rfl, dg, _, rfl, e, .ref t, rfl, dg2, ?_⟩
        refine ⟨_, rfl, _, rfl, _, rfl, by show 3 ≤ sizeLine; rw [hline]; decide, fun T3 z3 => ⟨by show 1 ≤ sizeLine; rw [hline]; decide, fun T4 z4 => ?_⟩⟩
        have s3 := same_upd (o := HO.tup [.int (i : Int), .str (one b), .str (one a)]) z3
        have s4 := same_upd (o := HO.tup [.ref T3]) z4
        refine cat_steps (ss2 := [(i, b, a)]) (st.keep (.of (sm_tr s3 s4))) ⟨[.ref T3], upd_same, .cons (s4 _ _ upd_same) .nil⟩ (by show (wGet (wf a) b).length + 1 ≤ 1000; omega) fun T5 H5 s5 hT5 => ?_
        have sm := sm_tr (sm_tr s3 s4) s5
        refine ⟨_, rfl, _, rfl, p, T5, a, b, l, n, un, al, cp, aq, _, rfl, hP.same sm, hT5, ?_, al', fun H6 T6 s6 hT6 => q H6 T6 (sm_tr sm s6) hT6⟩
        rw [List.length_append]
        show (wGet (wf a) b).length + 1 ≤ 1000
        omega
      · exact absurd hb hm
    · exact absurd au hm
end
end Gm

/-! dict comprehensions over any walk -/
namespace L2
open PySem PySem.Spec PyProof.Rows
theorem dc_it {J : It} {n : Nat} {G : Hp → Prop} {Y : Nat → Hp → V → Hp → Prop} (w : Walk J n G Y) {g : TG} {tt : TT} {tk tv : TE} {vs : List Nat} {σ : St} {H1 : Hp} {D : Addr} {Qd : Hp → Prop} (Pv : Nat → Hp → Prop) (h0 : Pv 0 (upd H1 D (.dK []))) (hG : ∀ i H, i ≤ n → Pv i H → G H)
    (hs : ∀ i x H H', i < n → Pv i H → Y i H x H' → g x (wipe σ vs) H' fun σ2 H2 => wipe σ2 vs = wipe σ vs ∧ tt σ2 H2 fun b H3 =>
      if b = true then tk σ2 H3 fun y H4 => tv σ2 H4 fun z H5 => ∃ kvs k, y = kV k ∧ H5 D = some (.dK kvs) ∧ kvs.length < sizeLine ∧ Pv (i + 1) (upd H5 D (.dK (putK kvs k z))) else Pv (i + 1) H3) (hd : ∀ H, Pv n H → Qd H) :
    ∃ W : Nat → Nat → Hp → Prop, (∃ m, W 0 m (upd H1 D (.dK []))) ∧ ∀ i m H, W i m H →
      (J.stop i H ∧ Qd H) ∨ (J.go i H ∧ ∃ Nx : Hp → Prop, (∀ H', Nx H' → ∃ m', m' < m ∧ W (i + 1) m' H') ∧ ∀ x H', J.yld i H x H' → g x (wipe σ vs) H' fun σ2 H2 => wipe σ2 vs = wipe σ vs ∧ tt σ2 H2 fun b H3 =>
        if b = true then tk σ2 H3 fun y H4 => tv σ2 H4 fun z H5 => ∃ kvs k, y = kV k ∧ H5 D = some (.dK kvs) ∧ kvs.length < sizeLine ∧ Nx (upd H5 D (.dK (putK kvs k z))) else Nx H3) := by
  refine ⟨fun i m H => m = n - i ∧ i ≤ n ∧ Pv i H, ⟨n, rfl, Nat.zero_le _, h0⟩, fun i m H hh => ?_⟩
  obtain ⟨rfl, hi, p⟩ := hh
  rcases Nat.lt_or_ge i n with lt | ge
  · exact .inr ⟨w.goes i H lt (hG i H hi p), Pv (i + 1), fun H' p' => ⟨n - (i + 1), by omega, rfl, lt, p'⟩, fun x H' y => hs i x H H' lt p (w.yields i H x H' lt (hG i H hi p) y)⟩
  · obtain rfl : i = n := by omega
    exact .inl ⟨w.stops H (hG _ H hi p), hd H p⟩
end L2

/-! Pairs.pair_seen_at (where its answer needs no chain) -/
namespace Gm
open PySem PySem.Spec PyProof.Rows L2
def seenU (un : List (List Nat)) (i : Nat) : List Nat := un.getD i []
def spSeen (CP : Addr) : Sp := fun vs H Q _ => ∃ (p i : Nat) (l : List Nat) (n : Nat) (un al : List (List Nat)) (cp aq : Nat → Int), vs = [.ref p, .int (i : Int)] ∧ PrsAt CP H p l n un al cp aq ∧ i < n ∧
  (((∀ c ∈ un.getD i [], c ∉ al.getD i []) ∧ ∀ H', Same H H' → Q .non H') ∨ ∃ a b r, un.getD i [] = a :: b :: r ∧ a ∈ al.getD i [] ∧ b ∈ keysW (waysF un a (some i)) ∧ ∀ H' T, Same H H' → PairAt H' T (pairW n cp (waysF un a (some i)) i a b) → Q (.ref T) H')
theorem wwf_at {u : List (List Nat)} {i : Nat} (h : i < u.length) : (txs u)[i]? = some (.str (tx (u.getD i []))) := by
  rw [List.getElem?_map, List.getD_eq_getElem?_getD, List.getElem?_eq_getElem h]
  rfl
section
variable {P : Program} {w : World} {K : PySem.W.Frag} {mg : Str → Option Value} {base : Heap}
abbrev nSeen : List Str := ["self", "place", "ways", "letter", "other", "pair"]
theorem scSeen : FnScope nSeen ["self", "place"] (defScope sSeen) := ⟨rfl, rfl, rfl, by decide +kernel, rfl, by decide +kernel, by decide +kernel⟩
theorem ok_seen {f CP fY fW : Addr} {fd fdY fdW : FuncData} (F : Fun K "pair_seen_at" "Pairs.pair_seen_at" sSeen f fd) (T : TxP K mg CP)
    (MY : Meth K CP "ways_from" fY) (GY : FnOk P w K mg base CX0 2 fY fdY ["self", "start", "barred"] (spWays K CP)) (bY : Binds K fdY ["self", "start", "barred"] [])
    (MW : Meth K CP "pair_with" fW) (GW : FnOk P w K mg base CX0 3 fW fdW ["self", "place", "letter", "other", "ways"] (spWith CP)) (bW : Binds K fdW ["self", "place", "letter", "other", "ways"] []) :
    FnOk P w K mg base CX0 4 f fd ["self", "place"] (spSeen CP) := by
  refine F.ok scSeen (fun vs H Q E h => ?_) (fun cdv A outer s H vs Q E hr h => ?_)
  · obtain ⟨p, i, l, n, un, al, cp, aq, rfl, _⟩ := h
    rfl
  · obtain ⟨p, i, l, n, un, al, cp, aq, rfl, hP, hi, h⟩ := h
    have nd := scSeen.nd
    have hline : sizeLine = 16777216 := sizeLine_eq
    have hr2 : Room 2 _ := hr.mono (by decide)
    obtain ⟨dx, fs, ux, cd, at_, ad, h1, h2, h3, h4, h5, h6, h7, h8, h9, h10, h11, h12⟩ := hP.at_
    have few := hP.few
    have fal := hP.fal
    have n6 := hP.n6
    refine ⟨_, pss_cons (ps_setDc (i := 2) (own := [("letter", 3)]) (g := gName 3) (by rfl) nd rfl rfl (swDc_true rfl rfl rfl (by decide +kernel)) (pi_str (pe_ix ix_list (pe_fld (pv 0) rfl) (pv 1) (fun _ _ => rfl))) (blkOk_by (own := [("letter", 3)]) (N := nSeen) (sc := defScope sSeen) (by decide +kernel))
          (fun _ _ _ _ _ => pg_name (i := 3) nd rfl (Or.inl rfl)) (fun _ _ _ _ _ => pts_nil) (fun _ _ _ _ _ => pv 3) (fun _ _ _ _ _ => pe_meth (pv 0) T.cl MY GY hr2 bY .nil pass0 (pa_cons (pv 3) (pa_cons (pv 1) pa_nil))))
      (pss_cons (ps_lock (ps_for PassesOwn.never rfl (pi_keys (pv 2)) (pg_name (i := 3) nd rfl (Or.inl rfl))
          (pss_one (ps_if (pt_cmpR op_in_sign (pv 3) (pe_ix ix_tup (pe_fld (pv 0) rfl) (pv 1) (fun _ _ => rfl)) rfl)
            (pss_one (ps_for PassesOwn.never rfl (pi_keys (pv 2)) (pg_name (i := 4) nd rfl (Or.inl rfl))
              (pss_cons (ps_set (i := 5) nd rfl (Or.inl rfl) (pe_meth (pv 0) T.cl MW GW hr bW .nil pass0 (pa_cons (pv 1) (pa_cons (pv 3) (pa_cons (pv 4) (pa_cons (pv 2) pa_nil))))))
              (pss_one (ps_if (pt_cmpR op_notN (pv 5) pe_non (nomark _)) (pss_one (ps_ret (pv 5))) pss_nil))))) pss_nil))))
      (pss_one (ps_ret pe_non))), ?_⟩
    have hu := wwf_at (u := un) (i := i) (by omega)
    have hal := wwf_at (u := al) (i := i) (by omega)
    have und : (un.getD i []).Nodup := by
      rw [List.getD_eq_getElem?_getD, List.getElem?_eq_getElem (show i < un.length by omega)]
      exact hP.nd _ (List.getElem_mem _)
    have usub : ∀ c ∈ un.getD i [], c ∈ l := by
      rw [List.getD_eq_getElem?_getD, List.getElem?_eq_getElem (show i < un.length by omega)]
      exact hP.sub _ (List.getElem_mem _)
    generalize hue : un.getD i [] = u at h hu und usub
    generalize al.getD i [] = as at h hal
    have u26 : u.length ≤ 26 := Nat.le_trans (nodup_len und usub) hP.l26
    refine ⟨_, rfl, p, CP, dx, _, _, rfl, h1, T.cl, T.nU, h4, _, rfl, ux, _, _, .str (tx u), rfl, rfl, SqL.of h8, atI_nat hu, tx u, rfl, fun D zD => ?_⟩
    refine dc_it (walk_str (z := tx u)) (fun j H' => Same H H' ∧ ∃ kvs, H' D = some (.dK kvs) ∧ WW D H' (fun c => waysF un c (some i)) kvs (u.take j) ∧ ∀ c ∈ u.take j, ∀ x, (wGet (waysF un c (some i)) x).length ≤ 26) ⟨same_upd zD, [], upd_same, .nil, fun c hc => by simp at hc⟩ (fun _ _ _ _ => trivial) ?_ ?_
    · rintro j y Ha Hb hj ⟨sm, kvs, hD, hw, hl⟩ ⟨rfl, c, hc, rfl⟩
      have hc' := tx_at hc
      refine ⟨rfl, ?_⟩
      refine ⟨_, rfl, _, rfl, p, dx, _, rfl, sm _ _ h1, h12 _ (by decide +kernel), _, rfl, _, rfl, ?_⟩
      refine ⟨p, l, un, c, some i, rfl, (hP.same sm).unt, usub c (List.mem_of_getElem? hc'), fun H2 e s2 ne hwa hle => ?_⟩
      have hD2 := s2 _ _ hD
      have nD : e ≠ D := (ne_of_none hD ne).symm
      have ev : valV kvs (.inr (one c)) = none := by
        rcases hw.val c with ⟨hm, _⟩ | ⟨_, ev⟩
        · exact absurd hm (nodup_take und hc')
        · exact ev
      refine ⟨kvs, .inr (one c), rfl, hD2, ?_, same_putN (sm_tr sm s2) zD, kvs ++ [(.inr (one c), .ref e)], ?_, ?_, ?_⟩
      · rw [hw.len, List.length_take, hline]
        omega
      · rw [upd_same, putK_new _ ev]
      · rw [takeS hc']
        obtain ⟨k, ek, r⟩ := hwa
        exact ((hw.same s2).put hD2 fun _ z => by cases z).snoc nD ⟨k, (upd_ne nD).trans ek, r.keep (.put hD2 fun _ z => by cases z)⟩
      · rw [takeS hc']
        intro x hx
        rcases List.mem_append.mp hx with hx | hx
        · exact hl x hx
        · rw [List.mem_singleton.mp hx]
          exact hle
    rintro H1 ⟨sm, kvs, hD, hw, hl⟩
    rw [tx_size, List.take_length] at hw hl
    generalize hwf : (fun c => waysF un c (some i)) = wf at hw
    have ew : ∀ c, waysF un c (some i) = wf c := fun c => by rw [← hwf]
    simp only [ew] at h hl
    refine ⟨D, _, hD, trivial, fun od => ?_⟩
    have kl := hw.len
    have Z : (∀ c ∈ u, c ∉ as) ∨ (0 : Nat) = 0 := .inr rfl
    refine ⟨_, rfl, D, od, rfl, .inl ⟨kvs, upd_same, for_it walk_keys (fun j σ H' => (∃ v3 v4 v5 : Option V, σ = [some (.ref p), some (.int (i : Int)), some (.ref D), v3, v4, v5]) ∧ Same H H' ∧ H' D = some (.frz od (.dK kvs)) ∧ WW D H' wf kvs u ∧ ((∀ c ∈ u, c ∉ as) ∨ j = 0)) ⟨⟨none, none, none, rfl⟩, same_putN sm zD, upd_same, hw.put hD (fun _ z => (by cases z)), Z⟩ (fun j σ H' _ h => h.2.2.1) ?_ ?_⟩⟩
    · rintro j x σ _ H3 hj ⟨⟨v3, v4, v5, rfl⟩, sm, hD, hw, hc0⟩ ⟨rfl, k, v, hk, rfl⟩
      obtain ⟨c, hc, rfl⟩ := hw.key hk
      have cm := List.mem_of_getElem? hc
      refine ⟨_, rfl, _, rfl, p, CP, dx, _, _, rfl, sm _ _ h1, T.cl, T.nAl, h6, _, rfl, at_, _, _, .str (tx as), rfl, rfl, SqT.of (sm _ _ h10), atI_nat hal, c, tx as, rfl, rfl, _, rfl, ?_⟩
      show if decide (c ∈ as) = true then _ else _
      by_cases hm : c ∈ as
      · rw [decide_eq_true hm]
        rcases hc0 with z | rfl
        · exact absurd hm (z c cm)
        rcases h with ⟨z, _⟩ | ⟨a, b, r, rfl, ha, hb, q⟩
        · exact absurd hm (z c cm)
        cases hc
        have al' : c ∈ l := usub c List.mem_cons_self
        have nab : c ≠ b := fun z => (List.nodup_cons.mp und).1 (z ▸ List.mem_cons_self)
        refine iteT ⟨_, rfl, D, od, rfl, .inl ⟨kvs, hD, for_it walk_keys (fun j2 σ H' => (∃ v4 v5 : Option V, σ = [some (.ref p), some (.int (i : Int)), some (.ref D), some (.str (one c)), v4, v5]) ∧ Same H H' ∧ H' D = some (.frz od (.dK kvs)) ∧ WW D H' wf kvs (c :: b :: r) ∧ j2 ≤ 1) ⟨⟨_, _, rfl⟩, sm, hD, hw, Nat.zero_le _⟩ (fun j σ H' _ h => h.2.2.1) ?_ ?_⟩⟩
        · rintro j2 x σ _ H4 hj2 ⟨⟨v4, v5, rfl⟩, sm, hD, hw, l1⟩ ⟨rfl, k2, v2, hk2, rfl⟩
          obtain ⟨c2, hc2, rfl⟩ := hw.key hk2
          refine ⟨_, rfl, p, dx, _, rfl, sm _ _ h1, h12 _ (by decide +kernel), _, rfl, _, rfl, _, rfl, _, rfl, ?_⟩
          refine ⟨p, D, i, c, c2, l, n, un, al, cp, aq, wf, kvs, _, rfl, hP.same sm, .inr ⟨od, hD⟩, hw, List.mem_cons_self, al', ?_⟩
          match j2, l1, hc2 with
          | 0, _, hc2 =>
            cases hc2
            refine .inl ⟨rfl, _, rfl, rfl, _, rfl, ?_⟩
            refine iteF ⟨⟨_, _, rfl⟩, sm, hD, hw, Nat.le_refl _⟩
          | 1, _, hc2 =>
            cases hc2
            refine .inr ⟨nab, hb, Nat.le_trans (hl c List.mem_cons_self b) (by decide), fun H5 T5 s5 hT => ⟨_, rfl, rfl, _, rfl, ?_⟩⟩
            have hD5 := s5 _ _ hD
            refine iteT ⟨_, rfl, hD5, q _ T5 (same_putN (sm_tr sm s5) zD) ?_⟩
            unfold PairAt at hT ⊢
            rw [upd_ne fun z => ?_]
            · exact hT
            · rw [z, hD5] at hT
              cases hT
          | j2 + 2, l1, _ => omega
        · rintro σ H4 ⟨_, _, _, hw, l1⟩
          have := hw.len
          rw [List.length_cons, List.length_cons] at this
          omega
      · rw [decide_eq_false hm]
        refine iteF ⟨⟨_, _, _, rfl⟩, sm, hD, hw, .inl ?_⟩
        rcases hc0 with z | rfl
        · exact z
        rcases h with ⟨z, _⟩ | ⟨a, b, r, rfl, ha, hb, q⟩
        · exact z
        · cases hc
          exact absurd ha hm
    · rintro σ H3 ⟨⟨v3, v4, v5, rfl⟩, sm, hD, hw, hc0⟩
      refine ⟨hD, ?_⟩
      rcases h with ⟨_, q⟩ | ⟨a, b, r, rfl, ha, hb, q⟩
      · exact q _ (same_putN sm zD)
      · rcases hc0 with z | z
        · exact absurd ha (z a List.mem_cons_self)
        · rw [kl] at z
          cases z
end
end Gm

/-! Pairs.first_pair (where its answer needs no chain) -/
namespace Gm
open PySem PySem.Spec PyProof.Rows L2

/-- no letter that is asked for is untried, none asked for oftener than it was tried -/
def NoPair (n : Nat) (l : List Nat) (un al : List (List Nat)) (cp aq : Nat → Int) : Prop := (∀ i, i < n → ∀ c ∈ un.getD i [], c ∉ al.getD i []) ∧ ∀ c ∈ l, aq c ≤ cp c
/-- a pair is seen at the first place -/
def Pair0 (n : Nat) (un al : List (List Nat)) : Prop := 0 < n ∧ ∃ a b r, un.getD 0 [] = a :: b :: r ∧ a ∈ al.getD 0 [] ∧ b ∈ keysW (waysF un a (some 0))
def spFirst (CP : Addr) : Sp := fun vs H Q _ => ∃ (p : Nat) (l : List Nat) (n : Nat) (un al : List (List Nat)) (cp aq : Nat → Int), vs = [.ref p] ∧ PrsAt CP H p l n un al cp aq ∧
  ((NoPair n l un al cp aq ∧ ∀ H', Same H H' → Q .non H') ∨ (Pair0 n un al ∧ ∀ H' T q, Same H H' → PairAt H' T q → Q (.ref T) H'))
section
variable {P : Program} {w : World} {K : PySem.W.Frag} {mg : Str → Option Value} {base : Heap}
abbrev nFirst : List Str := ["self", "place", "pair", "letter"]
theorem scFirst : FnScope nFirst ["self"] (defScope sFirst) := ⟨rfl, rfl, rfl, by decide +kernel, rfl, by decide +kernel, by decide +kernel⟩
theorem ok_first {f CP fS : Addr} {fd fdS : FuncData} (F : Fun K "first_pair" "Pairs.first_pair" sFirst f fd) (T : TxP K mg CP)
    (MS : Meth K CP "pair_seen_at" fS) (GS : FnOk P w K mg base CX0 4 fS fdS ["self", "place"] (spSeen CP)) (bS : Binds K fdS ["self", "place"] []) : FnOk P w K mg base CX0 5 f fd ["self"] (spFirst CP) := by
  refine F.ok scFirst (fun vs H Q E h => ?_) (fun cdv A outer s H vs Q E hr h => ?_)
  · obtain ⟨p, l, n, un, al, cp, aq, rfl, _⟩ := h
    rfl
  · obtain ⟨p, l, n, un, al, cp, aq, rfl, hP, h⟩ := h
    have nd := scFirst.nd
    have hline : sizeLine = 16777216 := sizeLine_eq
    have hu1 : (A.deeper (PyProof.Rows.envOfC "Pairs.first_pair" (defScope sFirst) s.heap.objs.size f cdv)).units + 1 < cLine := by
      have := hr.un
      omega
    obtain ⟨dx, fs, ux, cd, at_, ad, h1, h2, h3, h4, h5, h6, h7, h8, h9, h10, h11, h12⟩ := hP.at_
    have n6 := hP.n6
    refine ⟨_, pss_cons (ps_for PassesOwn.never rfl (pi_range1 (by rfl) T.range (pa_cons (pe_fld (pv 0) rfl) pa_nil)) (pg_name (i := 1) nd rfl (Or.inl rfl))
        (pss_cons (ps_set (i := 2) nd rfl (Or.inl rfl) (pe_meth (pv 0) T.cl MS GS hr bS .nil pass0 (pa_cons (pv 1) pa_nil)))
        (pss_one (ps_if (pt_cmpR op_notN (pv 2) pe_non (nomark _)) (pss_one (ps_ret (pv 2))) pss_nil))))
      (pss_cons (ps_for PassesOwn.never rfl (pi_str (pe_fld (pv 0) rfl)) (pg_name (i := 3) nd rfl (Or.inl rfl))
        (pss_one (ps_if (pt_cmpR op_gt (pe_dget hu1 (pe_fld (pv 0) rfl) (pv 3) (fun _ _ => rfl)) (pe_dget hu1 (pe_fld (pv 0) rfl) (pv 3) (fun _ _ => rfl)) (nomark _)) (pss_cons ps_never (pss_one ps_never)) pss_nil)))
      (pss_one (ps_ret pe_non))), ?_⟩
    refine ⟨_, rfl, p, CP, dx, _, _, rfl, h1, T.cl, T.nLn, h3, n, rfl, by omega, by omega, for_range (n := n) (fun i σ H' => (∃ v1 v2 : Option V, σ = [some (.ref p), v1, v2, none]) ∧ Same H H' ∧ (NoPair n l un al cp aq ∨ i = 0)) ⟨⟨_, _, rfl⟩, Same.refl H, .inr rfl⟩ ?_ ?_⟩
    · rintro i σ H1 hi ⟨⟨v1, v2, rfl⟩, sm, hc⟩
      refine ⟨_, rfl, p, dx, _, rfl, sm _ _ h1, h12 _ (by decide +kernel), _, rfl, ?_⟩
      rw [Int.zero_add]
      refine ⟨p, i, l, n, un, al, cp, aq, rfl, hP.same sm, hi, ?_⟩
      rcases h with ⟨hn, q⟩ | ⟨⟨n0, a, b, r, e, ha, hb⟩, q⟩
      · refine .inl ⟨hn.1 i hi, fun H2 s2 => ⟨_, rfl, rfl, _, rfl, ?_⟩⟩
        exact iteF ⟨⟨_, _, rfl⟩, sm_tr sm s2, .inl hn⟩
      · rcases hc with hn | rfl
        · have := hn.1 0 n0 a
          rw [e] at this
          exact absurd ha (this List.mem_cons_self)
        · refine .inr ⟨a, b, r, e, ha, hb, fun H2 T2 s2 hT => ⟨_, rfl, rfl, _, rfl, ?_⟩⟩
          exact iteT ⟨_, rfl, q _ T2 _ (sm_tr sm s2) hT⟩
    · rintro σ H1 ⟨⟨v1, v2, rfl⟩, sm, hc⟩
      have hn : NoPair n l un al cp aq ∧ ∀ H', Same H H' → Q .non H' := by
        rcases h with h | ⟨⟨n0, a, b, r, e, ha, hb⟩, q⟩
        · exact h
        · rcases hc with hn | z
          · have := hn.1 0 n0 a
            rw [e] at this
            exact absurd ha (this List.mem_cons_self)
          · omega
      obtain ⟨hn, q⟩ := hn
      refine ⟨_, rfl, p, CP, dx, _, _, rfl, sm _ _ h1, T.cl, T.nLe, h2, tx l, rfl, for_it (walk_str (z := tx l)) (fun i σ H' => (∃ v1 v2 v3 : Option V, σ = [some (.ref p), v1, v2, v3]) ∧ Same H H') ⟨⟨_, _, _, rfl⟩, sm⟩ (fun _ _ _ _ _ => trivial) ?_ ?_⟩
      · rintro i x σ H2 H3 hi ⟨⟨v1, v2, v3, rfl⟩, sm⟩ ⟨rfl, c, hc, rfl⟩
        have hm := List.mem_of_getElem? (tx_at hc)
        have d1 : DGet H3 ad (.str (one c)) (some (.int (aq c))) := by
          have := DGet.k (k := .inr (one c)) (sm _ _ h11)
          rw [cpK_at hm] at this
          exact this
        have d2 : DGet H3 cd (.str (one c)) (some (.int (cp c))) := by
          have := DGet.k (k := .inr (one c)) (sm _ _ h9)
          rw [cpK_at hm] at this
          exact this
        refine ⟨_, rfl, p, CP, dx, _, _, rfl, sm _ _ h1, T.cl, T.nAc, h7, _, rfl, ad, _, rfl, d1, _, rfl, p, CP, dx, _, _, rfl, sm _ _ h1, T.cl, T.nCo, h5, _, rfl, cd, _, rfl, d2, _, _, rfl, rfl, _, rfl, ?_⟩
        rw [decide_eq_false (show ¬ aq c > cp c from by have := hn.2 c hm; omega)]
        exact iteF ⟨⟨_, _, _, rfl⟩, sm⟩
      · rintro σ H2 ⟨⟨v1, v2, v3, rfl⟩, sm⟩
        exact q _ sm
end
end Gm

/-! Pairs.__init__ -/
namespace Gm
open PySem PySem.Spec PyProof.Rows L2

theorem merge_ones (cp : Nat → Int) : ∀ (l : List Nat) (acc : List (Key × V)), l.Nodup → (∀ c ∈ l, valV acc (.inr (one c)) = none) → (cpK l cp).foldl (fun acc kv => putK acc kv.1 kv.2) acc = acc ++ cpK l cp
  | [], acc, _, _ => by simp [cpK]
  | c :: l, acc, nd, h => by
    show (cpK l cp).foldl _ (putK acc (.inr (one c)) (.int (cp c))) = _
    rw [putK_new _ (h c List.mem_cons_self), merge_ones cp l _ (List.nodup_cons.mp nd).2 fun x hx => ?_, List.append_assoc]
    · rfl
    · rw [valV_snoc _ _ _ _ (h c List.mem_cons_self), if_neg fun z => ?_]
      · exact h x (List.mem_cons_of_mem _ hx)
      · exact (List.nodup_cons.mp nd).1 (one_inj (Sum.inr.inj z) ▸ hx)
theorem zip_ones {l : List Nat} (cp : Nat → Int) (nd : l.Nodup) : mergeK [] (((tx l).cps.toList.map fun c => (Sum.inr (⟨#[c]⟩ : Str) : Key)).zip (l.map fun c => V.int (cp c))) = cpK l cp := by
  have e0 : (tx l).cps.toList = l := by simp
  have e : ((l.map fun c => (Sum.inr (⟨#[c]⟩ : Str) : Key)).zip (l.map fun c => V.int (cp c))) = cpK l cp := by
    unfold cpK
    rw [List.zip_map']
  rw [e0, e]
  unfold mergeK
  rw [merge_ones cp l [] nd fun _ _ => rfl]
  rfl
theorem putF_new {m : Str} {v : V} : ∀ {fs : List (Str × V)}, (fs.map (·.1)).contains m = false → putF m v fs = fs ++ [(m, v)]
  | [], _ => rfl
  | (k, x) :: fs, h => by
    have h2 : (m == k || (fs.map (·.1)).contains m) = false := h
    rw [Bool.or_eq_false_iff] at h2
    have ne : ¬ k = m := fun z => by rw [z, beq_self_eq_true] at h2; exact Bool.noConfusion h2.1
    show putF m v ((k, x) :: fs) = (k, x) :: (fs ++ [(m, v)])
    rw [← putF_new (v := v) h2.2]
    simp only [putF]
    rw [if_neg ne]
abbrev prF (L N u cd a ad : V) : List (Str × V) := [("letters", L), ("length", N), ("untried", u), ("copies", cd), ("asked_letters", a), ("asked_copies", ad)]
theorem lk_ne {m k : Str} {v : V} {r : List (Str × V)} (h : (m == k) = false) : ((k, v) :: r).lookup m = r.lookup m := by rw [List.lookup_cons, h]
theorem lk_eq {m : Str} {v : V} {r : List (Str × V)} : ((m, v) :: r).lookup m = some v := by rw [List.lookup_cons, beq_self_eq_true]
/-- texts and numbers, as tried_by and everything give them -/
def TwoAt (H : Hp) (T : Addr) (tl : List (List Nat)) (l : List Nat) (cp : Nat → Int) : Prop := ∃ A B : Addr, H T = some (.tup [.ref A, .ref B]) ∧ H A = some (.tup (txs tl)) ∧ H B = some (.tup (l.map fun c => V.int (cp c)))
def unOf (l : List Nat) (tl : List (List Nat)) : List (List Nat) := tl.map fun t => l.filter fun c => !decide (c ∈ t)
def spPInit (C CP : Addr) : Sp := fun vs H Q _ => ∃ (p dx b T1 T2 : Addr) (l : List Nat) (n : Int) (tl al : List (List Nat)) (cp aq : Nat → Int), vs = [.ref p, .ref b, .ref T1, .ref T2] ∧ H p = some (.ins CP dx []) ∧ Bd C H b l n ∧ l.Nodup ∧ TwoAt H T1 tl l cp ∧ TwoAt H T2 al l aq ∧ tl.length = n.toNat ∧ al.length = n.toNat ∧
  ∀ H', But p H H' → PrsAt CP H' p l n.toNat (unOf l tl) al cp aq → Q .non H'
theorem prs_of {CP p dx u cd a ad : Addr} {H : Hp} {l : List Nat} {n : Int} {tl al : List (List Nat)} {cp aq : Nat → Int} (e : H p = some (.ins CP dx (prF (.str (tx l)) (.int n) (.ref u) (.ref cd) (.ref a) (.ref ad)))) (h1 : H u = some (.lst (txs (unOf l tl)))) (h2 : H cd = some (.dK (cpK l cp)))
    (h3 : H a = some (.tup (txs al))) (h4 : H ad = some (.dK (cpK l aq))) (l26 : l.length ≤ 26) (n1 : 1 ≤ n) (n6 : n ≤ 6) (nd : l.Nodup) (lt : tl.length = n.toNat) (la : al.length = n.toNat) : PrsAt CP H p l n.toNat (unOf l tl) al cp aq := by
  have en : n = ((n.toNat : Nat) : Int) := by omega
  rw [en] at e
  refine ⟨⟨dx, _, u, cd, a, ad, e, lk_eq, (lk_ne (by decide +kernel)).trans lk_eq, (lk_ne (by decide +kernel)).trans ((lk_ne (by decide +kernel)).trans lk_eq), (lk_ne (by decide +kernel)).trans ((lk_ne (by decide +kernel)).trans ((lk_ne (by decide +kernel)).trans lk_eq)),
    (lk_ne (by decide +kernel)).trans ((lk_ne (by decide +kernel)).trans ((lk_ne (by decide +kernel)).trans ((lk_ne (by decide +kernel)).trans lk_eq))), (lk_ne (by decide +kernel)).trans ((lk_ne (by decide +kernel)).trans ((lk_ne (by decide +kernel)).trans ((lk_ne (by decide +kernel)).trans ((lk_ne (by decide +kernel)).trans lk_eq)))), h1, h2, h3, h4, fun m hm => ?_⟩, l26, by omega, ?_, la, ?_, ?_⟩
  · have hm : (m == ("letters" : Str) || (m == ("length" : Str) || (m == ("untried" : Str) || (m == ("copies" : Str) || (m == ("asked_letters" : Str) || (m == ("asked_copies" : Str) || false)))))) = false := hm
    simp only [Bool.or_eq_false_iff] at hm
    obtain ⟨a1, a2, a3, a4, a5, a6, _⟩ := hm
    exact (lk_ne a1).trans ((lk_ne a2).trans ((lk_ne a3).trans ((lk_ne a4).trans ((lk_ne a5).trans ((lk_ne a6).trans rfl)))))
  · unfold unOf
    rw [List.length_map]
    exact lt
  · intro x hx
    obtain ⟨t, _, rfl⟩ := List.mem_map.mp hx
    exact nd.filter _
  · intro x hx c hc
    obtain ⟨t, _, rfl⟩ := List.mem_map.mp hx
    exact (List.mem_filter.mp hc).1
section
variable {P : Program} {w : World} {K : PySem.W.Frag} {mg : Str → Option Value} {base : Heap}
abbrev nPI : List Str := ["self", "board", "tried", "asked", "letters"]
theorem scPI : FnScope nPI ["self", "board", "tried", "asked"] (defScope sPInit) := ⟨rfl, rfl, rfl, by decide +kernel, rfl, by decide +kernel, by decide +kernel⟩
theorem ok_pinit {f C CP fL : Addr} {fd fdL : FuncData} (F : Fun K "__init__" "Pairs.__init__" sPInit f fd) (T : TxP K mg CP) (TC : TxC K mg C) (tdct : mg "dict" = none) (tzip : mg "zip" = none)
    (GL : FnOk P w K mg base CX0 1 fL fdL ["letters", "others"] spLtT) (DL : Df K mg "letters_except" fL fdL ["letters", "others"]) : FnOk P w K mg base CX0 2 f fd ["self", "board", "tried", "asked"] (spPInit C CP) := by
  refine F.ok scPI (fun vs H Q E h => ?_) (fun cdv A outer s H vs Q E hr h => ?_)
  · obtain ⟨p, dx, b, T1, T2, l, n, tl, al, cp, aq, rfl, _⟩ := h
    rfl
  · obtain ⟨p, dx, b, T1, T2, l, n, tl, al, cp, aq, rfl, hp, hb, lnd, ⟨A1, B1, hT1, hA1, hB1⟩, ⟨A2, B2, hT2, hA2, hB2⟩, lt, la, q⟩ := h
    have nd := scPI.nd
    have hline : sizeLine = 16777216 := sizeLine_eq
    have hr1 : Room 1 _ := hr.mono (by decide)
    obtain ⟨⟨dxb, hbd⟩, l26, n1, n6⟩ := _root_.id hb
    refine ⟨_, pss_cons (ps_fld (pv 0) (pe_fld (pv 1) rfl) rfl)
      (pss_cons (ps_fld (pv 0) (pe_fld (pv 1) rfl) rfl)
      (pss_cons (ps_fld (pv 0) (pe_lc (te := tCall spLtT [] E0 (tCons (tFld K (tVar 1) "letters") (tCons (tVar 4) tNil))) (own := [("letters", 4)]) (g := gName 4) (by rfl) nd (pi_tup (pe_ix ix_tup (pv 2) pe_int (fun _ _ => rfl))) (blkOk_by (own := [("letters", 4)]) (N := nPI) (sc := defScope sPInit) (by decide +kernel))
          (fun _ _ _ _ _ => pg_name (i := 4) nd rfl (Or.inl rfl)) (fun _ _ _ _ _ => pts_nil) (fun _ _ _ _ _ => by exact pe_call GL hr1 (by rfl) DL.mg DL.kp DL.b .nil pass0 (pa_cons (pe_fld (pv 1) rfl) (pa_cons (pv 4) pa_nil)))) rfl)
      (pss_cons (ps_fld (pv 0) (pe_dictZip rfl (by rfl) tdct (by decide +kernel) (by rfl) tzip (pa_cons (pe_fld (pv 1) rfl) (pa_cons (pe_ix ix_tup (pv 2) pe_int (fun _ _ => rfl)) pa_nil))) rfl)
      (pss_cons (ps_fld (pv 0) (pe_ix ix_tup (pv 3) pe_int (fun _ _ => rfl)) rfl)
      (pss_one (ps_fld (pv 0) (pe_dictZip rfl (by rfl) tdct (by decide +kernel) (by rfl) tzip (pa_cons (pe_fld (pv 1) rfl) (pa_cons (pe_ix ix_tup (pv 3) pe_int (fun _ _ => rfl)) pa_nil))) rfl)))))), ?_⟩
    have ne : ∀ {x : Addr} {o : HO}, H x = some o → (∀ d fs, o = .ins CP d fs → False) → x ≠ p := fun {x o} e k z => by
      rw [z, hp] at e
      exact k _ _ (Option.some.inj e).symm
    have pb : b ≠ p := fun z => by
      rw [z, hp] at hbd
      have h3 := (HO.ins.inj (Option.some.inj hbd)).2.2
      rw [bf_eq] at h3
      cases h3
    have pT1 : T1 ≠ p := ne hT1 fun _ _ z => by cases z
    have pA1 : A1 ≠ p := ne hA1 fun _ _ z => by cases z
    have pB1 : B1 ≠ p := ne hB1 fun _ _ z => by cases z
    have pT2 : T2 ≠ p := ne hT2 fun _ _ z => by cases z
    have pA2 : A2 ≠ p := ne hA2 fun _ _ z => by cases z
    have pB2 : B2 ≠ p := ne hB2 fun _ _ z => by cases z
    refine ⟨_, rfl, b, C, dxb, _, _, rfl, hbd, TC.cl, TC.nL, bf_letters _ _, _, rfl, p, CP, dx, _, rfl, hp, T.cl, T.nLe, by show 0 < 1000; decide, ?_⟩
    have k1 : But p H (upd H p (.ins CP dx (putF "letters" (.str (tx l)) []))) := fun c o n z => by rw [upd_ne n]; exact z
    have e1 : (upd H p (.ins CP dx (putF "letters" (.str (tx l)) []))) p = some (.ins CP dx [("letters", .str (tx l))]) := upd_same
    generalize upd H p (.ins CP dx (putF "letters" (.str (tx l)) [])) = H1 at k1 e1 ⊢
    refine ⟨_, rfl, b, C, dxb, _, _, rfl, k1 _ _ pb hbd, TC.cl, TC.nN, bf_length _ _, _, rfl, p, CP, dx, _, rfl, e1, T.cl, T.nLn, by show 1 < 1000; decide, ?_⟩
    have k2 : But p H (upd H1 p (.ins CP dx (putF "length" (.int n) [("letters", .str (tx l))]))) := fun c o n z => by rw [upd_ne n]; exact k1 _ _ n z
    have e2 : (upd H1 p (.ins CP dx (putF "length" (.int n) [("letters", .str (tx l))]))) p = some (.ins CP dx [("letters", .str (tx l)), ("length", .int n)]) := by rw [upd_same, putF_new (by show (["letters"] : List Str).contains "length" = false; decide +kernel)]; rfl
    generalize upd H1 p (.ins CP dx (putF "length" (.int n) [("letters", .str (tx l))])) = H2 at k2 e2 ⊢
    clear k1 e1
    refine ⟨_, rfl, T1, [.ref A1, .ref B1], 0, .ref A1, rfl, rfl, SqT.of (k2 _ _ pT1 hT1), rfl, A1, rfl, ⟨_, SqT.of (k2 _ _ pA1 hA1)⟩, fun D1 z1 => lc_tup (xs := txs tl) (fun i H' => Same H2 H' ∧ H' D1 = some (.lst (txs ((unOf l tl).take i)))) ⟨same_upd z1, upd_same⟩ (fun i H' _ h => SqT.of (h.1 _ _ (k2 _ _ pA1 hA1))) ?_ ?_⟩
    · rintro i x H3 hx ⟨sm, hD⟩
      obtain ⟨t, ht, rfl⟩ := at_txs hx
      refine ⟨rfl, ?_⟩
      refine ⟨_, rfl, b, C, dxb, _, _, rfl, sm _ _ (k2 _ _ pb hbd), TC.cl, TC.nL, bf_letters _ _, _, rfl, l, t, rfl, l26, fun H4 s4 => ⟨_, s4 _ _ hD, ?_, same_putN (sm_tr sm s4) z1, ?_⟩⟩
      · rw [txs_len, List.length_take]
        unfold unOf
        rw [List.length_map]
        omega
      · rw [upd_same]
        have : (unOf l tl)[i]? = some (l.filter fun c => !decide (c ∈ t)) := by unfold unOf; rw [List.getElem?_map, ht]; rfl
        rw [takeS this]
        unfold txs
        rw [List.map_append]
        rfl
    rintro H3 ⟨s3, hD1⟩
    have ul : (txs tl).length = (unOf l tl).length := by unfold unOf; rw [txs_len, List.length_map]
    rw [ul, List.take_length] at hD1
    have pD1 : D1 ≠ p := (ne_of_none e2 z1).symm
    refine ⟨_, rfl, p, CP, dx, _, rfl, s3 _ _ e2, T.cl, T.nU, by show 2 < 1000; decide, ?_⟩
    have k3 : But p H (upd H3 p (.ins CP dx (putF "untried" (.ref D1) [("letters", .str (tx l)), ("length", .int n)]))) := fun c o n z => by rw [upd_ne n]; exact s3 _ _ (k2 _ _ n z)
    have e3 : (upd H3 p (.ins CP dx (putF "untried" (.ref D1) [("letters", .str (tx l)), ("length", .int n)]))) p = some (.ins CP dx [("letters", .str (tx l)), ("length", .int n), ("untried", .ref D1)]) := by rw [upd_same, putF_new (by show (["letters", "length"] : List Str).contains "untried" = false; decide +kernel)]; rfl
    have f3 : (upd H3 p (.ins CP dx (putF "untried" (.ref D1) [("letters", .str (tx l)), ("length", .int n)]))) D1 = some (.lst (txs (unOf l tl))) := (upd_ne pD1).trans hD1
    generalize upd H3 p (.ins CP dx (putF "untried" (.ref D1) [("letters", .str (tx l)), ("length", .int n)])) = H4 at k3 e3 f3 ⊢
    clear k2 e2 s3 hD1
    refine ⟨_, rfl, b, C, dxb, _, _, rfl, k3 _ _ pb hbd, TC.cl, TC.nL, bf_letters _ _, _, rfl, T1, [.ref A1, .ref B1], 1, .ref B1, rfl, rfl, SqT.of (k3 _ _ pT1 hT1), rfl, tx l, B1, _, rfl, SqT.of (k3 _ _ pB1 hB1), by rw [tx_size, List.length_map], fun D2 z2 => ?_⟩
    rw [zip_ones cp lnd]
    have s4 := same_upd (o := .dK (cpK l cp)) z2
    have pD2 : D2 ≠ p := (ne_of_none e3 z2).symm
    have d12 : D1 ≠ D2 := ne_of_none f3 z2
    refine ⟨_, rfl, p, CP, dx, _, rfl, s4 _ _ e3, T.cl, T.nCo, by show 3 < 1000; decide, ?_⟩
    generalize hH4 : upd H4 D2 (.dK (cpK l cp)) = H4b at s4 ⊢
    have g4 : H4b D2 = some (.dK (cpK l cp)) := by rw [← hH4]; exact upd_same
    have e4' := s4 _ _ e3
    have k4 : But p H (upd H4b p (.ins CP dx (putF "copies" (.ref D2) [("letters", .str (tx l)), ("length", .int n), ("untried", .ref D1)]))) := fun c o n z => by rw [upd_ne n]; exact s4 _ _ (k3 _ _ n z)
    have e4 : (upd H4b p (.ins CP dx (putF "copies" (.ref D2) [("letters", .str (tx l)), ("length", .int n), ("untried", .ref D1)]))) p = some (.ins CP dx [("letters", .str (tx l)), ("length", .int n), ("untried", .ref D1), ("copies", .ref D2)]) := by rw [upd_same, putF_new (by show (["letters", "length", "untried"] : List Str).contains "copies" = false; decide +kernel)]; rfl
    have f4 : (upd H4b p (.ins CP dx (putF "copies" (.ref D2) [("letters", .str (tx l)), ("length", .int n), ("untried", .ref D1)]))) D1 = some (.lst (txs (unOf l tl))) := (upd_ne pD1).trans (s4 _ _ f3)
    have h4 : (upd H4b p (.ins CP dx (putF "copies" (.ref D2) [("letters", .str (tx l)), ("length", .int n), ("untried", .ref D1)]))) D2 = some (.dK (cpK l cp)) := (upd_ne pD2).trans g4
    generalize upd H4b p (.ins CP dx (putF "copies" (.ref D2) [("letters", .str (tx l)), ("length", .int n), ("untried", .ref D1)])) = H5 at k4 e4 f4 h4 ⊢
    refine ⟨_, rfl, T2, [.ref A2, .ref B2], 0, .ref A2, rfl, rfl, SqT.of (k4 _ _ pT2 hT2), rfl, _, rfl, p, CP, dx, _, rfl, e4, T.cl, T.nAl, by show 4 < 1000; decide, ?_⟩
    have k5 : But p H (upd H5 p (.ins CP dx (putF "asked_letters" (.ref A2) [("letters", .str (tx l)), ("length", .int n), ("untried", .ref D1), ("copies", .ref D2)]))) := fun c o n z => by rw [upd_ne n]; exact k4 _ _ n z
    have e5 : (upd H5 p (.ins CP dx (putF "asked_letters" (.ref A2) [("letters", .str (tx l)), ("length", .int n), ("untried", .ref D1), ("copies", .ref D2)]))) p = some (.ins CP dx [("letters", .str (tx l)), ("length", .int n), ("untried", .ref D1), ("copies", .ref D2), ("asked_letters", .ref A2)]) := by rw [upd_same, putF_new (by show (["letters", "length", "untried", "copies"] : List Str).contains "asked_letters" = false; decide +kernel)]; rfl
    have f5 : (upd H5 p (.ins CP dx (putF "asked_letters" (.ref A2) [("letters", .str (tx l)), ("length", .int n), ("untried", .ref D1), ("copies", .ref D2)]))) D1 = some (.lst (txs (unOf l tl))) := (upd_ne pD1).trans f4
    have h5 : (upd H5 p (.ins CP dx (putF "asked_letters" (.ref A2) [("letters", .str (tx l)), ("length", .int n), ("untried", .ref D1), ("copies", .ref D2)]))) D2 = some (.dK (cpK l cp)) := (upd_ne pD2).trans h4
    generalize upd H5 p (.ins CP dx (putF "asked_letters" (.ref A2) [("letters", .str (tx l)), ("length", .int n), ("untried", .ref D1), ("copies", .ref D2)])) = H6 at k5 e5 f5 h5 ⊢
    refine ⟨_, rfl, b, C, dxb, _, _, rfl, k5 _ _ pb hbd, TC.cl, TC.nL, bf_letters _ _, _, rfl, T2, [.ref A2, .ref B2], 1, .ref B2, rfl, rfl, SqT.of (k5 _ _ pT2 hT2), rfl, tx l, B2, _, rfl, SqT.of (k5 _ _ pB2 hB2), by rw [tx_size, List.length_map], fun D3 z3 => ?_⟩
    rw [zip_ones aq lnd]
    have s6 := same_upd (o := .dK (cpK l aq)) z3
    have pD3 : D3 ≠ p := (ne_of_none e5 z3).symm
    refine ⟨_, rfl, p, CP, dx, _, rfl, s6 _ _ e5, T.cl, T.nAc, by show 5 < 1000; decide, ?_⟩
    refine q _ (fun c o n z => by rw [upd_ne n]; exact s6 _ _ (k5 _ _ n z)) (prs_of (dx := dx) (u := D1) (cd := D2) (a := A2) (ad := D3) ?_ ((upd_ne pD1).trans (s6 _ _ f5)) ((upd_ne pD2).trans (s6 _ _ h5)) ((upd_ne pA2).trans (s6 _ _ (k5 _ _ pA2 hA2))) ((upd_ne pD3).trans upd_same) l26 n1 n6 lnd lt la)
    rw [upd_same, putF_new (by show (["letters", "length", "untried", "copies", "asked_letters"] : List Str).contains "asked_copies" = false; decide +kernel)]
    rfl
end
end Gm

/-! everything, parting, twins, tells, tells_word (where their answers need no chain) -/
namespace Gm
open PySem PySem.Spec PyProof.Rows L2





def trL (l : List Nat) (n : Nat) (gs : List (List Nat)) : List (List Nat) := (List.range n).map fun i => atL l gs i
theorem TrAt.two {H : Hp} {T : Addr} {l : List Nat} {n : Nat} {gs : List (List Nat)} (h : TrAt H T l n gs) : TwoAt H T (trL l n gs) l (mostC gs) := by
  obtain ⟨A, B, h1, h2, h3⟩ := h
  refine ⟨A, B, h1, ?_, h3⟩
  rw [h2]
  unfold txs trL
  rw [List.map_map]
  rfl
theorem TwoAt.same {H H' : Hp} {T : Addr} {tl : List (List Nat)} {l : List Nat} {cp : Nat → Int} (h : TwoAt H T tl l cp) (s : Same H H') : TwoAt H' T tl l cp := let ⟨A, B, a, b, c⟩ := h; ⟨A, B, s _ _ a, s _ _ b, s _ _ c⟩
theorem trL_len (l : List Nat) (n : Nat) (gs : List (List Nat)) : (trL l n gs).length = n := by unfold trL; rw [List.length_map, List.length_range]
def spEvry (C : Addr) : Sp := fun vs H Q _ => ∃ (b : Addr) (l : List Nat) (n : Int), vs = [.ref b] ∧ Bd C H b l n ∧ ∀ H' T, Same H H' → TwoAt H' T (List.replicate n.toNat l) l (fun _ => n) → Q (.ref T) H'
def GsAt (H : Hp) (a : Addr) (l : List Nat) (n : Int) (gs : List (List Nat)) : Prop := H a = some (.tup (txs gs)) ∧ gs.length ≤ 20 ∧ ∀ g ∈ gs, Wd l n g
def PartN (l : List Nat) (n : Int) (gs hs : List (List Nat)) : Prop := NoPair n.toNat l (unOf l (trL l n.toNat gs)) (trL l n.toNat hs) (mostC gs) (mostC hs)
def Twins0 (l : List Nat) (n : Int) (gs : List (List Nat)) : Prop := Pair0 n.toNat (unOf l (trL l n.toNat gs)) (List.replicate n.toNat l)
def spPartN (C : Addr) : Sp := fun vs H Q _ => ∃ (b a c : Addr) (l : List Nat) (n : Int) (gs hs : List (List Nat)), vs = [.ref b, .ref a, .ref c] ∧ Bd C H b l n ∧ l.Nodup ∧ GsAt H a l n gs ∧ GsAt H c l n hs ∧ PartN l n gs hs ∧ ∀ H', Same H H' → Q .non H'
def spTwin0 (C : Addr) : Sp := fun vs H Q _ => ∃ (b a : Addr) (l : List Nat) (n : Int) (gs : List (List Nat)), vs = [.ref b, .ref a] ∧ Bd C H b l n ∧ l.Nodup ∧ GsAt H a l n gs ∧ Twins0 l n gs ∧ ∀ H' T, Same H H' → Q (.ref T) H'
def spTellN (C : Addr) : Sp := fun vs H Q _ => ∃ (b a c : Addr) (l : List Nat) (n : Int) (gs hs : List (List Nat)), vs = [.ref b, .ref a, .ref c] ∧ Bd C H b l n ∧ l.Nodup ∧ GsAt H a l n gs ∧ GsAt H c l n hs ∧ PartN l n gs hs ∧ ∀ H', Same H H' → Q (.bl true) H'
def spTellW0 (C : Addr) : Sp := fun vs H Q _ => ∃ (b a : Addr) (l : List Nat) (n : Int) (gs : List (List Nat)), vs = [.ref b, .ref a] ∧ Bd C H b l n ∧ l.Nodup ∧ GsAt H a l n gs ∧ Twins0 l n gs ∧ ∀ H', Same H H' → Q (.bl false) H'
theorem GsAt.same {H H' : Hp} {a : Addr} {l : List Nat} {n : Int} {gs : List (List Nat)} (h : GsAt H a l n gs) (s : Same H H') : GsAt H' a l n gs := ⟨s _ _ h.1, h.2⟩
section
variable {P : Program} {w : World} {K : PySem.W.Frag} {mg : Str → Option Value} {base : Heap}
theorem scTells : FnScope ["board", "guesses", "other_guesses"] ["board", "guesses", "other_guesses"] (defScope sTells) := ⟨rfl, rfl, rfl, by decide +kernel, rfl, by decide +kernel, by decide +kernel⟩
theorem scTellW : FnScope ["board", "guesses"] ["board", "guesses"] (defScope sTellW) := ⟨rfl, rfl, rfl, by decide +kernel, rfl, by decide +kernel, by decide +kernel⟩
theorem scPart : FnScope ["board", "guesses", "other_guesses"] ["board", "guesses", "other_guesses"] (defScope sPart) := ⟨rfl, rfl, rfl, by decide +kernel, rfl, by decide +kernel, by decide +kernel⟩
theorem scTwins : FnScope ["board", "guesses"] ["board", "guesses"] (defScope sTwins) := ⟨rfl, rfl, rfl, by decide +kernel, rfl, by decide +kernel, by decide +kernel⟩
abbrev nEvry : List Str := ["board", "letters", "numbers", "place", "letter"]
theorem scEvry : FnScope nEvry ["board"] (defScope sEvry) := ⟨rfl, rfl, rfl, by decide +kernel, rfl, by decide +kernel, by decide +kernel⟩
theorem ok_tells {f C fP : Addr} {fd fdP : FuncData} (F : Fun K "tells" "tells" sTells f fd) (GP : FnOk P w K mg base CX0 6 fP fdP ["board", "guesses", "other_guesses"] (spPartN C)) (DP : Df K mg "parting" fP fdP ["board", "guesses", "other_guesses"]) : FnOk P w K mg base CX0 7 f fd ["board", "guesses", "other_guesses"] (spTellN C) := by
  refine F.ok scTells (fun vs H Q E h => ?_) (fun cdv A outer s H vs Q E hr h => ?_)
  · obtain ⟨b, a, c, l, n, gs, hs, rfl, _⟩ := h
    rfl
  · obtain ⟨b, a, c, l, n, gs, hs, rfl, hb, nd, h1, h2, hp, q⟩ := h
    refine ⟨_, pss_one (ps_ret (pe_cmpR op_isN (pe_call GP hr (by rfl) DP.mg DP.kp DP.b .nil pass0 (pa_cons (pv 0) (pa_cons (pv 1) (pa_cons (pv 2) pa_nil)))) pe_non (nomark _))), ?_⟩
    exact ⟨_, rfl, _, rfl, _, rfl, b, a, c, l, n, gs, hs, rfl, hb, nd, h1, h2, hp, fun H1 s1 => ⟨rfl, q H1 s1⟩⟩
theorem ok_tellW {f C fP : Addr} {fd fdP : FuncData} (F : Fun K "tells_word" "tells_word" sTellW f fd) (GP : FnOk P w K mg base CX0 6 fP fdP ["board", "guesses"] (spTwin0 C)) (DP : Df K mg "twins" fP fdP ["board", "guesses"]) : FnOk P w K mg base CX0 7 f fd ["board", "guesses"] (spTellW0 C) := by
  refine F.ok scTellW (fun vs H Q E h => ?_) (fun cdv A outer s H vs Q E hr h => ?_)
  · obtain ⟨b, a, l, n, gs, rfl, _⟩ := h
    rfl
  · obtain ⟨b, a, l, n, gs, rfl, hb, nd, h1, hp, q⟩ := h
    refine ⟨_, pss_one (ps_ret (pe_cmpR op_isN (pe_call GP hr (by rfl) DP.mg DP.kp DP.b .nil pass0 (pa_cons (pv 0) (pa_cons (pv 1) pa_nil))) pe_non (nomark _))), ?_⟩
    exact ⟨_, rfl, _, rfl, b, a, l, n, gs, rfl, hb, nd, h1, hp, fun H1 T s1 => ⟨rfl, q H1 s1⟩⟩
/-- Pairs(b, T1, T2).first_pair() -/
theorem pairs_first {C CP b T1 T2 : Addr} {H : Hp} {l : List Nat} {n : Int} {tl al : List (List Nat)} {cp aq : Nat → Int} {σ : L2.St} {Q : VK} {E : XK} (hb : Bd C H b l n) (lnd : l.Nodup) (h1 : TwoAt H T1 tl l cp) (h2 : TwoAt H T2 al l aq) (lt : tl.length = n.toNat) (la : al.length = n.toNat)
    (h : (NoPair n.toNat l (unOf l tl) al cp aq ∧ ∀ H', Same H H' → Q .non H') ∨ (Pair0 n.toNat (unOf l tl) al ∧ ∀ H' T, Same H H' → Q (.ref T) H')) :
    ∀ x dx, H x = none → H dx = none → dx ≠ x → spPInit C CP (.ref x :: ([.ref b, .ref T1, .ref T2] ++ [])) (upd (upd H dx (.own x)) x (.ins CP dx []))
      (fun v H2 => v = .non ∧ ∃ a dx fs, V.ref x = .ref a ∧ H2 a = some (.ins CP dx fs) ∧ fs.lookup ("first_pair" : Str) = none ∧ tNil σ H2 fun vs H3 => spFirst CP (V.ref x :: (vs ++ [])) H3 Q E) E := by
  intro x dx nx ndx ne
  have s0 : Same H (upd (upd H dx (.own x)) x (.ins CP dx [])) := same_putN (same_upd ndx) nx
  refine ⟨x, dx, b, T1, T2, l, n, tl, al, cp, aq, rfl, upd_same, hb.same s0, lnd, h1.same s0, h2.same s0, lt, la, fun H' bt hP => ⟨rfl, ?_⟩⟩
  have s1 : Same H H' := fun y o e => bt y o (ne_of_none e nx) (s0 _ _ e)
  obtain ⟨dx', fs, u, cd, a, ad, e1, e2, e3, e4, e5, e6, e7, e8, e9, e10, e11, e12⟩ := hP.at_
  refine ⟨x, dx', fs, rfl, e1, e12 _ (by decide +kernel), x, l, n.toNat, _, _, _, _, rfl, hP, ?_⟩
  exact h.imp (fun ⟨a, q⟩ => ⟨a, fun H2 s2 => q H2 (sm_tr s1 s2)⟩) fun ⟨a, q⟩ => ⟨a, fun H2 T _ s2 _ => q H2 T (sm_tr s1 s2)⟩
theorem ok_part {f C CP fB fG fT fI fF : Addr} {fd fdB fdG fdT fdI fdF : FuncData} (F : Fun K "parting" "parting" sPart f fd) (T : TxP K mg CP) (mgP : mg "Pairs" = some (.ref CP))
    (GB : FnOk P w K mg base CX0 1 fB fdB ["board"] (spChkB C)) (DB : Df K mg "check_board" fB fdB ["board"]) (GG : FnOk P w K mg base CX0 3 fG fdG ["board", "guesses"] (spChkG C)) (DG : Df K mg "check_guesses" fG fdG ["board", "guesses"])
    (GT : FnOk P w K mg base CX0 2 fT fdT ["board", "guesses"] (spTrBy C)) (DT : Df K mg "tried_by" fT fdT ["board", "guesses"]) (MI : Mk K CP fI) (GI : FnOk P w K mg base CX0 2 fI fdI ["self", "board", "tried", "asked"] (spPInit C CP)) (bI : Binds K fdI ["self", "board", "tried", "asked"] [])
    (MF : Meth K CP "first_pair" fF) (GF : FnOk P w K mg base CX0 5 fF fdF ["self"] (spFirst CP)) (bF : Binds K fdF ["self"] []) : FnOk P w K mg base CX0 6 f fd ["board", "guesses", "other_guesses"] (spPartN C) := by
  refine F.ok scPart (fun vs H Q E h => ?_) (fun cdv A outer s H vs Q E hr h => ?_)
  · obtain ⟨b, a, c, l, n, gs, hs, rfl, _⟩ := h
    rfl
  · obtain ⟨b, a, c, l, n, gs, hs, rfl, hb, lnd, h1, h2, hp, q⟩ := h
    have hr1 : Room 1 _ := hr.mono (by decide)
    have hr2 : Room 2 _ := hr.mono (by decide)
    have hr3 : Room 3 _ := hr.mono (by decide)
    refine ⟨_, pss_cons (ps_expr (pe_call GB hr1 (by rfl) DB.mg DB.kp DB.b .nil pass0 (pa_cons (pv 0) pa_nil)))
      (pss_cons (ps_expr (pe_call GG hr3 (by rfl) DG.mg DG.kp DG.b .nil pass0 (pa_cons (pv 0) (pa_cons (pv 1) pa_nil))))
      (pss_cons (ps_expr (pe_call GG hr3 (by rfl) DG.mg DG.kp DG.b .nil pass0 (pa_cons (pv 0) (pa_cons (pv 2) pa_nil))))
      (pss_one (ps_ret (pe_meth0 (pe_make MI GI hr3 (by rfl) mgP bI .nil pass0 (pa_cons (pv 0) (pa_cons (pe_call GT hr2 (by rfl) DT.mg DT.kp DT.b .nil pass0 (pa_cons (pv 0) (pa_cons (pv 1) pa_nil))) (pa_cons (pe_call GT hr2 (by rfl) DT.mg DT.kp DT.b .nil pass0 (pa_cons (pv 0) (pa_cons (pv 2) pa_nil))) pa_nil)))) T.cl MF GF hr bF .nil pass0))))), ?_⟩
    refine ⟨_, rfl, b, l, n, rfl, hb, ?_⟩
    refine ⟨_, rfl, _, rfl, b, a, l, n, gs, rfl, hb, h1.1, h1.2.1, h1.2.2, fun H1 s1 => ?_⟩
    refine ⟨_, rfl, _, rfl, b, c, l, n, hs, rfl, hb.same s1, (h2.same s1).1, h2.2.1, h2.2.2, fun H2 s2 => ?_⟩
    have s2 := sm_tr s1 s2
    refine ⟨_, rfl, _, rfl, _, rfl, b, a, l, n, gs, rfl, hb.same s2, (h1.same s2).1, h1.2.2, h1.2.1, fun H3 T3 s3 _ t3 => ?_⟩
    have s3' := sm_tr s2 s3
    refine ⟨_, rfl, _, rfl, b, c, l, n, hs, rfl, hb.same s3', (h2.same s3').1, h2.2.2, h2.2.1, fun H4 T4 s4 _ t4 => ?_⟩
    have s4' := sm_tr s3' s4
    exact pairs_first (hb.same s4') lnd (t3.two.same s4) t4.two (trL_len ..) (trL_len ..) (.inl ⟨hp, fun H5 s5 => q H5 (sm_tr s4' s5)⟩)
theorem ok_twins {f C CP fB fG fT fE fI fF : Addr} {fd fdB fdG fdT fdE fdI fdF : FuncData} (F : Fun K "twins" "twins" sTwins f fd) (T : TxP K mg CP) (mgP : mg "Pairs" = some (.ref CP))
    (GB : FnOk P w K mg base CX0 1 fB fdB ["board"] (spChkB C)) (DB : Df K mg "check_board" fB fdB ["board"]) (GG : FnOk P w K mg base CX0 3 fG fdG ["board", "guesses"] (spChkG C)) (DG : Df K mg "check_guesses" fG fdG ["board", "guesses"])
    (GT : FnOk P w K mg base CX0 2 fT fdT ["board", "guesses"] (spTrBy C)) (DT : Df K mg "tried_by" fT fdT ["board", "guesses"]) (GE : FnOk P w K mg base CX0 1 fE fdE ["board"] (spEvry C)) (DE : Df K mg "everything" fE fdE ["board"])
    (MI : Mk K CP fI) (GI : FnOk P w K mg base CX0 2 fI fdI ["self", "board", "tried", "asked"] (spPInit C CP)) (bI : Binds K fdI ["self", "board", "tried", "asked"] [])
    (MF : Meth K CP "first_pair" fF) (GF : FnOk P w K mg base CX0 5 fF fdF ["self"] (spFirst CP)) (bF : Binds K fdF ["self"] []) : FnOk P w K mg base CX0 6 f fd ["board", "guesses"] (spTwin0 C) := by
  refine F.ok scTwins (fun vs H Q E h => ?_) (fun cdv A outer s H vs Q E hr h => ?_)
  · obtain ⟨b, a, l, n, gs, rfl, _⟩ := h
    rfl
  · obtain ⟨b, a, l, n, gs, rfl, hb, lnd, h1, hp, q⟩ := h
    have hr1 : Room 1 _ := hr.mono (by decide)
    have hr2 : Room 2 _ := hr.mono (by decide)
    have hr3 : Room 3 _ := hr.mono (by decide)
    refine ⟨_, pss_cons (ps_expr (pe_call GB hr1 (by rfl) DB.mg DB.kp DB.b .nil pass0 (pa_cons (pv 0) pa_nil)))
      (pss_cons (ps_expr (pe_call GG hr3 (by rfl) DG.mg DG.kp DG.b .nil pass0 (pa_cons (pv 0) (pa_cons (pv 1) pa_nil))))
      (pss_one (ps_ret (pe_meth0 (pe_make MI GI hr3 (by rfl) mgP bI .nil pass0 (pa_cons (pv 0) (pa_cons (pe_call GT hr2 (by rfl) DT.mg DT.kp DT.b .nil pass0 (pa_cons (pv 0) (pa_cons (pv 1) pa_nil))) (pa_cons (pe_call GE hr1 (by rfl) DE.mg DE.kp DE.b .nil pass0 (pa_cons (pv 0) pa_nil)) pa_nil)))) T.cl MF GF hr bF .nil pass0)))), ?_⟩
    refine ⟨_, rfl, b, l, n, rfl, hb, ?_⟩
    refine ⟨_, rfl, _, rfl, b, a, l, n, gs, rfl, hb, h1.1, h1.2.1, h1.2.2, fun H2 s2 => ?_⟩
    refine ⟨_, rfl, _, rfl, _, rfl, b, a, l, n, gs, rfl, hb.same s2, (h1.same s2).1, h1.2.2, h1.2.1, fun H3 T3 s3 _ t3 => ?_⟩
    have s3' := sm_tr s2 s3
    refine ⟨_, rfl, b, l, n, rfl, hb.same s3', fun H4 T4 s4 t4 => ?_⟩
    have s4' := sm_tr s3' s4
    exact pairs_first (hb.same s4') lnd (t3.two.same s4) t4 (trL_len ..) (List.length_replicate ..) (.inr ⟨hp, fun H5 T5 s5 => q H5 T5 (sm_tr s4' s5)⟩)
theorem ok_evry {f C : Addr} {fd : FuncData} (F : Fun K "everything" "everything" sEvry f fd) (TC : TxC K mg C) (tran_ : mg "range" = none) (ttup_ : mg "tuple" = none) : FnOk P w K mg base CX0 1 f fd ["board"] (spEvry C) := by
  refine F.ok scEvry (fun vs H Q E h => ?_) (fun cdv A outer s H vs Q E hr h => ?_)
  · obtain ⟨b, l, n, rfl, _⟩ := h
    rfl
  · obtain ⟨b, l, n, rfl, hb, q⟩ := h
    have nd := scEvry.nd
    have hline : sizeLine = 16777216 := sizeLine_eq
    refine ⟨_, pss_cons (ps_set (i := 1) nd rfl (Or.inl rfl) (pe_callTy call_tuple_of (by rfl) ttup_ (by decide +kernel) (pa_cons (pe_lc (te := tFld K (tVar 0) "letters") (own := [("place", 3)]) (g := gName 3) (by rfl) nd (pi_range1 (by rfl) tran_ (pa_cons (pe_fld (pv 0) rfl) pa_nil)) (blkOk_by (own := [("place", 3)]) (N := nEvry) (sc := defScope sEvry) (by decide +kernel)) (fun _ _ _ _ _ => pg_name (i := 3) nd rfl (Or.inl rfl)) (fun _ _ _ _ _ => pts_nil) (fun _ _ _ _ _ => by exact pe_fld (pv 0) rfl)) pa_nil)))
      (pss_cons (ps_set (i := 2) nd rfl (Or.inl rfl) (pe_callTy call_tuple_of (by rfl) ttup_ (by decide +kernel) (pa_cons (pe_lc (te := tFld K (tVar 0) "length") (own := [("letter", 4)]) (g := gName 4) (by rfl) nd (pi_str (pe_fld (pv 0) rfl)) (blkOk_by (own := [("letter", 4)]) (N := nEvry) (sc := defScope sEvry) (by decide +kernel)) (fun _ _ _ _ _ => pg_name (i := 4) nd rfl (Or.inl rfl)) (fun _ _ _ _ _ => pts_nil) (fun _ _ _ _ _ => by exact pe_fld (pv 0) rfl)) pa_nil)))
      (pss_one (ps_ret (pe_tup (pa_cons (pv 1) (pa_cons (pv 2) pa_nil)))))), ?_⟩
    obtain ⟨⟨dx, eb⟩, l26, n1, n6⟩ := _root_.id hb
    refine ⟨_, rfl, b, C, dx, _, _, rfl, eb, TC.cl, TC.nN, bf_length _ _, n, rfl, by omega, by omega, fun M zM => ?_⟩
    refine lc_range (lo := 0) (n := n.toNat) (fun i H' => Same H H' ∧ H' M = some (.lst (txs (List.replicate i l)))) ⟨same_upd zM, upd_same⟩ ?_ ?_
    · rintro i H1 hi ⟨sm, hM⟩
      refine ⟨rfl, _, rfl, b, C, dx, _, _, rfl, sm _ _ eb, TC.cl, TC.nL, bf_letters _ _, _, hM, ?_, same_putN sm zM, ?_⟩
      · rw [txs_len, List.length_replicate]
        omega
      · rw [upd_same, List.replicate_succ']
        unfold txs
        rw [List.map_append]
        rfl
    rintro H1 ⟨s1, hM⟩
    refine ⟨M, _, rfl, .inl ⟨SqL.of hM, fun A1 zA => ?_⟩⟩
    have sA := same_upd (o := .tup (txs (List.replicate n.toNat l))) zA
    have s1A := sm_tr s1 sA
    have eA : upd H1 A1 (.tup (txs (List.replicate n.toNat l))) A1 = some (.tup (txs (List.replicate n.toNat l))) := upd_same
    generalize upd H1 A1 (.tup (txs (List.replicate n.toNat l))) = H2 at s1A eA ⊢
    have eb2 := s1A _ _ eb
    refine ⟨_, rfl, b, C, dx, _, _, rfl, eb2, TC.cl, TC.nL, bf_letters _ _, tx l, rfl, fun M2 zM2 => ?_⟩
    refine lc_it (walk_str (z := tx l)) (fun k H' => Same H2 H' ∧ H' M2 = some (.lst ((l.take k).map fun _ => V.int n))) ⟨same_upd zM2, upd_same⟩ (fun _ _ _ _ => trivial) ?_ ?_
    · rintro k y Ha Hb hk ⟨sm, hM2⟩ ⟨rfl, c, hc, rfl⟩
      have hc' := tx_at hc
      refine ⟨rfl, _, rfl, b, C, dx, _, _, rfl, sm _ _ eb2, TC.cl, TC.nN, bf_length _ _, _, hM2, ?_, same_putN sm zM2, ?_⟩
      · rw [List.length_map, List.length_take]
        omega
      · rw [upd_same, takeS hc', List.map_append]
        rfl
    rintro H3 ⟨s3, hM2⟩
    rw [tx_size, List.take_length] at hM2
    refine ⟨M2, _, rfl, .inl ⟨SqL.of hM2, fun B1 zB => ?_⟩⟩
    have sB := same_upd (o := .tup (l.map fun _ => V.int n)) zB
    refine ⟨_, rfl, _, rfl, by show 2 ≤ sizeLine; omega, fun T zT => ?_⟩
    have sT := same_upd (o := .tup [.ref A1, .ref B1]) zT
    exact q _ T (sm_tr (sm_tr (sm_tr s1A s3) sB) sT) ⟨A1, B1, upd_same, sT _ _ (sB _ _ (s3 _ _ eA)), sT _ _ upd_same⟩
end
end Gm

-- NOREN
/-! k18: what refuses lists of guesses -/
namespace Gm
open PySem PySem.Spec PyProof.Rows L2 LamX
/-- v is no list of guesses; where it fails -/
def BadG (K : PySem.W.Frag) (H : Hp) (l : List Nat) (n : Int) (v spot : V) : Prop := (∃ t, TyX K H v t ∧ PySem.W.kitOne K t (.type "tuple") = some false ∧ spot = .non) ∨ ∃ (a : Addr) (vs : List V), v = .ref a ∧ H a = some (.tup vs) ∧
  ((20 < vs.length ∧ vs.length ≤ 1000 ∧ spot = .non) ∨ (vs.length ≤ 20 ∧ ∃ k : Nat, (∀ j y, j < k → vs[j]? = some y → AsW K H y l n true) ∧ (∃ y, vs[k]? = some y ∧ AsW K H y l n false) ∧ spot = .int (k : Nat)))
theorem BadG.same {K : PySem.W.Frag} {H H' : Hp} {l : List Nat} {n : Int} {v spot : V} (h : BadG K H l n v spot) (s : Same H H') : BadG K H' l n v spot := h.imp (fun ⟨t, a, b, c⟩ => ⟨t, a.same s, b, c⟩) fun ⟨a, vs, e, ha, h⟩ => ⟨a, vs, e, s _ _ ha, h.imp _root_.id fun ⟨h1, k, h2, ⟨y, e2, h3⟩, h4⟩ => ⟨h1, k, fun j y hj e => (h2 j y hj e).same s, ⟨y, e2, h3.same s⟩, h4⟩⟩
def spChkGX (K : PySem.W.Frag) (C CE : Addr) : Sp := fun vs H Q E => ∃ (p : Addr) (v : V) (l : List Nat) (n : Int), vs = [.ref p, v] ∧ Bd C H p l n ∧ ((∃ a gs, v = .ref a ∧ GsAt H a l n gs ∧ ∀ H', Same H H' → Q .non H') ∨ ∃ spot, BadG K H l n v spot ∧ Comes E H CE "index" spot)
def NoBd (K : PySem.W.Frag) (H : Hp) (C : Addr) (v : V) : Prop := ∃ t, TyX K H v t ∧ PySem.W.kitOne K t (.ref C) = some false
def spRef2 (K : PySem.W.Frag) (C CNb CGs : Addr) : Sp := fun vs H _ E => ∃ (v w : V), vs = [v, w] ∧ ((NoBd K H C v ∧ Comes E H CNb "value" v) ∨ ∃ (p : Addr) (l : List Nat) (n : Int) (spot : V), v = .ref p ∧ Bd C H p l n ∧ BadG K H l n w spot ∧ Comes E H CGs "index" spot)
def spRef3 (K : PySem.W.Frag) (C CNb CGs : Addr) : Sp := fun vs H _ E => ∃ (v w z : V), vs = [v, w, z] ∧ ((NoBd K H C v ∧ Comes E H CNb "value" v) ∨ ∃ (p : Addr) (l : List Nat) (n : Int) (spot : V), v = .ref p ∧ Bd C H p l n ∧ Comes E H CGs "index" spot ∧ (BadG K H l n w spot ∨ ∃ a gs, w = .ref a ∧ GsAt H a l n gs ∧ BadG K H l n z spot))
section
variable {P : Program} {w : World} {K : PySem.W.Frag} {mg : Str → Option Value} {base : Heap}
theorem ok_chkGX {f C fR CE eE : Addr} {fd fdR fdE : FuncData} (F : Fun K "check_guesses" "check_guesses" sChkG f fd) (tl : mg "len" = none) (te : mg "enumerate" = none) (ti : mg "isinstance" = none) (tt : mg "tuple" = none) (tm : ∃ t, mg "MOST_GUESSES" = some (.int 20 t)) (GR : FnOk P w K mg base L2.CX0 2 fR fdR ["board", "value"] (spIsW K C none)) (DR : Df K mg "is_word" fR fdR ["board", "value"])
    (EW : ErrB K mg "InvalidGuesses" "index" CE eE) (GE : FnOk P w K mg base L2.CX0 1 eE fdE ["self", "index"] (spErr CE "index")) (bE : Binds K fdE ["self", "index"] []) : FnOk P w K mg base (L2.CX P w) 3 f fd ["board", "guesses"] (spChkGX K C CE) := by
  refine F.okX scChkG (fun vs H Q E h => ?_) (fun cdv A outer s H vs Q E hr h => ?_)
  · obtain ⟨p, v, l, n, rfl, _⟩ := h
    rfl
  · obtain ⟨p, v, l, n, rfl, hb, h⟩ := h
    have nd := scChkG.nd
    have hr1 : Room (1 + 1) _ := hr
    obtain ⟨t20, m20⟩ := tm
    refine ⟨_, pss_cons (ps_if (PW.pt (pw_or (pt_not (pt_val (pe_callB call_isi (by rfl) ti (by decide +kernel) (pa_cons (pv 1) (pa_cons (pe_bltn (v := .ty "tuple") (by rfl) tt (by decide +kernel) rfl) pa_nil))))) (pw_or1 (pt_cmpR op_gt (pe_callB call_len_seq (by rfl) tl PySem.boot_len (pa_cons (pv 1) pa_nil)) (pe_glob (v := .int 20) (by rfl) m20 ⟨_, rfl⟩) (nomark _)))))
        (pss_one (ps_raise rfl (takes_of rfl rfl rfl rfl) (pmk_oexB EW.ox EW.iC EW.tI GE hr1 bE L2.pass0 (by rfl) EW.gC (pa_cons pe_non pa_nil)))) pss_nil)
      (pss_one (ps_for (passes_of rfl) rfl (pi_enumT (by rfl) te (pa_cons (pv 1) pa_nil)) (pg_tup (by rfl) (pgs_cons (pg_name (i := 2) nd rfl (Or.inl rfl)) (pgs_cons (pg_name (i := 3) nd rfl (Or.inl rfl)) pgs_nil)))
        (pss_one (ps_if (pt_not (pt_val (pe_call GR hr (by rfl) DR.mg DR.kp DR.b .nil L2.pass0 (pa_cons (pv 0) (pa_cons (pv 3) pa_nil)))))
          (pss_one (ps_raise rfl (takes_of rfl rfl rfl rfl) (pmk_oexB EW.ox EW.iC EW.tI GE hr1 bE L2.pass0 (by rfl) EW.gC (pa_cons (pv 2) pa_nil)))) pss_nil)))), ?_⟩
    have split : (∃ t, TyX K H v t ∧ PySem.W.kitOne K t (.type "tuple") = some false ∧ Comes E H CE "index" .non) ∨ (∃ (a : Addr) (vs : List V), v = .ref a ∧ H a = some (.tup vs) ∧ 20 < vs.length ∧ Comes E H CE "index" .non) ∨
        ∃ (a : Addr) (vs : List V), v = .ref a ∧ H a = some (.tup vs) ∧ vs.length ≤ 20 ∧ ∃ k : Nat, (∀ j y, j < k → vs[j]? = some y → AsW K H y l n true) ∧ ((∃ y, vs[k]? = some y ∧ AsW K H y l n false ∧ Comes E H CE "index" (.int (k : Nat))) ∨ (vs.length ≤ k ∧ ∀ H', Same H H' → Q .non H')) := by
      rcases h with ⟨a, gs, rfl, ⟨ha, l20, ok⟩, q⟩ | ⟨spot, ⟨t, ty, no, rfl⟩ | ⟨a, vs, rfl, ha, ⟨l1, _, rfl⟩ | ⟨l20, k, h1, ⟨y, e2, h3⟩, rfl⟩⟩, ex⟩
      · refine .inr (.inr ⟨a, _, rfl, ha, by rw [txs_len]; exact l20, gs.length, fun j y hj e => ?_, .inr ⟨by rw [txs_len]; exact Nat.le_refl _, q⟩⟩)
        obtain ⟨g, hg, rfl⟩ := at_txs e
        have wd := ok g (List.mem_of_getElem? hg)
        have n6 := hb.2.2.2
        have wl := wd.1
        exact .inl ⟨g, rfl, by omega, (decide_eq_true wd).symm⟩
      · exact .inl ⟨t, ty, no, ex⟩
      · exact .inr (.inl ⟨a, vs, rfl, ha, l1, ex⟩)
      · exact .inr (.inr ⟨a, vs, rfl, ha, l20, k, h1, .inl ⟨y, e2, h3, ex⟩⟩)
    rcases split with ⟨t, ty, no, ex⟩ | ⟨a, vs, rfl, ha, l1, ex⟩ | ⟨a, vs, rfl, ha, l20, k, hk, hend⟩
    · exact ⟨_, rfl, _, _, _, _, _, rfl, .ty "tuple", ty, no, _, rfl, iteT (mkErr ex)⟩
    · refine ⟨_, rfl, _, _, _, _, _, rfl, .ty "tuple", .base (.tup ha), kit_ty (r := true) (by decide +kernel), _, rfl, iteF ?_⟩
      refine ⟨_, rfl, a, _, rfl, .inr (SqT.of ha), _, _, rfl, rfl, _, rfl, ?_⟩
      rw [decide_eq_true (show ((vs.length : Nat) : Int) > 20 by omega)]
      exact iteT (mkErr ex)
    · refine ⟨_, rfl, _, _, _, _, _, rfl, .ty "tuple", .base (.tup ha), kit_ty (r := true) (by decide +kernel), _, rfl, iteF ?_⟩
      refine ⟨_, rfl, a, _, rfl, .inr (SqT.of ha), _, _, rfl, rfl, _, rfl, ?_⟩
      rw [decide_eq_false (show ¬ ((vs.length : Nat) : Int) > 20 by omega)]
      refine iteF ⟨_, rfl, a, vs, rfl, SqT.of ha, for_it walk_iten (fun i σ H' => (∃ v2 v3 : Option V, σ = [some (.ref p), some (.ref a), v2, v3]) ∧ Same H H' ∧ i ≤ k) ⟨⟨_, _, rfl⟩, Same.refl H, Nat.zero_le _⟩ (fun i σ H' _ ⟨_, sm, _⟩ => SqT.of (sm _ _ ha)) ?_ ?_⟩
      · rintro i x σ H1 H2 hi ⟨⟨v2, v3, rfl⟩, sm, hik⟩ ⟨T, y, rfl, hT, rfl, hy⟩
        have sm2 : Same H (upd H1 T (.tup [.int (i : Nat), y])) := fun b o e => same_upd hT _ _ (sm _ _ e)
        refine ⟨T, _, rfl, SqT.of upd_same, rfl, _, _, rfl, _, _, rfl, rfl, ?_⟩
        by_cases e : i = k
        · subst e
          rcases hend with ⟨y', e2, as, ex⟩ | ⟨z, _⟩
          · have hy : vs[i]? = some y := hy
            rw [e2] at hy
            cases hy
            refine ⟨_, rfl, _, rfl, p, l, n, _, rfl, hb.same sm2, ?_⟩
            rcases as.same sm2 with ⟨z, rfl, hz, hbw⟩ | ⟨t, ty, no, _⟩
            · refine .inl ⟨z, rfl, hz, fun H3 s3 => ⟨_, rfl, ?_⟩⟩
              rw [show decide (Wd ((none : Option (List Nat)).getD l) n z) = false from hbw.symm]
              exact iteT ⟨_, rfl, mkErr ((ex.same sm2).same s3)⟩
            · exact .inr ⟨t, ty, no, _, rfl, iteT ⟨_, rfl, mkErr (ex.same sm2)⟩⟩
          · exact absurd hi (by omega)
        · have as := hk i y (by omega) hy
          refine ⟨_, rfl, _, rfl, p, l, n, y, rfl, hb.same sm2, ?_⟩
          rcases as.same sm2 with ⟨z, rfl, hz, hbw⟩ | ⟨t, ty, no, hbw⟩
          · refine .inl ⟨z, rfl, hz, fun H3 s3 => ⟨_, rfl, ?_⟩⟩
            rw [show decide (Wd ((none : Option (List Nat)).getD l) n z) = true from hbw.symm]
            exact iteF ⟨⟨_, _, rfl⟩, fun b o z => s3 _ _ (sm2 _ _ z), by omega⟩
          · cases hbw
      · rintro σ H1 ⟨_, sm, hik⟩
        rcases hend with ⟨y', e2, _⟩ | ⟨_, q⟩
        · have := (List.getElem?_eq_some_iff.mp e2).1
          omega
        · exact q _ sm
theorem ok_triedX {f C CNb CGs fB fG : Addr} {fd fdB fdG : FuncData} (F : Fun K "tried" "tried" sTried f fd) (TC : TxC K mg C)
    (GB : FnOk P w K mg base (L2.CX P w) 3 fB fdB ["board"] (spChkBX K C CNb)) (DB : Df K mg "check_board" fB fdB ["board"]) (GG : FnOk P w K mg base (L2.CX P w) 3 fG fdG ["board", "guesses"] (spChkGX K C CGs)) (DG : Df K mg "check_guesses" fG fdG ["board", "guesses"]) : FnOk P w K mg base (L2.CX P w) 4 f fd ["board", "guesses"] (spRef2 K C CNb CGs) := by
  refine F.okX scTried (fun vs H Q E h => ?_) (fun cdv A outer s H vs Q E hr h => ?_)
  · obtain ⟨v, w, rfl, _⟩ := h
    rfl
  · obtain ⟨v, w, rfl, h⟩ := h
    refine ⟨_, pss_cons (ps_expr (pe_call GB hr (by rfl) DB.mg DB.kp DB.b .nil (passes_call (takes_of rfl rfl rfl rfl) fun _ _ _ _ h => h) (pa_cons (pv 0) pa_nil)))
      (pss_cons (ps_expr (pe_call GG hr (by rfl) DG.mg DG.kp DG.b .nil (passes_call (takes_of rfl rfl rfl rfl) fun _ _ _ _ h => h) (pa_cons (pv 0) (pa_cons (pv 1) pa_nil)))) (pss_one ps_never)), ?_⟩
    rcases h with ⟨⟨t, ty, no⟩, ex⟩ | ⟨p, l, n, spot, rfl, hb, bad, ex⟩
    · exact ⟨_, rfl, _, t, rfl, ty, .inr ⟨no, ex⟩⟩
    · obtain ⟨⟨dx, eb⟩, _⟩ := _root_.id hb
      exact ⟨_, rfl, _, _, rfl, ty_board TC eb, .inl ⟨TC.own, _, rfl, _, rfl, p, w, l, n, rfl, hb, .inr ⟨spot, bad, ex⟩⟩⟩
theorem ok_twinsX {f C CNb CGs fB fG : Addr} {fd fdB fdG : FuncData} (F : Fun K "twins" "twins" sTwins f fd) (TC : TxC K mg C)
    (GB : FnOk P w K mg base (L2.CX P w) 3 fB fdB ["board"] (spChkBX K C CNb)) (DB : Df K mg "check_board" fB fdB ["board"]) (GG : FnOk P w K mg base (L2.CX P w) 3 fG fdG ["board", "guesses"] (spChkGX K C CGs)) (DG : Df K mg "check_guesses" fG fdG ["board", "guesses"]) : FnOk P w K mg base (L2.CX P w) 4 f fd ["board", "guesses"] (spRef2 K C CNb CGs) := by
  refine F.okX scTwins (fun vs H Q E h => ?_) (fun cdv A outer s H vs Q E hr h => ?_)
  · obtain ⟨v, w, rfl, _⟩ := h
    rfl
  · obtain ⟨v, w, rfl, h⟩ := h
    refine ⟨_, pss_cons (ps_expr (pe_call GB hr (by rfl) DB.mg DB.kp DB.b .nil (passes_call (takes_of rfl rfl rfl rfl) fun _ _ _ _ h => h) (pa_cons (pv 0) pa_nil)))
      (pss_cons (ps_expr (pe_call GG hr (by rfl) DG.mg DG.kp DG.b .nil (passes_call (takes_of rfl rfl rfl rfl) fun _ _ _ _ h => h) (pa_cons (pv 0) (pa_cons (pv 1) pa_nil)))) (pss_one ps_never)), ?_⟩
    rcases h with ⟨⟨t, ty, no⟩, ex⟩ | ⟨p, l, n, spot, rfl, hb, bad, ex⟩
    · exact ⟨_, rfl, _, t, rfl, ty, .inr ⟨no, ex⟩⟩
    · obtain ⟨⟨dx, eb⟩, _⟩ := _root_.id hb
      exact ⟨_, rfl, _, _, rfl, ty_board TC eb, .inl ⟨TC.own, _, rfl, _, rfl, p, w, l, n, rfl, hb, .inr ⟨spot, bad, ex⟩⟩⟩
theorem ok_tellWX {f C CNb CGs fT : Addr} {fd fdT : FuncData} (F : Fun K "tells_word" "tells_word" sTellW f fd) (GT : FnOk P w K mg base (L2.CX P w) 4 fT fdT ["board", "guesses"] (spRef2 K C CNb CGs)) (DT : Df K mg "twins" fT fdT ["board", "guesses"]) : FnOk P w K mg base (L2.CX P w) 5 f fd ["board", "guesses"] (spRef2 K C CNb CGs) := by
  refine F.okX scTellW (fun vs H Q E h => ?_) (fun cdv A outer s H vs Q E hr h => ?_)
  · obtain ⟨v, w, rfl, _⟩ := h
    rfl
  · obtain ⟨v, w, rfl, h⟩ := h
    refine ⟨_, pss_one (ps_ret (pe_cmpR op_isN (pe_call GT hr (by rfl) DT.mg DT.kp DT.b .nil (passes_call (takes_of rfl rfl rfl rfl) fun _ _ _ _ h => h) (pa_cons (pv 0) (pa_cons (pv 1) pa_nil))) pe_non (nomark _))), ?_⟩
    exact ⟨_, rfl, _, rfl, v, w, rfl, h⟩
theorem ok_partX {f C CNb CGs fB fG : Addr} {fd fdB fdG : FuncData} (F : Fun K "parting" "parting" sPart f fd) (TC : TxC K mg C)
    (GB : FnOk P w K mg base (L2.CX P w) 3 fB fdB ["board"] (spChkBX K C CNb)) (DB : Df K mg "check_board" fB fdB ["board"]) (GG : FnOk P w K mg base (L2.CX P w) 3 fG fdG ["board", "guesses"] (spChkGX K C CGs)) (DG : Df K mg "check_guesses" fG fdG ["board", "guesses"]) : FnOk P w K mg base (L2.CX P w) 4 f fd ["board", "guesses", "other_guesses"] (spRef3 K C CNb CGs) := by
  refine F.okX scPart (fun vs H Q E h => ?_) (fun cdv A outer s H vs Q E hr h => ?_)
  · obtain ⟨v, w, z, rfl, _⟩ := h
    rfl
  · obtain ⟨v, w, z, rfl, h⟩ := h
    refine ⟨_, pss_cons (ps_expr (pe_call GB hr (by rfl) DB.mg DB.kp DB.b .nil (passes_call (takes_of rfl rfl rfl rfl) fun _ _ _ _ h => h) (pa_cons (pv 0) pa_nil)))
      (pss_cons (ps_expr (pe_call GG hr (by rfl) DG.mg DG.kp DG.b .nil (passes_call (takes_of rfl rfl rfl rfl) fun _ _ _ _ h => h) (pa_cons (pv 0) (pa_cons (pv 1) pa_nil))))
      (pss_cons (ps_expr (pe_call GG hr (by rfl) DG.mg DG.kp DG.b .nil (passes_call (takes_of rfl rfl rfl rfl) fun _ _ _ _ h => h) (pa_cons (pv 0) (pa_cons (pv 2) pa_nil)))) (pss_one ps_never))), ?_⟩
    rcases h with ⟨⟨t, ty, no⟩, ex⟩ | ⟨p, l, n, spot, rfl, hb, ex, h⟩
    · exact ⟨_, rfl, _, t, rfl, ty, .inr ⟨no, ex⟩⟩
    · obtain ⟨⟨dx, eb⟩, _⟩ := _root_.id hb
      refine ⟨_, rfl, _, _, rfl, ty_board TC eb, .inl ⟨TC.own, _, rfl, _, rfl, p, w, l, n, rfl, hb, ?_⟩⟩
      rcases h with bad | ⟨a, gs, rfl, hg, bad⟩
      · exact .inr ⟨spot, bad, ex⟩
      · exact .inl ⟨a, gs, rfl, hg, fun H2 s2 => ⟨_, rfl, _, rfl, p, z, l, n, rfl, hb.same s2, .inr ⟨spot, bad.same s2, ex.same s2⟩⟩⟩
theorem ok_tellsX {f C CNb CGs fT : Addr} {fd fdT : FuncData} (F : Fun K "tells" "tells" sTells f fd) (GT : FnOk P w K mg base (L2.CX P w) 4 fT fdT ["board", "guesses", "other_guesses"] (spRef3 K C CNb CGs)) (DT : Df K mg "parting" fT fdT ["board", "guesses", "other_guesses"]) : FnOk P w K mg base (L2.CX P w) 5 f fd ["board", "guesses", "other_guesses"] (spRef3 K C CNb CGs) := by
  refine F.okX scTells (fun vs H Q E h => ?_) (fun cdv A outer s H vs Q E hr h => ?_)
  · obtain ⟨v, w, z, rfl, _⟩ := h
    rfl
  · obtain ⟨v, w, z, rfl, h⟩ := h
    refine ⟨_, pss_one (ps_ret (pe_cmpR op_isN (pe_call GT hr (by rfl) DT.mg DT.kp DT.b .nil (passes_call (takes_of rfl rfl rfl rfl) fun _ _ _ _ h => h) (pa_cons (pv 0) (pa_cons (pv 1) (pa_cons (pv 2) pa_nil)))) pe_non (nomark _))), ?_⟩
    exact ⟨_, rfl, _, rfl, _, rfl, v, w, z, rfl, h⟩
end
end Gm

/-! lists of errors, lists of answers of isinstance, how often True stands in a list -/
namespace L2
open PySem PySem.Spec PyProof.Rows
theorem ErAt.same {H H' : Hp} {a C : Addr} {fs : List (Str × V)} (h : ErAt H a C fs) (s : Same H H') : ErAt H' a C fs := by
  rcases h with ⟨rfl, e⟩ | ⟨dx, e, ed⟩
  · exact .inl ⟨rfl, s _ _ e⟩
  · exact .inr ⟨dx, s _ _ e, s _ _ ed⟩
/-- at these places stand errors of these classes, all with the one attribute's value v -/
inductive Ers (H : Hp) (v : V) : List Addr → List (Addr × Str) → Prop
  | nil : Ers H v [] []
  | cons {a C : Addr} {f : Str} {as : List Addr} {L : List (Addr × Str)} : ErAt H a C [(f, v)] → Ers H v as L → Ers H v (a :: as) ((C, f) :: L)
section
variable {H H' : Hp} {v : V} {as bs : List Addr} {L L' : List (Addr × Str)}
theorem Ers.same (h : Ers H v as L) (s : Same H H') : Ers H' v as L := by
  induction h with
  | nil => exact .nil
  | cons a _ ih => exact .cons (a.same s) ih
theorem Ers.app (h : Ers H v as L) (k : Ers H v bs L') : Ers H v (as ++ bs) (L ++ L') := by
  induction h with
  | nil => exact k
  | cons a _ ih => exact .cons a ih
theorem Ers.length (h : Ers H v as L) : as.length = L.length := by
  induction h with
  | nil => rfl
  | cons _ _ ih => rw [List.length_cons, List.length_cons, ih]
theorem Ers.get (h : Ers H v as L) {i : Nat} {a : Addr} (e : as[i]? = some a) : ∃ C f, (C, f) ∈ L ∧ ErAt H a C [(f, v)] := by
  induction h generalizing i with
  | nil => simp at e
  | @cons b C f as L x _ ih =>
    cases i with
    | zero =>
      simp at e
      subst e
      exact ⟨C, f, List.mem_cons_self, x⟩
    | succ i =>
      obtain ⟨C', f', m, y⟩ := ih (i := i) (by simpa using e)
      exact ⟨C', f', List.mem_cons_of_mem _ m, y⟩
end
theorem mkE {C : Addr} {f : Str} {v : V} {H1 : Hp} {Q : VK} (h : ∀ H' a, Same H1 H' → ErAt H' a C [(f, v)] → Q (.ref a) H') : ∀ a, H1 a = none → spErr C f [.ref a, v] (upd H1 a (exo a C none)) (fun u H2 => u = .non ∧ Q (.ref a) H2) (fun _ _ _ => False) := by
  intro a na
  refine ⟨a, v, rfl, upd_same, fun dx nd ne => ⟨rfl, ?_⟩⟩
  rw [upd_ne ne] at nd
  refine h _ a (fun b o e => ?_) (.inr ⟨dx, upd_same, (upd_ne ne).trans upd_same⟩)
  have n1 := ne_of_none e na
  have n2 := ne_of_none e nd
  rw [upd_ne n1, upd_ne n2, upd_ne n1]
  exact e
/-- C(x), x the local i -/
def tMk1 (i : Nat) (C : Addr) (f : Str) : TE := fun σ H Q => ∃ v, σ[i]? = some (some v) ∧ ∀ H' a, Same H H' → ErAt H' a C [(f, v)] → Q (.ref a) H'
def tMks (i : Nat) (L : List (Addr × Str)) : TA := fun σ H Q => ∃ v, σ[i]? = some (some v) ∧ ∀ H' as, Same H H' → Ers H' v as L → Q (as.map V.ref) H'
/-- [C(x), ..] -/
def tMkL (i : Nat) (L : List (Addr × Str)) : TE := fun σ H Q => ∃ v, σ[i]? = some (some v) ∧ ∀ H' as p, Same H H' → H p = none → H' p = some (.lst (as.map V.ref)) → Ers H' v as L → Q (.ref p) H'
/-- l + [C(x), ..], l the local j -/
def tMkC (j i : Nat) (L : List (Addr × Str)) : TE := fun σ H Q => ∃ v p as0 L0, σ[i]? = some (some v) ∧ σ[j]? = some (some (.ref p)) ∧ H p = some (.lst (as0.map V.ref)) ∧ Ers H v as0 L0 ∧ L0.length ≤ 1000 ∧
  ∀ H' as q, Same H H' → H q = none → H' q = some (.lst (as.map V.ref)) → Ers H' v as (L0 ++ L) → Q (.ref q) H'
theorem same_upd0 {H : Hp} {a : Addr} {o : HO} (n : H a = none) : Same H (upd H a o) := fun b u e => by rw [upd_ne (ne_of_none e n)]; exact e
theorem Same.thru {A B C : Hp} (x : Same A B) (y : Same B C) : Same A C := fun b o e => y _ _ (x _ _ e)
theorem sfree {A B : Hp} (x : Same A B) {p : Addr} (n : B p = none) : A p = none := by
  cases e : A p with
  | none => rfl
  | some o =>
    have := x _ _ e
    rw [n] at this
    cases this
section
variable {X : Cx} {i j : Nat} {x f n par : Str} {C fI : Addr} {fd : FuncData} {p1 p pos : Pos} {e e2 : Expr} {es : List Expr} {L : List (Addr × Str)}
theorem pe_mk1 (T : ErrB X.K X.mg x f C fI) (F1 : FnOk X.prog X.w X.K X.mg X.base CX0 1 fI fd ["self", par] (spErr C f)) (hr : Room 2 X.A) (hb : Binds X.K fd ["self", par] []) (hg : Gl X x) (hv : PE X (.Name n p1) (tVar i)) (hdb : (x == ("__debug__" : Str)) = false := by decide) :
    PE X (.Call (.Name x p) [.Name n p1] [] pos) (tMk1 i C f) := by
  refine ⟨fun pins s σ H Q I ⟨v, hi, q⟩ => ?_⟩
  refine (pe_mkV T.ox T.iC T.tI F1 hr hb pass0 hg T.gC (pa_cons hv pa_nil) hdb).run pins s σ H Q I ?_
  exact ⟨v, hi, (by show 1 ≤ 1000; decide), mkE fun H' a s' h => q H' a s' h⟩
theorem pe_mkK1 {g : List Value → List Value → List Value} (T : ErrB X.K X.mg x f C fI) (F1 : FnOk X.prog X.w X.K X.mg X.base CX0 1 fI fd ["self", par] (spErr C f)) (hr : Room 2 X.A) {gV : List V → List V → List V} (gv : ∀ a v, gV [.ref a] [v] = [.ref a, v]) (hb : KBn X.K fd ["self", par] 1 [par] g gV) (hg : Gl X x) (hv : PE X (.Name n p1) (tVar i)) (kp : Pos)
    (hall : (backToKw pos (keywordEach [⟨some par, .Name n p1, kp⟩] X.env)).all (·.1.isSome) = true := by rfl) (hks : (backToKw pos (keywordEach [⟨some par, .Name n p1, kp⟩] X.env)).filterMap (·.1) = [par] := by rfl) (hdb : (x == ("__debug__" : Str)) = false := by decide)
    (hpl : ((backTo pos (starEach [] X.env)).any (·.1) || (backToKw pos (keywordEach [⟨some par, .Name n p1, kp⟩] X.env)).any (·.1.isNone)) = false := by rfl) :
    PE X (.Call (.Name x p) [] [⟨some par, .Name n p1, kp⟩] pos) (tMk1 i C f) := by
  refine ⟨fun pins s σ H Q I ⟨v, hi, q⟩ => ?_⟩
  refine (pe_mkVK T.ox T.iC T.tI F1 hr hb pass0 hg T.gC (pk_cons hv pk_nil) hall hks hdb hpl).run pins s σ H Q I ?_
  refine ⟨v, hi, rfl, ?_⟩
  intro a na
  show spErr C f (gV [.ref a] [v]) _ _ _
  rw [gv]
  exact mkE (fun H' a s' h => q H' a s' h) a na
theorem pa_mk0 : PA X [] (tMks i []) := ⟨fun pos pins s σ H Q I ⟨v, hi, q⟩ => (pa_nil).run pos pins s σ H Q I (q H [] (fun _ _ e => e) .nil)⟩
theorem pa_mk (h : PE X e (tMk1 i C f)) (hs : PA X es (tMks i L)) (hst : starEach (e :: es) X.env = (false, eval e X.env) :: starEach es X.env := by rfl) : PA X (e :: es) (tMks i ((C, f) :: L)) :=
  ⟨fun pos pins s σ H Q I ⟨v, hi, q⟩ => (pa_cons h hs hst).run pos pins s σ H Q I ⟨v, hi, fun H1 a s1 h1 => ⟨v, hi, fun H2 as s2 h2 => q H2 (a :: as) (s1.thru s2) (.cons (h1.same s2) h2)⟩⟩⟩
theorem pe_mkL (hs : PA X es (tMks i L)) (hL : L.length ≤ 1000 := by decide) : PE X (.List es pos) (tMkL i L) :=
  ⟨fun pins s σ H Q I ⟨v, hi, q⟩ => (pe_lst hs).run pins s σ H Q I ⟨v, hi, fun H1 as s1 h1 => ⟨by rw [List.length_map, h1.length, sizeLine_eq]; omega, fun p np => q _ as p (s1.thru (same_upd0 np)) (sfree s1 np) upd_same (h1.same (same_upd0 np))⟩⟩⟩
theorem pe_mkC (ha : PE X e (tVar j)) (hs : PE X e2 (tMkL i L)) (hL : L.length ≤ 1000 := by decide) : PE X (.BinOp e .Add e2 pos) (tMkC j i L) :=
  ⟨fun pins s σ H Q I ⟨v, p, as0, L0, hi, hj, hp, h0, hn, q⟩ => (pe_op op_cat ha hs).run pins s σ H Q I
    ⟨.ref p, hj, v, hi, fun H1 as r s1 n1 hr h1 => ⟨p, r, _, _, rfl, rfl, s1 _ _ hp, hr, by rw [List.length_map, List.length_map, h0.length, h1.length, sizeLine_eq]; omega, fun z nz => q _ (as0 ++ as) z (s1.thru (same_upd0 nz)) (sfree s1 nz) (by rw [upd_same, List.map_append]) (((h0.same s1).app h1).same (same_upd0 nz))⟩⟩⟩
end
/-! isinstance(e, c), .. -/
def Kit (K : PySem.W.Frag) (C : Addr) (f : V → Bool) (ts : List V) : Prop := ∀ t ∈ ts, ∃ cv, ClsV t cv ∧ PySem.W.kitOne K (.ref C) cv = some (f t)
def tI1 (K : PySem.W.Frag) (i : Nat) (t : V) : TE := fun σ H Q => ∃ a C fs f, σ[i]? = some (some (.ref a)) ∧ ErAt H a C fs ∧ ErI K C ∧ Kit K C f [t] ∧ Q (.bl (f t)) H
def tIs (K : PySem.W.Frag) (i : Nat) (ts : List V) : TA := fun σ H Q => ∃ a C fs f, σ[i]? = some (some (.ref a)) ∧ ErAt H a C fs ∧ ErI K C ∧ Kit K C f ts ∧ Q (ts.map fun t => .bl (f t)) H
def tIL (K : PySem.W.Frag) (i : Nat) (ts : List V) : TE := fun σ H Q => ∃ a C fs f, σ[i]? = some (some (.ref a)) ∧ ErAt H a C fs ∧ ErI K C ∧ Kit K C f ts ∧ ∀ p, H p = none → Q (.ref p) (upd H p (.lst (ts.map fun t => .bl (f t))))
def tIC (K : PySem.W.Frag) (j i : Nat) (ts : List V) : TE := fun σ H Q => ∃ a C fs f p xs, σ[i]? = some (some (.ref a)) ∧ σ[j]? = some (some (.ref p)) ∧ H p = some (.lst xs) ∧ xs.length ≤ 1000 ∧ ErAt H a C fs ∧ ErI K C ∧ Kit K C f ts ∧
  ∀ H' q, Same H H' → H q = none → H' q = some (.lst (xs ++ ts.map fun t => .bl (f t))) → Q (.ref q) H'
section
variable {X : Cx} {i j : Nat} {n : Str} {p p1 pos : Pos} {e e2 : Expr} {es : List Expr} {t : V} {ts : List V}
theorem pe_i1 (hg : Gl X "isinstance") (hm : X.mg "isinstance" = none) (hv : PE X (.Name n p1) (tVar i)) (ht : PE X e (tC t)) (hst : starEach [e] X.env = (false, eval e X.env) :: starEach [] X.env := by rfl) : PE X (.Call (.Name "isinstance" p) [.Name n p1, e] [] pos) (tI1 X.K i t) :=
  ⟨fun pins s σ H Q I ⟨a, C, fs, f, hi, h, T, k, q⟩ => (pe_callB call_erI hg hm (by decide +kernel) (pa_cons hv (pa_cons ht pa_nil hst) (by rfl)) (hpl := by rw [hst]; rfl)).run pins s σ H Q I
    (by
      obtain ⟨cv, k1, k2⟩ := k t (List.mem_singleton.mpr rfl)
      exact ⟨_, hi, a, C, fs, t, cv, f t, rfl, h, T, k1, k2, q⟩)⟩
theorem pa_i0 : PA X [] (tIs X.K i []) := ⟨fun pos pins s σ H Q I ⟨a, C, fs, f, hi, h, T, k, q⟩ => (pa_nil).run pos pins s σ H Q I q⟩
theorem pa_i (h : PE X e (tI1 X.K i t)) (hs : PA X es (tIs X.K i ts)) (hst : starEach (e :: es) X.env = (false, eval e X.env) :: starEach es X.env := by rfl) : PA X (e :: es) (tIs X.K i (t :: ts)) :=
  ⟨fun pos pins s σ H Q I ⟨a, C, fs, f, hi, he, T, k, q⟩ => (pa_cons h hs hst).run pos pins s σ H Q I
    ⟨a, C, fs, f, hi, he, T, fun t' m => k t' (List.mem_cons.mpr (.inl (List.mem_singleton.mp m))), a, C, fs, f, hi, he, T, fun t' m => k t' (List.mem_cons_of_mem _ m), q⟩⟩
theorem pe_iL (hs : PA X es (tIs X.K i ts)) (hL : ts.length ≤ 1000 := by decide) : PE X (.List es pos) (tIL X.K i ts) :=
  ⟨fun pins s σ H Q I ⟨a, C, fs, f, hi, he, T, k, q⟩ => (pe_lst hs).run pins s σ H Q I ⟨a, C, fs, f, hi, he, T, k, by rw [List.length_map, sizeLine_eq]; omega, fun p np => q p np⟩⟩
theorem pe_iC (ha : PE X e (tVar j)) (hs : PE X e2 (tIL X.K i ts)) (hL : ts.length ≤ 1000 := by decide) : PE X (.BinOp e .Add e2 pos) (tIC X.K j i ts) :=
  ⟨fun pins s σ H Q I ⟨a, C, fs, f, p, xs, hi, hj, hp, hn, he, T, k, q⟩ => (pe_op op_cat ha hs).run pins s σ H Q I
    ⟨.ref p, hj, a, C, fs, f, hi, he, T, k, fun r nr => ⟨p, r, _, _, rfl, rfl, same_upd0 nr _ _ hp, upd_same, by rw [List.length_map, sizeLine_eq]; omega, fun z nz => q _ z ((same_upd0 nr).thru (same_upd0 nz)) (sfree (same_upd0 nr) nz) upd_same⟩⟩⟩
end
/-! l.count(True) -/
def eqT (v : Value) : Bool := match v with
  | .bool b => b
  | _ => false
theorem bools_of {bs : List Bool} : ∀ {us : List Value}, Vals (bs.map V.bl) us → us = bs.map Value.bool := by
  induction bs with
  | nil => intro us r; cases r; rfl
  | cons b bs ih =>
    intro us r
    cases r with
    | cons a r =>
      have h := ih r
      have h2 : _ = Value.bool b := a
      rw [h, h2]
      rfl
def rCntT (K : PySem.W.Frag) : V → List V → Hp → VK → Prop := fun x xs H Q => ∃ (p : Addr) (bs : List Bool), x = .ref p ∧ xs = [.bl true] ∧ SqL K H p (bs.map V.bl) ∧ Q (.int (bs.count true : Nat)) H
theorem mt_countT {X : Cx} : MtR X "list.count" (rCntT X.K) := by
  intro pins s σ H x xs v us Q I rx rxs h
  obtain ⟨p, bs, rfl, rfl, hs, q⟩ := h
  cases rx
  obtain ⟨u, rfl, ru⟩ := rxs.one
  obtain rfl : u = Value.bool true := ru
  obtain ⟨its, rv, ⟨⟨cls, dd, data, sl⟩, n, ho, hc, hdn, hd⟩, hlen⟩ := I.list hs
  simp only at hc hd
  subst hc hd
  have hi := bools_of rv
  refine call_meets PySem.F.slot_list_count ⟨_, ho, rfl⟩ PySem.F.entry_list_count (PySem.F.args_list_count_2 _ _)
    (SeqAt.list_countAt p its.toArray n dd sl (.bool true) eqT) ⟨ho, fun y hy => ?_, ?_⟩
  · have m : y ∈ its := by simpa using hy
    rw [hi] at m
    obtain ⟨b, _, rfl⟩ := List.mem_map.mp m
    have e : eqT (.bool b) = (b == true) := by cases b <;> rfl
    rw [e]
    exact SeqAt.EqAt.bool_bool b true
  · have ec : its.toArray.toList.countP eqT = bs.count true := by
      rw [List.toList_toArray, hi, List.countP_map]
      refine List.countP_congr fun b _ => ?_
      cases b <;> simp [eqT]
    refine ⟨.int (bs.count true : Nat), H, I.tok _, ⟨s.toks, ?_⟩, q⟩
    show Value.int ((its.toArray.toList.countP eqT : Nat) : Int) s.toks = Value.int ((bs.count true : Nat) : Int) s.toks
    rw [ec]
end L2

/-! lists, tuples and sums of lists, told by what stands after them -/
namespace L2
open PySem PySem.Spec PyProof.Rows
def rCatS : R2 := fun x y H Q => ∃ l b xs zs, x = .ref l ∧ y = .ref b ∧ H l = some (.lst xs) ∧ H b = some (.lst zs) ∧ xs.length + zs.length ≤ 1000 ∧ ∀ H3 p, Same H H3 → H3 p = some (.lst (xs ++ zs)) → Q (.ref p) H3
def tLstS (t : TA) : TE := fun σ H Q => t σ H fun xs H1 => xs.length ≤ 1000 ∧ ∀ H2 p, Same H1 H2 → H2 p = some (.lst xs) → Q (.ref p) H2
def tTupS (t : TA) : TE := fun σ H Q => t σ H fun xs H1 => xs.length ≤ 1000 ∧ ∀ H2 p, Same H1 H2 → H2 p = some (.tup xs) → Q (.ref p) H2
def rRepS : R2 := fun x y H Q => ∃ l v, ∃ n : Nat, x = .ref l ∧ y = .int (n : Nat) ∧ H l = some (.lst [v]) ∧ n ≤ 1000 ∧ ∀ H3 p, Same H H3 → H3 p = some (.lst (List.replicate n v)) → Q (.ref p) H3
section
variable {X : Cx} {a b : Expr} {ta tb : TE} {es : List Expr} {t : TA} {pos : Pos}
theorem pa_weak (h : PA X es t) : PA X es (fun σ H Q => ∃ R : List V → Hp → Prop, t σ H R ∧ ∀ v H', R v H' → Q v H') := ⟨fun pos pins s σ H Q I ⟨R, hr, k⟩ =>
  thn (h.run pos pins s σ H R I hr) fun u s' ⟨v, H', I', r, q⟩ => ⟨v, H', I', r, k _ _ q⟩⟩
theorem op_catS : OpR X (binaryOp .Add) rCatS := by
  intro pins s σ H x y v u Q I rx ry ⟨l, b, xs, zs, e1, e2, h1, h2, hz, q⟩
  exact op_cat pins s σ H x y v u Q I rx ry ⟨l, b, xs, zs, e1, e2, h1, h2, by rw [sizeLine_eq]; omega, fun p np => q _ p (same_upd0 np) upd_same⟩
theorem flat_rep (v : V) (n : Nat) : (List.replicate n [v]).flatten = List.replicate n v := by
  induction n with
  | zero => rfl
  | succ n ih => rw [List.replicate_succ, List.flatten_cons, ih, List.replicate_succ]; rfl
theorem op_repS : OpR X (binaryOp .Mult) rRepS := by
  intro pins s σ H x y v u Q I rx ry ⟨l, w, n, e1, e2, h1, hz, q⟩
  refine op_rep pins s σ H x y v u Q I rx ry ⟨l, _, _, e1, e2, h1, by omega, by omega, ?_, fun p np => ?_⟩
  · rw [sizeLine_eq]
    simp
    omega
  · refine q _ p (same_upd0 np) ?_
    rw [upd_same, Int.toNat_natCast, flat_rep]
theorem pe_lstS (hs : PA X es t) : PE X (.List es pos) (tLstS t) :=
  ⟨fun pins s σ H Q I h => (pe_lst (pa_weak hs)).run pins s σ H Q I ⟨_, h, fun xs H1 ⟨h1, q⟩ => ⟨by rw [sizeLine_eq]; omega, fun p np => q _ p (same_upd0 np) upd_same⟩⟩⟩
theorem pe_tupS {x1} (hs : PA X es t) : PE X (.Tuple es x1 pos) (tTupS t) :=
  ⟨fun pins s σ H Q I h => (pe_tup (pa_weak hs)).run pins s σ H Q I ⟨_, h, fun xs H1 ⟨h1, q⟩ => ⟨by rw [sizeLine_eq]; omega, fun p np => q _ p (same_upd0 np) upd_same⟩⟩⟩
end
/-- an error class without own __init__ -/
structure Mk0 (K : PySem.W.Frag) (mg : Str → Option Value) (x : Str) (C : Addr) : Prop where
  ex : ∃ (bmB : List Value) (B n1 n2 : String), ExcBaseFacts B n1 n2 bmB ∧ PySem.W.excIn K C bmB n1 = true
  gC : mg x = some (.ref C)
  kC : PySem.W.keepIn K (.ref C) = true
theorem pe_mkE0 {X : Cx} {x : Str} {C : Addr} {p pos : Pos} (T : Mk0 X.K X.mg x C) (hg : Gl X x) (hdb : (x == ("__debug__" : Str)) = false := by decide) :
    PE X (.Call (.Name x p) [] [] pos) (fun σ H Q => ∀ H' a, Same H H' → ErAt H' a C [] → Q (.ref a) H') := by
  obtain ⟨bmB, B, n1, n2, F, q⟩ := T.ex
  exact ⟨fun pins s σ H Q I h => (pe_mkV0 F q T.gC T.kC hg hdb).run pins s σ H Q I fun a na => h _ a (same_upd0 na) (.inl ⟨rfl, upd_same⟩)⟩
/-! data -/
theorem dq_rep {K : PySem.W.Frag} {H : Hp} {v : V} {d : PyData} (h : Dq K H v d) (n : Nat) : DqAll K H (List.replicate n v) (List.replicate n d) := by
  induction n with
  | zero => exact .nil
  | succ n ih => exact .cons h ih
theorem sh_rep {d : PyData} {n m : Nat} (h : Sh d n m) (k : Nat) : ShAll (List.replicate k d) (k * (n + 2)) m := by
  induction k with
  | zero => rw [Nat.zero_mul]; exact .nil
  | succ k ih =>
    rw [Nat.succ_mul, Nat.add_comm (k * (n + 2))]
    exact .cons h ih
end L2

-- NOREN
/-! k18: `_law_bad` (by gen_oc.py) -/
namespace Gm
open PySem PySem.Spec PyProof.Rows L2 LamX

abbrev Lb : List Nat := [97, 98, 99]
def ElemB (p : Addr) (H : Hp) (y : V) (b : Bool) : Prop := (∃ d, Flat y d ∧ shortS d = true ∧ wordB Lb 3 d = b) ∨ ∃ a xs, y = .ref a ∧ a ≠ p ∧ H a = some (.tup xs) ∧ b = false
def BMenu (p : Addr) (H : Hp) (v spot : V) : Prop := (∃ d t, Thing p H v d t ∧ (∀ K, PySem.W.kitOne K (.type t) (.type "tuple") = some false) ∧ spot = .non) ∨ ∃ (a : Addr) (vs : List V), v = .ref a ∧ a ≠ p ∧ H a = some (.tup vs) ∧
  ((20 < vs.length ∧ vs.length ≤ 1000 ∧ spot = .non) ∨ (vs.length ≤ 20 ∧ ∃ k : Nat, (∀ j y, j < k → vs[j]? = some y → ElemB p H y true) ∧ (∃ y, vs[k]? = some y ∧ ElemB p H y false) ∧ spot = .int (k : Nat)))
section
variable {p : Addr} {H H' : Hp} {y v spot : V} {b : Bool} {K : PySem.W.Frag}
theorem ElemB.keep (h : ElemB p H y b) (k : Kp p H H') : ElemB p H' y b := h.imp _root_.id fun ⟨a, xs, e, n, ha, hb⟩ => ⟨a, xs, e, n, k _ _ n (fun _ z => by cases z) ha, hb⟩
theorem ElemB.asw (h : ElemB p H y b) : AsW K H y Lb 3 b := by
  rcases h with ⟨d, f, sh, e⟩ | ⟨a, xs, rfl, _, ha, rfl⟩
  · have := flat_word (K := K) (H := H) (ch := Lb) (n := 3) f sh
    rw [e] at this
    exact this
  · exact .inr ⟨_, .base (.tup ha), kit_ty (by decide +kernel), rfl⟩
theorem BMenu.keep (h : BMenu p H v spot) (k : Kp p H H') : BMenu p H' v spot :=
  h.imp (fun ⟨d, t, th, r⟩ => ⟨d, t, th.keep k, r⟩) fun ⟨a, vs, e, n, ha, h⟩ => ⟨a, vs, e, n, k _ _ n (fun _ z => by cases z) ha, h.imp _root_.id fun ⟨l, j, h1, ⟨y, e2, h3⟩, h4⟩ => ⟨l, j, fun i y hi e => (h1 i y hi e).keep k, ⟨y, e2, h3.keep k⟩, h4⟩⟩
theorem BMenu.bad (h : BMenu p H v spot) : BadG K H Lb 3 v spot :=
  h.imp (fun ⟨d, t, th, ht, e⟩ => ⟨_, th.ty, ht K, e⟩) fun ⟨a, vs, e, n, ha, h⟩ => ⟨a, vs, e, ha, h.imp _root_.id fun ⟨l, j, h1, ⟨y, e2, h3⟩, h4⟩ => ⟨l, j, fun i y hi e => (h1 i y hi e).asw, ⟨y, e2, h3.asw⟩, h4⟩⟩
end
theorem ne_lstp {H : Hp} {p a : Addr} {xs : List V} (hp : BowlAt H p) (h : H a = some (.lst xs)) (n : ∀ x y z : Int, xs ≠ [.int x, .int y, .int z]) : a ≠ p := fun e => by
  obtain ⟨x, y, z, h2⟩ := hp
  rw [e, h2] at h
  exact n _ _ _ (HO.lst.inj (Option.some.inj h)).symm
theorem bowl_same {p : Addr} {H H' : Hp} (h : BowlAt H p) (s : Same H H') : BowlAt H' p := let ⟨x, y, z, e⟩ := h; ⟨x, y, z, s _ _ e⟩
/-- {} -/
theorem pe_dnewQ {X : Cx} {pos : Pos} : PE X (.Dict [] [] pos) (fun _ H Q => ∀ H2 p, Same H H2 → H2 p = some (.dK []) → Q (.ref p) H2) := ⟨fun pins s σ H Q I h => pe_dnewK.run pins s σ H Q I fun p np => h _ p (Gm.same_upd np) upd_same⟩
def spBadG : Sp := fun vs H Q _ => ∃ (p : Addr), vs = [.ref p] ∧ BowlAt H p ∧ ∀ H' T v spot, Stir p H H' → T ≠ p → H' T = some (.tup [v, spot]) → BMenu p H' v spot → Q (.ref T) H'
section
variable {P : Program} {w : World} {K : PySem.W.Frag} {mg : Str → Option Value} {base : Heap}
abbrev nBadG : List Str := ["_law_bowl_here", "_law_some"]
theorem scBadG : FnScope nBadG ["_law_bowl_here"] (defScope sBadG) := ⟨rfl, rfl, rfl, by decide +kernel, rfl, by decide +kernel, by decide +kernel⟩
theorem ok_badG {f fO : Addr} {fd fdO : FuncData} (F : Fun K "_law_bad" "_law_bad" sBadG f fd) (GO : FnOk P w K mg base L2.CX0 2 fO fdO ["_law_bowl_here", "_law_things"] spOfL) (DO : Df K mg "_law_of" fO fdO ["_law_bowl_here", "_law_things"]) : FnOk P w K mg base L2.CX0 3 f fd ["_law_bowl_here"] spBadG := by
  refine F.ok scBadG (fun vs H Q E h => ?_) (fun cdv A outer s H vs Q E hr h => ?_)
  · obtain ⟨p, rfl, _⟩ := h
    rfl
  · obtain ⟨p, rfl, hp, q⟩ := h
    have nd := scBadG.nd
    have hr2 : Room 2 _ := hr.mono (by decide)
    have hline : sizeLine = 16777216 := sizeLine_eq
    refine ⟨_, pss_cons (ps_set (i := 1) nd rfl (Or.inl rfl) (pe_lstS (pa_cons (pe_tupS (pa_cons pe_non (pa_cons pe_non pa_nil))) (pa_cons (pe_tupS (pa_cons (pe_lstS (pa_cons pe_str pa_nil)) (pa_cons pe_non pa_nil))) (pa_cons (pe_tupS (pa_cons pe_str (pa_cons pe_non pa_nil))) (pa_cons (pe_tupS (pa_cons pe_int (pa_cons pe_non pa_nil))) (pa_cons (pe_tupS (pa_cons (pe_op op_repT (pe_tupS (pa_cons pe_str pa_nil)) pe_int) (pa_cons pe_non pa_nil))) (pa_cons (pe_tupS (pa_cons pe_dnewQ (pa_cons pe_non pa_nil))) pa_nil))))))))
      (pss_cons (ps_set (i := 1) nd rfl (Or.inl rfl) (pe_op op_catS (pv 1) (pe_lstS (pa_cons (pe_tupS (pa_cons (pe_tupS (pa_cons pe_str (pa_cons pe_str pa_nil))) (pa_cons pe_int pa_nil))) (pa_cons (pe_tupS (pa_cons (pe_tupS (pa_cons pe_str pa_nil)) (pa_cons pe_int pa_nil))) (pa_cons (pe_tupS (pa_cons (pe_tupS (pa_cons pe_str (pa_cons pe_str (pa_cons pe_non pa_nil)))) (pa_cons pe_int pa_nil))) (pa_cons (pe_tupS (pa_cons (pe_tupS (pa_cons (pe_tupS (pa_cons pe_str pa_nil)) pa_nil)) (pa_cons pe_int pa_nil))) pa_nil)))))))
      (pss_cons (ps_set (i := 1) nd rfl (Or.inl rfl) (pe_op op_catS (pv 1) (pe_lstS (pa_cons (pe_tupS (pa_cons (pe_tupS (pa_cons pe_str (pa_cons pe_str (pa_cons pe_int pa_nil)))) (pa_cons pe_int pa_nil))) (pa_cons (pe_tupS (pa_cons (pe_tupS (pa_cons pe_str pa_nil)) (pa_cons pe_int pa_nil))) pa_nil)))))
      (pss_one (ps_ret (pe_call GO hr2 (by rfl) DO.mg DO.kp DO.b .nil L2.pass0 (pa_cons (pv 0) (pa_cons (pe_op op_catS (pv 1) (pe_lstS (pa_cons (pe_tupS (pa_cons (pe_op op_repT (pe_tupS (pa_cons pe_str pa_nil)) pe_int) (pa_cons pe_non pa_nil))) (pa_cons (pe_tupS (pa_cons (pe_tupS (pa_cons pe_int (pa_cons pe_str pa_nil))) (pa_cons pe_int pa_nil))) (pa_cons (pe_tupS (pa_cons pe_bl (pa_cons pe_non pa_nil))) pa_nil))))) pa_nil))))))), ?_⟩
    have hp0 := hp
    have sm := Same.refl H
    refine ⟨by show 2 ≤ 1000; decide, fun H_o1 o1 s_o1 e_o1 => ?_⟩
    have sm := Gm.Same.trans sm s_o1
    have hp := bowl_same hp s_o1
    refine ⟨by show 1 ≤ 1000; decide, fun H_o2 o2 s_o2 e_o2 => ?_⟩
    have sm := Gm.Same.trans sm s_o2
    have hp := bowl_same hp s_o2
    have e_o1 := s_o2 _ _ e_o1
    refine ⟨by show 2 ≤ 1000; decide, fun H_o3 o3 s_o3 e_o3 => ?_⟩
    have sm := Gm.Same.trans sm s_o3
    have hp := bowl_same hp s_o3
    have e_o1 := s_o3 _ _ e_o1
    have e_o2 := s_o3 _ _ e_o2
    refine ⟨by show 2 ≤ 1000; decide, fun H_o4 o4 s_o4 e_o4 => ?_⟩
    have sm := Gm.Same.trans sm s_o4
    have hp := bowl_same hp s_o4
    have e_o1 := s_o4 _ _ e_o1
    have e_o2 := s_o4 _ _ e_o2
    have e_o3 := s_o4 _ _ e_o3
    refine ⟨by show 2 ≤ 1000; decide, fun H_o5 o5 s_o5 e_o5 => ?_⟩
    have sm := Gm.Same.trans sm s_o5
    have hp := bowl_same hp s_o5
    have e_o1 := s_o5 _ _ e_o1
    have e_o2 := s_o5 _ _ e_o2
    have e_o3 := s_o5 _ _ e_o3
    have e_o4 := s_o5 _ _ e_o4
    refine ⟨by show 1 ≤ 1000; decide, fun H_o6 o6 s_o6 e_o6 => ?_⟩
    have sm := Gm.Same.trans sm s_o6
    have hp := bowl_same hp s_o6
    have e_o1 := s_o6 _ _ e_o1
    have e_o2 := s_o6 _ _ e_o2
    have e_o3 := s_o6 _ _ e_o3
    have e_o4 := s_o6 _ _ e_o4
    have e_o5 := s_o6 _ _ e_o5
    refine ⟨o6, 21, [.str "abc"], rfl, rfl, SqT.of e_o6, by simp, by decide, by decide, by show 1 ≤ 1000; decide, fun o7 z_o7 => ?_⟩
    have s_o7 := same_upd (o := HO.tup (List.replicate (Int.toNat 21) [V.str "abc"]).flatten) z_o7
    have e_o7 := new_at (o := HO.tup (List.replicate (Int.toNat 21) [V.str "abc"]).flatten) z_o7
    generalize hh_o7 : upd _ o7 (HO.tup _) = Hx_o7 at s_o7 e_o7 ⊢
    have sm := Gm.Same.trans sm s_o7
    have hp := bowl_same hp s_o7
    have e_o1 := s_o7 _ _ e_o1
    have e_o2 := s_o7 _ _ e_o2
    have e_o3 := s_o7 _ _ e_o3
    have e_o4 := s_o7 _ _ e_o4
    have e_o5 := s_o7 _ _ e_o5
    have e_o6 := s_o7 _ _ e_o6
    refine ⟨by show 2 ≤ 1000; decide, fun H_o8 o8 s_o8 e_o8 => ?_⟩
    have sm := Gm.Same.trans sm s_o8
    have hp := bowl_same hp s_o8
    have e_o1 := s_o8 _ _ e_o1
    have e_o2 := s_o8 _ _ e_o2
    have e_o3 := s_o8 _ _ e_o3
    have e_o4 := s_o8 _ _ e_o4
    have e_o5 := s_o8 _ _ e_o5
    have e_o6 := s_o8 _ _ e_o6
    have e_o7 := s_o8 _ _ e_o7
    refine fun H_o9 o9 s_o9 e_o9 => ?_
    have sm := Gm.Same.trans sm s_o9
    have hp := bowl_same hp s_o9
    have e_o1 := s_o9 _ _ e_o1
    have e_o2 := s_o9 _ _ e_o2
    have e_o3 := s_o9 _ _ e_o3
    have e_o4 := s_o9 _ _ e_o4
    have e_o5 := s_o9 _ _ e_o5
    have e_o6 := s_o9 _ _ e_o6
    have e_o7 := s_o9 _ _ e_o7
    have e_o8 := s_o9 _ _ e_o8
    refine ⟨by show 2 ≤ 1000; decide, fun H_o10 o10 s_o10 e_o10 => ?_⟩
    have sm := Gm.Same.trans sm s_o10
    have hp := bowl_same hp s_o10
    have e_o1 := s_o10 _ _ e_o1
    have e_o2 := s_o10 _ _ e_o2
    have e_o3 := s_o10 _ _ e_o3
    have e_o4 := s_o10 _ _ e_o4
    have e_o5 := s_o10 _ _ e_o5
    have e_o6 := s_o10 _ _ e_o6
    have e_o7 := s_o10 _ _ e_o7
    have e_o8 := s_o10 _ _ e_o8
    have e_o9 := s_o10 _ _ e_o9
    refine ⟨by show 6 ≤ 1000; decide, fun H_o11 o11 s_o11 e_o11 => ?_⟩
    have sm := Gm.Same.trans sm s_o11
    have hp := bowl_same hp s_o11
    have e_o1 := s_o11 _ _ e_o1
    have e_o2 := s_o11 _ _ e_o2
    have e_o3 := s_o11 _ _ e_o3
    have e_o4 := s_o11 _ _ e_o4
    have e_o5 := s_o11 _ _ e_o5
    have e_o6 := s_o11 _ _ e_o6
    have e_o7 := s_o11 _ _ e_o7
    have e_o8 := s_o11 _ _ e_o8
    have e_o9 := s_o11 _ _ e_o9
    have e_o10 := s_o11 _ _ e_o10
    refine ⟨_, rfl, ?_⟩
    refine ⟨by show 2 ≤ 1000; decide, fun H_o12 o12 s_o12 e_o12 => ?_⟩
    have sm := Gm.Same.trans sm s_o12
    have hp := bowl_same hp s_o12
    have e_o1 := s_o12 _ _ e_o1
    have e_o2 := s_o12 _ _ e_o2
    have e_o3 := s_o12 _ _ e_o3
    have e_o4 := s_o12 _ _ e_o4
    have e_o5 := s_o12 _ _ e_o5
    have e_o6 := s_o12 _ _ e_o6
    have e_o7 := s_o12 _ _ e_o7
    have e_o8 := s_o12 _ _ e_o8
    have e_o9 := s_o12 _ _ e_o9
    have e_o10 := s_o12 _ _ e_o10
    have e_o11 := s_o12 _ _ e_o11
    refine ⟨by show 2 ≤ 1000; decide, fun H_o13 o13 s_o13 e_o13 => ?_⟩
    have sm := Gm.Same.trans sm s_o13
    have hp := bowl_same hp s_o13
    have e_o1 := s_o13 _ _ e_o1
    have e_o2 := s_o13 _ _ e_o2
    have e_o3 := s_o13 _ _ e_o3
    have e_o4 := s_o13 _ _ e_o4
    have e_o5 := s_o13 _ _ e_o5
    have e_o6 := s_o13 _ _ e_o6
    have e_o7 := s_o13 _ _ e_o7
    have e_o8 := s_o13 _ _ e_o8
    have e_o9 := s_o13 _ _ e_o9
    have e_o10 := s_o13 _ _ e_o10
    have e_o11 := s_o13 _ _ e_o11
    have e_o12 := s_o13 _ _ e_o12
    refine ⟨by show 1 ≤ 1000; decide, fun H_o14 o14 s_o14 e_o14 => ?_⟩
    have sm := Gm.Same.trans sm s_o14
    have hp := bowl_same hp s_o14
    have e_o1 := s_o14 _ _ e_o1
    have e_o2 := s_o14 _ _ e_o2
    have e_o3 := s_o14 _ _ e_o3
    have e_o4 := s_o14 _ _ e_o4
    have e_o5 := s_o14 _ _ e_o5
    have e_o6 := s_o14 _ _ e_o6
    have e_o7 := s_o14 _ _ e_o7
    have e_o8 := s_o14 _ _ e_o8
    have e_o9 := s_o14 _ _ e_o9
    have e_o10 := s_o14 _ _ e_o10
    have e_o11 := s_o14 _ _ e_o11
    have e_o12 := s_o14 _ _ e_o12
    have e_o13 := s_o14 _ _ e_o13
    refine ⟨by show 2 ≤ 1000; decide, fun H_o15 o15 s_o15 e_o15 => ?_⟩
    have sm := Gm.Same.trans sm s_o15
    have hp := bowl_same hp s_o15
    have e_o1 := s_o15 _ _ e_o1
    have e_o2 := s_o15 _ _ e_o2
    have e_o3 := s_o15 _ _ e_o3
    have e_o4 := s_o15 _ _ e_o4
    have e_o5 := s_o15 _ _ e_o5
    have e_o6 := s_o15 _ _ e_o6
    have e_o7 := s_o15 _ _ e_o7
    have e_o8 := s_o15 _ _ e_o8
    have e_o9 := s_o15 _ _ e_o9
    have e_o10 := s_o15 _ _ e_o10
    have e_o11 := s_o15 _ _ e_o11
    have e_o12 := s_o15 _ _ e_o12
    have e_o13 := s_o15 _ _ e_o13
    have e_o14 := s_o15 _ _ e_o14
    refine ⟨by show 3 ≤ 1000; decide, fun H_o16 o16 s_o16 e_o16 => ?_⟩
    have sm := Gm.Same.trans sm s_o16
    have hp := bowl_same hp s_o16
    have e_o1 := s_o16 _ _ e_o1
    have e_o2 := s_o16 _ _ e_o2
    have e_o3 := s_o16 _ _ e_o3
    have e_o4 := s_o16 _ _ e_o4
    have e_o5 := s_o16 _ _ e_o5
    have e_o6 := s_o16 _ _ e_o6
    have e_o7 := s_o16 _ _ e_o7
    have e_o8 := s_o16 _ _ e_o8
    have e_o9 := s_o16 _ _ e_o9
    have e_o10 := s_o16 _ _ e_o10
    have e_o11 := s_o16 _ _ e_o11
    have e_o12 := s_o16 _ _ e_o12
    have e_o13 := s_o16 _ _ e_o13
    have e_o14 := s_o16 _ _ e_o14
    have e_o15 := s_o16 _ _ e_o15
    refine ⟨by show 2 ≤ 1000; decide, fun H_o17 o17 s_o17 e_o17 => ?_⟩
    have sm := Gm.Same.trans sm s_o17
    have hp := bowl_same hp s_o17
    have e_o1 := s_o17 _ _ e_o1
    have e_o2 := s_o17 _ _ e_o2
    have e_o3 := s_o17 _ _ e_o3
    have e_o4 := s_o17 _ _ e_o4
    have e_o5 := s_o17 _ _ e_o5
    have e_o6 := s_o17 _ _ e_o6
    have e_o7 := s_o17 _ _ e_o7
    have e_o8 := s_o17 _ _ e_o8
    have e_o9 := s_o17 _ _ e_o9
    have e_o10 := s_o17 _ _ e_o10
    have e_o11 := s_o17 _ _ e_o11
    have e_o12 := s_o17 _ _ e_o12
    have e_o13 := s_o17 _ _ e_o13
    have e_o14 := s_o17 _ _ e_o14
    have e_o15 := s_o17 _ _ e_o15
    have e_o16 := s_o17 _ _ e_o16
    refine ⟨by show 1 ≤ 1000; decide, fun H_o18 o18 s_o18 e_o18 => ?_⟩
    have sm := Gm.Same.trans sm s_o18
    have hp := bowl_same hp s_o18
    have e_o1 := s_o18 _ _ e_o1
    have e_o2 := s_o18 _ _ e_o2
    have e_o3 := s_o18 _ _ e_o3
    have e_o4 := s_o18 _ _ e_o4
    have e_o5 := s_o18 _ _ e_o5
    have e_o6 := s_o18 _ _ e_o6
    have e_o7 := s_o18 _ _ e_o7
    have e_o8 := s_o18 _ _ e_o8
    have e_o9 := s_o18 _ _ e_o9
    have e_o10 := s_o18 _ _ e_o10
    have e_o11 := s_o18 _ _ e_o11
    have e_o12 := s_o18 _ _ e_o12
    have e_o13 := s_o18 _ _ e_o13
    have e_o14 := s_o18 _ _ e_o14
    have e_o15 := s_o18 _ _ e_o15
    have e_o16 := s_o18 _ _ e_o16
    have e_o17 := s_o18 _ _ e_o17
    refine ⟨by show 1 ≤ 1000; decide, fun H_o19 o19 s_o19 e_o19 => ?_⟩
    have sm := Gm.Same.trans sm s_o19
    have hp := bowl_same hp s_o19
    have e_o1 := s_o19 _ _ e_o1
    have e_o2 := s_o19 _ _ e_o2
    have e_o3 := s_o19 _ _ e_o3
    have e_o4 := s_o19 _ _ e_o4
    have e_o5 := s_o19 _ _ e_o5
    have e_o6 := s_o19 _ _ e_o6
    have e_o7 := s_o19 _ _ e_o7
    have e_o8 := s_o19 _ _ e_o8
    have e_o9 := s_o19 _ _ e_o9
    have e_o10 := s_o19 _ _ e_o10
    have e_o11 := s_o19 _ _ e_o11
    have e_o12 := s_o19 _ _ e_o12
    have e_o13 := s_o19 _ _ e_o13
    have e_o14 := s_o19 _ _ e_o14
    have e_o15 := s_o19 _ _ e_o15
    have e_o16 := s_o19 _ _ e_o16
    have e_o17 := s_o19 _ _ e_o17
    have e_o18 := s_o19 _ _ e_o18
    refine ⟨by show 2 ≤ 1000; decide, fun H_o20 o20 s_o20 e_o20 => ?_⟩
    have sm := Gm.Same.trans sm s_o20
    have hp := bowl_same hp s_o20
    have e_o1 := s_o20 _ _ e_o1
    have e_o2 := s_o20 _ _ e_o2
    have e_o3 := s_o20 _ _ e_o3
    have e_o4 := s_o20 _ _ e_o4
    have e_o5 := s_o20 _ _ e_o5
    have e_o6 := s_o20 _ _ e_o6
    have e_o7 := s_o20 _ _ e_o7
    have e_o8 := s_o20 _ _ e_o8
    have e_o9 := s_o20 _ _ e_o9
    have e_o10 := s_o20 _ _ e_o10
    have e_o11 := s_o20 _ _ e_o11
    have e_o12 := s_o20 _ _ e_o12
    have e_o13 := s_o20 _ _ e_o13
    have e_o14 := s_o20 _ _ e_o14
    have e_o15 := s_o20 _ _ e_o15
    have e_o16 := s_o20 _ _ e_o16
    have e_o17 := s_o20 _ _ e_o17
    have e_o18 := s_o20 _ _ e_o18
    have e_o19 := s_o20 _ _ e_o19
    refine ⟨by show 4 ≤ 1000; decide, fun H_o21 o21 s_o21 e_o21 => ?_⟩
    have sm := Gm.Same.trans sm s_o21
    have hp := bowl_same hp s_o21
    have e_o1 := s_o21 _ _ e_o1
    have e_o2 := s_o21 _ _ e_o2
    have e_o3 := s_o21 _ _ e_o3
    have e_o4 := s_o21 _ _ e_o4
    have e_o5 := s_o21 _ _ e_o5
    have e_o6 := s_o21 _ _ e_o6
    have e_o7 := s_o21 _ _ e_o7
    have e_o8 := s_o21 _ _ e_o8
    have e_o9 := s_o21 _ _ e_o9
    have e_o10 := s_o21 _ _ e_o10
    have e_o11 := s_o21 _ _ e_o11
    have e_o12 := s_o21 _ _ e_o12
    have e_o13 := s_o21 _ _ e_o13
    have e_o14 := s_o21 _ _ e_o14
    have e_o15 := s_o21 _ _ e_o15
    have e_o16 := s_o21 _ _ e_o16
    have e_o17 := s_o21 _ _ e_o17
    have e_o18 := s_o21 _ _ e_o18
    have e_o19 := s_o21 _ _ e_o19
    have e_o20 := s_o21 _ _ e_o20
    refine ⟨o11, o21, _, _, rfl, rfl, e_o11, e_o21, by show 6 + 4 ≤ 1000; decide, fun H_o22 o22 s_o22 e_o22 => ?_⟩
    have sm := Gm.Same.trans sm s_o22
    have hp := bowl_same hp s_o22
    have e_o1 := s_o22 _ _ e_o1
    have e_o2 := s_o22 _ _ e_o2
    have e_o3 := s_o22 _ _ e_o3
    have e_o4 := s_o22 _ _ e_o4
    have e_o5 := s_o22 _ _ e_o5
    have e_o6 := s_o22 _ _ e_o6
    have e_o7 := s_o22 _ _ e_o7
    have e_o8 := s_o22 _ _ e_o8
    have e_o9 := s_o22 _ _ e_o9
    have e_o10 := s_o22 _ _ e_o10
    have e_o11 := s_o22 _ _ e_o11
    have e_o12 := s_o22 _ _ e_o12
    have e_o13 := s_o22 _ _ e_o13
    have e_o14 := s_o22 _ _ e_o14
    have e_o15 := s_o22 _ _ e_o15
    have e_o16 := s_o22 _ _ e_o16
    have e_o17 := s_o22 _ _ e_o17
    have e_o18 := s_o22 _ _ e_o18
    have e_o19 := s_o22 _ _ e_o19
    have e_o20 := s_o22 _ _ e_o20
    have e_o21 := s_o22 _ _ e_o21
    refine ⟨_, rfl, ?_⟩
    refine ⟨by show 3 ≤ 1000; decide, fun H_o23 o23 s_o23 e_o23 => ?_⟩
    have sm := Gm.Same.trans sm s_o23
    have hp := bowl_same hp s_o23
    have e_o1 := s_o23 _ _ e_o1
    have e_o2 := s_o23 _ _ e_o2
    have e_o3 := s_o23 _ _ e_o3
    have e_o4 := s_o23 _ _ e_o4
    have e_o5 := s_o23 _ _ e_o5
    have e_o6 := s_o23 _ _ e_o6
    have e_o7 := s_o23 _ _ e_o7
    have e_o8 := s_o23 _ _ e_o8
    have e_o9 := s_o23 _ _ e_o9
    have e_o10 := s_o23 _ _ e_o10
    have e_o11 := s_o23 _ _ e_o11
    have e_o12 := s_o23 _ _ e_o12
    have e_o13 := s_o23 _ _ e_o13
    have e_o14 := s_o23 _ _ e_o14
    have e_o15 := s_o23 _ _ e_o15
    have e_o16 := s_o23 _ _ e_o16
    have e_o17 := s_o23 _ _ e_o17
    have e_o18 := s_o23 _ _ e_o18
    have e_o19 := s_o23 _ _ e_o19
    have e_o20 := s_o23 _ _ e_o20
    have e_o21 := s_o23 _ _ e_o21
    have e_o22 := s_o23 _ _ e_o22
    refine ⟨by show 2 ≤ 1000; decide, fun H_o24 o24 s_o24 e_o24 => ?_⟩
    have sm := Gm.Same.trans sm s_o24
    have hp := bowl_same hp s_o24
    have e_o1 := s_o24 _ _ e_o1
    have e_o2 := s_o24 _ _ e_o2
    have e_o3 := s_o24 _ _ e_o3
    have e_o4 := s_o24 _ _ e_o4
    have e_o5 := s_o24 _ _ e_o5
    have e_o6 := s_o24 _ _ e_o6
    have e_o7 := s_o24 _ _ e_o7
    have e_o8 := s_o24 _ _ e_o8
    have e_o9 := s_o24 _ _ e_o9
    have e_o10 := s_o24 _ _ e_o10
    have e_o11 := s_o24 _ _ e_o11
    have e_o12 := s_o24 _ _ e_o12
    have e_o13 := s_o24 _ _ e_o13
    have e_o14 := s_o24 _ _ e_o14
    have e_o15 := s_o24 _ _ e_o15
    have e_o16 := s_o24 _ _ e_o16
    have e_o17 := s_o24 _ _ e_o17
    have e_o18 := s_o24 _ _ e_o18
    have e_o19 := s_o24 _ _ e_o19
    have e_o20 := s_o24 _ _ e_o20
    have e_o21 := s_o24 _ _ e_o21
    have e_o22 := s_o24 _ _ e_o22
    have e_o23 := s_o24 _ _ e_o23
    refine ⟨by show 1 ≤ 1000; decide, fun H_o25 o25 s_o25 e_o25 => ?_⟩
    have sm := Gm.Same.trans sm s_o25
    have hp := bowl_same hp s_o25
    have e_o1 := s_o25 _ _ e_o1
    have e_o2 := s_o25 _ _ e_o2
    have e_o3 := s_o25 _ _ e_o3
    have e_o4 := s_o25 _ _ e_o4
    have e_o5 := s_o25 _ _ e_o5
    have e_o6 := s_o25 _ _ e_o6
    have e_o7 := s_o25 _ _ e_o7
    have e_o8 := s_o25 _ _ e_o8
    have e_o9 := s_o25 _ _ e_o9
    have e_o10 := s_o25 _ _ e_o10
    have e_o11 := s_o25 _ _ e_o11
    have e_o12 := s_o25 _ _ e_o12
    have e_o13 := s_o25 _ _ e_o13
    have e_o14 := s_o25 _ _ e_o14
    have e_o15 := s_o25 _ _ e_o15
    have e_o16 := s_o25 _ _ e_o16
    have e_o17 := s_o25 _ _ e_o17
    have e_o18 := s_o25 _ _ e_o18
    have e_o19 := s_o25 _ _ e_o19
    have e_o20 := s_o25 _ _ e_o20
    have e_o21 := s_o25 _ _ e_o21
    have e_o22 := s_o25 _ _ e_o22
    have e_o23 := s_o25 _ _ e_o23
    have e_o24 := s_o25 _ _ e_o24
    refine ⟨by show 2 ≤ 1000; decide, fun H_o26 o26 s_o26 e_o26 => ?_⟩
    have sm := Gm.Same.trans sm s_o26
    have hp := bowl_same hp s_o26
    have e_o1 := s_o26 _ _ e_o1
    have e_o2 := s_o26 _ _ e_o2
    have e_o3 := s_o26 _ _ e_o3
    have e_o4 := s_o26 _ _ e_o4
    have e_o5 := s_o26 _ _ e_o5
    have e_o6 := s_o26 _ _ e_o6
    have e_o7 := s_o26 _ _ e_o7
    have e_o8 := s_o26 _ _ e_o8
    have e_o9 := s_o26 _ _ e_o9
    have e_o10 := s_o26 _ _ e_o10
    have e_o11 := s_o26 _ _ e_o11
    have e_o12 := s_o26 _ _ e_o12
    have e_o13 := s_o26 _ _ e_o13
    have e_o14 := s_o26 _ _ e_o14
    have e_o15 := s_o26 _ _ e_o15
    have e_o16 := s_o26 _ _ e_o16
    have e_o17 := s_o26 _ _ e_o17
    have e_o18 := s_o26 _ _ e_o18
    have e_o19 := s_o26 _ _ e_o19
    have e_o20 := s_o26 _ _ e_o20
    have e_o21 := s_o26 _ _ e_o21
    have e_o22 := s_o26 _ _ e_o22
    have e_o23 := s_o26 _ _ e_o23
    have e_o24 := s_o26 _ _ e_o24
    have e_o25 := s_o26 _ _ e_o25
    refine ⟨by show 2 ≤ 1000; decide, fun H_o27 o27 s_o27 e_o27 => ?_⟩
    have sm := Gm.Same.trans sm s_o27
    have hp := bowl_same hp s_o27
    have e_o1 := s_o27 _ _ e_o1
    have e_o2 := s_o27 _ _ e_o2
    have e_o3 := s_o27 _ _ e_o3
    have e_o4 := s_o27 _ _ e_o4
    have e_o5 := s_o27 _ _ e_o5
    have e_o6 := s_o27 _ _ e_o6
    have e_o7 := s_o27 _ _ e_o7
    have e_o8 := s_o27 _ _ e_o8
    have e_o9 := s_o27 _ _ e_o9
    have e_o10 := s_o27 _ _ e_o10
    have e_o11 := s_o27 _ _ e_o11
    have e_o12 := s_o27 _ _ e_o12
    have e_o13 := s_o27 _ _ e_o13
    have e_o14 := s_o27 _ _ e_o14
    have e_o15 := s_o27 _ _ e_o15
    have e_o16 := s_o27 _ _ e_o16
    have e_o17 := s_o27 _ _ e_o17
    have e_o18 := s_o27 _ _ e_o18
    have e_o19 := s_o27 _ _ e_o19
    have e_o20 := s_o27 _ _ e_o20
    have e_o21 := s_o27 _ _ e_o21
    have e_o22 := s_o27 _ _ e_o22
    have e_o23 := s_o27 _ _ e_o23
    have e_o24 := s_o27 _ _ e_o24
    have e_o25 := s_o27 _ _ e_o25
    have e_o26 := s_o27 _ _ e_o26
    refine ⟨o22, o27, _, _, rfl, rfl, e_o22, e_o27, by show 10 + 2 ≤ 1000; decide, fun H_o28 o28 s_o28 e_o28 => ?_⟩
    have sm := Gm.Same.trans sm s_o28
    have hp := bowl_same hp s_o28
    have e_o1 := s_o28 _ _ e_o1
    have e_o2 := s_o28 _ _ e_o2
    have e_o3 := s_o28 _ _ e_o3
    have e_o4 := s_o28 _ _ e_o4
    have e_o5 := s_o28 _ _ e_o5
    have e_o6 := s_o28 _ _ e_o6
    have e_o7 := s_o28 _ _ e_o7
    have e_o8 := s_o28 _ _ e_o8
    have e_o9 := s_o28 _ _ e_o9
    have e_o10 := s_o28 _ _ e_o10
    have e_o11 := s_o28 _ _ e_o11
    have e_o12 := s_o28 _ _ e_o12
    have e_o13 := s_o28 _ _ e_o13
    have e_o14 := s_o28 _ _ e_o14
    have e_o15 := s_o28 _ _ e_o15
    have e_o16 := s_o28 _ _ e_o16
    have e_o17 := s_o28 _ _ e_o17
    have e_o18 := s_o28 _ _ e_o18
    have e_o19 := s_o28 _ _ e_o19
    have e_o20 := s_o28 _ _ e_o20
    have e_o21 := s_o28 _ _ e_o21
    have e_o22 := s_o28 _ _ e_o22
    have e_o23 := s_o28 _ _ e_o23
    have e_o24 := s_o28 _ _ e_o24
    have e_o25 := s_o28 _ _ e_o25
    have e_o26 := s_o28 _ _ e_o26
    have e_o27 := s_o28 _ _ e_o27
    refine ⟨_, rfl, _, rfl, ?_⟩
    refine ⟨by show 1 ≤ 1000; decide, fun H_o29 o29 s_o29 e_o29 => ?_⟩
    have sm := Gm.Same.trans sm s_o29
    have hp := bowl_same hp s_o29
    have e_o1 := s_o29 _ _ e_o1
    have e_o2 := s_o29 _ _ e_o2
    have e_o3 := s_o29 _ _ e_o3
    have e_o4 := s_o29 _ _ e_o4
    have e_o5 := s_o29 _ _ e_o5
    have e_o6 := s_o29 _ _ e_o6
    have e_o7 := s_o29 _ _ e_o7
    have e_o8 := s_o29 _ _ e_o8
    have e_o9 := s_o29 _ _ e_o9
    have e_o10 := s_o29 _ _ e_o10
    have e_o11 := s_o29 _ _ e_o11
    have e_o12 := s_o29 _ _ e_o12
    have e_o13 := s_o29 _ _ e_o13
    have e_o14 := s_o29 _ _ e_o14
    have e_o15 := s_o29 _ _ e_o15
    have e_o16 := s_o29 _ _ e_o16
    have e_o17 := s_o29 _ _ e_o17
    have e_o18 := s_o29 _ _ e_o18
    have e_o19 := s_o29 _ _ e_o19
    have e_o20 := s_o29 _ _ e_o20
    have e_o21 := s_o29 _ _ e_o21
    have e_o22 := s_o29 _ _ e_o22
    have e_o23 := s_o29 _ _ e_o23
    have e_o24 := s_o29 _ _ e_o24
    have e_o25 := s_o29 _ _ e_o25
    have e_o26 := s_o29 _ _ e_o26
    have e_o27 := s_o29 _ _ e_o27
    have e_o28 := s_o29 _ _ e_o28
    refine ⟨o29, 21, [.str "xyz"], rfl, rfl, SqT.of e_o29, by simp, by decide, by decide, by show 1 ≤ 1000; decide, fun o30 z_o30 => ?_⟩
    have s_o30 := same_upd (o := HO.tup (List.replicate (Int.toNat 21) [V.str "xyz"]).flatten) z_o30
    have e_o30 := new_at (o := HO.tup (List.replicate (Int.toNat 21) [V.str "xyz"]).flatten) z_o30
    generalize hh_o30 : upd _ o30 (HO.tup _) = Hx_o30 at s_o30 e_o30 ⊢
    have sm := Gm.Same.trans sm s_o30
    have hp := bowl_same hp s_o30
    have e_o1 := s_o30 _ _ e_o1
    have e_o2 := s_o30 _ _ e_o2
    have e_o3 := s_o30 _ _ e_o3
    have e_o4 := s_o30 _ _ e_o4
    have e_o5 := s_o30 _ _ e_o5
    have e_o6 := s_o30 _ _ e_o6
    have e_o7 := s_o30 _ _ e_o7
    have e_o8 := s_o30 _ _ e_o8
    have e_o9 := s_o30 _ _ e_o9
    have e_o10 := s_o30 _ _ e_o10
    have e_o11 := s_o30 _ _ e_o11
    have e_o12 := s_o30 _ _ e_o12
    have e_o13 := s_o30 _ _ e_o13
    have e_o14 := s_o30 _ _ e_o14
    have e_o15 := s_o30 _ _ e_o15
    have e_o16 := s_o30 _ _ e_o16
    have e_o17 := s_o30 _ _ e_o17
    have e_o18 := s_o30 _ _ e_o18
    have e_o19 := s_o30 _ _ e_o19
    have e_o20 := s_o30 _ _ e_o20
    have e_o21 := s_o30 _ _ e_o21
    have e_o22 := s_o30 _ _ e_o22
    have e_o23 := s_o30 _ _ e_o23
    have e_o24 := s_o30 _ _ e_o24
    have e_o25 := s_o30 _ _ e_o25
    have e_o26 := s_o30 _ _ e_o26
    have e_o27 := s_o30 _ _ e_o27
    have e_o28 := s_o30 _ _ e_o28
    have e_o29 := s_o30 _ _ e_o29
    refine ⟨by show 2 ≤ 1000; decide, fun H_o31 o31 s_o31 e_o31 => ?_⟩
    have sm := Gm.Same.trans sm s_o31
    have hp := bowl_same hp s_o31
    have e_o1 := s_o31 _ _ e_o1
    have e_o2 := s_o31 _ _ e_o2
    have e_o3 := s_o31 _ _ e_o3
    have e_o4 := s_o31 _ _ e_o4
    have e_o5 := s_o31 _ _ e_o5
    have e_o6 := s_o31 _ _ e_o6
    have e_o7 := s_o31 _ _ e_o7
    have e_o8 := s_o31 _ _ e_o8
    have e_o9 := s_o31 _ _ e_o9
    have e_o10 := s_o31 _ _ e_o10
    have e_o11 := s_o31 _ _ e_o11
    have e_o12 := s_o31 _ _ e_o12
    have e_o13 := s_o31 _ _ e_o13
    have e_o14 := s_o31 _ _ e_o14
    have e_o15 := s_o31 _ _ e_o15
    have e_o16 := s_o31 _ _ e_o16
    have e_o17 := s_o31 _ _ e_o17
    have e_o18 := s_o31 _ _ e_o18
    have e_o19 := s_o31 _ _ e_o19
    have e_o20 := s_o31 _ _ e_o20
    have e_o21 := s_o31 _ _ e_o21
    have e_o22 := s_o31 _ _ e_o22
    have e_o23 := s_o31 _ _ e_o23
    have e_o24 := s_o31 _ _ e_o24
    have e_o25 := s_o31 _ _ e_o25
    have e_o26 := s_o31 _ _ e_o26
    have e_o27 := s_o31 _ _ e_o27
    have e_o28 := s_o31 _ _ e_o28
    have e_o29 := s_o31 _ _ e_o29
    have e_o30 := s_o31 _ _ e_o30
    refine ⟨by show 2 ≤ 1000; decide, fun H_o32 o32 s_o32 e_o32 => ?_⟩
    have sm := Gm.Same.trans sm s_o32
    have hp := bowl_same hp s_o32
    have e_o1 := s_o32 _ _ e_o1
    have e_o2 := s_o32 _ _ e_o2
    have e_o3 := s_o32 _ _ e_o3
    have e_o4 := s_o32 _ _ e_o4
    have e_o5 := s_o32 _ _ e_o5
    have e_o6 := s_o32 _ _ e_o6
    have e_o7 := s_o32 _ _ e_o7
    have e_o8 := s_o32 _ _ e_o8
    have e_o9 := s_o32 _ _ e_o9
    have e_o10 := s_o32 _ _ e_o10
    have e_o11 := s_o32 _ _ e_o11
    have e_o12 := s_o32 _ _ e_o12
    have e_o13 := s_o32 _ _ e_o13
    have e_o14 := s_o32 _ _ e_o14
    have e_o15 := s_o32 _ _ e_o15
    have e_o16 := s_o32 _ _ e_o16
    have e_o17 := s_o32 _ _ e_o17
    have e_o18 := s_o32 _ _ e_o18
    have e_o19 := s_o32 _ _ e_o19
    have e_o20 := s_o32 _ _ e_o20
    have e_o21 := s_o32 _ _ e_o21
    have e_o22 := s_o32 _ _ e_o22
    have e_o23 := s_o32 _ _ e_o23
    have e_o24 := s_o32 _ _ e_o24
    have e_o25 := s_o32 _ _ e_o25
    have e_o26 := s_o32 _ _ e_o26
    have e_o27 := s_o32 _ _ e_o27
    have e_o28 := s_o32 _ _ e_o28
    have e_o29 := s_o32 _ _ e_o29
    have e_o30 := s_o32 _ _ e_o30
    have e_o31 := s_o32 _ _ e_o31
    refine ⟨by show 2 ≤ 1000; decide, fun H_o33 o33 s_o33 e_o33 => ?_⟩
    have sm := Gm.Same.trans sm s_o33
    have hp := bowl_same hp s_o33
    have e_o1 := s_o33 _ _ e_o1
    have e_o2 := s_o33 _ _ e_o2
    have e_o3 := s_o33 _ _ e_o3
    have e_o4 := s_o33 _ _ e_o4
    have e_o5 := s_o33 _ _ e_o5
    have e_o6 := s_o33 _ _ e_o6
    have e_o7 := s_o33 _ _ e_o7
    have e_o8 := s_o33 _ _ e_o8
    have e_o9 := s_o33 _ _ e_o9
    have e_o10 := s_o33 _ _ e_o10
    have e_o11 := s_o33 _ _ e_o11
    have e_o12 := s_o33 _ _ e_o12
    have e_o13 := s_o33 _ _ e_o13
    have e_o14 := s_o33 _ _ e_o14
    have e_o15 := s_o33 _ _ e_o15
    have e_o16 := s_o33 _ _ e_o16
    have e_o17 := s_o33 _ _ e_o17
    have e_o18 := s_o33 _ _ e_o18
    have e_o19 := s_o33 _ _ e_o19
    have e_o20 := s_o33 _ _ e_o20
    have e_o21 := s_o33 _ _ e_o21
    have e_o22 := s_o33 _ _ e_o22
    have e_o23 := s_o33 _ _ e_o23
    have e_o24 := s_o33 _ _ e_o24
    have e_o25 := s_o33 _ _ e_o25
    have e_o26 := s_o33 _ _ e_o26
    have e_o27 := s_o33 _ _ e_o27
    have e_o28 := s_o33 _ _ e_o28
    have e_o29 := s_o33 _ _ e_o29
    have e_o30 := s_o33 _ _ e_o30
    have e_o31 := s_o33 _ _ e_o31
    have e_o32 := s_o33 _ _ e_o32
    refine ⟨by show 2 ≤ 1000; decide, fun H_o34 o34 s_o34 e_o34 => ?_⟩
    have sm := Gm.Same.trans sm s_o34
    have hp := bowl_same hp s_o34
    have e_o1 := s_o34 _ _ e_o1
    have e_o2 := s_o34 _ _ e_o2
    have e_o3 := s_o34 _ _ e_o3
    have e_o4 := s_o34 _ _ e_o4
    have e_o5 := s_o34 _ _ e_o5
    have e_o6 := s_o34 _ _ e_o6
    have e_o7 := s_o34 _ _ e_o7
    have e_o8 := s_o34 _ _ e_o8
    have e_o9 := s_o34 _ _ e_o9
    have e_o10 := s_o34 _ _ e_o10
    have e_o11 := s_o34 _ _ e_o11
    have e_o12 := s_o34 _ _ e_o12
    have e_o13 := s_o34 _ _ e_o13
    have e_o14 := s_o34 _ _ e_o14
    have e_o15 := s_o34 _ _ e_o15
    have e_o16 := s_o34 _ _ e_o16
    have e_o17 := s_o34 _ _ e_o17
    have e_o18 := s_o34 _ _ e_o18
    have e_o19 := s_o34 _ _ e_o19
    have e_o20 := s_o34 _ _ e_o20
    have e_o21 := s_o34 _ _ e_o21
    have e_o22 := s_o34 _ _ e_o22
    have e_o23 := s_o34 _ _ e_o23
    have e_o24 := s_o34 _ _ e_o24
    have e_o25 := s_o34 _ _ e_o25
    have e_o26 := s_o34 _ _ e_o26
    have e_o27 := s_o34 _ _ e_o27
    have e_o28 := s_o34 _ _ e_o28
    have e_o29 := s_o34 _ _ e_o29
    have e_o30 := s_o34 _ _ e_o30
    have e_o31 := s_o34 _ _ e_o31
    have e_o32 := s_o34 _ _ e_o32
    have e_o33 := s_o34 _ _ e_o33
    refine ⟨by show 3 ≤ 1000; decide, fun H_o35 o35 s_o35 e_o35 => ?_⟩
    have sm := Gm.Same.trans sm s_o35
    have hp := bowl_same hp s_o35
    have e_o1 := s_o35 _ _ e_o1
    have e_o2 := s_o35 _ _ e_o2
    have e_o3 := s_o35 _ _ e_o3
    have e_o4 := s_o35 _ _ e_o4
    have e_o5 := s_o35 _ _ e_o5
    have e_o6 := s_o35 _ _ e_o6
    have e_o7 := s_o35 _ _ e_o7
    have e_o8 := s_o35 _ _ e_o8
    have e_o9 := s_o35 _ _ e_o9
    have e_o10 := s_o35 _ _ e_o10
    have e_o11 := s_o35 _ _ e_o11
    have e_o12 := s_o35 _ _ e_o12
    have e_o13 := s_o35 _ _ e_o13
    have e_o14 := s_o35 _ _ e_o14
    have e_o15 := s_o35 _ _ e_o15
    have e_o16 := s_o35 _ _ e_o16
    have e_o17 := s_o35 _ _ e_o17
    have e_o18 := s_o35 _ _ e_o18
    have e_o19 := s_o35 _ _ e_o19
    have e_o20 := s_o35 _ _ e_o20
    have e_o21 := s_o35 _ _ e_o21
    have e_o22 := s_o35 _ _ e_o22
    have e_o23 := s_o35 _ _ e_o23
    have e_o24 := s_o35 _ _ e_o24
    have e_o25 := s_o35 _ _ e_o25
    have e_o26 := s_o35 _ _ e_o26
    have e_o27 := s_o35 _ _ e_o27
    have e_o28 := s_o35 _ _ e_o28
    have e_o29 := s_o35 _ _ e_o29
    have e_o30 := s_o35 _ _ e_o30
    have e_o31 := s_o35 _ _ e_o31
    have e_o32 := s_o35 _ _ e_o32
    have e_o33 := s_o35 _ _ e_o33
    have e_o34 := s_o35 _ _ e_o34
    refine ⟨o28, o35, _, _, rfl, rfl, e_o28, e_o35, by show 12 + 3 ≤ 1000; decide, fun H_o36 o36 s_o36 e_o36 => ?_⟩
    have sm := Gm.Same.trans sm s_o36
    have hp := bowl_same hp s_o36
    have e_o1 := s_o36 _ _ e_o1
    have e_o2 := s_o36 _ _ e_o2
    have e_o3 := s_o36 _ _ e_o3
    have e_o4 := s_o36 _ _ e_o4
    have e_o5 := s_o36 _ _ e_o5
    have e_o6 := s_o36 _ _ e_o6
    have e_o7 := s_o36 _ _ e_o7
    have e_o8 := s_o36 _ _ e_o8
    have e_o9 := s_o36 _ _ e_o9
    have e_o10 := s_o36 _ _ e_o10
    have e_o11 := s_o36 _ _ e_o11
    have e_o12 := s_o36 _ _ e_o12
    have e_o13 := s_o36 _ _ e_o13
    have e_o14 := s_o36 _ _ e_o14
    have e_o15 := s_o36 _ _ e_o15
    have e_o16 := s_o36 _ _ e_o16
    have e_o17 := s_o36 _ _ e_o17
    have e_o18 := s_o36 _ _ e_o18
    have e_o19 := s_o36 _ _ e_o19
    have e_o20 := s_o36 _ _ e_o20
    have e_o21 := s_o36 _ _ e_o21
    have e_o22 := s_o36 _ _ e_o22
    have e_o23 := s_o36 _ _ e_o23
    have e_o24 := s_o36 _ _ e_o24
    have e_o25 := s_o36 _ _ e_o25
    have e_o26 := s_o36 _ _ e_o26
    have e_o27 := s_o36 _ _ e_o27
    have e_o28 := s_o36 _ _ e_o28
    have e_o29 := s_o36 _ _ e_o29
    have e_o30 := s_o36 _ _ e_o30
    have e_o31 := s_o36 _ _ e_o31
    have e_o32 := s_o36 _ _ e_o32
    have e_o33 := s_o36 _ _ e_o33
    have e_o34 := s_o36 _ _ e_o34
    have e_o35 := s_o36 _ _ e_o35
    have n_S : o36 ≠ p := ne_lstp hp e_o36 (fun _ _ _ z => by simp at z)
    refine ⟨p, o36, _, rfl, hp, n_S, e_o36, by simp, by simp, fun H2 v R hv => ?_⟩
    have st : Stir p H H2 := (Stir.refl hp0).same sm |>.trans R
    simp only [List.cons_append, List.nil_append, List.mem_cons, List.not_mem_nil, or_false] at hv
    rcases hv with rfl | rfl | rfl | rfl | rfl | rfl | rfl | rfl | rfl | rfl | rfl | rfl | rfl | rfl | rfl
    · exact q H2 _ _ _ st (ne_bowl hp e_o1 (fun _ z => by cases z)) (R.1 _ _ (ne_bowl hp e_o1 (fun _ z => by cases z)) e_o1) (BMenu.keep (.inl ⟨_, _, .non, fun K => kit_ty (by decide +kernel), rfl⟩) (.but R.1))
    · exact q H2 _ _ _ st (ne_bowl hp e_o3 (fun _ z => by cases z)) (R.1 _ _ (ne_bowl hp e_o3 (fun _ z => by cases z)) e_o3) (BMenu.keep (.inl ⟨_, _, .lst (ne_lstp hp e_o2 (fun _ _ _ z => by simp at z)) e_o2 (.cons (.str _) .nil), fun K => kit_ty (by decide +kernel), rfl⟩) (.but R.1))
    · exact q H2 _ _ _ st (ne_bowl hp e_o4 (fun _ z => by cases z)) (R.1 _ _ (ne_bowl hp e_o4 (fun _ z => by cases z)) e_o4) (BMenu.keep (.inl ⟨_, _, .str _, fun K => kit_ty (by decide +kernel), rfl⟩) (.but R.1))
    · exact q H2 _ _ _ st (ne_bowl hp e_o5 (fun _ z => by cases z)) (R.1 _ _ (ne_bowl hp e_o5 (fun _ z => by cases z)) e_o5) (BMenu.keep (.inl ⟨_, _, .int _, fun K => kit_ty (by decide +kernel), rfl⟩) (.but R.1))
    · exact q H2 _ _ _ st (ne_bowl hp e_o8 (fun _ z => by cases z)) (R.1 _ _ (ne_bowl hp e_o8 (fun _ z => by cases z)) e_o8) (BMenu.keep (.inr ⟨o7, _, rfl, (ne_bowl hp e_o7 (fun _ z => by cases z)), e_o7, .inl ⟨by decide +kernel, by decide +kernel, rfl⟩⟩) (.but R.1))
    · exact q H2 _ _ _ st (ne_bowl hp e_o10 (fun _ z => by cases z)) (R.1 _ _ (ne_bowl hp e_o10 (fun _ z => by cases z)) e_o10) (BMenu.keep (.inl ⟨_, _, .dic (ne_bowl hp e_o9 (fun _ z => by cases z)) e_o9, fun K => kit_ty (by decide +kernel), rfl⟩) (.but R.1))
    · exact q H2 _ _ _ st (ne_bowl hp e_o13 (fun _ z => by cases z)) (R.1 _ _ (ne_bowl hp e_o13 (fun _ z => by cases z)) e_o13) (BMenu.keep (.inr ⟨o12, _, rfl, (ne_bowl hp e_o12 (fun _ z => by cases z)), e_o12, .inr ⟨by show 2 ≤ 20; decide, 1, fun j y hj e => by match j, hj, e with | 0, _, e => (cases e; exact .inl ⟨_, .str _, by decide +kernel, by decide +kernel⟩) | j + 1, hj, _ => omega, ⟨_, rfl, .inl ⟨_, .str _, by decide +kernel, by decide +kernel⟩⟩, rfl⟩⟩) (.but R.1))
    · exact q H2 _ _ _ st (ne_bowl hp e_o15 (fun _ z => by cases z)) (R.1 _ _ (ne_bowl hp e_o15 (fun _ z => by cases z)) e_o15) (BMenu.keep (.inr ⟨o14, _, rfl, (ne_bowl hp e_o14 (fun _ z => by cases z)), e_o14, .inr ⟨by show 1 ≤ 20; decide, 0, fun j y hj _ => absurd hj (Nat.not_lt_zero j), ⟨_, rfl, .inl ⟨_, .str _, by decide +kernel, by decide +kernel⟩⟩, rfl⟩⟩) (.but R.1))
    · exact q H2 _ _ _ st (ne_bowl hp e_o17 (fun _ z => by cases z)) (R.1 _ _ (ne_bowl hp e_o17 (fun _ z => by cases z)) e_o17) (BMenu.keep (.inr ⟨o16, _, rfl, (ne_bowl hp e_o16 (fun _ z => by cases z)), e_o16, .inr ⟨by show 3 ≤ 20; decide, 2, fun j y hj e => by match j, hj, e with | 0, _, e => (cases e; exact .inl ⟨_, .str _, by decide +kernel, by decide +kernel⟩) | 1, _, e => (cases e; exact .inl ⟨_, .str _, by decide +kernel, by decide +kernel⟩) | j + 2, hj, _ => omega, ⟨_, rfl, .inl ⟨_, .non, by decide +kernel, by decide +kernel⟩⟩, rfl⟩⟩) (.but R.1))
    · exact q H2 _ _ _ st (ne_bowl hp e_o20 (fun _ z => by cases z)) (R.1 _ _ (ne_bowl hp e_o20 (fun _ z => by cases z)) e_o20) (BMenu.keep (.inr ⟨o19, _, rfl, (ne_bowl hp e_o19 (fun _ z => by cases z)), e_o19, .inr ⟨by show 1 ≤ 20; decide, 0, fun j y hj _ => absurd hj (Nat.not_lt_zero j), ⟨_, rfl, .inr ⟨o18, _, rfl, (ne_bowl hp e_o18 (fun _ z => by cases z)), e_o18, rfl⟩⟩, rfl⟩⟩) (.but R.1))
    · exact q H2 _ _ _ st (ne_bowl hp e_o24 (fun _ z => by cases z)) (R.1 _ _ (ne_bowl hp e_o24 (fun _ z => by cases z)) e_o24) (BMenu.keep (.inr ⟨o23, _, rfl, (ne_bowl hp e_o23 (fun _ z => by cases z)), e_o23, .inr ⟨by show 3 ≤ 20; decide, 1, fun j y hj e => by match j, hj, e with | 0, _, e => (cases e; exact .inl ⟨_, .str _, by decide +kernel, by decide +kernel⟩) | j + 1, hj, _ => omega, ⟨_, rfl, .inl ⟨_, .str _, by decide +kernel, by decide +kernel⟩⟩, rfl⟩⟩) (.but R.1))
    · exact q H2 _ _ _ st (ne_bowl hp e_o26 (fun _ z => by cases z)) (R.1 _ _ (ne_bowl hp e_o26 (fun _ z => by cases z)) e_o26) (BMenu.keep (.inr ⟨o25, _, rfl, (ne_bowl hp e_o25 (fun _ z => by cases z)), e_o25, .inr ⟨by show 1 ≤ 20; decide, 0, fun j y hj _ => absurd hj (Nat.not_lt_zero j), ⟨_, rfl, .inl ⟨_, .str _, by decide +kernel, by decide +kernel⟩⟩, rfl⟩⟩) (.but R.1))
    · exact q H2 _ _ _ st (ne_bowl hp e_o31 (fun _ z => by cases z)) (R.1 _ _ (ne_bowl hp e_o31 (fun _ z => by cases z)) e_o31) (BMenu.keep (.inr ⟨o30, _, rfl, (ne_bowl hp e_o30 (fun _ z => by cases z)), e_o30, .inl ⟨by decide +kernel, by decide +kernel, rfl⟩⟩) (.but R.1))
    · exact q H2 _ _ _ st (ne_bowl hp e_o33 (fun _ z => by cases z)) (R.1 _ _ (ne_bowl hp e_o33 (fun _ z => by cases z)) e_o33) (BMenu.keep (.inr ⟨o32, _, rfl, (ne_bowl hp e_o32 (fun _ z => by cases z)), e_o32, .inr ⟨by show 2 ≤ 20; decide, 0, fun j y hj _ => absurd hj (Nat.not_lt_zero j), ⟨_, rfl, .inl ⟨_, .int _, by decide +kernel, by decide +kernel⟩⟩, rfl⟩⟩) (.but R.1))
    · exact q H2 _ _ _ st (ne_bowl hp e_o34 (fun _ z => by cases z)) (R.1 _ _ (ne_bowl hp e_o34 (fun _ z => by cases z)) e_o34) (BMenu.keep (.inl ⟨_, _, .bl true, fun K => kit_ty (by decide +kernel), rfl⟩) (.but R.1))
end
end Gm

/-! repr of lists within lists, own instances among their leaves (the loop along the library's, its items' heaps told by Inv) -/
namespace PySem.W
open PySem PySem.Spec PySem.Calls PyProof.Rows Builtin
section
variable {prog : Program} {w : World} {A : Around} {E : Value → Shared → Prop} {s : Shared} {K : Frag} {x C f L : Addr} {ox : Obj} {od : Option Obj} {h₀ : Heap} {m : Str → Option Value}
theorem ifBoundBy_K {M : Model} {last : Value → List Value → Sem Value} {name : Str} {Q : Option Value → Shared → Prop} (X : K.In s.heap) (I : InstAt s.heap x ox C od) (hs : findIn K (.ref C) name = some (some (.ref f))) (hf : isFn K (.ref f) = true)
    (h : wpAny M A (last (.ref f) [.ref x]) (fun v => Q (some v)) E s) : wpAny M A (callSpecialIfBoundBy? last (.ref x) name) Q E s := by
  simp only [callSpecialIfBoundBy?, bindSpecialIfBound?]
  refine wpAny_holding (wpAny_bind (wpAny_bind (wpAny_bind (I.type.here ((looks_findIn X hs).here ?_)))))
  refine wpAny_bind (wpAny_askSetting (wpAny_ite ?_))
  have fin : wpAny M A (last (.ref f) [.ref x] >>= fun v => pure (some v)) Q E s := wpAny_bind (wpAny_mono h (fun v s' h' => wpAny_pure h') fun _ _ h' => h')
  split
  · exact wpAny_bind ((bind_fn X _ (beq_iff_eq.mp hf)).here (wpAny_pure (by exact fin)))
  · exact wpAny_tryCatch (wpAny_bind ((bind_fn X _ (beq_iff_eq.mp hf)).here (wpAny_pure (by exact fin))))
theorem reprUnder_K {base : Nat} {Q : Value → Shared → Prop} (hu : A.units < cLine) (F : Fr h₀ L s.heap m) (X₀ : K.In h₀) (I : InstAt s.heap x ox C od) (hs : findIn K (.ref C) "__repr__" = some (some (.ref f))) (hf : isFn K (.ref f) = true)
    (h : wpAny (model prog w) A (call (.ref f) [.ref x]) (StrBack Q) E s) : wpAny (model prog w) A (pyReprObjUnder base (.ref x)) Q E s := by
  unfold pyReprObjUnder pyReprObjBy
  refine wpAny_bind (wpAny_cRoomFor hu ?_)
  refine wpAny_bind (wpAny_bind (I.type.here ((looks_findIn (X₀.keeps F.keep) hs).here ?_)))
  show wpAny _ _ (if (some (Value.ref f)).isNone = true then _ else _) _ _ _
  rw [if_neg (by simp)]
  refine wpAny_bind (ifBoundBy_K (name := Str.ofString "__repr__") (X₀.keeps F.keep) I hs hf ?_)
  show wpAny _ _ (call (.ref f) ([.ref x] ++ [])) _ _ _
  refine wpAny_mono h (fun r s' hr => ?_) fun _ _ y => y
  cases r <;> first | exact hr.elim | skip
  refine wpAny_bind (wpAny_isInstance (typeIs_str _ _ _) isSubtype_str_str ?_)
  first
    | exact wpAny_pure hr
    | (rw [if_pos rfl]; exact wpAny_pure hr)
    | (simp only [if_true]; exact wpAny_pure hr)
end
end PySem.W
namespace L2
open PySem PySem.Spec PyProof.Rows
/-- an own instance stands in it: it is no data -/
inductive Odd (H : Hp) : Addr → Prop
  | own {a C dx : Addr} {fs : List (Str × V)} : H a = some (.ins C dx fs) → Odd H a
  | lst {a b : Addr} {xs : List V} : H a = some (.lst xs) → V.ref b ∈ xs → Odd H b → Odd H a
theorem Odd.same {H H' : Hp} {a : Addr} (h : Odd H a) (s : Same H H') : Odd H' a := by
  induction h with
  | own e => exact .own (s _ _ e)
  | lst e m _ ih => exact .lst (s _ _ e) m ih
/-- whose lists are being shown: none of them is data -/
def GOk (g : List Code) (H : Hp) : Prop := ∀ id v rest kw, Code.builtin id ⟨v :: rest, kw⟩ ∈ g → ∃ a, v = .ref a ∧ Odd H a
theorem GOk.same {g : List Code} {H H' : Hp} (h : GOk g H) (s : Same H H') : GOk g H' := fun id v rest kw m => let ⟨a, e, o⟩ := h id v rest kw m; ⟨a, e, o.same s⟩
theorem GOk.nil {H : Hp} : GOk [] H := fun _ _ _ _ m => nomatch m
theorem GOk.cons {g : List Code} {H : Hp} {a : Addr} {id : String} {rest : List Value} {kw : List (Str × Value)} (h : GOk g H) (o : Odd H a) : GOk (.builtin id ⟨.ref a :: rest, kw⟩ :: g) H := by
  intro id' v rest' kw' m
  rcases List.mem_cons.mp m with e | m
  · cases e
    exact ⟨a, rfl, o⟩
  · exact h id' v rest' kw' m
section
variable {X : Cx} {pins : List (Addr × Obj)} {σ : St} {H : Hp} {s : Shared}
theorem reads_mem {h : Heap} {vs : List Value} {ds : List PyData} {as : List Addr} (r : ReadsAll h vs ds as) : ∀ {v}, v ∈ vs → ∃ d bs, Reads h v d bs := by
  induction vs generalizing ds as with
  | nil => intro v m; cases m
  | cons u vs ih =>
    intro v m
    cases r with
    | cons r1 r2 =>
      rcases List.mem_cons.mp m with e | m
      · exact ⟨_, _, e ▸ r1⟩
      · exact ih r2 m
theorem Odd.no {a : Addr} (h : Odd H a) (I : Inv X pins σ H s) : ∀ d as, ¬ Reads s.heap (.ref a) d as := by
  induction h with
  | @own a C dx fs e =>
    intro d as r
    obtain ⟨mA, J, _⟩ := ins_get I.hok e
    have hg := J.obj
    cases r with
    | list h1 h2 _ _ =>
      rw [hg] at h1; cases h1
      have z : Value.ref C = .type "list" := h2
      cases z
    | tuple h1 h2 _ _ =>
      rw [hg] at h1; cases h1
      have z : Value.ref C = .type "tuple" := h2
      cases z
    | dict h1 h2 _ _ _ =>
      rw [hg] at h1; cases h1
      have z : Value.ref C = .type "dict" := h2
      cases z
  | @lst a b xs e m _ ih =>
    intro d as r
    obtain ⟨its, rv, hl, _⟩ := I.list (.inl (.inl e))
    obtain ⟨i, hi⟩ := List.mem_iff_getElem?.mp m
    obtain ⟨u, hu, ru⟩ := rv.get hi
    cases ru
    obtain ⟨o, ho, hc, n, hd⟩ := hl.isList
    cases r with
    | list h1 h2 h3 h4 =>
      rw [ho] at h1; cases h1
      rw [hd] at h3; cases h3
      obtain ⟨d', bs, r'⟩ := reads_mem h4 (List.mem_of_getElem? hu)
      exact ih _ _ r'
    | tuple h1 h2 _ _ => rw [ho] at h1; cases h1; rw [hc] at h2; exact absurd (Value.type.inj h2) (by decide)
    | dict h1 h2 _ _ _ => rw [ho] at h1; cases h1; rw [hc] at h2; exact absurd (Value.type.inj h2) (by decide)
/-- an item's text -/
def RepO (X : Cx) (k : Nat) (as : List Addr) (H : Hp) (x : V) (t : Str) : Prop :=
  ∀ (pins : List (Addr × Obj)) (s : Shared) (σ : St) (H1 : Hp) (u : Value) (A : Around) (g : List Code) (base : Nat) (E : Value → Shared → Prop) (Q : Str → Shared → Prop), Same H H1 → Inv X pins σ H1 s → RelV x u → Sub X k A → A.guards = some g → GOk g H1 → (∀ b ∈ as, Clear g b) → base + t.length ≤ sizeLine →
    (∀ s' H2, Same H1 H2 → Inv X pins σ H2 s' → Q t s') → wpAny (model X.prog X.w) A (pyReprUnder base u) Q E s
theorem RepO.same {k : Nat} {as : List Addr} {H H' : Hp} {x : V} {t : Str} (h : RepO X k as H x t) (e : Same H H') : RepO X k as H' x t :=
  fun pins s σ H1 u A g base E Q e1 => h pins s σ H1 u A g base E Q fun b o z => e1 b o (e b o z)
theorem Dq.same {K : PySem.W.Frag} {H H' : Hp} (e : Same H H') : ∀ {v d}, Dq K H v d → Dq K H' v d
  | _, _, .non => .non
  | _, _, .bl b => .bl b
  | _, _, .int i => .int i
  | _, _, .str x => .str x
  | _, _, .lst h1 h2 => .lst (h1.imp (fun z => z.imp (e _ _) fun ⟨o, z⟩ => ⟨o, e _ _ z⟩) id) (sameAll e h2)
  | _, _, .tup h1 h2 => .tup (h1.imp (fun z => z.imp (e _ _) fun ⟨o, z⟩ => ⟨o, e _ _ z⟩) id) (sameAll e h2)
  | _, _, .dic h1 => .dic (e _ _ h1)
where sameAll {K : PySem.W.Frag} {H H' : Hp} (e : Same H H') : ∀ {vs ds}, DqAll K H vs ds → DqAll K H' vs ds
  | _, _, .nil => .nil
  | _, _, .cons h1 h2 => .cons (Dq.same e h1) (sameAll e h2)
/-- data -/
theorem RepO.data {k : Nat} {H : Hp} {x : V} {d : PyData} (hm : ∃ mm, X.base.Ns sysModules mm) (hd : Dq X.K H x d) (hs : Sh d 16777216 60) : RepO X k [] H x d.shown := by
  intro pins s σ H1 u A g base E Q e I r sub hg hgo _ hb q
  obtain ⟨mm, hm⟩ := hm
  obtain ⟨as, rd, nm⟩ := Dq.reads (hm.keeps I.bk) I d _ _ (Dq.same e hd) r
  obtain ⟨bs, hbs, hk⟩ := ReprAllK.of_readsAll (prog := X.prog) (w := X.w) (.cons rd .nil) (by simpa [PyData.showableAll] using hs.ok) (fun _ => by simpa using nm) (fun t ht => by
    simp only [PyData.shownAll, List.mem_singleton] at ht
    rw [ht, sizeLine_eq]
    exact hs.long)
  simp only [PyData.shownAll] at hk
  cases hk with
  | cons h1 _ =>
    refine h1 base hb A g E s Q hg (fun b hbm => ?_) ?_ (fun _ _ z => z) fun h' tk kp => q _ H1 (fun _ _ z => z) (I.kept (t' := tk) kp)
    · obtain ⟨d', as', r', _⟩ := hbs b hbm
      intro id v rest kw m z
      obtain ⟨a, ea, o⟩ := hgo id v rest kw m
      rw [ea] at z
      cases z
      exact o.no I _ _ r'
    · have h1 := hs.deep
      have h2 := sub.room.un
      simp only [PyData.depthAll]
      omega
/-- an own instance whose class shows itself -/
theorem RepO.own {k n : Nat} {H : Hp} {C f a dx : Addr} {fs : List (Str × V)} {fd : FuncData} {ps : List Str} {sp : Sp} {t : Str} (F : FnOk X.prog X.w X.K X.mg X.base CX0 n f fd ps sp) (hk : n ≤ k) (hs : PySem.W.findIn X.K (.ref C) "__repr__" = some (some (.ref f))) (hf : PySem.W.isFn X.K (.ref f) = true)
    (hb : Binds X.K fd ps []) (ha : H a = some (.ins C dx fs)) (hsp : ∀ H1, Same H H1 → sp [.ref a] H1 (fun v H' => v = .str t ∧ Same H1 H') E0) : RepO X k [] H (.ref a) t := by
  intro pins s σ H1 u A g base E Q e I r sub hg hgo _ hbase q
  cases r
  have ha1 := e _ _ ha
  obtain ⟨mA, J, _⟩ := ins_get I.hok ha1
  obtain ⟨od, J, _⟩ := J.look
  obtain ⟨m, hF⟩ := I.fr
  refine wpAny_pyReprUnder_ref (by omega) (PySem.W.reprUnder_K sub.room.units0 hF I.ok.mod.kin J hs hf ?_)
  have e0 : Env0 X.prog X.w X.K X.mg X.base A X.stack s H1 := by
    have e := I.env0
    exact ⟨by rw [sub.fr]; exact e.frames, e.mod, e.bs, e.bsz, e.funs, e.frf, e.hok, e.bare⟩
  have hl := F.len _ _ _ _ (hsp H1 e)
  refine wpAny_call <| codeAny_mono (F.run A X.stack s H1 ⟨[.ref a], []⟩ [.ref a] [.ref a] _ E0 (sub.room.mono hk) e0 (by
    have := hb s [.ref a] I.kIn (by simpa using hl)
    simpa using this) (.cons rfl .nil) (hsp H1 e)) fun r s' hq => ?_
  cases r with
  | error e => exact hq.elim
  | ok fl =>
    cases fl with
    | ret w =>
      obtain ⟨v, H', I', rv, ev, sm⟩ := I.after hq
      subst ev
      obtain ⟨tk, rfl⟩ := rv
      exact ⟨_, _, rfl, q s' H' sm I'⟩
    | next => exact hq.elim
    | brk => exact hq.elim
    | cont => exact hq.elim
theorem sub_loop {k : Nat} {A : Around} {args : Args} (h : Sub X (k + 1) A) : Sub X k (A.under (.builtin "list.__repr__.loop" args)) := by
  have hd : (A.under (.builtin "list.__repr__.loop" args)).handled = A.handled := rfl
  have e1 : (A.under (.builtin "list.__repr__.loop" args)).depth ≤ A.depth + 1 := by
    first
      | exact Nat.le_succ _
      | exact Nat.le_refl _
      | simp [Around.under, Code.weight, Code.isCreation, Code.isGuard, Code.isCaller, Code.frames, Code.isFrame, guardIds]
  have e2 := units_under_list_loop A args
  have e3 : (A.under (.builtin "list.__repr__.loop" args)).frames = A.frames := by
    first
      | rfl
      | simp [Around.under, Code.envs, pushEnvs]
  obtain ⟨⟨h1, h2, h3⟩, h4⟩ := h
  exact ⟨⟨hd.trans h1, by omega, by rw [e2]; omega⟩, e3.trans h4⟩
/-- the loop over a list's items -/
theorem loopO {a P : Addr} {xs : List V} {ts : List Str} {as : List Addr} {k base : Nat} {A : Around} {g : List Code} (ha : H a = some (.lst xs)) (hodd : Odd H a) (hg : A.guards = some g) (hgo : GOk g H) (hcl : ∀ b ∈ as, Clear g b) (hS : Sub X (k + 1) A) (hna : a ∉ as) (hlen : ts.length = xs.length)
    (hT : ∀ (i : Nat) (x : V), xs[i]? = some x → ∃ t, ts[i]? = some t ∧ RepO X k as H x t) (hsz : base + (listText ts).length ≤ sizeLine) {R : Result → Shared → Prop} :
    ∀ (m i : Nat) (s : Shared) (H1 : Hp) (acc : Array Value) (c : Nat) (done : List (Str × Tok)), xs.length - i = m → i ≤ xs.length → Same H H1 → Inv X pins σ H1 s → FpOk X pins H1 P →
    s.heap.get? P = some { cls := .type "list", dict := none, data := .seq acc c, slots := #[] } → acc.toList = strValues done → done.map (·.1) = ts.take i →
    (∀ s' H2 u, Same H1 H2 → Inv X pins σ H2 s' → R (.ok (.ret (.str (listText ts) u))) s') →
    codeAny (model X.prog X.w) A (.builtin "list.__repr__.loop" ⟨[.ref a, rawInt i, .ref P, rawInt ((base + piled (ts.take i) : Nat) : Int)], []⟩) R s := by
  have hX : (listText ts).length = (textFrom 0 "[" ts).length + 1 := by
    show (textFrom 0 "[" ts ++ "]").length = _
    rw [strLen_append]; rfl
  have hL := textFrom_len ts 0 "["
  have hsz2 : ∀ t ∈ ts, t.length ≤ sizeLine := fun t ht => by
    have h2 := hL.2.1 t ht
    omega
  have hsz1 : ts.length ≤ sizeLine := by
    have h1 := hL.1
    rw [if_neg (Nat.lt_irrefl 0)] at h1
    omega
  have hsz3 : (listText ts).length ≤ sizeLine := by omega
  have hp3 := piled_le_listText ts
  intro m
  induction m with
  | zero =>
    intro i s H1 acc c done hk hi e I fP hP hacc hdone hR
    have hin : i = xs.length := by omega
    obtain ⟨its, rv, hl, _⟩ := I.list (.inl (.inl (e _ _ ha)))
    obtain ⟨o, ho, hc, n, hd⟩ := hl.isList
    have hli := rv.length
    refine codeAny_builtin F.entry_list_repr_loop ?_
    show wpAny _ _ (Builtin.«list.__repr__.loop» ⟨[.ref a, .int i 0, .ref P, .int ((base + piled (ts.take i) : Nat) : Int) 0], []⟩) _ _ s
    rw [repr_loop_tree]
    refine wpAny_bind (wpAny_listItems ho hd ?_)
    have hnone : (its.toArray)[(i : Int).toNat]? = none := by simp [hin]; omega
    simp only [hnone]
    unfold reprEnd
    refine wpAny_bind (wpAny_listItems hP rfl ?_)
    rw [hacc, repr_fold]
    refine wpAny_bind (wpAny_pure ?_)
    have hall : done.map (·.1) = ts := by rw [hdone, hin, ← hlen, List.take_length]
    rw [hall]
    refine wpAny_bind (wpAny_mkStr (wpAny_pure ?_) hsz3)
    exact hR _ H1 _ (fun _ _ z => z) (I.tok _)
  | succ m ih =>
    intro i s H1 acc c done hk hi e I fP hP hacc hdone hR
    have hlt : i < xs.length := by omega
    obtain ⟨its, rv, hl, _⟩ := I.list (.inl (.inl (e _ _ ha)))
    obtain ⟨o, ho, hc, n, hd⟩ := hl.isList
    have hx : xs[i]? = some xs[i] := List.getElem?_eq_getElem hlt
    obtain ⟨t, ht, hrep⟩ := hT i xs[i] hx
    obtain ⟨u, hu, ru⟩ := rv.get hx
    have hp1 := piled_take_succ ht
    have hp2 := piled_take_le ts (i + 1)
    refine codeAny_builtin F.entry_list_repr_loop ?_
    show wpAny _ _ (Builtin.«list.__repr__.loop» ⟨[.ref a, .int i 0, .ref P, .int ((base + piled (ts.take i) : Nat) : Int) 0], []⟩) _ _ s
    rw [repr_loop_tree]
    refine wpAny_bind (wpAny_listItems ho hd ?_)
    have hsome : (its.toArray)[(i : Int).toNat]? = some u := by simpa using hu
    simp only [hsome]
    rw [Int.toNat_natCast]
    have Ip := I.pinned (fp := [P]) (fun b hb => by rw [List.mem_singleton.mp hb]; exact fP) (fun b hb => by rw [List.mem_singleton.mp hb]; exact ⟨_, hP, fun v z => by cases z⟩)
    refine wpAny_bind (wpAny_holding (hrep _ s σ H1 u _ _ (base + piled (ts.take i) + 1) _ _ e Ip ru (sub_loop hS) (guards_under_guard (isGuard_list_loop _) hg) ((hgo.same e).cons (hodd.same e)) (fun b hb => (hcl b hb).cons (a := a) fun z => hna (z ▸ hb)) (by omega) fun s2 H2 e2 I2 => ?_))
    have pP := I2.pin (P, _) (List.mem_append_right _ (List.mem_append_right _ (mem_pinsAt (List.mem_singleton.mpr rfl) hP)))
    have I2' := I2.unpinned
    have f2 : FpOk X pins H2 P := ⟨pP.2.1, fP.2⟩
    refine wpAny_bind (wpAny_mkStr ?_ (hsz2 t (List.mem_of_getElem? ht)))
    refine wpAny_bind ?_
    show wpAny _ _ (updateSeq P _) _ _ _
    have hasz : acc.size ≤ sizeLine := by
      have e1 : acc.toList.length = acc.size := by simp
      have e2 : (strValues done).length = done.length := by simp [strValues]
      have e3 : done.length = (ts.take i).length := by rw [← hdone, List.length_map]
      have e4 : (ts.take i).length ≤ i := by rw [List.length_take]; omega
      rw [hacc] at e1; omega
    refine wpAny_updateSeq pP.1 rfl (wpAny_pure ⟨F.quiet_list_repr_loop _, ?_⟩) hasz
    have e1 : ((i : Int) + 1) = ((i + 1 : Nat) : Int) := by omega
    have e2' : base + piled (ts.take i) + (t.length + 2) = base + piled (ts.take (i + 1)) := by omega
    rw [e1, e2']
    refine ih (i + 1) _ H2 (acc.push (.str t s2.toks)) _ (done ++ [(t, s2.toks)]) (by omega) hlt (fun b o z => e2 b o (e b o z))
      (Inv.turnedL (ch := [P]) (I2'.tok (s2.toks + 1)) (fun b o nb z => (Heap.get?_update_other _ _ fun h : P = b => nb (by simp [h])).trans z) (fun b hb => by rw [List.mem_singleton.mp hb]; exact f2)) f2 (Heap.get?_update_self _ pP.1 rfl) (by simp [hacc, strValues]) (by simp [List.take_add_one, ht, hdone]) fun s' H3 u' e3 I3 => ?_
    exact hR s' H3 u' (fun b o z => e3 b o (e2 b o z)) I3
theorem reprAtO {a : Addr} {xs : List V} {ts : List Str} {as : List Addr} {k base : Nat} {A : Around} {g : List Code} {H1 : Hp} (ha : H a = some (.lst xs)) (hodd : Odd H a) (hne : xs ≠ []) (hg : A.guards = some g) (hgo : GOk g H) (hcl : ∀ b ∈ a :: as, Clear g b) (hS : Sub X (k + 1) A) (hna : a ∉ as) (hlen : ts.length = xs.length)
    (hT : ∀ (i : Nat) (x : V), xs[i]? = some x → ∃ t, ts[i]? = some t ∧ RepO X k as H x t) (hsz : base + (listText ts).length ≤ sizeLine) {R : Result → Shared → Prop} (e : Same H H1) (I : Inv X pins σ H1 s)
    (hR : ∀ s' H2 u, Same H1 H2 → Inv X pins σ H2 s' → R (.ok (.ret (.str (listText ts) u))) s') :
    wpAny (model X.prog X.w) A.in1 (Builtin.listReprAt base ⟨[.ref a], []⟩) (fun fin s' => match fin with | .done f => R (.ok f) s' | .again c' => c'.quiet = true ∧ codeAny (model X.prog X.w) A c' R s') (fun e s' => R (.error e) s') s := by
  have hca : Clear g a := hcl a (.head _)
  obtain ⟨its, rv, hl, _⟩ := I.list (.inl (.inl (e _ _ ha)))
  obtain ⟨o, ho, hc, n, hd⟩ := hl.isList
  cases its with
  | nil =>
    have := rv.length
    exact absurd (List.length_eq_zero_iff.mp this) hne
  | cons u l =>
    have hP : H1 s.heap.objs.size = none := I.hok.fresh (Nat.le_refl _)
    refine wpAny_list_repr_head (A := A.in1) hg (fun v rest kw hm => listSameRef_of_ne (hca _ _ _ _ hm)) ho hd ?_
    refine wpAny_bind (m := newList []) (wpAny_newObj_type ?_)
    refine wpAny_pure ⟨F.quiet_list_repr_loop _, ?_⟩
    have I2 := I.kept (h' := s.heap.push { cls := .type "list", dict := none, data := .seq #[] 0, slots := #[] }) (t' := s.toks) fun b o z => Heap.get?_push_of_some _ z
    exact loopO (P := s.heap.objs.size) ha hodd hg hgo (fun b hb => hcl b (.tail _ hb)) hS hna hlen hT hsz _ 0 _ H1 #[] _ [] rfl (Nat.zero_le _) e I2 (I.fpOk (Nat.le_refl _) hP) (Heap.get?_push_size _ rfl) rfl (by simp) fun s' H2 u' e2 I3 => hR s' H2 u' e2 I3
/-- a list with an own instance in it -/
theorem RepO.list {a : Addr} {xs : List V} {ts : List Str} {as : List Addr} {k : Nat} (ha : H a = some (.lst xs)) (hodd : Odd H a) (hne : xs ≠ []) (hna : a ∉ as) (hlen : ts.length = xs.length)
    (hT : ∀ (i : Nat) (x : V), xs[i]? = some x → ∃ t, ts[i]? = some t ∧ RepO X k as H x t) : RepO X (k + 1) (a :: as) H (.ref a) (listText ts) := by
  intro pins s σ H1 u A g base E Q e I r sub hg hgo hcl hb q
  cases r
  obtain ⟨its, rv, hl, _⟩ := I.list (.inl (.inl (e _ _ ha)))
  obtain ⟨o, ho, hc, n, hd⟩ := hl.isList
  refine wpAny_pyReprUnder_ref (by omega) (wpAny_pyReprObjUnder_twin (twin := "list.__repr__.under") ⟨o, ho, hc⟩ F.slot_list_repr.toG rfl sub.room.units0 ?_)
  refine call_twin_plain F.plain_list_repr_under F.entry_list_repr_under F.check_list_repr_under ⟨o, ho, hc⟩ F.slot_list_repr.toG (F.args_list_repr_1 _) ?_
  refine reprAtO (H := H1) (R := callEnd _ E) (e _ _ ha) (hodd.same e) hne hg hgo hcl sub hna hlen (fun i x hx => let ⟨t, h1, h2⟩ := hT i x hx; ⟨t, h1, h2.same e⟩) hb (fun _ _ z => z) I fun s' H2 u e2 I2 => ?_
  exact ⟨⟨_, _, rfl⟩, _, _, rfl, q s' H2 e2 I2⟩
/-- repr([..]), an own instance in it -/
def rReprO (X : Cx) (k : Nat) : List V → Hp → VK → Prop := fun vs H Q => ∃ (a : Addr) (xs : List V) (ts : List Str) (as : List Addr), vs = [.ref a] ∧ H a = some (.lst xs) ∧ Odd H a ∧ xs ≠ [] ∧ a ∉ as ∧ ts.length = xs.length ∧
  (∀ (i : Nat) (x : V), xs[i]? = some x → ∃ t, ts[i]? = some t ∧ RepO X k as H x t) ∧ (listText ts).length ≤ sizeLine ∧ ∀ H', Same H H' → Q (.str (listText ts)) H'
theorem call_reprO {k : Nat} (g : X.A.guards = some []) (hr : Room (k + 2) X.A) : CallR X (.builtin "repr") (rReprO X k) := by
  intro pins s σ H vs us Q I r h
  obtain ⟨a, xs, ts, as, rfl, ha, hodd, hne, hna, hlen, hT, hsz, q⟩ := h
  obtain rfl := Vals.ref1 r
  obtain ⟨its, rv, hl, _⟩ := I.list (.inl (.inl ha))
  obtain ⟨o, ho, hc, n, hd⟩ := hl.isList
  refine call_repr_slot hr.in1.units0 ⟨o, ho, hc⟩ F.slot_list_repr.toG ?_
  refine wpAny_call (codeAny_call_builtin F.slot_list_repr.plain F.entry_list_repr (F.slot_list_repr.check _ _ _ _ _ _ _ _ ⟨o, ho, hc⟩ (F.args_list_repr_1 _) ?_))
  refine reprAtO (A := X.A.in1) (base := 0) (R := callEnd _ _) (g := []) ha hodd hne g GOk.nil (fun b _ => Clear.nil b) ⟨hr.in1, rfl⟩ hna hlen hT (by omega) (fun _ _ z => z) I fun s' H2 u e2 I2 => ?_
  exact ⟨_, _, rfl, .str (listText ts), H2, I2, ⟨_, rfl⟩, q H2 e2⟩
end
end L2

/-! repr of a list of rows [name, value, True], the value a thing or an own instance or a list with one in it -/
namespace L2
open PySem PySem.Spec PyProof.Rows
section
variable {X : Cx} {H : Hp}
theorem RepO.more {k : Nat} {as bs : List Addr} {x : V} {t : Str} (h : RepO X k as H x t) (sub : ∀ b ∈ as, b ∈ bs) : RepO X k bs H x t :=
  fun pins s σ H1 u A g base E Q e I r sb hg hgo hcl hb q => h pins s σ H1 u A g base E Q e I r sb hg hgo (fun b hm => hcl b (sub b hm)) hb q
theorem RepO.up {j k : Nat} {as : List Addr} {x : V} {t : Str} (h : RepO X j as H x t) (l : j ≤ k) : RepO X k as H x t :=
  fun pins s σ H1 u A g base E Q e I r sb hg hgo hcl hb q => h pins s σ H1 u A g base E Q e I r (sb.mono l) hg hgo hcl hb q
/-- repr of a list that is data, or in which an own instance stands -/
def rReprU (X : Cx) (k : Nat) : List V → Hp → VK → Prop := fun xs H Q => (∃ (a : Addr) (d : PyData), xs = [.ref a] ∧ Dq X.K H (.ref a) d ∧ Sh d 16777216 60 ∧ Q (.str d.shown) H) ∨ rReprO X k xs H Q
theorem call_reprU {k : Nat} (g : X.A.guards = some []) (hr : Room (k + 2) X.A) (hm : ∃ mm, X.base.Ns sysModules mm) : CallR X (.builtin "repr") (rReprU X k) := by
  intro pins s σ H xs us Q I r h
  rcases h with h | h
  · exact call_reprD g hr.units hm pins s σ H xs us Q I r h
  · exact call_reprO g hr pins s σ H xs us Q I r h
/-- what is known of a value that is to be shown: data, or odd with its text -/
inductive Shw (X : Cx) (k : Nat) (as : List Addr) (H : Hp) (v : V) (t : Str) : Prop
  | data {d : PyData} : Dq X.K H v d → Sh d 300 2 → t = d.shown → Shw X k as H v t
  | odd {a : Addr} : v = .ref a → Odd H a → t.length ≤ 300 → RepO X k as H v t → Shw X k as H v t
def isOdd (H : Hp) (v : V) : Prop := ∃ a, v = .ref a ∧ Odd H a
def rowT (nm t : Str) : Str := listText [reprText nm, t, "True"]
theorem shown_str (x : Str) : (PyData.str x).shown = reprText x := by simp only [PyData.shown]
theorem shown_true : (PyData.bool true).shown = "True" := by simp only [PyData.shown]; rfl
theorem shown_row (nm : Str) (d : PyData) : (PyData.list [.str nm, d, .bool true]).shown = rowT nm d.shown := by
  simp only [PyData.shown, PyData.shownAll]
  rfl
/-- a row -/
theorem row_rep {k : Nat} {as : List Addr} {q : Addr} {nm t : Str} {v : V} (hm : ∃ mm, X.base.Ns sysModules mm) (hq : H q = some (.lst [.str nm, v, .bl true])) (hn : (reprText nm).length ≤ 100) (h : Shw X k as H v t) (na : q ∉ as) : RepO X (k + 1) (q :: as) H (.ref q) (rowT nm t) := by
  cases h with
  | @data d hd hs et =>
    subst et
    rw [← shown_row]
    refine (RepO.data hm (.lst (.inl (.inl hq)) (.cons (.str _) (.cons hd (.cons (.bl true) .nil)))) ?_).more fun _ z => nomatch z
    exact (Sh.lst (.cons (Sh.str nm hn) (.cons hs (.cons (Sh.bl true) .nil)))).le (by decide) (by decide)
  | @odd a ev o lt r =>
    subst ev
    refine RepO.list hq (.lst hq (by simp) o) (by simp) na rfl fun i x hx => ?_
    match i, hx with
    | 0, hx =>
      cases hx
      refine ⟨_, rfl, ?_⟩
      have := (RepO.data (X := X) (k := k) (H := H) hm (.str nm) ((Sh.str nm hn).le (n' := 16777216) (m' := 60) (m := 0) (by decide) (by decide))).more (bs := as) fun _ z => nomatch z
      rw [shown_str] at this
      exact this
    | 1, hx =>
      cases hx
      exact ⟨_, rfl, r⟩
    | 2, hx =>
      cases hx
      refine ⟨_, rfl, ?_⟩
      have := (RepO.data (X := X) (k := k) (H := H) hm (.bl true) ((Sh.bl true (m := 0)).le (n' := 16777216) (m' := 60) (by decide) (by decide))).more (bs := as) fun _ z => nomatch z
      rw [shown_true] at this
      exact this
    | i + 3, hx => simp at hx
structure RowS where
  q : Addr
  nm : Str
  v : V
  t : Str
theorem Shw.len {k : Nat} {as : List Addr} {v : V} {t : Str} (h : Shw X k as H v t) : t.length ≤ 300 := by
  cases h with
  | data hd hs e => rw [e]; exact hs.long
  | odd _ _ l _ => exact l
theorem rowT_len {nm t : Str} (h1 : (reprText nm).length ≤ 100) (h2 : t.length ≤ 300) : (rowT nm t).length ≤ 420 := by
  have b := listText_len_le [reprText nm, t, "True"]
  simp only [List.map_cons, List.map_nil, List.sum_cons, List.sum_nil, List.length_cons, List.length_nil] at b
  have e : (Str.ofString "True").length = 4 := rfl
  unfold rowT
  omega
theorem rows_len : ∀ {rs : List RowS}, (∀ r ∈ rs, (rowT r.nm r.t).length ≤ 420) → ((rs.map fun r => rowT r.nm r.t).map (·.length)).sum ≤ 420 * rs.length
  | [], _ => by simp
  | r :: rs, h => by
    have ih := rows_len (rs := rs) fun x hx => h x (List.mem_cons_of_mem _ hx)
    have h1 := h r List.mem_cons_self
    simp only [List.map_cons, List.sum_cons, List.length_cons]
    omega
theorem rows_data : ∀ {rs : List RowS}, (∀ r ∈ rs, H r.q = some (.lst [.str r.nm, r.v, .bl true]) ∧ (reprText r.nm).length ≤ 100 ∧ ∃ d, Dq X.K H r.v d ∧ Sh d 300 2 ∧ r.t = d.shown) →
    ∃ ds, DqAll X.K H (rs.map fun r => .ref r.q) ds ∧ ShAll ds (450 * rs.length) 5 ∧ PyData.shownAll ds = rs.map fun r => rowT r.nm r.t
  | [], _ => ⟨[], .nil, ShAll.nil, by simp [PyData.shownAll]⟩
  | r :: rs, h => by
    obtain ⟨ds, h1, h2, h3⟩ := rows_data (rs := rs) fun x hx => h x (List.mem_cons_of_mem _ hx)
    obtain ⟨hq, hn, d, hd, hs, et⟩ := h r List.mem_cons_self
    have sr : Sh (.list [.str r.nm, d, .bool true]) 448 5 := (Sh.lst (.cons (Sh.str r.nm hn) (.cons hs (.cons (Sh.bl true) .nil)))).le (by decide) (by decide)
    refine ⟨_ :: ds, .cons (.lst (.inl (.inl hq)) (.cons (.str _) (.cons hd (.cons (.bl true) .nil)))) h1, ?_, ?_⟩
    · have := ShAll.cons sr h2
      rw [List.length_cons, show 450 * (rs.length + 1) = 448 + 2 + 450 * rs.length by omega]
      exact this
    · simp only [PyData.shownAll, List.map_cons]
      rw [h3, et, ← shown_row]
/-- repr of the rows -/
theorem rows_show {k : Nat} {as : List Addr} {S : Addr} {rs : List RowS} {Q : VK} (hm : ∃ mm, X.base.Ns sysModules mm) (hS : H S = some (.lst (rs.map fun r => .ref r.q))) (hr : ∀ r ∈ rs, H r.q = some (.lst [.str r.nm, r.v, .bl true]) ∧ (reprText r.nm).length ≤ 100 ∧ Shw X k as H r.v r.t ∧ r.q ∉ as)
    (hn : S ∉ rs.map (·.q) ++ as) (r0 : rs ≠ []) (r1 : rs.length ≤ 1000) (q : ∀ H', Same H H' → Q (.str (listText (rs.map fun r => rowT r.nm r.t))) H') : rReprU X (k + 1) [.ref S] H Q := by
  by_cases hall : ∀ r ∈ rs, ∃ d, Dq X.K H r.v d ∧ Sh d 300 2 ∧ r.t = d.shown
  · obtain ⟨ds, h1, h2, h3⟩ := rows_data (X := X) (H := H) (rs := rs) fun r hx => ⟨(hr r hx).1, (hr r hx).2.1, hall r hx⟩
    refine .inl ⟨S, .list ds, rfl, .lst (.inl (.inl hS)) h1, (Sh.lst h2).le (by omega) (by decide), ?_⟩
    have e : (PyData.list ds).shown = listText (PyData.shownAll ds) := by simp only [PyData.shown]
    rw [e, h3]
    exact q H fun _ _ z => z
  · obtain ⟨r, hx, hno⟩ : ∃ r ∈ rs, ¬ ∃ d, Dq X.K H r.v d ∧ Sh d 300 2 ∧ r.t = d.shown := by
      refine Classical.byContradiction fun z => hall fun r hx => Classical.byContradiction fun y => z ⟨r, hx, y⟩
    obtain ⟨hq, hnm, hs, hna⟩ := hr r hx
    have hodd : Odd H r.q := by
      cases hs with
      | data hd hs e => exact absurd ⟨_, hd, hs, e⟩ hno
      | @odd a ev o _ _ => exact .lst hq (by rw [ev]; simp) o
    refine .inr ⟨S, _, rs.map fun r => rowT r.nm r.t, rs.map (·.q) ++ as, rfl, hS, .lst hS (List.mem_map.mpr ⟨r, hx, rfl⟩) hodd, by simpa using r0, hn, by simp, fun i x hi => ?_, ?_, q⟩
    · rw [List.getElem?_map] at hi
      obtain ⟨y, hy, rfl⟩ := Option.map_eq_some_iff.mp hi
      have my := List.mem_of_getElem? hy
      obtain ⟨a1, a2, a3, a4⟩ := hr y my
      refine ⟨rowT y.nm y.t, by rw [List.getElem?_map, hy]; rfl, (row_rep hm a1 a2 a3 a4).more fun b hb => ?_⟩
      rcases List.mem_cons.mp hb with e | hb
      · rw [e]
        exact List.mem_append_left _ (List.mem_map.mpr ⟨y, my, rfl⟩)
      · exact List.mem_append_right _ hb
    · have b := listText_len_le (rs.map fun r => rowT r.nm r.t)
      have c := rows_len (rs := rs) fun r hx => rowT_len (hr r hx).2.1 (hr r hx).2.2.1.len
      rw [List.length_map] at b
      rw [sizeLine_eq]
      omega
end
end L2

/-! calls of a def of the top that a variable holds: one of a family of defs with one reading -/
namespace L2
open PySem PySem.Spec PyProof.Rows
section
variable {X : Cx} {CX : CXT} {ι : Type} {k : Nat} {fs : ι → Addr} {fds : ι → FuncData} {ps ks : List Str} {ds : List Value} {dvs : List V} {sp : Sp} {E : XK} {x : Str} {p pos : Pos} {e : Expr} {es : List Expr} {t tk : TA} {te : TE} {kws : List Keyword} {g : List Value → List Value → List Value} {gV : List V → List V → List V}
/-- x(e, ..), x a variable that holds one of the defs -/
theorem pe_callV (F : ∀ j, FnOk X.prog X.w X.K X.mg X.base CX k (fs j) (fds j) ps sp) (hr : Room k X.A) (hk : ∀ j, PySem.W.keepIn X.K (.ref (fs j)) = true) (hb : ∀ j, Binds X.K (fds j) ps ds) (hd : Vals dvs ds) (hx : Passes CX X E) (hv : PE X (.Name x p) te) (ha : PA X (e :: es) t)
    (he : starEach (e :: es) X.env = (false, eval e X.env) :: starEach es X.env := by rfl) (hpl : (backTo pos (starEach es X.env)).any (·.1) = false := by rfl) :
    PE X (.Call (.Name x p) (e :: es) [] pos) (fun σ H Q => te σ H fun v H1 => ∃ j, v = .ref (fs j) ∧ t σ H1 fun vs H2 => sp (vs ++ dvs) H2 Q E) := by
  refine ⟨fun pins s σ H Q I h => ?_⟩
  refine wpAny_Call_Name_kw (thn (hv.run pins s σ H _ I h) fun u s1 ⟨v, H1, I1, r1, j, e1, q1⟩ => ?_)
  subst e1
  cases r1
  refine PySem.W.callWith_K (h₀ := X.base) I1.ok.mod.kin (hk j) (thn (ha.run pos pins s1 σ H1 _ I1 q1) fun us s2 ⟨vs, H2, I2, r, q⟩ => ⟨I2.kIn, ?_⟩) he hpl
  exact run_fn (F j) hr (hb j) hd hx I2 r q
/-- x(k = v, ..), keywords alone -/
theorem pe_callVK0 (F : ∀ j, FnOk X.prog X.w X.K X.mg X.base CX k (fs j) (fds j) ps sp) (hr : Room k X.A) (hk : ∀ j, PySem.W.keepIn X.K (.ref (fs j)) = true) (hb : ∀ j, KBinds X.K (fds j) ps ks g gV) (hx : Passes CX X E) (hv : PE X (.Name x p) te) (hkw : PK X kws tk)
    (hall : (backToKw pos (keywordEach kws X.env)).all (·.1.isSome) = true := by rfl) (hks : (backToKw pos (keywordEach kws X.env)).filterMap (·.1) = ks := by rfl)
    (hpl : ((backTo pos (starEach [] X.env)).any (·.1) || (backToKw pos (keywordEach kws X.env)).any (·.1.isNone)) = false := by rfl) :
    PE X (.Call (.Name x p) [] kws pos) (fun σ H Q => te σ H fun v H1 => ∃ j, v = .ref (fs j) ∧ tCallK sp gV E tNil tk σ H1 Q) := by
  refine ⟨fun pins s σ H Q I h => ?_⟩
  refine wpAny_Call_Name_kw (thn (hv.run pins s σ H _ I h) fun u s1 ⟨v, H1, I1, r1, j, e1, q1⟩ => ?_)
  subst e1
  cases r1
  refine PySem.W.callWith_KW0 (h₀ := X.base) I1.ok.mod.kin (hk j) hall (thn (hkw.run pos pins s1 σ H1 _ I1 q1) fun ws s2 hh => ?_) hpl
  obtain ⟨zs, H2, I2, rz, q2⟩ := hh
  refine ⟨I2.kIn, ?_⟩
  rw [hks]
  exact run_fnk (us := []) (vs := []) (F j) hr (hb j) hx I2 .nil rz q2
end
end L2

-- NOREN
/-! k18: what the right needs -/
namespace Gm
open PySem PySem.Spec PyProof.Rows L2 LamX
theorem Kp.ofKq {p S : Addr} {H H' : Hp} (w : New H S) (k : Kq p S H H') : Kp p H H' := fun b o n t e => k b o n (w b o e t) t e
/-- no kind of a menu's thing is a board -/
structure TxK (K : PySem.W.Frag) (C : Addr) : Prop where
  n : PySem.W.kitOne K (.type "NoneType") (.ref C) = some false
  b : PySem.W.kitOne K (.type "bool") (.ref C) = some false
  i : PySem.W.kitOne K (.type "int") (.ref C) = some false
  s : PySem.W.kitOne K (.type "str") (.ref C) = some false
  t : PySem.W.kitOne K (.type "tuple") (.ref C) = some false
  l : PySem.W.kitOne K (.type "list") (.ref C) = some false
  d : PySem.W.kitOne K (.type "dict") (.ref C) = some false
theorem thing_kit {K : PySem.W.Frag} {C p : Addr} {H : Hp} {v : V} {d : PyData} {t : String} (T : TxK K C) (h : Thing p H v d t) : PySem.W.kitOne K (.type t) (.ref C) = some false := by
  cases h with
  | non => exact T.n
  | bl _ => exact T.b
  | int _ => exact T.i
  | str _ => exact T.s
  | tup _ _ _ => exact T.t
  | lst _ _ _ => exact T.l
  | dic _ _ => exact T.d
theorem Bd.kp {C p x : Addr} {H H' : Hp} {l : List Nat} {n : Int} (h : Bd C H x l n) (nx : x ≠ p) (k : Kp p H H') : Bd C H' x l n := by
  obtain ⟨⟨dx, e⟩, r⟩ := h
  exact ⟨⟨dx, k _ _ nx (fun _ z => by cases z) e⟩, r⟩
def VN (p x : Addr) (H : Hp) (v : V) : Prop := ItemD p H (fun _ => True) (fun _ => True) v ∨ ∃ nb, v = .ref nb ∧ nb ≠ p ∧ H nb = some (.lst [.ref x])
theorem VN.keep {p x : Addr} {H H' : Hp} {v : V} (h : VN p x H v) (k : Kp p H H') : VN p x H' v := h.imp (·.keep k) fun ⟨nb, a, b, c⟩ => ⟨nb, a, b, k _ _ b (fun _ z => by cases z) c⟩
theorem VN.no {K : PySem.W.Frag} {C p x : Addr} {H : Hp} {v : V} (T : TxK K C) (h : VN p x H v) : NoBd K H C v := by
  rcases h with ⟨d, t, th, _⟩ | ⟨nb, rfl, a, b⟩
  · exact ⟨_, th.ty, thing_kit T th⟩
  · exact ⟨_, .base (.lst b), T.l⟩
/-- the things of the law, as they stand -/
structure LowK (C p x good : Addr) (nn bad spot odd late : V) (H : Hp) : Prop where
  bd : Bd C H x Lb 3
  nx : x ≠ p
  gd : H good = some (.tup [.str "abc", .str "cab"])
  ng : good ≠ p
  bad : BMenu p H bad spot
  odd : BMenu p H odd late
  non : VN p x H nn
theorem LowK.keep {C p x good : Addr} {nn bad spot odd late : V} {H H' : Hp} (h : LowK C p x good nn bad spot odd late H) (k : Kp p H H') : LowK C p x good nn bad spot odd late H' :=
  ⟨h.bd.kp h.nx k, h.nx, k _ _ h.ng (fun _ z => by cases z) h.gd, h.ng, h.bad.keep k, h.odd.keep k, h.non.keep k⟩
theorem LowK.gs {C p x good : Addr} {nn bad spot odd late : V} {H : Hp} (h : LowK C p x good nn bad spot odd late H) : GsAt H good Lb 3 [[97, 98, 99], [99, 97, 98]] := by
  have e1 : (Str.ofString "abc") = tx [97, 98, 99] := by decide +kernel
  have e2 : (Str.ofString "cab") = tx [99, 97, 98] := by decide +kernel
  refine ⟨?_, by decide, by decide⟩
  rw [h.gd, e1, e2]
  rfl
theorem BMenu.spot {p : Addr} {H : Hp} {v spot : V} (h : BMenu p H v spot) : spot = .non ∨ ∃ k : Nat, k ≤ 20 ∧ spot = .int (k : Nat) := by
  rcases h with ⟨_, _, _, _, e⟩ | ⟨a, vs, _, _, _, ⟨_, _, e⟩ | ⟨l, k, _, ⟨y, e2, _⟩, e⟩⟩
  · exact .inl e
  · exact .inl e
  · exact .inr ⟨k, by have := (List.getElem?_eq_some_iff.mp e2).1; omega, e⟩
theorem spot_shw {X : Cx} {p : Addr} {H : Hp} {v spot : V} (h : BMenu p H v spot) : ∃ t, ∀ as H', Shw X 3 as H' spot t := by
  rcases h.spot with rfl | ⟨k, l, rfl⟩
  · exact ⟨_, fun as H' => .data (d := .none) .non ((Sh.non (m := 2)).le (by decide) (Nat.le_refl _)) rfl⟩
  · refine ⟨_, fun as H' => .data (d := .int (k : Nat)) (.int _) ?_ rfl⟩
    match k, l with
    | 0, _ | 1, _ | 2, _ | 3, _ | 4, _ | 5, _ | 6, _ | 7, _ | 8, _ | 9, _ | 10, _ | 11, _ | 12, _ | 13, _ | 14, _ | 15, _ | 16, _ | 17, _ | 18, _ | 19, _ | 20, _ => exact Sh.int _ (by decide +kernel) (by decide +kernel)
    | k + 21, l => omega
def gRev2 {α : Type} : List α → List α → List α
  | [], [b, a] => [a, b]
  | _, _ => []
theorem gRev2_rel {vs : List V} {us : List Value} {zs : List V} {ws : List Value} (r : Vals vs us) (q : Vals zs ws) : Vals (gRev2 vs zs) (gRev2 us ws) := by
  cases r with
  | cons a r => exact .nil
  | nil =>
    cases q with
    | nil => exact .nil
    | cons a q =>
      cases q with
      | nil => exact .nil
      | cons b q =>
        cases q with
        | nil => exact .cons b (.cons a .nil)
        | cons c q => exact .nil
/-- a value that is to be shown, at H and behind it -/
def ShV (X : Cx) (p : Addr) (H : Hp) (as : List Addr) (v : V) : Prop := (∀ b ∈ as, b ≠ p ∧ ∃ o, H b = some o ∧ ∀ ps, o ≠ .tbl ps) ∧ ∃ t, ∀ H', Kp p H H' → Shw X 3 as H' v t
section
variable {X : Cx} {C fRe x p : Addr} {fdRe : FuncData} {H : Hp} {l : List Nat} {n : Int} (GRe : FnOk X.prog X.w X.K X.mg X.base L2.CX0 1 fRe fdRe ["self"] (spRepr C)) (aRe : PySem.W.findIn X.K (.ref C) "__repr__" = some (some (.ref fRe))) (iRe : PySem.W.isFn X.K (.ref fRe) = true) (bRe : Binds X.K fdRe ["self"] [])
include GRe aRe iRe bRe
theorem box_rep (bd : Bd C H x l n) : RepO X 2 [] H (.ref x) ("Board(" ++ tx l ++ " " ++ digit n ++ ")") ∧ Odd H x := by
  obtain ⟨⟨dx, e⟩, l26, n1, n6⟩ := bd
  refine ⟨RepO.own GRe (by decide) aRe iRe bRe e fun H1 s => ⟨x, tx l, n, rfl, ⟨dx, s _ _ e⟩, by rw [tx_len]; exact l26, n1, n6, rfl, fun _ _ z => z⟩, .own e⟩
theorem VN.shv {v : V} (h : VN p x H v) (bd : Bd C H x l n) (nx : x ≠ p) : ∃ as, ShV X p H as v := by
  rcases h with ⟨d, t, th, sh, _⟩ | ⟨nb, rfl, nn, hn⟩
  · exact ⟨[], fun b hb => (nomatch hb), d.shown, fun H' k => .data (th.keep k).dq sh rfl⟩
  refine ⟨[nb], fun b hb => by have e := List.mem_singleton.mp hb; subst e; exact ⟨nn, _, hn, fun _ z => by cases z⟩, listText ["Board(" ++ tx l ++ " " ++ digit n ++ ")"], fun H' k => ?_⟩
  have bd' : Bd C H' x l n := by
    obtain ⟨⟨dx, e⟩, r⟩ := bd
    exact ⟨⟨dx, k _ _ nx (fun _ z => by cases z) e⟩, r⟩
  have hn' := k _ _ nn (fun _ z => by cases z) hn
  obtain ⟨a, b⟩ := box_rep GRe aRe iRe bRe bd'
  have od : Odd H' nb := .lst hn' (by simp) b
  refine .odd rfl od ?_ (RepO.list hn' od (by simp) (by simp) rfl fun i y hy => ?_)
  · have h1 := bd.2.1
    have h2 := digit_len (n := n) bd.2.2.1 bd.2.2.2
    have e1 : (Str.ofString "Board(").length = 6 := rfl
    have e2 : (Str.ofString " ").length = 1 := rfl
    have e3 : (Str.ofString ")").length = 1 := rfl
    have b := listText_len_le ["Board(" ++ tx l ++ " " ++ digit n ++ ")"]
    simp only [List.map_cons, List.map_nil, List.sum_cons, List.sum_nil, List.length_cons, List.length_nil] at b
    have h4 := tx_len l
    rw [strLen_append, strLen_append, strLen_append, strLen_append] at b
    omega
  · match i, hy with
    | 0, hy =>
      cases hy
      exact ⟨_, rfl, a⟩
    | i + 1, hy => simp at hy
end
theorem rows_show6 {X : Cx} {H : Hp} {as : List Addr} {S : Addr} {rs : List RowS} {Q : VK} (txt : Str) (et : listText (rs.map fun r => rowT r.nm r.t) = txt) (hm : ∃ mm, X.base.Ns sysModules mm) (hS : H S = some (.lst (rs.map fun r => .ref r.q))) (hr : ∀ r ∈ rs, H r.q = some (.lst [.str r.nm, r.v, .bl true]) ∧ (reprText r.nm).length ≤ 100 ∧ Shw X 3 as H r.v r.t ∧ r.q ∉ as)
    (hn : S ∉ rs.map (·.q) ++ as) (r0 : rs ≠ []) (r1 : rs.length ≤ 1000) (q : ∀ H', Same H H' → Q (.str txt) H') : rReprU X 4 [.ref S] H Q := rows_show hm hS hr hn r0 r1 (by rw [et]; exact q)
theorem Shw.more {X : Cx} {k : Nat} {as bs : List Addr} {H : Hp} {v : V} {t : Str} (h : Shw X k as H v t) (sub : ∀ b ∈ as, b ∈ bs) : Shw X k bs H v t := by
  cases h with
  | data a b c => exact .data a b c
  | odd a b c d => exact .odd a b c (d.more sub)
theorem bd_new {C x : Addr} {Hb : Hp} {nm : Str} {l : List Nat} {n : Int} (e : nm = tx l) (ba : BoardAt C Hb x nm n) (h : l.length ≤ 26 ∧ 1 ≤ n ∧ n ≤ 6) : Bd C Hb x l n := ⟨by rw [← e]; exact ba, h.1, h.2.1, h.2.2⟩
abbrev G20 : List (List Nat) := List.replicate 20 [97, 98, 99]
theorem part1 : PartN Lb 3 G20 G20 := by
  unfold PartN NoPair
  decide +kernel
theorem part0 : PartN Lb 3 [] [] := by
  unfold PartN NoPair
  decide +kernel
theorem twins0 : Twins0 Lb 3 [] := ⟨by decide, 97, 98, [99], by decide +kernel, by decide +kernel, by decide +kernel⟩
end Gm

-- NOREN
/-! k18: the right (by gen_ow.py) -/
namespace Gm
open PySem PySem.Spec PyProof.Rows L2 LamX

abbrev nR : List Str := ["_law_bowl_here", "_law_box", "_law_good", "_law_none", "_law_bad_here", "_law_spot", "_law_odd", "_law_late", "_law_ask", "_law_seen_here", "_law_due", "_law_most"]
theorem scR_ : FnScope nR ["_law_bowl_here"] (defScope sRight) := ⟨rfl, rfl, rfl, by decide +kernel, rfl, by decide +kernel, by decide +kernel⟩
def tabR (Pt : Addr) : List (Addr × Str) := [(Pt, (envOfC "_law_right" (defScope sRight) 0 0 .none).qual ++ "<lambda>")]
def spRight (Pt : Addr) : Sp := fun vs H Q _ => ∃ (p : Addr), vs = [.ref p] ∧ BowlAt H p ∧ Tabs (tabR Pt) H ∧ ∀ H', Kp p H H' → Tabs (tabR Pt) H' → BowlAt H' p → Q (.bl true) H'
section
variable {P : Program} {w : World} {K : PySem.W.Frag} {mg : Str → Option Value} {base : Heap}
theorem ok_right {f c Pt C CIn CGs CNb eGs eNb fG fI fOf fBa fRe fTe fTw fTr : Addr} {fd fdG fdI fdOf fdBa fdRe fdTe fdTw fdTr : FuncData} {fs2 : Fin 3 → Addr} {fds2 : Fin 3 → FuncData} {fs3 : Fin 2 → Addr} {fds3 : Fin 2 → FuncData} (F : FunC K "_law_right" "_law_right" sRight f fd c) (trepr : mg "repr" = none) (TC : TxC K mg C) (TK : TxK K C)
    (TG : TxG K mg CIn CGs CNb) (EGs : ErrB K mg "InvalidGuesses" "index" CGs eGs) (ENb : ErrB K mg "NotABoard" "value" CNb eNb)
    (FG : Fun K "_law_got" "_law_got" sGot fG fdG) (DG : Df K mg "_law_got" fG fdG ["_law_ask"])
    (GOf : FnOk P w K mg base L2.CX0 2 fOf fdOf ["_law_bowl_here", "_law_things"] spOfL) (DOf : Df K mg "_law_of" fOf fdOf ["_law_bowl_here", "_law_things"])
    (GBa : FnOk P w K mg base L2.CX0 3 fBa fdBa ["_law_bowl_here"] spBadG) (DBa : Df K mg "_law_bad" fBa fdBa ["_law_bowl_here"])
    (GI : FnOk P w K mg base L2.CX0 2 fI fdI ["self", "letters", "length"] (spInit C)) (MB : Mk K C fI) (bI : Binds K fdI ["self", "letters", "length"] [])
    (G2 : ∀ j, FnOk P w K mg base (L2.CX P w) 5 (fs2 j) (fds2 j) ["board", "guesses"] (spRef2 K C CNb CGs)) (k2 : ∀ j, PySem.W.keepIn K (.ref (fs2 j)) = true) (b2 : ∀ j, Binds K (fds2 j) ["board", "guesses"] []) (kb2 : ∀ j, KBinds K (fds2 j) ["board", "guesses"] ["guesses", "board"] gRev2 gRev2)
    (m20 : mg "tried" = some (.ref (fs2 0))) (m21 : mg "tells_word" = some (.ref (fs2 1))) (m22 : mg "twins" = some (.ref (fs2 2)))
    (G3 : ∀ j, FnOk P w K mg base (L2.CX P w) 5 (fs3 j) (fds3 j) ["board", "guesses", "other_guesses"] (spRef3 K C CNb CGs)) (k3 : ∀ j, PySem.W.keepIn K (.ref (fs3 j)) = true) (b3 : ∀ j, Binds K (fds3 j) ["board", "guesses", "other_guesses"] [])
    (m30 : mg "tells" = some (.ref (fs3 0))) (m31 : mg "parting" = some (.ref (fs3 1)))
    (GTe : FnOk P w K mg base L2.CX0 7 fTe fdTe ["board", "guesses", "other_guesses"] (spTellN C)) (DTe : Df K mg "tells" fTe fdTe ["board", "guesses", "other_guesses"])
    (GTw : FnOk P w K mg base L2.CX0 7 fTw fdTw ["board", "guesses"] (spTellW0 C)) (DTw : Df K mg "tells_word" fTw fdTw ["board", "guesses"])
    (GTr : FnOk P w K mg base L2.CX0 4 fTr fdTr ["board", "guesses"] (spTrBy C)) (DTr : Df K mg "tried" fTr fdTr ["board", "guesses"])
    (GRe : FnOk P w K mg base L2.CX0 1 fRe fdRe ["self"] (spRepr C)) (aRe : PySem.W.findIn K (.ref C) "__repr__" = some (some (.ref fRe))) (iRe : PySem.W.isFn K (.ref fRe) = true) (bRe : Binds K fdRe ["self"] [])
    (hM : ∃ mm, base.Ns sysModules mm) (TB : TabB base mg c Pt) : FnG P w K mg base L2.CX0 8 f fd ["_law_bowl_here"] (spRight Pt) := by
  refine F.okG scR_ (fun vs H Q E h => ?_) (fun A outer s H vs Q E g hr h => ?_)
  · obtain ⟨p, rfl, _⟩ := h
    rfl
  · obtain ⟨p, rfl, hp, hT, q⟩ := h
    have nd := scR_.nd
    have hr2 : Room 2 _ := hr.mono (by decide)
    have hr3 : Room 3 _ := hr.mono (by decide)
    have hr4 : Room 4 _ := hr.mono (by decide)
    have hr6 : Room 6 _ := hr.mono (by decide)
    have hr7 : Room 7 _ := hr.mono (by decide)
    obtain ⟨oc, od, kV, doc, pm, an, cdG, ct, osl, rfl, lk, hcd⟩ := FG.ex
    refine ⟨_, (pss_cons (ps_asg (pe_tupS (pa_cons (pe_make MB GI hr3 (by rfl) TC.mgC bI .nil L2.pass0 (pa_cons pe_str (pa_cons pe_int pa_nil))) (pa_cons (pe_tupS (pa_cons pe_str (pa_cons pe_str pa_nil))) pa_nil))) (pg_tup (by rfl) (pgs_cons (pg_name (i := 1) nd rfl (Or.inr rfl)) (pgs_cons (pg_name (i := 2) nd rfl (Or.inr rfl)) pgs_nil))))
        (pss_cons (ps_set (i := 3) nd rfl (Or.inr rfl) (pe_call GOf hr2 (by rfl) DOf.mg DOf.kp DOf.b .nil L2.pass0 (pa_cons (pv 0) (pa_cons (pe_lstS (pa_cons pe_non (pa_cons pe_str (pa_cons (pe_tupS (pa_cons pe_str (pa_cons pe_int pa_nil))) (pa_cons (pe_lstS (pa_cons (pv 1) pa_nil)) (pa_cons pe_int (pa_cons pe_dnewQ pa_nil))))))) pa_nil))))
        (pss_cons (ps_asg (pe_call GBa hr3 (by rfl) DBa.mg DBa.kp DBa.b .nil L2.pass0 (pa_cons (pv 0) pa_nil)) (pg_tup (by rfl) (pgs_cons (pg_name (i := 4) nd rfl (Or.inr rfl)) (pgs_cons (pg_name (i := 5) nd rfl (Or.inl rfl)) pgs_nil))))
        (pss_cons (ps_asg (pe_call GBa hr3 (by rfl) DBa.mg DBa.kp DBa.b .nil L2.pass0 (pa_cons (pv 0) pa_nil)) (pg_tup (by rfl) (pgs_cons (pg_name (i := 6) nd rfl (Or.inr rfl)) (pgs_cons (pg_name (i := 7) nd rfl (Or.inl rfl)) pgs_nil))))
        (pss_cons (ps_for PassesOwn.never rfl (pi_list (pe_lstS (pa_cons (pe_glob (v := .ref (fs2 0)) (by rfl) m20 rfl) (pa_cons (pe_glob (v := .ref (fs2 1)) (by rfl) m21 rfl) (pa_cons (pe_glob (v := .ref (fs2 2)) (by rfl) m22 rfl) pa_nil))))) (pg_name (i := 8) nd rfl (Or.inr rfl))
        (pss_cons (ps_set (i := 9) nd rfl (Or.inl rfl) (pe_lst (pa_cons (pe_lamcall (T := tabR Pt) (TT := TTgot (catsG CGs CNb)) (k := 5) (by rfl) DG.mg DG.kp lk hcd DG.b scGot rfl (Or.inl rfl) (got_gives TG EGs ENb) TB rfl (by exact List.mem_singleton.mpr rfl) (fun z hz _ => by rw [List.mem_singleton.mp hz]; rfl) hr (show LamS (defScope sRight) _ from lamS_by (by decide +kernel)) rfl (fun _ _ _ _ _ => rfl)
          (fun A outer s H E f c' hr5 => pe_callV G2 hr5 k2 b2 .nil (passes_call (takes_of rfl rfl rfl rfl) fun _ _ _ _ h => h) (pv 8) (pa_cons (pv 3) (pa_cons (pv 4) pa_nil)))) pa_nil)))
        (pss_cons (ps_expr (pe_bm PySem.F.plainAttrs_list PySem.F.slot_list_append PySem.F.type_list_append mt_append (pv 9) (pa_cons (pe_lamcall (T := tabR Pt) (TT := TTgot (catsG CGs CNb)) (k := 5) (by rfl) DG.mg DG.kp lk hcd DG.b scGot rfl (Or.inl rfl) (got_gives TG EGs ENb) TB rfl (by exact List.mem_singleton.mpr rfl) (fun z hz _ => by rw [List.mem_singleton.mp hz]; rfl) hr (show LamS (defScope sRight) _ from lamS_by (by decide +kernel)) rfl (fun _ _ _ _ _ => rfl)
          (fun A outer s H E f c' hr5 => pe_callVK0 (ks := ["guesses", "board"]) G2 hr5 k2 kb2 (passes_call (takes_of rfl rfl rfl rfl) fun _ _ _ _ h => h) (pv 8) (pk_cons (pv 4) (pk_cons (pv 1) pk_nil)))) pa_nil)))
        (pss_one (ps_if (pt_cmpR op_ne (pe_callB (call_reprU (k := 4) g hr6 hM) (by rfl) trepr (by decide +kernel) (pa_cons (pv 9) pa_nil)) (pe_callB (call_reprU (k := 4) g hr6 hM) (by rfl) trepr (by decide +kernel) (pa_cons (pe_lst (pa_cons (pe_lst (pa_cons pe_str (pa_cons (pv 3) (pa_cons pe_bl pa_nil)))) (pa_cons (pe_lst (pa_cons pe_str (pa_cons (pv 5) (pa_cons pe_bl pa_nil)))) pa_nil))) pa_nil)) (nomark _)) (pss_one (ps_ret pe_bl)) pss_nil)))))
        (pss_cons (ps_for PassesOwn.never rfl (pi_list (pe_lstS (pa_cons (pe_glob (v := .ref (fs3 0)) (by rfl) m30 rfl) (pa_cons (pe_glob (v := .ref (fs3 1)) (by rfl) m31 rfl) pa_nil)))) (pg_name (i := 8) nd rfl (Or.inr rfl))
        (pss_cons (ps_set (i := 9) nd rfl (Or.inl rfl) (pe_lst (pa_cons (pe_lamcall (T := tabR Pt) (TT := TTgot (catsG CGs CNb)) (k := 5) (by rfl) DG.mg DG.kp lk hcd DG.b scGot rfl (Or.inl rfl) (got_gives TG EGs ENb) TB rfl (by exact List.mem_singleton.mpr rfl) (fun z hz _ => by rw [List.mem_singleton.mp hz]; rfl) hr (show LamS (defScope sRight) _ from lamS_by (by decide +kernel)) rfl (fun _ _ _ _ _ => rfl)
          (fun A outer s H E f c' hr5 => pe_callV G3 hr5 k3 b3 .nil (passes_call (takes_of rfl rfl rfl rfl) fun _ _ _ _ h => h) (pv 8) (pa_cons (pv 3) (pa_cons (pv 4) (pa_cons (pv 6) pa_nil))))) pa_nil)))
        (pss_cons (ps_expr (pe_bm PySem.F.plainAttrs_list PySem.F.slot_list_append PySem.F.type_list_append mt_append (pv 9) (pa_cons (pe_lamcall (T := tabR Pt) (TT := TTgot (catsG CGs CNb)) (k := 5) (by rfl) DG.mg DG.kp lk hcd DG.b scGot rfl (Or.inl rfl) (got_gives TG EGs ENb) TB rfl (by exact List.mem_singleton.mpr rfl) (fun z hz _ => by rw [List.mem_singleton.mp hz]; rfl) hr (show LamS (defScope sRight) _ from lamS_by (by decide +kernel)) rfl (fun _ _ _ _ _ => rfl)
          (fun A outer s H E f c' hr5 => pe_callV G3 hr5 k3 b3 .nil (passes_call (takes_of rfl rfl rfl rfl) fun _ _ _ _ h => h) (pv 8) (pa_cons (pv 1) (pa_cons (pv 4) (pa_cons (pv 6) pa_nil))))) pa_nil)))
        (pss_cons (ps_expr (pe_bm PySem.F.plainAttrs_list PySem.F.slot_list_append PySem.F.type_list_append mt_append (pv 9) (pa_cons (pe_lamcall (T := tabR Pt) (TT := TTgot (catsG CGs CNb)) (k := 5) (by rfl) DG.mg DG.kp lk hcd DG.b scGot rfl (Or.inl rfl) (got_gives TG EGs ENb) TB rfl (by exact List.mem_singleton.mpr rfl) (fun z hz _ => by rw [List.mem_singleton.mp hz]; rfl) hr (show LamS (defScope sRight) _ from lamS_by (by decide +kernel)) rfl (fun _ _ _ _ _ => rfl)
          (fun A outer s H E f c' hr5 => pe_callV G3 hr5 k3 b3 .nil (passes_call (takes_of rfl rfl rfl rfl) fun _ _ _ _ h => h) (pv 8) (pa_cons (pv 1) (pa_cons (pv 2) (pa_cons (pv 6) pa_nil))))) pa_nil)))
        (pss_cons (ps_set (i := 10) nd rfl (Or.inl rfl) (pe_lst (pa_cons (pe_lst (pa_cons pe_str (pa_cons (pv 3) (pa_cons pe_bl pa_nil)))) (pa_cons (pe_lst (pa_cons pe_str (pa_cons (pv 5) (pa_cons pe_bl pa_nil)))) (pa_cons (pe_lst (pa_cons pe_str (pa_cons (pv 7) (pa_cons pe_bl pa_nil)))) pa_nil)))))
        (pss_one (ps_if (pt_cmpR op_ne (pe_callB (call_reprU (k := 4) g hr6 hM) (by rfl) trepr (by decide +kernel) (pa_cons (pv 9) pa_nil)) (pe_callB (call_reprU (k := 4) g hr6 hM) (by rfl) trepr (by decide +kernel) (pa_cons (pv 10) pa_nil)) (nomark _)) (pss_one (ps_ret pe_bl)) pss_nil)))))))
        (pss_cons (ps_set (i := 11) nd rfl (Or.inl rfl) (pe_op op_repT (pe_tupS (pa_cons pe_str pa_nil)) pe_int))
        (pss_one (ps_ret (pe_cmpR (op_eqD hr.units) (pe_lstS (pa_cons (pe_call GTe hr7 (by rfl) DTe.mg DTe.kp DTe.b .nil L2.pass0 (pa_cons (pv 1) (pa_cons (pv 11) (pa_cons (pv 11) pa_nil)))) (pa_cons (pe_call GTe hr7 (by rfl) DTe.mg DTe.kp DTe.b .nil L2.pass0 (pa_cons (pv 1) (pa_cons (pe_tupS pa_nil) (pa_cons (pe_tupS pa_nil) pa_nil)))) (pa_cons (pe_call GTw hr7 (by rfl) DTw.mg DTw.kp DTw.b .nil L2.pass0 (pa_cons (pv 1) (pa_cons (pe_tupS pa_nil) pa_nil))) (pa_cons (pe_call GTr hr4 (by rfl) DTr.mg DTr.kp DTr.b .nil L2.pass0 (pa_cons (pv 1) (pa_cons (pe_tupS pa_nil) pa_nil))) pa_nil))))) (pe_lstS (pa_cons pe_bl (pa_cons pe_bl (pa_cons pe_bl (pa_cons (pe_tupS (pa_cons (pe_tupS (pa_cons pe_str (pa_cons pe_str (pa_cons pe_str pa_nil)))) (pa_cons (pe_tupS (pa_cons pe_int (pa_cons pe_int (pa_cons pe_int pa_nil)))) pa_nil))) pa_nil))))) (nomark _))))))))))), ?_⟩
    refine fun x dx nx nd_ ne => ⟨x, dx, _, _, rfl, by decide +kernel, by decide, by decide, upd_same, fun Hb bt ba => ⟨rfl, ?_⟩⟩
    have sb : Same H Hb := fun b o e => bt b o (ne_of_none e nx) (by rw [upd_ne (ne_of_none e nx), upd_ne (ne_of_none e nd_)]; exact e)
    have bd : Bd C Hb x Lb 3 := bd_new (by decide +kernel) ba ⟨by decide, by decide, by decide⟩
    have nxp : x ≠ p := fun z => by obtain ⟨_, _, _, e⟩ := hp; rw [z, e] at nx; cases nx
    have st := (Bs.self hp hT).same sb
    refine ⟨by show 2 ≤ 1000; decide, fun H2 good s2 gd => ?_⟩
    have st := st.same s2
    have bd := bd.same s2
    have n_gd : good ≠ p := ne_bowl st.bowl gd (fun _ z => by cases z)
    refine ⟨by show 2 ≤ 1000; decide, fun H3 T1 s3 e3 => ⟨T1, _, rfl, SqT.of e3, rfl, _, _, rfl, _, _, rfl, rfl, ?_⟩⟩
    have st := st.same s3
    have bd := bd.same s3
    have gd := s3 _ _ gd
    refine ⟨_, rfl, ?_⟩
    refine ⟨by show 2 ≤ 1000; decide, fun H4 ta s4 ea => ?_⟩
    have st := st.same s4
    have bd := bd.same s4
    have gd := s4 _ _ gd
    have n_ea : ta ≠ p := ne_bowl st.bowl ea (fun _ z => by cases z)
    refine ⟨_, rfl, by show 1 ≤ 1000; decide, fun H5 lb s5 eb => ?_⟩
    have st := st.same s5
    have bd := bd.same s5
    have gd := s5 _ _ gd
    have ea := s5 _ _ ea
    have n_eb : lb ≠ p := ne_lstp st.bowl eb (fun _ _ _ z => by cases z)
    refine fun H6 de s6 ed => ?_
    have st := st.same s6
    have bd := bd.same s6
    have gd := s6 _ _ gd
    have ea := s6 _ _ ea
    have eb := s6 _ _ eb
    have n_ed : de ≠ p := ne_bowl st.bowl ed (fun _ z => by cases z)
    refine ⟨by show 6 ≤ 1000; decide, fun H7 me s7 em => ?_⟩
    have st := st.same s7
    have bd := bd.same s7
    have gd := s7 _ _ gd
    have ea := s7 _ _ ea
    have eb := s7 _ _ eb
    have ed := s7 _ _ ed
    have n_em : me ≠ p := ne_lstp st.bowl em (fun _ _ _ z => by cases z)
    refine ⟨p, me, _, rfl, st.bowl, n_em, em, by simp, by simp, fun H8 nn R hv => ?_⟩
    have vn : VN p x H8 nn := by
      refine VN.keep ?_ (.but R.1)
      simp only [List.mem_cons, List.not_mem_nil, or_false] at hv
      rcases hv with rfl | rfl | rfl | rfl | rfl | rfl
      · exact .inl (itd_non trivial trivial)
      · exact .inl (itd_str _ (by decide +kernel) trivial trivial)
      · exact .inl (itd_tup n_ea ea (.cons (.str _) (.cons (.int _) .nil)) (.cons (Sh.str _ (by decide +kernel : _ ≤ 12)) (.cons (Sh.int _ (by decide +kernel) (by decide +kernel : _ ≤ 12)) ShAll.nil)) (by decide) trivial trivial)
      · exact .inr ⟨lb, rfl, n_eb, eb⟩
      · exact .inl (itd_int _ (by decide) (by decide +kernel) trivial trivial)
      · exact .inl (itd_dic n_ed ed trivial trivial)
    have st := st.stir R
    have bd := bd.kp nxp (.but R.1)
    have gd := R.1 _ _ n_gd gd
    refine ⟨_, rfl, p, rfl, st.bowl, fun H9 T2 bad spot R nT eT bm_bad => ?_⟩
    have st := st.stir R
    have bd := bd.kp nxp (.but R.1)
    have gd := R.1 _ _ n_gd gd
    have vn := vn.keep (.but R.1)
    refine ⟨T2, _, rfl, SqT.of eT, rfl, _, _, rfl, _, _, rfl, rfl, ?_⟩
    refine ⟨_, rfl, p, rfl, st.bowl, fun Hl T3 odd late R nT eT bm_odd => ?_⟩
    have st := st.stir R
    have bd := bd.kp nxp (.but R.1)
    have gd := R.1 _ _ n_gd gd
    have vn := vn.keep (.but R.1)
    have bm_bad := bm_bad.keep (.but R.1)
    refine ⟨T3, _, rfl, SqT.of eT, rfl, _, _, rfl, _, _, rfl, rfl, ?_⟩
    have low : LowK C p x good nn bad spot odd late Hl := ⟨bd, nxp, gd, n_gd, bm_bad, bm_odd, vn⟩
    have kall := st.kb
    have st := st.base
    obtain ⟨asN, asF, t_nn, sh_nn⟩ := VN.shv (X := (cxOf L2.CX0 P w K mg base nR "_law_right" (defScope sRight) f (.ref c) A outer s H E).nox) GRe aRe iRe bRe vn bd nxp
    obtain ⟨t_spot, sh_spot⟩ := spot_shw (X := (cxOf L2.CX0 P w K mg base nR "_law_right" (defScope sRight) f (.ref c) A outer s H E).nox) bm_bad
    obtain ⟨t_late, sh_late⟩ := spot_shw (X := (cxOf L2.CX0 P w K mg base nR "_law_right" (defScope sRight) f (.ref c) A outer s H E).nox) bm_odd
    clear sb s2 s3 s4 s5 s6 s7 R bd gd vn bm_bad bm_odd hv ba bt ea eb ed em e3 eT
    have go := low
    refine ⟨by show 3 ≤ 1000; decide, fun HL L sL eL => ?_⟩
    have kB := st.kb.trans (Kp.of sL)
    have low := low.keep kB
    have kall := kall.trans kB
    have asF : ∀ b ∈ asN, b ≠ p ∧ ∃ o, HL b = some o ∧ ∀ ps, o ≠ .tbl ps := fun b m => let ⟨n, o, ee, nt⟩ := asF b m; ⟨n, o, kB _ _ n nt ee, nt⟩
    have sh_nn := fun H' (k : Kp p HL H') => sh_nn H' (kB.trans k)
    have st := (st.same sL).base
    have nL : L ≠ p := ne_lstp st.bowl eL (fun _ _ _ z => by cases z)
    refine ⟨L, rfl, ⟨_, SqL.of eL⟩, for_it (walk_list (xs := [.ref (fs2 0), .ref (fs2 1), .ref (fs2 2)])) (fun j σ H' => (∃ v8 v9 v10 : Option V, σ = [some (.ref p), some (.ref x), some (.ref good), some nn, some bad, some spot, some odd, some late, v8, v9, v10, none]) ∧ Bs p (tabR Pt) HL H') ⟨⟨_, _, _, rfl⟩, st⟩ (fun j σ H' _ h => SqL.of (h.2.kb _ _ nL (fun _ z => by cases z) eL)) ?_ ?_⟩
    · rintro j y σ _ H1 hj ⟨⟨v8, v9, v10, rfl⟩, st⟩ ⟨rfl, hy⟩
      obtain ⟨i, rfl⟩ : ∃ i : Fin 3, y = .ref (fs2 i) := by
        match j, hy with
        | 0, hy => exact ⟨0, (Option.some.inj hy).symm⟩
        | 1, hy => exact ⟨1, (Option.some.inj hy).symm⟩
        | 2, hy => exact ⟨2, (Option.some.inj hy).symm⟩
        | j + 3, hy => simp at hy
      refine ⟨st.tabs, fun H3 x3 t3 => ?_⟩
      have kp := st.kb.trans (.ext x3)
      have lo := low.keep kp
      refine ⟨_, rfl, i, rfl, _, rfl, _, rfl, nn, bad, rfl, .inl ⟨lo.non.no TK, ComesG.of (comes_got (c := ⟨CNb, "NotABoard", some "value"⟩) (vs := [nn]) (.tail _ (.head _)) x3 t3 fun H4 q1 x4 t4 w4 e4 => ?_)⟩⟩
      have kc : Kp p _ _ := st.kb
      have n_q1 : q1 ∉ asN := fun m => by obtain ⟨bp, o, ee, nt⟩ := asF _ m; exact w4 _ o (kc _ _ bp nt ee) nt rfl
      refine ⟨by rw [sizeLine_eq]; show 1 ≤ 16777216; decide, fun S zS => ?_⟩
      obtain ⟨sn, wS⟩ := st.start x4 t4 w4 e4 zS
      have sn : Seen p S (tabR Pt) _ _ [(q1, [.str "NotABoard", nn, .bl true])] := sn
      refine ⟨_, rfl, .inl ⟨rfl, _, SqL.of sn.at_⟩, sn.tabs, fun H3 x3 t3 => ?_⟩
      have kp := Kp.ofKq wS (sn.kb.trans (.kp (.ext x3)))
      have lo := low.keep kp
      refine ⟨_, rfl, i, rfl, _, rfl, _, rfl, .ref x, bad, rfl, .inr ⟨x, Lb, 3, spot, rfl, lo.bd, lo.bad.bad, ComesG.of (comes_got (c := ⟨CGs, "InvalidGuesses", some "index"⟩) (vs := [spot]) (.head _) x3 t3 fun H4 q2 x4 t4 w4 e4 => ?_)⟩⟩
      have n_q2 : q2 ∉ asN := fun m => by obtain ⟨bp, o, ee, nt⟩ := asF _ m; exact w4 _ o (Kp.ofKq wS sn.kb _ _ bp nt ee) nt rfl
      obtain ⟨eS, sn⟩ := sn.got x4 t4 w4 e4
      refine ⟨S, _, _, rfl, rfl, eS, by rw [sizeLine_eq]; show 1 < 16777216; decide, ?_⟩
      have sn : Seen p S (tabR Pt) _ _ [(q1, [.str "NotABoard", nn, .bl true]), (q2, [.str "InvalidGuesses", spot, .bl true])] := sn
      have n_S : S ∉ asN := fun m => by obtain ⟨bp, o, ee, nt⟩ := asF _ m; exact wS _ o ee nt rfl
      refine ⟨_, rfl, ?_⟩
      unfold tNil
      dsimp only
      refine rows_show6 (X := (cxOf L2.CX0 P w K mg base nR "_law_right" (defScope sRight) f (.ref c) A outer s H E).nox) (as := asN) (rs := [⟨q1, "NotABoard", nn, t_nn⟩, ⟨q2, "InvalidGuesses", spot, t_spot⟩]) (listText [rowT "NotABoard" t_nn, rowT "InvalidGuesses" t_spot]) rfl hM sn.at_ (fun r hr => ?_) (fun m => ?_) (by simp) (by simp) fun H8 s8 => ?_
      · simp only [List.mem_cons, List.not_mem_nil, or_false] at hr
        rcases hr with rfl | rfl
        · exact ⟨(sn.rows (q1, [.str "NotABoard", nn, .bl true]) (by simp)).1, (show (reprText "NotABoard").length ≤ 100 from by decide +kernel), sh_nn _ (Kp.ofKq wS sn.kb), n_q1⟩
        · exact ⟨(sn.rows (q2, [.str "InvalidGuesses", spot, .bl true]) (by simp)).1, (show (reprText "InvalidGuesses").length ≤ 100 from by decide +kernel), sh_spot _ _, n_q2⟩
      · simp only [List.map_cons, List.map_nil, List.cons_append, List.nil_append, List.mem_cons] at m
        rcases m with h | h | m
        · exact (sn.rows (q1, [.str "NotABoard", nn, .bl true]) (by simp)).2.1 h.symm
        · exact (sn.rows (q2, [.str "InvalidGuesses", spot, .bl true]) (by simp)).2.1 h.symm
        · exact n_S m
      have sn := sn.same s8
      refine ⟨_, rfl, by rw [sizeLine_eq]; show 3 ≤ 16777216; decide, fun r1 z_r1 => ?_⟩
      have n_r1 : r1 ∉ asN := fun m => by obtain ⟨bp, o, ee, nt⟩ := asF _ m; exact (ne_of_none (Kp.ofKq wS sn.kb _ _ bp nt ee) z_r1) rfl
      have sx := same_upd (o := HO.lst [.str "NotABoard", nn, .bl true]) z_r1
      have sn := sn.same sx
      have e_r1 := new_at (o := HO.lst [.str "NotABoard", nn, .bl true]) z_r1
      refine ⟨_, rfl, by rw [sizeLine_eq]; show 3 ≤ 16777216; decide, fun r2 z_r2 => ?_⟩
      have n_r2 : r2 ∉ asN := fun m => by obtain ⟨bp, o, ee, nt⟩ := asF _ m; exact (ne_of_none (Kp.ofKq wS sn.kb _ _ bp nt ee) z_r2) rfl
      have d_r1_r2 : r1 ≠ r2 := ne_of_none e_r1 z_r2
      have sx := same_upd (o := HO.lst [.str "InvalidGuesses", spot, .bl true]) z_r2
      have sn := sn.same sx
      have e_r1 := sx _ _ e_r1
      have e_r2 := new_at (o := HO.lst [.str "InvalidGuesses", spot, .bl true]) z_r2
      refine ⟨by rw [sizeLine_eq]; show 2 ≤ 16777216; decide, fun D z_D => ?_⟩
      have n_D : D ∉ asN := fun m => by obtain ⟨bp, o, ee, nt⟩ := asF _ m; exact (ne_of_none (Kp.ofKq wS sn.kb _ _ bp nt ee) z_D) rfl
      have d_r1_D : r1 ≠ D := ne_of_none e_r1 z_D
      have d_r2_D : r2 ≠ D := ne_of_none e_r2 z_D
      have sx := same_upd (o := HO.lst [.ref r1, .ref r2]) z_D
      have sn := sn.same sx
      have e_r1 := sx _ _ e_r1
      have e_r2 := sx _ _ e_r2
      have e_D := new_at (o := HO.lst [.ref r1, .ref r2]) z_D
      try unfold tNil
      dsimp only
      refine rows_show6 (X := (cxOf L2.CX0 P w K mg base nR "_law_right" (defScope sRight) f (.ref c) A outer s H E).nox) (as := asN) (rs := [⟨r1, "NotABoard", nn, t_nn⟩, ⟨r2, "InvalidGuesses", spot, t_spot⟩]) (listText [rowT "NotABoard" t_nn, rowT "InvalidGuesses" t_spot]) rfl hM e_D (fun r hr => ?_) (fun m => ?_) (by simp) (by simp) fun H8 s8 => ?_
      · simp only [List.mem_cons, List.not_mem_nil, or_false] at hr
        rcases hr with rfl | rfl
        · exact ⟨e_r1, (show (reprText "NotABoard").length ≤ 100 from by decide +kernel), sh_nn _ (Kp.ofKq wS sn.kb), n_r1⟩
        · exact ⟨e_r2, (show (reprText "InvalidGuesses").length ≤ 100 from by decide +kernel), sh_spot _ _, n_r2⟩
      · simp only [List.map_cons, List.map_nil, List.cons_append, List.nil_append, List.mem_cons] at m
        rcases m with h | h | m
        · exact d_r1_D h.symm
        · exact d_r2_D h.symm
        · exact n_D m
      have sn := sn.same s8
      refine ⟨rfl, _, rfl, ?_⟩
      rw [decide_eq_true rfl]
      exact iteF ⟨⟨_, _, _, rfl⟩, Kp.ofKq wS sn.kb, sn.bowl, sn.tabs⟩
    rintro σ H1 ⟨⟨v8, v9, v10, rfl⟩, st⟩
    refine ⟨by show 2 ≤ 1000; decide, fun HL L sL eL => ?_⟩
    have kB := st.kb.trans (Kp.of sL)
    have low := low.keep kB
    have kall := kall.trans kB
    have asF : ∀ b ∈ asN, b ≠ p ∧ ∃ o, HL b = some o ∧ ∀ ps, o ≠ .tbl ps := fun b m => let ⟨n, o, ee, nt⟩ := asF b m; ⟨n, o, kB _ _ n nt ee, nt⟩
    have sh_nn := fun H' (k : Kp p HL H') => sh_nn H' (kB.trans k)
    have st := (st.same sL).base
    have nL : L ≠ p := ne_lstp st.bowl eL (fun _ _ _ z => by cases z)
    refine ⟨L, rfl, ⟨_, SqL.of eL⟩, for_it (walk_list (xs := [.ref (fs3 0), .ref (fs3 1)])) (fun j σ H' => (∃ v8 v9 v10 : Option V, σ = [some (.ref p), some (.ref x), some (.ref good), some nn, some bad, some spot, some odd, some late, v8, v9, v10, none]) ∧ Bs p (tabR Pt) HL H') ⟨⟨_, _, _, rfl⟩, st⟩ (fun j σ H' _ h => SqL.of (h.2.kb _ _ nL (fun _ z => by cases z) eL)) ?_ ?_⟩
    · rintro j y σ _ H1 hj ⟨⟨v8, v9, v10, rfl⟩, st⟩ ⟨rfl, hy⟩
      obtain ⟨i, rfl⟩ : ∃ i : Fin 2, y = .ref (fs3 i) := by
        match j, hy with
        | 0, hy => exact ⟨0, (Option.some.inj hy).symm⟩
        | 1, hy => exact ⟨1, (Option.some.inj hy).symm⟩
        | j + 2, hy => simp at hy
      refine ⟨st.tabs, fun H3 x3 t3 => ?_⟩
      have kp := st.kb.trans (.ext x3)
      have lo := low.keep kp
      refine ⟨_, rfl, i, rfl, _, rfl, _, rfl, _, rfl, nn, bad, odd, rfl, .inl ⟨lo.non.no TK, ComesG.of (comes_got (c := ⟨CNb, "NotABoard", some "value"⟩) (vs := [nn]) (.tail _ (.head _)) x3 t3 fun H4 q1 x4 t4 w4 e4 => ?_)⟩⟩
      have kc : Kp p _ _ := st.kb
      have n_q1 : q1 ∉ asN := fun m => by obtain ⟨bp, o, ee, nt⟩ := asF _ m; exact w4 _ o (kc _ _ bp nt ee) nt rfl
      refine ⟨by rw [sizeLine_eq]; show 1 ≤ 16777216; decide, fun S zS => ?_⟩
      obtain ⟨sn, wS⟩ := st.start x4 t4 w4 e4 zS
      have sn : Seen p S (tabR Pt) _ _ [(q1, [.str "NotABoard", nn, .bl true])] := sn
      refine ⟨_, rfl, .inl ⟨rfl, _, SqL.of sn.at_⟩, sn.tabs, fun H3 x3 t3 => ?_⟩
      have kp := Kp.ofKq wS (sn.kb.trans (.kp (.ext x3)))
      have lo := low.keep kp
      refine ⟨_, rfl, i, rfl, _, rfl, _, rfl, _, rfl, .ref x, bad, odd, rfl, .inr ⟨x, Lb, 3, spot, rfl, lo.bd, ComesG.of (comes_got (c := ⟨CGs, "InvalidGuesses", some "index"⟩) (vs := [spot]) (.head _) x3 t3 fun H4 q2 x4 t4 w4 e4 => ?_), .inl lo.bad.bad⟩⟩
      have n_q2 : q2 ∉ asN := fun m => by obtain ⟨bp, o, ee, nt⟩ := asF _ m; exact w4 _ o (Kp.ofKq wS sn.kb _ _ bp nt ee) nt rfl
      obtain ⟨eS, sn⟩ := sn.got x4 t4 w4 e4
      refine ⟨S, _, _, rfl, rfl, eS, by rw [sizeLine_eq]; show 1 < 16777216; decide, ?_⟩
      have sn : Seen p S (tabR Pt) _ _ [(q1, [.str "NotABoard", nn, .bl true]), (q2, [.str "InvalidGuesses", spot, .bl true])] := sn
      refine ⟨_, rfl, .inl ⟨rfl, _, SqL.of sn.at_⟩, sn.tabs, fun H3 x3 t3 => ?_⟩
      have kp := Kp.ofKq wS (sn.kb.trans (.kp (.ext x3)))
      have lo := low.keep kp
      refine ⟨_, rfl, i, rfl, _, rfl, _, rfl, _, rfl, .ref x, .ref good, odd, rfl, .inr ⟨x, Lb, 3, late, rfl, lo.bd, ComesG.of (comes_got (c := ⟨CGs, "InvalidGuesses", some "index"⟩) (vs := [late]) (.head _) x3 t3 fun H4 q3 x4 t4 w4 e4 => ?_), .inr ⟨good, _, rfl, lo.gs, lo.odd.bad⟩⟩⟩
      have n_q3 : q3 ∉ asN := fun m => by obtain ⟨bp, o, ee, nt⟩ := asF _ m; exact w4 _ o (Kp.ofKq wS sn.kb _ _ bp nt ee) nt rfl
      obtain ⟨eS, sn⟩ := sn.got x4 t4 w4 e4
      refine ⟨S, _, _, rfl, rfl, eS, by rw [sizeLine_eq]; show 2 < 16777216; decide, ?_⟩
      have sn : Seen p S (tabR Pt) _ _ [(q1, [.str "NotABoard", nn, .bl true]), (q2, [.str "InvalidGuesses", spot, .bl true]), (q3, [.str "InvalidGuesses", late, .bl true])] := sn
      have n_S : S ∉ asN := fun m => by obtain ⟨bp, o, ee, nt⟩ := asF _ m; exact wS _ o ee nt rfl
      refine ⟨_, rfl, by rw [sizeLine_eq]; show 3 ≤ 16777216; decide, fun r1 z_r1 => ?_⟩
      have n_r1 : r1 ∉ asN := fun m => by obtain ⟨bp, o, ee, nt⟩ := asF _ m; exact (ne_of_none (Kp.ofKq wS sn.kb _ _ bp nt ee) z_r1) rfl
      have sx := same_upd (o := HO.lst [.str "NotABoard", nn, .bl true]) z_r1
      have sn := sn.same sx
      have e_r1 := new_at (o := HO.lst [.str "NotABoard", nn, .bl true]) z_r1
      refine ⟨_, rfl, by rw [sizeLine_eq]; show 3 ≤ 16777216; decide, fun r2 z_r2 => ?_⟩
      have n_r2 : r2 ∉ asN := fun m => by obtain ⟨bp, o, ee, nt⟩ := asF _ m; exact (ne_of_none (Kp.ofKq wS sn.kb _ _ bp nt ee) z_r2) rfl
      have d_r1_r2 : r1 ≠ r2 := ne_of_none e_r1 z_r2
      have sx := same_upd (o := HO.lst [.str "InvalidGuesses", spot, .bl true]) z_r2
      have sn := sn.same sx
      have e_r1 := sx _ _ e_r1
      have e_r2 := new_at (o := HO.lst [.str "InvalidGuesses", spot, .bl true]) z_r2
      refine ⟨_, rfl, by rw [sizeLine_eq]; show 3 ≤ 16777216; decide, fun r3 z_r3 => ?_⟩
      have n_r3 : r3 ∉ asN := fun m => by obtain ⟨bp, o, ee, nt⟩ := asF _ m; exact (ne_of_none (Kp.ofKq wS sn.kb _ _ bp nt ee) z_r3) rfl
      have d_r1_r3 : r1 ≠ r3 := ne_of_none e_r1 z_r3
      have d_r2_r3 : r2 ≠ r3 := ne_of_none e_r2 z_r3
      have sx := same_upd (o := HO.lst [.str "InvalidGuesses", late, .bl true]) z_r3
      have sn := sn.same sx
      have e_r1 := sx _ _ e_r1
      have e_r2 := sx _ _ e_r2
      have e_r3 := new_at (o := HO.lst [.str "InvalidGuesses", late, .bl true]) z_r3
      refine ⟨by rw [sizeLine_eq]; show 3 ≤ 16777216; decide, fun D z_D => ?_⟩
      have n_D : D ∉ asN := fun m => by obtain ⟨bp, o, ee, nt⟩ := asF _ m; exact (ne_of_none (Kp.ofKq wS sn.kb _ _ bp nt ee) z_D) rfl
      have d_r1_D : r1 ≠ D := ne_of_none e_r1 z_D
      have d_r2_D : r2 ≠ D := ne_of_none e_r2 z_D
      have d_r3_D : r3 ≠ D := ne_of_none e_r3 z_D
      have sx := same_upd (o := HO.lst [.ref r1, .ref r2, .ref r3]) z_D
      have sn := sn.same sx
      have e_r1 := sx _ _ e_r1
      have e_r2 := sx _ _ e_r2
      have e_r3 := sx _ _ e_r3
      have e_D := new_at (o := HO.lst [.ref r1, .ref r2, .ref r3]) z_D
      refine ⟨_, rfl, ?_⟩
      unfold tNil
      dsimp only
      refine rows_show6 (X := (cxOf L2.CX0 P w K mg base nR "_law_right" (defScope sRight) f (.ref c) A outer s H E).nox) (as := asN) (rs := [⟨q1, "NotABoard", nn, t_nn⟩, ⟨q2, "InvalidGuesses", spot, t_spot⟩, ⟨q3, "InvalidGuesses", late, t_late⟩]) (listText [rowT "NotABoard" t_nn, rowT "InvalidGuesses" t_spot, rowT "InvalidGuesses" t_late]) rfl hM sn.at_ (fun r hr => ?_) (fun m => ?_) (by simp) (by simp) fun H8 s8 => ?_
      · simp only [List.mem_cons, List.not_mem_nil, or_false] at hr
        rcases hr with rfl | rfl | rfl
        · exact ⟨(sn.rows (q1, [.str "NotABoard", nn, .bl true]) (by simp)).1, (show (reprText "NotABoard").length ≤ 100 from by decide +kernel), sh_nn _ (Kp.ofKq wS sn.kb), n_q1⟩
        · exact ⟨(sn.rows (q2, [.str "InvalidGuesses", spot, .bl true]) (by simp)).1, (show (reprText "InvalidGuesses").length ≤ 100 from by decide +kernel), sh_spot _ _, n_q2⟩
        · exact ⟨(sn.rows (q3, [.str "InvalidGuesses", late, .bl true]) (by simp)).1, (show (reprText "InvalidGuesses").length ≤ 100 from by decide +kernel), sh_late _ _, n_q3⟩
      · simp only [List.map_cons, List.map_nil, List.cons_append, List.nil_append, List.mem_cons] at m
        rcases m with h | h | h | m
        · exact (sn.rows (q1, [.str "NotABoard", nn, .bl true]) (by simp)).2.1 h.symm
        · exact (sn.rows (q2, [.str "InvalidGuesses", spot, .bl true]) (by simp)).2.1 h.symm
        · exact (sn.rows (q3, [.str "InvalidGuesses", late, .bl true]) (by simp)).2.1 h.symm
        · exact n_S m
      have sn := sn.same s8
      have e_r1 := s8 _ _ e_r1
      have e_r2 := s8 _ _ e_r2
      have e_r3 := s8 _ _ e_r3
      have e_D := s8 _ _ e_D
      refine ⟨_, rfl, ?_⟩
      try unfold tNil
      dsimp only
      refine rows_show6 (X := (cxOf L2.CX0 P w K mg base nR "_law_right" (defScope sRight) f (.ref c) A outer s H E).nox) (as := asN) (rs := [⟨r1, "NotABoard", nn, t_nn⟩, ⟨r2, "InvalidGuesses", spot, t_spot⟩, ⟨r3, "InvalidGuesses", late, t_late⟩]) (listText [rowT "NotABoard" t_nn, rowT "InvalidGuesses" t_spot, rowT "InvalidGuesses" t_late]) rfl hM e_D (fun r hr => ?_) (fun m => ?_) (by simp) (by simp) fun H8 s8 => ?_
      · simp only [List.mem_cons, List.not_mem_nil, or_false] at hr
        rcases hr with rfl | rfl | rfl
        · exact ⟨e_r1, (show (reprText "NotABoard").length ≤ 100 from by decide +kernel), sh_nn _ (Kp.ofKq wS sn.kb), n_r1⟩
        · exact ⟨e_r2, (show (reprText "InvalidGuesses").length ≤ 100 from by decide +kernel), sh_spot _ _, n_r2⟩
        · exact ⟨e_r3, (show (reprText "InvalidGuesses").length ≤ 100 from by decide +kernel), sh_late _ _, n_r3⟩
      · simp only [List.map_cons, List.map_nil, List.cons_append, List.nil_append, List.mem_cons] at m
        rcases m with h | h | h | m
        · exact d_r1_D h.symm
        · exact d_r2_D h.symm
        · exact d_r3_D h.symm
        · exact n_D m
      have sn := sn.same s8
      refine ⟨rfl, _, rfl, ?_⟩
      rw [decide_eq_true rfl]
      exact iteF ⟨⟨_, _, _, rfl⟩, Kp.ofKq wS sn.kb, sn.bowl, sn.tabs⟩
    rintro σ H1 ⟨⟨v8, v9, v10, rfl⟩, st⟩
    have lo := low.keep st.kb
    refine ⟨by show 1 ≤ 1000; decide, fun H2 t1 s2 e2 => ?_⟩
    refine ⟨t1, 20, [.str "abc"], rfl, rfl, SqT.of e2, by simp, by decide, by decide, by show 1 ≤ 1000; decide, fun mo zm => ?_⟩
    have ef : (List.replicate (Int.toNat 20) [V.str "abc"]).flatten = txs G20 := by decide +kernel
    rw [ef]
    have hmo := new_at (o := HO.tup (txs G20)) zm
    have sS := Gm.Same.trans s2 (same_upd (o := HO.tup (txs G20)) zm)
    generalize upd H2 mo (HO.tup (txs G20)) = H3 at hmo sS ⊢
    have lnd : Lb.Nodup := by decide
    have gm : GsAt H3 mo Lb 3 G20 := ⟨hmo, by decide, by decide⟩
    refine ⟨_, rfl, _, rfl, _, rfl, x, mo, mo, Lb, 3, G20, G20, rfl, lo.bd.same sS, lnd, gm, gm, part1, fun H4 s4 => ?_⟩
    have sS := Gm.Same.trans sS s4
    have g0 : ∀ {Hx : Hp} {u : Addr}, Hx u = some (.tup []) → GsAt Hx u Lb 3 [] := fun e => ⟨e, by decide, fun g h => by cases h⟩
    refine ⟨_, rfl, by show 0 ≤ 1000; decide, fun H5 u1 s5 e5 => ⟨by show 0 ≤ 1000; decide, fun H6 u2 s6 e6 => ?_⟩⟩
    have sS := Gm.Same.trans (Gm.Same.trans sS s5) s6
    refine ⟨x, u1, u2, Lb, 3, [], [], rfl, lo.bd.same sS, lnd, g0 (s6 _ _ e5), g0 e6, part0, fun H7 s7 => ?_⟩
    have sS := Gm.Same.trans sS s7
    refine ⟨_, rfl, by show 0 ≤ 1000; decide, fun H8 u3 s8 e8 => ?_⟩
    have sS := Gm.Same.trans sS s8
    refine ⟨x, u3, Lb, 3, [], rfl, lo.bd.same sS, lnd, g0 e8, twins0, fun H9 s9 => ?_⟩
    have sS := Gm.Same.trans sS s9
    refine ⟨_, rfl, by show 0 ≤ 1000; decide, fun H10 u4 s10 e10 => ?_⟩
    have sS := Gm.Same.trans sS s10
    refine ⟨x, u4, Lb, 3, [], rfl, lo.bd.same sS, e10, (fun g h => by cases h), by decide, fun H11 Tr s11 _ hTr => ?_⟩
    have sS := Gm.Same.trans sS s11
    refine ⟨by show 4 ≤ 1000; decide, fun H12 R1 s12 r1 => ⟨by show 3 ≤ 1000; decide, fun H13 a1 s13 f1 => ⟨by show 3 ≤ 1000; decide, fun H14 a2 s14 f2 => ⟨by show 2 ≤ 1000; decide, fun H15 a3 s15 f3 => ⟨by show 4 ≤ 1000; decide, fun H16 R2 s16 r2 => ?_⟩⟩⟩⟩⟩
    have s1316 := Gm.Same.trans (Gm.Same.trans (Gm.Same.trans s13 s14) s15) s16
    have s1216 := Gm.Same.trans s12 s1316
    have sS := Gm.Same.trans sS s1216
    obtain ⟨At, Bt, t1', t2', t3'⟩ := hTr
    have k2' : ((List.range (Int.toNat 3)).map fun i => V.str (tx (atL Lb [] i))) = [.str "", .str "", .str ""] := by decide +kernel
    have k3' : (Lb.map fun c => V.int (mostC [] c)) = [.int 0, .int 0, .int 0] := by decide +kernel
    rw [k2'] at t2'
    rw [k3'] at t3'
    have t1' := s1216 _ _ t1'
    have t2' := s1216 _ _ t2'
    have t3' := s1216 _ _ t3'
    have r1 := s1316 _ _ r1
    have f1 := s16 _ _ (s15 _ _ (s14 _ _ f1))
    have f2 := s16 _ _ (s15 _ _ f2)
    have f3 := s16 _ _ f3
    refine ⟨.list [.bool true, .bool true, .bool false, .tuple [.tuple [.str "", .str "", .str ""], .tuple [.int 0, .int 0, .int 0]]], .list [.bool true, .bool true, .bool false, .tuple [.tuple [.str "", .str "", .str ""], .tuple [.int 0, .int 0, .int 0]]], .lst (SqL.of r1) (.cons (.bl _) (.cons (.bl _) (.cons (.bl _) (.cons (.tup (SqT.of t1') (.cons (.tup (SqT.of t2') (.cons (.str _) (.cons (.str _) (.cons (.str _) .nil)))) (.cons (.tup (SqT.of t3') (.cons (.int _) (.cons (.int _) (.cons (.int _) .nil)))) .nil))) .nil)))), .lst (SqL.of r2) (.cons (.bl _) (.cons (.bl _) (.cons (.bl _) (.cons (.tup (SqT.of f3) (.cons (.tup (SqT.of f1) (.cons (.str _) (.cons (.str _) (.cons (.str _) .nil)))) (.cons (.tup (SqT.of f2) (.cons (.int _) (.cons (.int _) (.cons (.int _) .nil)))) .nil))) .nil)))), by decide +kernel, by decide +kernel, ?_⟩
    have fin : ∀ b : Bool, b = true → Q (.bl b) H16 := fun b e => by rw [e]; exact q _ (kall.trans (st.kb.trans (.of sS))) (st.same sS).tabs (st.same sS).bowl
    exact fin _ (by decide +kernel)
end
end Gm

-- NOREN
namespace Gm
open PySem PySem.Spec PyProof.Rows L2 LamX

def spLaw (K : PySem.W.Frag) : Sp := fun vs H Q _ => ∃ (a : Addr) (ns : List Int), vs = [.ref a] ∧ SqL K H a (ns.map V.int) ∧ ns.length ≤ 63 ∧ ∀ H', Q (.bl true) H'
def spLawT (K : PySem.W.Frag) (c Pt : Addr) : Sp := fun vs H Q E => (∀ p ∈ [(c, Pt)], H p.2 = some (.tbl #[])) ∧ spLaw K vs H Q E
structure TxL (mg : Str → Option Value) : Prop where
  all : mg "all" = none
  range : mg "range" = none
  max : mg "max" = none
  min : mg "min" = none
  len : mg "len" = none
theorem SqL.extN {K : PySem.W.Frag} {H H' : Hp} {a : Addr} {xs : List V} (h : SqL K H a xs) (e : ExtN H H') : SqL K H' a xs := by
  rcases h with (h | ⟨o, h⟩) | h
  · exact .inl (.inl (e _ _ h fun _ z => by cases z))
  · exact .inl (.inr ⟨o, e _ _ h fun _ z => by cases z⟩)
  · exact .inr h
theorem fam3 {Pr : Addr → FuncData → Prop} {a b c : Addr} {x y z : FuncData} (h1 : Pr a x) (h2 : Pr b y) (h3 : Pr c z) : ∃ (fs : Fin 3 → Addr) (fds : Fin 3 → FuncData), fs 0 = a ∧ fs 1 = b ∧ fs 2 = c ∧ ∀ j, Pr (fs j) (fds j) :=
  ⟨fun j => match j with | 0 => a | 1 => b | 2 => c, fun j => match j with | 0 => x | 1 => y | 2 => z, rfl, rfl, rfl, fun j => match j with | 0 => h1 | 1 => h2 | 2 => h3⟩
theorem fam2 {Pr : Addr → FuncData → Prop} {a b : Addr} {x y : FuncData} (h1 : Pr a x) (h2 : Pr b y) : ∃ (fs : Fin 2 → Addr) (fds : Fin 2 → FuncData), fs 0 = a ∧ fs 1 = b ∧ ∀ j, Pr (fs j) (fds j) :=
  ⟨fun j => match j with | 0 => a | 1 => b, fun j => match j with | 0 => x | 1 => y, rfl, rfl, fun j => match j with | 0 => h1 | 1 => h2⟩
theorem kw_tried {K : PySem.W.Frag} {f : Addr} {fd : FuncData} (F : Fun K "tried" "tried" sTried f fd) : KBinds K fd ["board", "guesses"] ["guesses", "board"] gRev2 gRev2 := by
  obtain ⟨oc, od, kV, doc, pm, an, cdv, ct, osl, rfl, lk, hcd⟩ := F.ex
  refine ⟨fun s us ws X l1 => ?_, gRev2_rel⟩
  match us, ws, l1 with
  | [], [a, b], _ => exact .of_eq rfl
  | [], [], l | [], [_], l | [], _ :: _ :: _ :: _, l | _ :: _, _, l => simp [gRev2] at l
theorem kw_tells_word {K : PySem.W.Frag} {f : Addr} {fd : FuncData} (F : Fun K "tells_word" "tells_word" sTellW f fd) : KBinds K fd ["board", "guesses"] ["guesses", "board"] gRev2 gRev2 := by
  obtain ⟨oc, od, kV, doc, pm, an, cdv, ct, osl, rfl, lk, hcd⟩ := F.ex
  refine ⟨fun s us ws X l1 => ?_, gRev2_rel⟩
  match us, ws, l1 with
  | [], [a, b], _ => exact .of_eq rfl
  | [], [], l | [], [_], l | [], _ :: _ :: _ :: _, l | _ :: _, _, l => simp [gRev2] at l
theorem kw_twins {K : PySem.W.Frag} {f : Addr} {fd : FuncData} (F : Fun K "twins" "twins" sTwins f fd) : KBinds K fd ["board", "guesses"] ["guesses", "board"] gRev2 gRev2 := by
  obtain ⟨oc, od, kV, doc, pm, an, cdv, ct, osl, rfl, lk, hcd⟩ := F.ex
  refine ⟨fun s us ws X l1 => ?_, gRev2_rel⟩
  match us, ws, l1 with
  | [], [a, b], _ => exact .of_eq rfl
  | [], [], l | [], [_], l | [], _ :: _ :: _ :: _, l | _ :: _, _, l => simp [gRev2] at l
section
variable {P : Program} {w : World} {K : PySem.W.Frag} {mg : Str → Option Value} {base : Heap}
abbrev nL : List Str := ["_law_script", "_law_k"]
theorem scL : FnScope nL ["_law_script"] (defScope sLaw) := ⟨rfl, rfl, rfl, by decide +kernel, rfl, by decide +kernel, by decide +kernel⟩
theorem ok_law {f fB fR c Pt : Addr} {fd fdB fdR : FuncData} (F : Fun K "law" "law" sLaw f fd) (T : TxL mg)
    (GB : FnOk P w K mg base L2.CX0 1 fB fdB ["_law_script", "_law_k"] (spBowl K)) (DB : Df K mg "_law_bowl" fB fdB ["_law_script", "_law_k"])
    (GR : FnG P w K mg base L2.CX0 8 fR fdR ["_law_bowl_here"] (spRight Pt)) (DR : Df K mg "_law_right" fR fdR ["_law_bowl_here"]) : FnG P w K mg base L2.CX0 9 f fd ["_law_script"] (spLawT K c Pt) := by
  refine F.okG scL (fun vs H Q E h => ?_) (fun cdv A outer s H vs Q E g hr h => ?_)
  · obtain ⟨_, a, ns, rfl, _⟩ := h
    rfl
  · obtain ⟨hT, a, ns, rfl, hS, hlen, q⟩ := h
    have nd := scL.nd
    have hr1 : Room 1 _ := hr.mono (by decide)
    refine ⟨_, pss_one (ps_ret (pe_callB (cr_all rfl) (by rfl) T.all (by decide +kernel) (pa_cons
      (pe_lc (own := [("_law_k", 1)]) (g := gName 1) (by rfl) nd
        (pi_range1 (by rfl) T.range (pa_cons (pe_callB (call_max2 rfl) (by rfl) T.max (by decide +kernel) (pa_cons pe_int (pa_cons (pe_callB (call_min2 rfl) (by rfl) T.min (by decide +kernel)
          (pa_cons (pe_callB call_len_seq (by rfl) T.len PySem.boot_len (pa_cons (pv 0) pa_nil)) (pa_cons pe_int pa_nil))) pa_nil))) pa_nil))
        (blkOk_by (own := [("_law_k", 1)]) (N := nL) (sc := defScope sLaw) (by decide +kernel))
        (fun _ _ _ _ _ => pg_name (i := 1) nd rfl (Or.inl rfl)) (fun _ _ _ _ _ => pts_nil)
        (fun _ _ _ _ _ => pe_callG GR g hr (by rfl) DR.mg DR.kp DR.b L2.pass0 (pa_cons (pe_call GB hr1 (by rfl) DB.mg DB.kp DB.b .nil L2.pass0 (pa_cons (pv 0) (pa_cons (pv 1) pa_nil))) pa_nil))) pa_nil))), ?_⟩
    have hline : sizeLine = 16777216 := sizeLine_eq
    refine ⟨_, rfl, a, _, rfl, .inl hS, _, _, rfl, _, _, rfl, ?_⟩
    refine ⟨_, rfl, ?_, ?_, fun D hD => ?_⟩
    · rw [List.length_map]
      split <;> (try split) <;> omega
    · rw [List.length_map]
      split <;> (try split) <;> omega
    have hn : ∀ L : Int, (if (if (6 : Int) < L then (6 : Int) else L) > 2 then (if (6 : Int) < L then (6 : Int) else L) else 2).toNat ≤ 6 := fun L => by
      split <;> (try split) <;> omega
    have tab0 : Tabs (tabR Pt) H := fun z hz => by
      rw [List.mem_singleton.mp hz]
      exact TabS.nil (hT _ (List.mem_singleton.mpr rfl))
    refine lc_range (lo := 0) (fun i H' => ExtN H H' ∧ Tabs (tabR Pt) H' ∧ H' D = some (.lst ((List.replicate i true).map V.bl))) ⟨ExtN.of (same_upd hD), tab0.ext (same_upd hD), upd_same⟩ ?_ ?_
    · rintro i H1 hi ⟨sm, tb, hDi⟩
      have hi6 : i < 6 := Nat.lt_of_lt_of_le hi (hn _)
      refine ⟨rfl, ⟨_, rfl, _, rfl, a, ns, _, rfl, SqL.extN hS sm, hlen, by omega, fun H2 p s2 np B => ⟨p, rfl, B, tb.ext s2, fun H3 k3 t3 B3 => ?_⟩⟩⟩
      have keep : ExtN H1 H3 := fun b o e t => k3 b o (ne_of_none e np) t (s2 b o e)
      have hD3 := keep _ _ hDi fun _ z => by cases z
      refine ⟨_, hD3, ?_, fun b u e t => ?_, ?_, ?_⟩
      · rw [List.length_map, List.length_replicate]
        omega
      · rw [upd_ne (ne_of_none e hD)]
        exact keep b u (sm b u e t) t
      · exact tabs_put t3 hD3
      · rw [upd_same, List.replicate_succ', List.map_append]
        rfl
    · rintro H1 ⟨sm, tb, hD1⟩
      refine ⟨D, _, rfl, SqL.of hD1, ?_⟩
      rw [List.all_replicate]
      simp only [id, if_true, ite_self]
      exact q _
end
end Gm

-- NOREN
namespace Gm
open PySem PySem.Spec PyProof.Rows L2 LamX


theorem kit_ref {K : PySem.W.Frag} {t : Value} {C : Addr} (h2 : PySem.W.isClsIn K C = true) (h3 : PySem.W.typeIn K (.ref C) = some (.type "type")) (h4 : PySem.W.subIn K t (.ref C) = some true) : PySem.W.kitOne K t (.ref C) = some true := by
  unfold PySem.W.kitOne
  split
  · rfl
  · have e2 : ((PySem.W.clsIn K C).isSome && PySem.W.typeIn K (.ref C) == some (.type "type")) = true := by
      have h2' : (PySem.W.clsIn K C).isSome = true := h2
      rw [h2', h3] <;> rfl
    exact (if_pos e2).trans h4
theorem kit_type {K : PySem.W.Frag} {t : Value} {T : String} (h1 : PySem.W.kitMeta T = true) (h4 : PySem.W.subIn K t (.type T) = some true) : PySem.W.kitOne K t (.type T) = some true := by
  unfold PySem.W.kitOne
  split
  · rfl
  · exact (if_pos h1).trans h4
/-- the code table of a def of the top -/
theorem tab_of {q : Program} {K : PySem.W.Frag} {h : Heap} {mg : Str → Option Value} {x : Str} {f c P : Addr} {oc kV doc pm ct ok : Value} {o2 an dk : Option Addr} {sl sk : Array (Option Value)} {vs : Array Value} {qn : Str} {ar : Arguments} {bd : List Stmt} {sc : Scope} (X : K.In h) (hm : mg x = some (.ref f))
    (lk : K.lookup f = some ⟨oc, o2, .func (PySem.W.fnOf x qn ar bd sc .none kV doc pm an (.ref c) ct), sl⟩) (lc : K.lookup c = some ⟨ok, dk, .fields vs, sk⟩) (hP : vs[11]? = some (.ref P))
    (tab : ∀ d ∈ recsOf q, ∃ a o fd c P, mg d.name = some (.ref a) ∧ h.get? a = some o ∧ o.data = .func fd ∧ fd.code = .ref c ∧ h.IsCode c P #[] ∧ h.TableAt c P #[]) (hr : ∃ d ∈ recsOf q, d.name = x) :
    h.get? P = some { cls := .none, data := .fields #[] } ∧ PySem.W.CodeHd h c P := by
  obtain ⟨d, hd, e⟩ := hr
  obtain ⟨a, o, fd, c', P', m, ho, hof, hc, ic, ta⟩ := tab d hd
  rw [e, hm] at m
  cases m
  have h1 := X _ _ lk
  rw [ho] at h1
  cases h1
  cases hof
  have ec : c = c' := Value.ref.inj hc
  subst ec
  obtain ⟨⟨o', vs', g1, _, g3, g4⟩, g5⟩ := id ta
  have h2 := X _ _ lc
  rw [g1] at h2
  cases h2
  cases g3
  rw [hP] at g4
  cases g4
  exact ⟨g5, .of ic ta⟩
/-- an error class one step below a class over the built-in error B -/
theorem oexB_one {K : PySem.W.Frag} {C S N : Addr} {nm q : Str} {bs sub bmB : List Value} {sn : List Str} {ab : Bool} {col : Option Bool} {dd : Option Addr} {k0 k1 k2 k3 k5 : Option Value} {B n1 n2 : String}
    (x : K.lookup C = some (excClassObj nm q C N bs (.ref S :: bmB) true sn sub ab col dd k0 k1 k2 k3 k5 n1)) (F : ExcBaseFacts B n1 n2 bmB) (pass : ∀ self : Value, refuseLoop self "__setattr__" bmB = pure ()) (ob : bmB.contains (.type "object") = true)
    (sa : PySem.W.findIn K (.ref C) "__setattr__" = some (some (.builtin "object.__setattr__"))) (eb : PySem.W.subIn K (.ref C) (.type "BaseException") = some true) (ty : PySem.W.typeIn K (.ref C) = some (.type "type")) (kp : PySem.W.keepIn K (.ref C) = true) : OexB K C :=
  ⟨⟨nm, q, N, bs, .ref S :: bmB, sub, bmB, sn, ab, col, dd, k0, k1, k2, k3, k5, B, n1, n2, x, F, fun Y => by rw [List.contains_cons]; rfl, fun self => (PySem.refuseLoop_ref _ _ _ _).trans (pass self), ob⟩, sa, eb, ty, kp⟩
end Gm

namespace Gm
open PySem PySem.Spec PyProof.Rows L2 LamX
theorem all_mk {P : Program} {w : World} {K : PySem.W.Frag} {h : Heap} {mg : Str → Option Value} {fa CB CP CIn CGs CNb fB fD fOf fGt fBa fR fL fW fA fCn fOv fIw fCb fCg fLt fMc fTb fTr fEv fLx fPa fTw fTe fTl fI fRp fPi fPf fPs fPw fPy fPo fPd fIGs fINb adR ptR : Addr} (X : K.In h) (G : h.Ns mainGlobals mg) (hfa : mg "law" = some (.ref fa))
    {odB anB odD anD odOf anOf odGt anGt odBa anBa odR anR odL anL odW anW odA anA odCn anCn odOv anOv odIw anIw odCb anCb odCg anCg odLt anLt odMc anMc odTb anTb odTr anTr odEv anEv odLx anLx odPa anPa odTw anTw odTe anTe odTl anTl odI anI odRp anRp odPi anPi odPf anPf odPs anPs odPw anPw odPy anPy odPo anPo odPd anPd odIGs anIGs odINb anINb : Option Addr} {slB slD slOf slGt slBa slR slL slW slA slCn slOv slIw slCb slCg slLt slMc slTb slTr slEv slLx slPa slTw slTe slTl slI slRp slPi slPf slPs slPw slPy slPo slPd slIGs slINb : Array (Option Value)} {ocB kVB dcB pmB cdB ctB ocD kVD dcD pmD cdD ctD ocOf kVOf dcOf pmOf cdOf ctOf ocGt kVGt dcGt pmGt cdGt ctGt ocBa kVBa dcBa pmBa cdBa ctBa ocR kVR dcR pmR ctR ocL kVL dcL pmL cdL ctL ocW kVW dcW pmW cdW ctW ocA kVA dcA pmA cdA ctA ocCn kVCn dcCn pmCn cdCn ctCn ocOv kVOv dcOv pmOv cdOv ctOv ocIw kVIw dcIw pmIw cdIw ctIw ocCb kVCb dcCb pmCb cdCb ctCb ocCg kVCg dcCg pmCg cdCg ctCg ocLt kVLt dcLt pmLt cdLt ctLt ocMc kVMc dcMc pmMc cdMc ctMc ocTb kVTb dcTb pmTb cdTb ctTb ocTr kVTr dcTr pmTr cdTr ctTr ocEv kVEv dcEv pmEv cdEv ctEv ocLx kVLx dcLx pmLx cdLx ctLx ocPa kVPa dcPa pmPa cdPa ctPa ocTw kVTw dcTw pmTw cdTw ctTw ocTe kVTe dcTe pmTe cdTe ctTe ocTl kVTl dcTl pmTl cdTl ctTl ocI kVI dcI pmI cdI ctI ocRp kVRp dcRp pmRp cdRp ctRp ocPi kVPi dcPi pmPi cdPi ctPi ocPf kVPf dcPf pmPf cdPf ctPf ocPs kVPs dcPs pmPs cdPs ctPs ocPw kVPw dcPw pmPw cdPw ctPw ocPy kVPy dcPy pmPy cdPy ctPy ocPo kVPo dcPo pmPo cdPo ctPo ocPd kVPd dcPd pmPd cdPd ctPd ocIGs kVIGs dcIGs pmIGs cdIGs ctIGs ocINb kVINb dcINb pmINb cdINb ctINb : Value}
    {tkML tkMM tkLO tkMG : Tok}
    {nmGs qnGs : Str} {NSGs : Addr} {bsGs sbGs : List Value} {snGs : List Str} {abGs : Bool} {clGs : Option Bool} {ddGs : Option Addr} {m0Gs m1Gs m2Gs m3Gs m5Gs : Option Value}
    {nmNb qnNb : Str} {NSNb : Addr} {bsNb sbNb : List Value} {snNb : List Str} {abNb : Bool} {clNb : Option Bool} {ddNb : Option Addr} {m0Nb m1Nb m2Nb m3Nb m5Nb : Option Value}
    (gCB : PySem.W.nsIn K mainGlobals "Board" = some (some (.ref CB)))
    (gCP : PySem.W.nsIn K mainGlobals "Pairs" = some (some (.ref CP)))
    (gCIn : PySem.W.nsIn K mainGlobals "InputError" = some (some (.ref CIn)))
    (gCGs : PySem.W.nsIn K mainGlobals "InvalidGuesses" = some (some (.ref CGs)))
    (gCNb : PySem.W.nsIn K mainGlobals "NotABoard" = some (some (.ref CNb)))
    (aB : PySem.W.nsIn K mainGlobals "_law_bowl" = some (some (.ref fB)))
    (lB : K.lookup fB = some ⟨ocB, odB, .func (PySem.W.fnOf "_law_bowl" "_law_bowl" (defArgs sBowl) (defBody sBowl) (defScope sBowl) .none kVB dcB pmB anB cdB ctB), slB⟩)
    (cB : PySem.W.codeIn K cdB "_law_bowl" = true)
    (kB : PySem.W.keepIn K (.ref fB) = true)
    (aD : PySem.W.nsIn K mainGlobals "_law_dip" = some (some (.ref fD)))
    (lD : K.lookup fD = some ⟨ocD, odD, .func (PySem.W.fnOf "_law_dip" "_law_dip" (defArgs sDip) (defBody sDip) (defScope sDip) .none kVD dcD pmD anD cdD ctD), slD⟩)
    (cD : PySem.W.codeIn K cdD "_law_dip" = true)
    (kD : PySem.W.keepIn K (.ref fD) = true)
    (aOf : PySem.W.nsIn K mainGlobals "_law_of" = some (some (.ref fOf)))
    (lOf : K.lookup fOf = some ⟨ocOf, odOf, .func (PySem.W.fnOf "_law_of" "_law_of" (defArgs sOf) (defBody sOf) (defScope sOf) .none kVOf dcOf pmOf anOf cdOf ctOf), slOf⟩)
    (cOf : PySem.W.codeIn K cdOf "_law_of" = true)
    (kOf : PySem.W.keepIn K (.ref fOf) = true)
    (aGt : PySem.W.nsIn K mainGlobals "_law_got" = some (some (.ref fGt)))
    (lGt : K.lookup fGt = some ⟨ocGt, odGt, .func (PySem.W.fnOf "_law_got" "_law_got" (defArgs sGot) (defBody sGot) (defScope sGot) .none kVGt dcGt pmGt anGt cdGt ctGt), slGt⟩)
    (cGt : PySem.W.codeIn K cdGt "_law_got" = true)
    (kGt : PySem.W.keepIn K (.ref fGt) = true)
    (aBa : PySem.W.nsIn K mainGlobals "_law_bad" = some (some (.ref fBa)))
    (lBa : K.lookup fBa = some ⟨ocBa, odBa, .func (PySem.W.fnOf "_law_bad" "_law_bad" (defArgs sBadG) (defBody sBadG) (defScope sBadG) .none kVBa dcBa pmBa anBa cdBa ctBa), slBa⟩)
    (cBa : PySem.W.codeIn K cdBa "_law_bad" = true)
    (kBa : PySem.W.keepIn K (.ref fBa) = true)
    (aR : PySem.W.nsIn K mainGlobals "_law_right" = some (some (.ref fR)))
    (lR : K.lookup fR = some ⟨ocR, odR, .func (PySem.W.fnOf "_law_right" "_law_right" (defArgs sRight) (defBody sRight) (defScope sRight) .none kVR dcR pmR anR (.ref adR) ctR), slR⟩)
    (cR : PySem.W.codeIn K (.ref adR) "_law_right" = true)
    (kR : PySem.W.keepIn K (.ref fR) = true)
    (aL : PySem.W.nsIn K mainGlobals "law" = some (some (.ref fL)))
    (lL : K.lookup fL = some ⟨ocL, odL, .func (PySem.W.fnOf "law" "law" (defArgs sLaw) (defBody sLaw) (defScope sLaw) .none kVL dcL pmL anL cdL ctL), slL⟩)
    (cL : PySem.W.codeIn K cdL "law" = true)
    (kL : PySem.W.keepIn K (.ref fL) = true)
    (aW : PySem.W.nsIn K mainGlobals "is_integer_within" = some (some (.ref fW)))
    (lW : K.lookup fW = some ⟨ocW, odW, .func (PySem.W.fnOf "is_integer_within" "is_integer_within" (defArgs sWithin) (defBody sWithin) (defScope sWithin) .none kVW dcW pmW anW cdW ctW), slW⟩)
    (cW : PySem.W.codeIn K cdW "is_integer_within" = true)
    (kW : PySem.W.keepIn K (.ref fW) = true)
    (aA : PySem.W.nsIn K mainGlobals "is_alphabet" = some (some (.ref fA)))
    (lA : K.lookup fA = some ⟨ocA, odA, .func (PySem.W.fnOf "is_alphabet" "is_alphabet" (defArgs sAlpha) (defBody sAlpha) (defScope sAlpha) .none kVA dcA pmA anA cdA ctA), slA⟩)
    (cA : PySem.W.codeIn K cdA "is_alphabet" = true)
    (kA : PySem.W.keepIn K (.ref fA) = true)
    (aCn : PySem.W.nsIn K mainGlobals "count_words" = some (some (.ref fCn)))
    (lCn : K.lookup fCn = some ⟨ocCn, odCn, .func (PySem.W.fnOf "count_words" "count_words" (defArgs sCount) (defBody sCount) (defScope sCount) .none kVCn dcCn pmCn anCn cdCn ctCn), slCn⟩)
    (cCn : PySem.W.codeIn K cdCn "count_words" = true)
    (kCn : PySem.W.keepIn K (.ref fCn) = true)
    (aOv : PySem.W.nsIn K mainGlobals "is_text_over" = some (some (.ref fOv)))
    (lOv : K.lookup fOv = some ⟨ocOv, odOv, .func (PySem.W.fnOf "is_text_over" "is_text_over" (defArgs sOver) (defBody sOver) (defScope sOver) .none kVOv dcOv pmOv anOv cdOv ctOv), slOv⟩)
    (cOv : PySem.W.codeIn K cdOv "is_text_over" = true)
    (kOv : PySem.W.keepIn K (.ref fOv) = true)
    (aIw : PySem.W.nsIn K mainGlobals "is_word" = some (some (.ref fIw)))
    (lIw : K.lookup fIw = some ⟨ocIw, odIw, .func (PySem.W.fnOf "is_word" "is_word" (defArgs sIsW) (defBody sIsW) (defScope sIsW) .none kVIw dcIw pmIw anIw cdIw ctIw), slIw⟩)
    (cIw : PySem.W.codeIn K cdIw "is_word" = true)
    (kIw : PySem.W.keepIn K (.ref fIw) = true)
    (aCb : PySem.W.nsIn K mainGlobals "check_board" = some (some (.ref fCb)))
    (lCb : K.lookup fCb = some ⟨ocCb, odCb, .func (PySem.W.fnOf "check_board" "check_board" (defArgs sChkB) (defBody sChkB) (defScope sChkB) .none kVCb dcCb pmCb anCb cdCb ctCb), slCb⟩)
    (cCb : PySem.W.codeIn K cdCb "check_board" = true)
    (kCb : PySem.W.keepIn K (.ref fCb) = true)
    (aCg : PySem.W.nsIn K mainGlobals "check_guesses" = some (some (.ref fCg)))
    (lCg : K.lookup fCg = some ⟨ocCg, odCg, .func (PySem.W.fnOf "check_guesses" "check_guesses" (defArgs sChkG) (defBody sChkG) (defScope sChkG) .none kVCg dcCg pmCg anCg cdCg ctCg), slCg⟩)
    (cCg : PySem.W.codeIn K cdCg "check_guesses" = true)
    (kCg : PySem.W.keepIn K (.ref fCg) = true)
    (aLt : PySem.W.nsIn K mainGlobals "letters_at" = some (some (.ref fLt)))
    (lLt : K.lookup fLt = some ⟨ocLt, odLt, .func (PySem.W.fnOf "letters_at" "letters_at" (defArgs sLatT) (defBody sLatT) (defScope sLatT) .none kVLt dcLt pmLt anLt cdLt ctLt), slLt⟩)
    (cLt : PySem.W.codeIn K cdLt "letters_at" = true)
    (kLt : PySem.W.keepIn K (.ref fLt) = true)
    (aMc : PySem.W.nsIn K mainGlobals "most_copies" = some (some (.ref fMc)))
    (lMc : K.lookup fMc = some ⟨ocMc, odMc, .func (PySem.W.fnOf "most_copies" "most_copies" (defArgs sMost) (defBody sMost) (defScope sMost) .none kVMc dcMc pmMc anMc cdMc ctMc), slMc⟩)
    (cMc : PySem.W.codeIn K cdMc "most_copies" = true)
    (kMc : PySem.W.keepIn K (.ref fMc) = true)
    (aTb : PySem.W.nsIn K mainGlobals "tried_by" = some (some (.ref fTb)))
    (lTb : K.lookup fTb = some ⟨ocTb, odTb, .func (PySem.W.fnOf "tried_by" "tried_by" (defArgs sTrBy) (defBody sTrBy) (defScope sTrBy) .none kVTb dcTb pmTb anTb cdTb ctTb), slTb⟩)
    (cTb : PySem.W.codeIn K cdTb "tried_by" = true)
    (kTb : PySem.W.keepIn K (.ref fTb) = true)
    (aTr : PySem.W.nsIn K mainGlobals "tried" = some (some (.ref fTr)))
    (lTr : K.lookup fTr = some ⟨ocTr, odTr, .func (PySem.W.fnOf "tried" "tried" (defArgs sTried) (defBody sTried) (defScope sTried) .none kVTr dcTr pmTr anTr cdTr ctTr), slTr⟩)
    (cTr : PySem.W.codeIn K cdTr "tried" = true)
    (kTr : PySem.W.keepIn K (.ref fTr) = true)
    (aEv : PySem.W.nsIn K mainGlobals "everything" = some (some (.ref fEv)))
    (lEv : K.lookup fEv = some ⟨ocEv, odEv, .func (PySem.W.fnOf "everything" "everything" (defArgs sEvry) (defBody sEvry) (defScope sEvry) .none kVEv dcEv pmEv anEv cdEv ctEv), slEv⟩)
    (cEv : PySem.W.codeIn K cdEv "everything" = true)
    (kEv : PySem.W.keepIn K (.ref fEv) = true)
    (aLx : PySem.W.nsIn K mainGlobals "letters_except" = some (some (.ref fLx)))
    (lLx : K.lookup fLx = some ⟨ocLx, odLx, .func (PySem.W.fnOf "letters_except" "letters_except" (defArgs sLtE) (defBody sLtE) (defScope sLtE) .none kVLx dcLx pmLx anLx cdLx ctLx), slLx⟩)
    (cLx : PySem.W.codeIn K cdLx "letters_except" = true)
    (kLx : PySem.W.keepIn K (.ref fLx) = true)
    (aPa : PySem.W.nsIn K mainGlobals "parting" = some (some (.ref fPa)))
    (lPa : K.lookup fPa = some ⟨ocPa, odPa, .func (PySem.W.fnOf "parting" "parting" (defArgs sPart) (defBody sPart) (defScope sPart) .none kVPa dcPa pmPa anPa cdPa ctPa), slPa⟩)
    (cPa : PySem.W.codeIn K cdPa "parting" = true)
    (kPa : PySem.W.keepIn K (.ref fPa) = true)
    (aTw : PySem.W.nsIn K mainGlobals "twins" = some (some (.ref fTw)))
    (lTw : K.lookup fTw = some ⟨ocTw, odTw, .func (PySem.W.fnOf "twins" "twins" (defArgs sTwins) (defBody sTwins) (defScope sTwins) .none kVTw dcTw pmTw anTw cdTw ctTw), slTw⟩)
    (cTw : PySem.W.codeIn K cdTw "twins" = true)
    (kTw : PySem.W.keepIn K (.ref fTw) = true)
    (aTe : PySem.W.nsIn K mainGlobals "tells" = some (some (.ref fTe)))
    (lTe : K.lookup fTe = some ⟨ocTe, odTe, .func (PySem.W.fnOf "tells" "tells" (defArgs sTells) (defBody sTells) (defScope sTells) .none kVTe dcTe pmTe anTe cdTe ctTe), slTe⟩)
    (cTe : PySem.W.codeIn K cdTe "tells" = true)
    (kTe : PySem.W.keepIn K (.ref fTe) = true)
    (aTl : PySem.W.nsIn K mainGlobals "tells_word" = some (some (.ref fTl)))
    (lTl : K.lookup fTl = some ⟨ocTl, odTl, .func (PySem.W.fnOf "tells_word" "tells_word" (defArgs sTellW) (defBody sTellW) (defScope sTellW) .none kVTl dcTl pmTl anTl cdTl ctTl), slTl⟩)
    (cTl : PySem.W.codeIn K cdTl "tells_word" = true)
    (kTl : PySem.W.keepIn K (.ref fTl) = true)
    (aI : PySem.W.findIn K (.ref CB) "__init__" = some (some (.ref fI)))
    (iI : PySem.W.isFn K (.ref fI) = true)
    (lI : K.lookup fI = some ⟨ocI, odI, .func (PySem.W.fnOf "__init__" "Board.__init__" (defArgs sInit) (defBody sInit) (defScope sInit) .none kVI dcI pmI anI cdI ctI), slI⟩)
    (cI : PySem.W.codeIn K cdI "Board.__init__" = true)
    (kI : PySem.W.keepIn K (.ref fI) = true)
    (aRp : PySem.W.findIn K (.ref CB) "__repr__" = some (some (.ref fRp)))
    (iRp : PySem.W.isFn K (.ref fRp) = true)
    (lRp : K.lookup fRp = some ⟨ocRp, odRp, .func (PySem.W.fnOf "__repr__" "Board.__repr__" (defArgs sRepr) (defBody sRepr) (defScope sRepr) .none kVRp dcRp pmRp anRp cdRp ctRp), slRp⟩)
    (cRp : PySem.W.codeIn K cdRp "Board.__repr__" = true)
    (kRp : PySem.W.keepIn K (.ref fRp) = true)
    (aPi : PySem.W.findIn K (.ref CP) "__init__" = some (some (.ref fPi)))
    (iPi : PySem.W.isFn K (.ref fPi) = true)
    (lPi : K.lookup fPi = some ⟨ocPi, odPi, .func (PySem.W.fnOf "__init__" "Pairs.__init__" (defArgs sPInit) (defBody sPInit) (defScope sPInit) .none kVPi dcPi pmPi anPi cdPi ctPi), slPi⟩)
    (cPi : PySem.W.codeIn K cdPi "Pairs.__init__" = true)
    (kPi : PySem.W.keepIn K (.ref fPi) = true)
    (aPf : PySem.W.findIn K (.ref CP) "first_pair" = some (some (.ref fPf)))
    (iPf : PySem.W.isFn K (.ref fPf) = true)
    (lPf : K.lookup fPf = some ⟨ocPf, odPf, .func (PySem.W.fnOf "first_pair" "Pairs.first_pair" (defArgs sFirst) (defBody sFirst) (defScope sFirst) .none kVPf dcPf pmPf anPf cdPf ctPf), slPf⟩)
    (cPf : PySem.W.codeIn K cdPf "Pairs.first_pair" = true)
    (kPf : PySem.W.keepIn K (.ref fPf) = true)
    (aPs : PySem.W.findIn K (.ref CP) "pair_seen_at" = some (some (.ref fPs)))
    (iPs : PySem.W.isFn K (.ref fPs) = true)
    (lPs : K.lookup fPs = some ⟨ocPs, odPs, .func (PySem.W.fnOf "pair_seen_at" "Pairs.pair_seen_at" (defArgs sSeen) (defBody sSeen) (defScope sSeen) .none kVPs dcPs pmPs anPs cdPs ctPs), slPs⟩)
    (cPs : PySem.W.codeIn K cdPs "Pairs.pair_seen_at" = true)
    (kPs : PySem.W.keepIn K (.ref fPs) = true)
    (aPw : PySem.W.findIn K (.ref CP) "pair_with" = some (some (.ref fPw)))
    (iPw : PySem.W.isFn K (.ref fPw) = true)
    (lPw : K.lookup fPw = some ⟨ocPw, odPw, .func (PySem.W.fnOf "pair_with" "Pairs.pair_with" (defArgs sWith) (defBody sWith) (defScope sWith) .none kVPw dcPw pmPw anPw cdPw ctPw), slPw⟩)
    (cPw : PySem.W.codeIn K cdPw "Pairs.pair_with" = true)
    (kPw : PySem.W.keepIn K (.ref fPw) = true)
    (aPy : PySem.W.findIn K (.ref CP) "ways_from" = some (some (.ref fPy)))
    (iPy : PySem.W.isFn K (.ref fPy) = true)
    (lPy : K.lookup fPy = some ⟨ocPy, odPy, .func (PySem.W.fnOf "ways_from" "Pairs.ways_from" (defArgs sWays) (defBody sWays) (defScope sWays) .none kVPy dcPy pmPy anPy cdPy ctPy), slPy⟩)
    (cPy : PySem.W.codeIn K cdPy "Pairs.ways_from" = true)
    (kPy : PySem.W.keepIn K (.ref fPy) = true)
    (aPo : PySem.W.findIn K (.ref CP) "pair_of" = some (some (.ref fPo)))
    (iPo : PySem.W.isFn K (.ref fPo) = true)
    (lPo : K.lookup fPo = some ⟨ocPo, odPo, .func (PySem.W.fnOf "pair_of" "Pairs.pair_of" (defArgs sPairOf) (defBody sPairOf) (defScope sPairOf) .none kVPo dcPo pmPo anPo cdPo ctPo), slPo⟩)
    (cPo : PySem.W.codeIn K cdPo "Pairs.pair_of" = true)
    (kPo : PySem.W.keepIn K (.ref fPo) = true)
    (aPd : PySem.W.findIn K (.ref CP) "word_of" = some (some (.ref fPd)))
    (iPd : PySem.W.isFn K (.ref fPd) = true)
    (lPd : K.lookup fPd = some ⟨ocPd, odPd, .func (PySem.W.fnOf "word_of" "Pairs.word_of" (defArgs sWordOf) (defBody sWordOf) (defScope sWordOf) .none kVPd dcPd pmPd anPd cdPd ctPd), slPd⟩)
    (cPd : PySem.W.codeIn K cdPd "Pairs.word_of" = true)
    (kPd : PySem.W.keepIn K (.ref fPd) = true)
    (aIGs : PySem.W.findIn K (.ref CGs) "__init__" = some (some (.ref fIGs)))
    (iIGs : PySem.W.isFn K (.ref fIGs) = true)
    (lIGs : K.lookup fIGs = some ⟨ocIGs, odIGs, .func (PySem.W.fnOf "__init__" "InvalidGuesses.__init__" (defArgs sEGs) (defBody sEGs) (defScope sEGs) .none kVIGs dcIGs pmIGs anIGs cdIGs ctIGs), slIGs⟩)
    (cIGs : PySem.W.codeIn K cdIGs "InvalidGuesses.__init__" = true)
    (kIGs : PySem.W.keepIn K (.ref fIGs) = true)
    (aINb : PySem.W.findIn K (.ref CNb) "__init__" = some (some (.ref fINb)))
    (iINb : PySem.W.isFn K (.ref fINb) = true)
    (lINb : K.lookup fINb = some ⟨ocINb, odINb, .func (PySem.W.fnOf "__init__" "NotABoard.__init__" (defArgs sENb) (defBody sENb) (defScope sENb) .none kVINb dcINb pmINb anINb cdINb ctINb), slINb⟩)
    (cINb : PySem.W.codeIn K cdINb "NotABoard.__init__" = true)
    (kINb : PySem.W.keepIn K (.ref fINb) = true)
    (gtc : PySem.W.specialIn K (.builtin "object.__class__") "__get__" = some (some (.builtin "getset_descriptor.__get__")))
    (tkc : PySem.W.takesIn K (.builtin "object.__class__") = some true)
    (ibIn : PySem.W.isClsIn K CIn = true)
    (tbIn : PySem.W.typeIn K (.ref CIn) = some (.type "type"))
    (xGs : K.lookup CGs = some (excClassObj nmGs qnGs CGs NSGs bsGs [.ref CIn, .type "ValueError", .type "Exception", .type "BaseException", .type "object"] true snGs sbGs abGs clGs ddGs m0Gs m1Gs m2Gs m3Gs m5Gs "ValueError.__new__"))
    (saGs : PySem.W.findIn K (.ref CGs) "__setattr__" = some (some (.builtin "object.__setattr__")))
    (ebGs : PySem.W.subIn K (.ref CGs) (.type "BaseException") = some true)
    (tyGs : PySem.W.typeIn K (.ref CGs) = some (.type "type"))
    (kpGs : PySem.W.keepIn K (.ref CGs) = true)
    (noGs : PySem.W.findIn K (.ref CGs) "index" = some none)
    (tiGs : PySem.W.typeIn K (.ref fIGs) = some (.type "function"))
    (gaGs : PySem.W.findIn K (.ref CGs) "__getattribute__" = some (some (.builtin "BaseException.__getattribute__")))
    (ggGs : PySem.W.findIn K (.ref CGs) "__getattr__" = some none)
    (hdGs : PySem.W.hasDictIn K CGs = true)
    (acGs : PySem.W.findIn K (.ref CGs) "__class__" = some (some (.builtin "object.__class__")))
    (obGs : PySem.W.mroIn K CGs (.type "object") = some true)
    (ssGs : PySem.W.subIn K (.ref CGs) (.ref CGs) = some true)
    (sBGs : PySem.W.subIn K (.ref CGs) (.ref CIn) = some true)
    (sPGs : PySem.W.subIn K (.ref CGs) (.type "ValueError") = some true)
    (xNb : K.lookup CNb = some (excClassObj nmNb qnNb CNb NSNb bsNb [.ref CIn, .type "ValueError", .type "Exception", .type "BaseException", .type "object"] true snNb sbNb abNb clNb ddNb m0Nb m1Nb m2Nb m3Nb m5Nb "ValueError.__new__"))
    (saNb : PySem.W.findIn K (.ref CNb) "__setattr__" = some (some (.builtin "object.__setattr__")))
    (ebNb : PySem.W.subIn K (.ref CNb) (.type "BaseException") = some true)
    (tyNb : PySem.W.typeIn K (.ref CNb) = some (.type "type"))
    (kpNb : PySem.W.keepIn K (.ref CNb) = true)
    (noNb : PySem.W.findIn K (.ref CNb) "value" = some none)
    (tiNb : PySem.W.typeIn K (.ref fINb) = some (.type "function"))
    (gaNb : PySem.W.findIn K (.ref CNb) "__getattribute__" = some (some (.builtin "BaseException.__getattribute__")))
    (ggNb : PySem.W.findIn K (.ref CNb) "__getattr__" = some none)
    (hdNb : PySem.W.hasDictIn K CNb = true)
    (acNb : PySem.W.findIn K (.ref CNb) "__class__" = some (some (.builtin "object.__class__")))
    (obNb : PySem.W.mroIn K CNb (.type "object") = some true)
    (ssNb : PySem.W.subIn K (.ref CNb) (.ref CNb) = some true)
    (sBNb : PySem.W.subIn K (.ref CNb) (.ref CIn) = some true)
    (sPNb : PySem.W.subIn K (.ref CNb) (.type "ValueError") = some true)
    (sNb_Gs : PySem.W.subIn K (.ref CNb) (.ref CGs) = some false)
    (nML : PySem.W.nsIn K mainGlobals "MOST_LENGTH" = some (some (.int 6 tkML)))
    (nMM : PySem.W.nsIn K mainGlobals "MOST_LETTERS" = some (some (.int 26 tkMM)))
    (nLO : PySem.W.nsIn K mainGlobals "LOWERCASE" = some (some (.str lowTxt tkLO)))
    (nMG : PySem.W.nsIn K mainGlobals "MOST_GUESSES" = some (some (.int 20 tkMG)))
    (zlen : PySem.W.nsIn K mainGlobals "len" = some none)
    (zint : PySem.W.nsIn K mainGlobals "int" = some none)
    (zabs : PySem.W.nsIn K mainGlobals "abs" = some none)
    (zdivmod : PySem.W.nsIn K mainGlobals "divmod" = some none)
    (zisinstance : PySem.W.nsIn K mainGlobals "isinstance" = some none)
    (zbool : PySem.W.nsIn K mainGlobals "bool" = some none)
    (zstr : PySem.W.nsIn K mainGlobals "str" = some none)
    (zrange : PySem.W.nsIn K mainGlobals "range" = some none)
    (zrepr : PySem.W.nsIn K mainGlobals "repr" = some none)
    (zall : PySem.W.nsIn K mainGlobals "all" = some none)
    (zmax : PySem.W.nsIn K mainGlobals "max" = some none)
    (zmin : PySem.W.nsIn K mainGlobals "min" = some none)
    (ztuple : PySem.W.nsIn K mainGlobals "tuple" = some none)
    (zValueError : PySem.W.nsIn K mainGlobals "ValueError" = some none)
    (zzip : PySem.W.nsIn K mainGlobals "zip" = some none)
    (zenumerate : PySem.W.nsIn K mainGlobals "enumerate" = some none)
    (zdict : PySem.W.nsIn K mainGlobals "dict" = some none)
    (pg : PySem.W.plainGet K CB Str.empty = true)
    (hd : PySem.W.hasDictIn K CB = true)
    (po : PySem.W.plainOver K CB = true)
    (sa : PySem.W.findIn K (.ref CB) "__setattr__" = some (some (.builtin "object.__setattr__")))
    (mk : PySem.W.makesIn K CB = true)
    (kc : PySem.W.keepIn K (.ref CB) = true)
    (naL : PySem.W.findIn K (.ref CB) "letters" = some none)
    (naN : PySem.W.findIn K (.ref CB) "length" = some none)
    (naS : PySem.W.findIn K (.ref CB) "size" = some none)
    (ac : PySem.W.findIn K (.ref CB) "__class__" = some (some (.builtin "object.__class__")))
    (ob : PySem.W.mroIn K CB (.type "object") = some true)
    (kitO : PySem.W.kitOne K (.ref CB) (.ref CB) = some true)
    (kitNoneType : PySem.W.kitOne K (.type "NoneType") (.ref CB) = some false)
    (kitbool : PySem.W.kitOne K (.type "bool") (.ref CB) = some false)
    (kitint : PySem.W.kitOne K (.type "int") (.ref CB) = some false)
    (kitstr : PySem.W.kitOne K (.type "str") (.ref CB) = some false)
    (kittuple : PySem.W.kitOne K (.type "tuple") (.ref CB) = some false)
    (kitlist : PySem.W.kitOne K (.type "list") (.ref CB) = some false)
    (kitdict : PySem.W.kitOne K (.type "dict") (.ref CB) = some false)
    (pgCP : PySem.W.plainGet K CP Str.empty = true)
    (hdCP : PySem.W.hasDictIn K CP = true)
    (poCP : PySem.W.plainOver K CP = true)
    (saCP : PySem.W.findIn K (.ref CP) "__setattr__" = some (some (.builtin "object.__setattr__")))
    (mkiCP : PySem.W.makesIn K CP = true)
    (kcCP : PySem.W.keepIn K (.ref CP) = true)
    (naCPletters : PySem.W.findIn K (.ref CP) "letters" = some none)
    (naCPlength : PySem.W.findIn K (.ref CP) "length" = some none)
    (naCPuntried : PySem.W.findIn K (.ref CP) "untried" = some none)
    (naCPcopies : PySem.W.findIn K (.ref CP) "copies" = some none)
    (naCPasked_letters : PySem.W.findIn K (.ref CP) "asked_letters" = some none)
    (naCPasked_copies : PySem.W.findIn K (.ref CP) "asked_copies" = some none)
    (hPR : h.get? ptR = some { cls := .none, data := .fields #[] })
    (nnR : K.lookup ptR = none)
    (hCR : PySem.W.CodeHd h adR ptR) :
    ∃ (fd : FuncData) (cs : List (Addr × Addr)), (∀ p ∈ cs, h.get? p.2 = some { cls := .none, data := .fields #[] } ∧ K.lookup p.2 = none ∧ PySem.W.CodeHd h p.1 p.2) ∧ (∀ (s : Shared) (u : Value), BindsTo s fd ⟨[u], []⟩ [("_law_script", u)]) ∧
      ∀ base : Heap, K.In base → base.Ns mainGlobals mg → (∃ mm, base.Ns sysModules mm) → (∀ p ∈ cs, TabB base mg p.1 p.2) → FnG P w K mg base L2.CX0 9 fa fd ["_law_script"] (fun vs H Q E => (∀ p ∈ cs, H p.2 = some (.tbl #[])) ∧ spLaw K vs H Q E) := by
  have e := hfa.symm.trans (PySem.W.mg_of X G aL)
  cases e
  have FB := fun_mk (st := sBowl) lB cB kB
  have FD := fun_mk (st := sDip) lD cD kD
  have FOf := fun_mk (st := sOf) lOf cOf kOf
  have FGt := fun_mk (st := sGot) lGt cGt kGt
  have FBa := fun_mk (st := sBadG) lBa cBa kBa
  have FR := fun_mk (st := sRight) lR cR kR
  have FL := fun_mk (st := sLaw) lL cL kL
  have FW := fun_mk (st := sWithin) lW cW kW
  have FA := fun_mk (st := sAlpha) lA cA kA
  have FCn := fun_mk (st := sCount) lCn cCn kCn
  have FOv := fun_mk (st := sOver) lOv cOv kOv
  have FIw := fun_mk (st := sIsW) lIw cIw kIw
  have FCb := fun_mk (st := sChkB) lCb cCb kCb
  have FCg := fun_mk (st := sChkG) lCg cCg kCg
  have FLt := fun_mk (st := sLatT) lLt cLt kLt
  have FMc := fun_mk (st := sMost) lMc cMc kMc
  have FTb := fun_mk (st := sTrBy) lTb cTb kTb
  have FTr := fun_mk (st := sTried) lTr cTr kTr
  have FEv := fun_mk (st := sEvry) lEv cEv kEv
  have FLx := fun_mk (st := sLtE) lLx cLx kLx
  have FPa := fun_mk (st := sPart) lPa cPa kPa
  have FTw := fun_mk (st := sTwins) lTw cTw kTw
  have FTe := fun_mk (st := sTells) lTe cTe kTe
  have FTl := fun_mk (st := sTellW) lTl cTl kTl
  have FI := fun_mk (st := sInit) lI cI kI
  have FRp := fun_mk (st := sRepr) lRp cRp kRp
  have FPi := fun_mk (st := sPInit) lPi cPi kPi
  have FPf := fun_mk (st := sFirst) lPf cPf kPf
  have FPs := fun_mk (st := sSeen) lPs cPs kPs
  have FPw := fun_mk (st := sWith) lPw cPw kPw
  have FPy := fun_mk (st := sWays) lPy cPy kPy
  have FPo := fun_mk (st := sPairOf) lPo cPo kPo
  have FPd := fun_mk (st := sWordOf) lPd cPd kPd
  have FIGs := fun_mk (st := sEGs) lIGs cIGs kIGs
  have FINb := fun_mk (st := sENb) lINb cINb kINb
  have bB := FB.binds (ps := ["_law_script", "_law_k"]) fun _ _ _ _ _ _ us hl => match us, hl with | [_, _], _ => rfl
  have bD := FD.binds (ps := ["_law_bowl_here", "_law_many"]) fun _ _ _ _ _ _ us hl => match us, hl with | [_, _], _ => rfl
  have bOf := FOf.binds (ps := ["_law_bowl_here", "_law_things"]) fun _ _ _ _ _ _ us hl => match us, hl with | [_, _], _ => rfl
  have bGt := FGt.binds (ps := ["_law_ask"]) fun _ _ _ _ _ _ us hl => match us, hl with | [_], _ => rfl
  have bBa := FBa.binds (ps := ["_law_bowl_here"]) fun _ _ _ _ _ _ us hl => match us, hl with | [_], _ => rfl
  have bR := FR.binds (ps := ["_law_bowl_here"]) fun _ _ _ _ _ _ us hl => match us, hl with | [_], _ => rfl
  have bW := FW.binds (ps := ["value", "least", "most"]) fun _ _ _ _ _ _ us hl => match us, hl with | [_, _, _], _ => rfl
  have bA := FA.binds (ps := ["letters"]) fun _ _ _ _ _ _ us hl => match us, hl with | [_], _ => rfl
  have bCn := FCn.binds (ps := ["many", "length"]) fun _ _ _ _ _ _ us hl => match us, hl with | [_, _], _ => rfl
  have bOv := FOv.binds (ps := ["value", "characters", "length"]) fun _ _ _ _ _ _ us hl => match us, hl with | [_, _, _], _ => rfl
  have bIw := FIw.binds (ps := ["board", "value"]) fun _ _ _ _ _ _ us hl => match us, hl with | [_, _], _ => rfl
  have bCb := FCb.binds (ps := ["board"]) fun _ _ _ _ _ _ us hl => match us, hl with | [_], _ => rfl
  have bCg := FCg.binds (ps := ["board", "guesses"]) fun _ _ _ _ _ _ us hl => match us, hl with | [_, _], _ => rfl
  have bLt := FLt.binds (ps := ["board", "guesses", "place"]) fun _ _ _ _ _ _ us hl => match us, hl with | [_, _, _], _ => rfl
  have bMc := FMc.binds (ps := ["guesses", "letter"]) fun _ _ _ _ _ _ us hl => match us, hl with | [_, _], _ => rfl
  have bTb := FTb.binds (ps := ["board", "guesses"]) fun _ _ _ _ _ _ us hl => match us, hl with | [_, _], _ => rfl
  have bTr := FTr.binds (ps := ["board", "guesses"]) fun _ _ _ _ _ _ us hl => match us, hl with | [_, _], _ => rfl
  have bEv := FEv.binds (ps := ["board"]) fun _ _ _ _ _ _ us hl => match us, hl with | [_], _ => rfl
  have bLx := FLx.binds (ps := ["letters", "others"]) fun _ _ _ _ _ _ us hl => match us, hl with | [_, _], _ => rfl
  have bPa := FPa.binds (ps := ["board", "guesses", "other_guesses"]) fun _ _ _ _ _ _ us hl => match us, hl with | [_, _, _], _ => rfl
  have bTw := FTw.binds (ps := ["board", "guesses"]) fun _ _ _ _ _ _ us hl => match us, hl with | [_, _], _ => rfl
  have bTe := FTe.binds (ps := ["board", "guesses", "other_guesses"]) fun _ _ _ _ _ _ us hl => match us, hl with | [_, _, _], _ => rfl
  have bTl := FTl.binds (ps := ["board", "guesses"]) fun _ _ _ _ _ _ us hl => match us, hl with | [_, _], _ => rfl
  have bI := FI.binds (ps := ["self", "letters", "length"]) fun _ _ _ _ _ _ us hl => match us, hl with | [_, _, _], _ => rfl
  have bRp := FRp.binds (ps := ["self"]) fun _ _ _ _ _ _ us hl => match us, hl with | [_], _ => rfl
  have bPi := FPi.binds (ps := ["self", "board", "tried", "asked"]) fun _ _ _ _ _ _ us hl => match us, hl with | [_, _, _, _], _ => rfl
  have bPf := FPf.binds (ps := ["self"]) fun _ _ _ _ _ _ us hl => match us, hl with | [_], _ => rfl
  have bPs := FPs.binds (ps := ["self", "place"]) fun _ _ _ _ _ _ us hl => match us, hl with | [_, _], _ => rfl
  have bPw := FPw.binds (ps := ["self", "place", "letter", "other", "ways"]) fun _ _ _ _ _ _ us hl => match us, hl with | [_, _, _, _, _], _ => rfl
  have bPy := FPy.binds (ps := ["self", "start", "barred"]) fun _ _ _ _ _ _ us hl => match us, hl with | [_, _, _], _ => rfl
  have bPo := FPo.binds (ps := ["self", "steps", "first", "last"]) fun _ _ _ _ _ _ us hl => match us, hl with | [_, _, _, _], _ => rfl
  have bPd := FPd.binds (ps := ["self", "letters"]) fun _ _ _ _ _ _ us hl => match us, hl with | [_, _], _ => rfl
  have bIGs := FIGs.binds (ps := ["self", "index"]) fun _ _ _ _ _ _ us hl => match us, hl with | [_, _], _ => rfl
  have bINb := FINb.binds (ps := ["self", "value"]) fun _ _ _ _ _ _ us hl => match us, hl with | [_, _], _ => rfl
  have DB : Df K mg "_law_bowl" _ _ _ := ⟨PySem.W.mg_of X G aB, kB, bB⟩
  have DD : Df K mg "_law_dip" _ _ _ := ⟨PySem.W.mg_of X G aD, kD, bD⟩
  have DOf : Df K mg "_law_of" _ _ _ := ⟨PySem.W.mg_of X G aOf, kOf, bOf⟩
  have DGt : Df K mg "_law_got" _ _ _ := ⟨PySem.W.mg_of X G aGt, kGt, bGt⟩
  have DBa : Df K mg "_law_bad" _ _ _ := ⟨PySem.W.mg_of X G aBa, kBa, bBa⟩
  have DR : Df K mg "_law_right" _ _ _ := ⟨PySem.W.mg_of X G aR, kR, bR⟩
  have DW : Df K mg "is_integer_within" _ _ _ := ⟨PySem.W.mg_of X G aW, kW, bW⟩
  have DA : Df K mg "is_alphabet" _ _ _ := ⟨PySem.W.mg_of X G aA, kA, bA⟩
  have DCn : Df K mg "count_words" _ _ _ := ⟨PySem.W.mg_of X G aCn, kCn, bCn⟩
  have DOv : Df K mg "is_text_over" _ _ _ := ⟨PySem.W.mg_of X G aOv, kOv, bOv⟩
  have DIw : Df K mg "is_word" _ _ _ := ⟨PySem.W.mg_of X G aIw, kIw, bIw⟩
  have DCb : Df K mg "check_board" _ _ _ := ⟨PySem.W.mg_of X G aCb, kCb, bCb⟩
  have DCg : Df K mg "check_guesses" _ _ _ := ⟨PySem.W.mg_of X G aCg, kCg, bCg⟩
  have DLt : Df K mg "letters_at" _ _ _ := ⟨PySem.W.mg_of X G aLt, kLt, bLt⟩
  have DMc : Df K mg "most_copies" _ _ _ := ⟨PySem.W.mg_of X G aMc, kMc, bMc⟩
  have DTb : Df K mg "tried_by" _ _ _ := ⟨PySem.W.mg_of X G aTb, kTb, bTb⟩
  have DTr : Df K mg "tried" _ _ _ := ⟨PySem.W.mg_of X G aTr, kTr, bTr⟩
  have DEv : Df K mg "everything" _ _ _ := ⟨PySem.W.mg_of X G aEv, kEv, bEv⟩
  have DLx : Df K mg "letters_except" _ _ _ := ⟨PySem.W.mg_of X G aLx, kLx, bLx⟩
  have DPa : Df K mg "parting" _ _ _ := ⟨PySem.W.mg_of X G aPa, kPa, bPa⟩
  have DTw : Df K mg "twins" _ _ _ := ⟨PySem.W.mg_of X G aTw, kTw, bTw⟩
  have DTe : Df K mg "tells" _ _ _ := ⟨PySem.W.mg_of X G aTe, kTe, bTe⟩
  have DTl : Df K mg "tells_word" _ _ _ := ⟨PySem.W.mg_of X G aTl, kTl, bTl⟩
  have EGs : ErrB K mg "InvalidGuesses" "index" CGs fIGs := ⟨PySem.W.mg_of X G gCGs, oexB_one xGs PySem.F.excBase_ValueError PySem.F.store_ValueError.passes (by decide +kernel) saGs ebGs tyGs kpGs, noGs, aIGs, tiGs, gaGs, ggGs, hdGs, acGs, gtc, tkc, obGs⟩
  have ENb : ErrB K mg "NotABoard" "value" CNb fINb := ⟨PySem.W.mg_of X G gCNb, oexB_one xNb PySem.F.excBase_ValueError PySem.F.store_ValueError.passes (by decide +kernel) saNb ebNb tyNb kpNb, noNb, aINb, tiNb, gaNb, ggNb, hdNb, acNb, gtc, tkc, obNb⟩
  have FC : FunC K "_law_right" "_law_right" sRight fR _ adR := ⟨⟨_, _, _, _, _, _, _, _, rfl, lR, cR⟩, kR⟩
  have TBx : TxB mg := ⟨(PySem.W.mg_none_of X G zlen),(PySem.W.mg_none_of X G zint),(PySem.W.mg_none_of X G zabs),(PySem.W.mg_none_of X G zdivmod)⟩
  have TW : TxW mg := ⟨(PySem.W.mg_none_of X G zisinstance),(PySem.W.mg_none_of X G zbool),(PySem.W.mg_none_of X G zint),(PySem.W.mg_none_of X G zstr),(PySem.W.mg_none_of X G zlen),(PySem.W.mg_none_of X G zrange), ⟨_, PySem.W.mg_of X G nMM⟩, ⟨_, PySem.W.mg_of X G nML⟩, ⟨_, PySem.W.mg_of X G nLO⟩⟩
  have TC : TxC K mg CB := ⟨⟨pg, hd, po, sa⟩, PySem.W.mg_of X G gCB, naL, naN, naS, ac, gtc, tkc, ob, kitO⟩
  have TP : TxP K mg CP := ⟨⟨pgCP, hdCP, poCP, saCP⟩, naCPuntried, naCPletters, naCPlength, naCPcopies, naCPasked_letters, naCPasked_copies, (PySem.W.mg_none_of X G zlen), (PySem.W.mg_none_of X G zenumerate), (PySem.W.mg_none_of X G zrange), (PySem.W.mg_none_of X G zmin)⟩
  have mMG : ∃ t, mg "MOST_GUESSES" = some (.int 20 t) := ⟨_, PySem.W.mg_of X G nMG⟩
  have TKx : TxK K CB := ⟨kitNoneType, kitbool, kitint, kitstr, kittuple, kitlist, kitdict⟩
  have TL : TxL mg := ⟨(PySem.W.mg_none_of X G zall),(PySem.W.mg_none_of X G zrange),(PySem.W.mg_none_of X G zmax),(PySem.W.mg_none_of X G zmin),(PySem.W.mg_none_of X G zlen)⟩
  have TG : TxG K mg CIn CGs CNb := ⟨(PySem.W.mg_none_of X G zisinstance),(PySem.W.mg_none_of X G zValueError), PySem.W.mg_of X G gCIn, PySem.W.exm_ref ebGs hdGs tyGs ssGs, PySem.W.exm_ref ebGs hdGs tyGs sNb_Gs, PySem.W.exm_ref ebNb hdNb tyNb ssNb, kit_ref ibIn tbIn sBGs, kit_type (by decide +kernel) sPGs, kit_ref ibIn tbIn sBNb, kit_type (by decide +kernel) sPNb⟩
  refine ⟨PySem.W.fnOf "law" "law" (defArgs sLaw) (defBody sLaw) (defScope sLaw) .none kVL dcL pmL anL cdL ctL, [(adR, ptR)], fun p hp => by rw [List.mem_singleton.mp hp]; exact ⟨hPR, nnR, hCR⟩, fun s v => .of_eq rfl, fun base _ _ hM TB0 => ?_⟩
  have TB := TB0 _ (List.mem_singleton.mpr rfl)

  have GD : FnOk P w K mg base L2.CX0 1 fD _ _ spDip := ok_dip FD TBx
  have GIGs : FnOk P w K mg base L2.CX0 1 fIGs _ _ (spErr CGs "index") := ok_errB (par := "index") FIGs EGs rfl ⟨rfl, rfl, rfl, by decide +kernel, rfl, by decide +kernel, by decide +kernel⟩ (.inl rfl) (.inl rfl)
  have GINb : FnOk P w K mg base L2.CX0 1 fINb _ _ (spErr CNb "value") := ok_errB (par := "value") FINb ENb rfl ⟨rfl, rfl, rfl, by decide +kernel, rfl, by decide +kernel, by decide +kernel⟩ (.inl rfl) (.inl rfl)
  have MPf : Meth K CP "first_pair" fPf := ⟨aPf, iPf, kPf⟩
  have MPs : Meth K CP "pair_seen_at" fPs := ⟨aPs, iPs, kPs⟩
  have MPw : Meth K CP "pair_with" fPw := ⟨aPw, iPw, kPw⟩
  have MPy : Meth K CP "ways_from" fPy := ⟨aPy, iPy, kPy⟩
  have MPo : Meth K CP "pair_of" fPo := ⟨aPo, iPo, kPo⟩
  have MPd : Meth K CP "word_of" fPd := ⟨aPd, iPd, kPd⟩
  have GWi : FnOk P w K mg base L2.CX0 1 fW _ _ (spWithin K) := ok_within FW TW
  have GI : FnOk P w K mg base L2.CX0 2 fI _ _ (spInit CB) := ok_init FI TW TC (ok_alpha FA TW) DA GWi DW (ok_count FCn TW) DCn
  have GOf : FnOk P w K mg base L2.CX0 2 fOf _ _ spOfL := ok_ofL FOf ((PySem.W.mg_none_of X G zlen)) GD DD
  have GBa : FnOk P w K mg base L2.CX0 3 fBa _ _ spBadG := ok_badG FBa GOf DOf
  have GOv : FnOk P w K mg base L2.CX0 1 fOv _ _ (spOver K) := ok_over FOv TW ((PySem.W.mg_none_of X G zall))
  have GIw : FnOk P w K mg base L2.CX0 2 fIw _ _ (spIsW K CB none) := ok_isW FIw TC GOv DOv
  have GCb : FnOk P w K mg base L2.CX0 1 fCb _ _ (spChkB CB) := ok_chkB FCb TW TC
  have GCg : FnOk P w K mg base L2.CX0 3 fCg _ _ (spChkG CB) := ok_chkG FCg ((PySem.W.mg_none_of X G zlen)) ((PySem.W.mg_none_of X G zenumerate)) ((PySem.W.mg_none_of X G zisinstance)) ((PySem.W.mg_none_of X G ztuple)) mMG GIw DIw
  have GRp : FnOk P w K mg base L2.CX0 1 fRp _ _ (spRepr CB) := ok_repr FRp TC
  have GLt : FnOk P w K mg base L2.CX0 1 fLt _ _ (spLatT CB) := ok_latT FLt TC
  have GMc : FnOk P w K mg base L2.CX0 1 fMc _ _ spMost := ok_most FMc ((PySem.W.mg_none_of X G zmax))
  have GTb : FnOk P w K mg base L2.CX0 2 fTb _ _ (spTrBy CB) := ok_trby FTb TC ((PySem.W.mg_none_of X G zrange)) ((PySem.W.mg_none_of X G ztuple)) GLt DLt GMc DMc
  have GTr : FnOk P w K mg base L2.CX0 4 fTr _ _ (spTrBy CB) := ok_tried FTr GCb DCb GCg DCg GTb DTb
  have GEv : FnOk P w K mg base L2.CX0 1 fEv _ _ (spEvry CB) := ok_evry FEv TC ((PySem.W.mg_none_of X G zrange)) ((PySem.W.mg_none_of X G ztuple))
  have GLxT : FnOk P w K mg base L2.CX0 1 fLx _ _ spLtT := ok_ltT FLx
  have GLxD : FnOk P w K mg base L2.CX0 1 fLx _ _ spLtD := ok_ltD FLx
  have GPd : FnOk P w K mg base L2.CX0 1 fPd _ _ (spWordOf CP) := ok_wordOf FPd TP
  have GPo : FnOk P w K mg base L2.CX0 2 fPo _ _ (spPairOf CP) := ok_pairOf FPo TP MPd GPd bPd
  have GPy : FnOk P w K mg base L2.CX0 2 fPy _ _ (spWays K CP) := ok_ways FPy TP GLxD DLx
  have GPw : FnOk P w K mg base L2.CX0 3 fPw _ _ (spWith CP) := ok_with FPw TP MPo GPo bPo
  have GPs : FnOk P w K mg base L2.CX0 4 fPs _ _ (spSeen CP) := ok_seen FPs TP MPy GPy bPy MPw GPw bPw
  have GPf : FnOk P w K mg base L2.CX0 5 fPf _ _ (spFirst CP) := ok_first FPf TP MPs GPs bPs
  have GPi : FnOk P w K mg base L2.CX0 2 fPi _ _ (spPInit CB CP) := ok_pinit FPi TP TC ((PySem.W.mg_none_of X G zdict)) ((PySem.W.mg_none_of X G zzip)) GLxT DLx
  have MPi : Mk K CP fPi := ⟨mkiCP, aPi, iPi, kcCP⟩
  have GPa : FnOk P w K mg base L2.CX0 6 fPa _ _ (spPartN CB) := ok_part FPa TP (PySem.W.mg_of X G gCP) GCb DCb GCg DCg GTb DTb MPi GPi bPi MPf GPf bPf
  have GTw : FnOk P w K mg base L2.CX0 6 fTw _ _ (spTwin0 CB) := ok_twins FTw TP (PySem.W.mg_of X G gCP) GCb DCb GCg DCg GTb DTb GEv DEv MPi GPi bPi MPf GPf bPf
  have GTe : FnOk P w K mg base L2.CX0 7 fTe _ _ (spTellN CB) := ok_tells FTe GPa DPa
  have GTl : FnOk P w K mg base L2.CX0 7 fTl _ _ (spTellW0 CB) := ok_tellW FTl GTw DTw
  have GCbX : FnOk P w K mg base (L2.CX P w) 3 fCb _ _ (spChkBX K CB CNb) := ok_chkBX FCb TW TC ENb GINb bINb
  have GCgX : FnOk P w K mg base (L2.CX P w) 3 fCg _ _ (spChkGX K CB CGs) := ok_chkGX FCg ((PySem.W.mg_none_of X G zlen)) ((PySem.W.mg_none_of X G zenumerate)) ((PySem.W.mg_none_of X G zisinstance)) ((PySem.W.mg_none_of X G ztuple)) mMG GIw DIw EGs GIGs bIGs
  have GTrX : FnOk P w K mg base (L2.CX P w) 4 fTr _ _ (spRef2 K CB CNb CGs) := ok_triedX FTr TC GCbX DCb GCgX DCg
  have GTwX : FnOk P w K mg base (L2.CX P w) 4 fTw _ _ (spRef2 K CB CNb CGs) := ok_twinsX FTw TC GCbX DCb GCgX DCg
  have GTlX : FnOk P w K mg base (L2.CX P w) 5 fTl _ _ (spRef2 K CB CNb CGs) := ok_tellWX FTl GTwX DTw
  have GPaX : FnOk P w K mg base (L2.CX P w) 4 fPa _ _ (spRef3 K CB CNb CGs) := ok_partX FPa TC GCbX DCb GCgX DCg
  have GTeX : FnOk P w K mg base (L2.CX P w) 5 fTe _ _ (spRef3 K CB CNb CGs) := ok_tellsX FTe GPaX DPa
  obtain ⟨fs2, fds2, e20, e21, e22, h2⟩ := fam3 (Pr := fun f fd => FnOk P w K mg base (L2.CX P w) 5 f fd ["board", "guesses"] (spRef2 K CB CNb CGs) ∧ PySem.W.keepIn K (.ref f) = true ∧ Binds K fd ["board", "guesses"] [] ∧ KBinds K fd ["board", "guesses"] ["guesses", "board"] gRev2 gRev2) ⟨GTrX.mono (by decide), kTr, bTr, kw_tried FTr⟩ ⟨GTlX, kTl, bTl, kw_tells_word FTl⟩ ⟨GTwX.mono (by decide), kTw, bTw, kw_twins FTw⟩
  obtain ⟨fs3, fds3, e30, e31, h3⟩ := fam2 (Pr := fun f fd => FnOk P w K mg base (L2.CX P w) 5 f fd ["board", "guesses", "other_guesses"] (spRef3 K CB CNb CGs) ∧ PySem.W.keepIn K (.ref f) = true ∧ Binds K fd ["board", "guesses", "other_guesses"] []) ⟨GTeX, kTe, bTe⟩ ⟨GPaX.mono (by decide), kPa, bPa⟩
  have GR : FnG P w K mg base L2.CX0 8 fR _ _ (spRight ptR) := ok_right FC (PySem.W.mg_none_of X G zrepr) TC TKx TG EGs ENb FGt DGt GOf DOf GBa DBa GI ⟨mk, aI, iI, kc⟩ bI (fun j => (h2 j).1) (fun j => (h2 j).2.1) (fun j => (h2 j).2.2.1) (fun j => (h2 j).2.2.2) (by rw [e20]; exact PySem.W.mg_of X G aTr) (by rw [e21]; exact PySem.W.mg_of X G aTl) (by rw [e22]; exact PySem.W.mg_of X G aTw)
    (fun j => (h3 j).1) (fun j => (h3 j).2.1) (fun j => (h3 j).2.2) (by rw [e30]; exact PySem.W.mg_of X G aTe) (by rw [e31]; exact PySem.W.mg_of X G aPa) GTe DTe GTl DTl GTr DTr GRp aRp iRp bRp hM TB
  exact ok_law FL TL (ok_bowl FB TBx) DB GR DR

/-! the head -/
theorem of_says {P : Program} {w : World} {K : PySem.W.Frag} {h : Heap} {mg : Str → Option Value} {fa : Addr} (X : K.In h) (G : h.Ns mainGlobals mg) (hfa : mg "law" = some (.ref fa)) (c : HX.SaysA fnH tfH exH exI h K) :
    ∃ (fd : FuncData) (cs : List (Addr × Addr)), (∀ p ∈ cs, h.get? p.2 = some { cls := .none, data := .fields #[] } ∧ K.lookup p.2 = none ∧ PySem.W.CodeHd h p.1 p.2) ∧ (∀ (s : Shared) (u : Value), BindsTo s fd ⟨[u], []⟩ [("_law_script", u)]) ∧
      ∀ base : Heap, K.In base → base.Ns mainGlobals mg → (∃ mm, base.Ns sysModules mm) → (∀ p ∈ cs, TabB base mg p.1 p.2) → FnG P w K mg base L2.CX0 9 fa fd ["_law_script"] (fun vs H Q E => (∀ p ∈ cs, H p.2 = some (.tbl #[])) ∧ spLaw K vs H Q E) := by
  have mm := c.more
  have mm : exH K = true := mm
  unfold exH at mm
  have m2 := HX.and_r mm
  replace mm := HX.and_l mm
  have m1 := HX.and_r mm
  replace mm := HX.and_l mm
  have m0 := mm
  have mm := c.more2
  have mm : exI K = true := mm
  unfold exI at mm
  have m5 := HX.and_r mm
  replace mm := HX.and_l mm
  have m4 := HX.and_r mm
  replace mm := HX.and_l mm
  have m3 := mm
  obtain ⟨ocB, odB, kVB, dcB, pmB, anB, cdB, ctB, slB, lB, cB, kB⟩ := c.def_ 0 (d := dHB) rfl rfl
  obtain ⟨ocD, odD, kVD, dcD, pmD, anD, cdD, ctD, slD, lD, cD, kD⟩ := c.def_ 1 (d := dHD) rfl rfl
  obtain ⟨ocOf, odOf, kVOf, dcOf, pmOf, anOf, cdOf, ctOf, slOf, lOf, cOf, kOf⟩ := c.def_ 2 (d := dHOf) rfl rfl
  obtain ⟨ocGt, odGt, kVGt, dcGt, pmGt, anGt, cdGt, ctGt, slGt, lGt, cGt, kGt⟩ := c.def_ 3 (d := dHGt) rfl rfl
  obtain ⟨ocBa, odBa, kVBa, dcBa, pmBa, anBa, cdBa, ctBa, slBa, lBa, cBa, kBa⟩ := c.def_ 4 (d := dHBa) rfl rfl
  obtain ⟨ocR, odR, kVR, dcR, pmR, anR, cdR0, ctR, slR, lR, cR, kR⟩ := c.def_ 5 (d := dHR) rfl rfl
  obtain ⟨adR, rfl⟩ := He.codeIn_ref cR
  obtain ⟨ocL, odL, kVL, dcL, pmL, anL, cdL, ctL, slL, lL, cL, kL⟩ := c.def_ 6 (d := dHL) rfl rfl
  obtain ⟨ocW, odW, kVW, dcW, pmW, anW, cdW, ctW, slW, lW, cW, kW⟩ := c.def_ 7 (d := dHW) rfl rfl
  obtain ⟨ocA, odA, kVA, dcA, pmA, anA, cdA, ctA, slA, lA, cA, kA⟩ := c.def_ 8 (d := dHA) rfl rfl
  obtain ⟨ocCn, odCn, kVCn, dcCn, pmCn, anCn, cdCn, ctCn, slCn, lCn, cCn, kCn⟩ := c.def_ 9 (d := dHCn) rfl rfl
  obtain ⟨ocOv, odOv, kVOv, dcOv, pmOv, anOv, cdOv, ctOv, slOv, lOv, cOv, kOv⟩ := c.def_ 10 (d := dHOv) rfl rfl
  obtain ⟨ocIw, odIw, kVIw, dcIw, pmIw, anIw, cdIw, ctIw, slIw, lIw, cIw, kIw⟩ := c.def_ 11 (d := dHIw) rfl rfl
  obtain ⟨ocCb, odCb, kVCb, dcCb, pmCb, anCb, cdCb, ctCb, slCb, lCb, cCb, kCb⟩ := c.def_ 12 (d := dHCb) rfl rfl
  obtain ⟨ocCg, odCg, kVCg, dcCg, pmCg, anCg, cdCg, ctCg, slCg, lCg, cCg, kCg⟩ := c.def_ 13 (d := dHCg) rfl rfl
  obtain ⟨ocLt, odLt, kVLt, dcLt, pmLt, anLt, cdLt, ctLt, slLt, lLt, cLt, kLt⟩ := c.def_ 14 (d := dHLt) rfl rfl
  obtain ⟨ocMc, odMc, kVMc, dcMc, pmMc, anMc, cdMc, ctMc, slMc, lMc, cMc, kMc⟩ := c.def_ 15 (d := dHMc) rfl rfl
  obtain ⟨ocTb, odTb, kVTb, dcTb, pmTb, anTb, cdTb, ctTb, slTb, lTb, cTb, kTb⟩ := c.def_ 16 (d := dHTb) rfl rfl
  obtain ⟨ocTr, odTr, kVTr, dcTr, pmTr, anTr, cdTr, ctTr, slTr, lTr, cTr, kTr⟩ := c.def_ 17 (d := dHTr) rfl rfl
  obtain ⟨ocEv, odEv, kVEv, dcEv, pmEv, anEv, cdEv, ctEv, slEv, lEv, cEv, kEv⟩ := c.def_ 18 (d := dHEv) rfl rfl
  obtain ⟨ocLx, odLx, kVLx, dcLx, pmLx, anLx, cdLx, ctLx, slLx, lLx, cLx, kLx⟩ := c.def_ 19 (d := dHLx) rfl rfl
  obtain ⟨ocPa, odPa, kVPa, dcPa, pmPa, anPa, cdPa, ctPa, slPa, lPa, cPa, kPa⟩ := c.def_ 20 (d := dHPa) rfl rfl
  obtain ⟨ocTw, odTw, kVTw, dcTw, pmTw, anTw, cdTw, ctTw, slTw, lTw, cTw, kTw⟩ := c.def_ 21 (d := dHTw) rfl rfl
  obtain ⟨ocTe, odTe, kVTe, dcTe, pmTe, anTe, cdTe, ctTe, slTe, lTe, cTe, kTe⟩ := c.def_ 22 (d := dHTe) rfl rfl
  obtain ⟨ocTl, odTl, kVTl, dcTl, pmTl, anTl, cdTl, ctTl, slTl, lTl, cTl, kTl⟩ := c.def_ 23 (d := dHTl) rfl rfl
  obtain ⟨ocI, odI, kVI, dcI, pmI, anI, cdI, ctI, slI, lI, cI, kI⟩ := c.def_ 24 (d := dHI) rfl rfl
  obtain ⟨ocRp, odRp, kVRp, dcRp, pmRp, anRp, cdRp, ctRp, slRp, lRp, cRp, kRp⟩ := c.def_ 25 (d := dHRp) rfl rfl
  obtain ⟨ocPi, odPi, kVPi, dcPi, pmPi, anPi, cdPi, ctPi, slPi, lPi, cPi, kPi⟩ := c.def_ 26 (d := dHPi) rfl rfl
  obtain ⟨ocPf, odPf, kVPf, dcPf, pmPf, anPf, cdPf, ctPf, slPf, lPf, cPf, kPf⟩ := c.def_ 27 (d := dHPf) rfl rfl
  obtain ⟨ocPs, odPs, kVPs, dcPs, pmPs, anPs, cdPs, ctPs, slPs, lPs, cPs, kPs⟩ := c.def_ 28 (d := dHPs) rfl rfl
  obtain ⟨ocPw, odPw, kVPw, dcPw, pmPw, anPw, cdPw, ctPw, slPw, lPw, cPw, kPw⟩ := c.def_ 29 (d := dHPw) rfl rfl
  obtain ⟨ocPy, odPy, kVPy, dcPy, pmPy, anPy, cdPy, ctPy, slPy, lPy, cPy, kPy⟩ := c.def_ 30 (d := dHPy) rfl rfl
  obtain ⟨ocPo, odPo, kVPo, dcPo, pmPo, anPo, cdPo, ctPo, slPo, lPo, cPo, kPo⟩ := c.def_ 31 (d := dHPo) rfl rfl
  obtain ⟨ocPd, odPd, kVPd, dcPd, pmPd, anPd, cdPd, ctPd, slPd, lPd, cPd, kPd⟩ := c.def_ 32 (d := dHPd) rfl rfl
  obtain ⟨ocIGs, odIGs, kVIGs, dcIGs, pmIGs, anIGs, cdIGs, ctIGs, slIGs, lIGs, cIGs, kIGs⟩ := c.def_ 33 (d := dHIGs) rfl rfl
  obtain ⟨ocINb, odINb, kVINb, dcINb, pmINb, anINb, cdINb, ctINb, slINb, lINb, cINb, kINb⟩ := c.def_ 34 (d := dHINb) rfl rfl
  have eR : He.codeOf K (("_law_right", none) : He.Defn) = adR := He.codeOf_eq (p := (("_law_right", none) : He.Defn)) lR rfl
  have mT : (("_law_right", none) : He.Defn) ∈ tfH := by unfold tfH; exact List.mem_cons_self
  have hCR := PySem.W.codeHd_of_K X (c.hd _ mT)
  have hPR := c.empty _ mT
  have nnR := c.out _ mT
  rw [show (He.cT K (("_law_right", none) : He.Defn)).1 = adR from eR] at hCR
  have gCB : PySem.W.nsIn K mainGlobals "Board" = some (some (.ref (A_CB K))) := HX.allT_of m0 0 rfl
  have gCP : PySem.W.nsIn K mainGlobals "Pairs" = some (some (.ref (A_CP K))) := HX.allT_of m0 1 rfl
  have gCIn : PySem.W.nsIn K mainGlobals "InputError" = some (some (.ref (A_CIn K))) := HX.allT_of m0 2 rfl
  have gCGs : PySem.W.nsIn K mainGlobals "InvalidGuesses" = some (some (.ref (A_CGs K))) := HX.allT_of m0 3 rfl
  have gCNb : PySem.W.nsIn K mainGlobals "NotABoard" = some (some (.ref (A_CNb K))) := HX.allT_of m0 4 rfl
  have aB : PySem.W.nsIn K mainGlobals "_law_bowl" = some (some (.ref (A_fB K))) := HX.allT_of m0 5 rfl
  have aD : PySem.W.nsIn K mainGlobals "_law_dip" = some (some (.ref (A_fD K))) := HX.allT_of m0 6 rfl
  have aOf : PySem.W.nsIn K mainGlobals "_law_of" = some (some (.ref (A_fOf K))) := HX.allT_of m0 7 rfl
  have aGt : PySem.W.nsIn K mainGlobals "_law_got" = some (some (.ref (A_fGt K))) := HX.allT_of m0 8 rfl
  have aBa : PySem.W.nsIn K mainGlobals "_law_bad" = some (some (.ref (A_fBa K))) := HX.allT_of m0 9 rfl
  have aR : PySem.W.nsIn K mainGlobals "_law_right" = some (some (.ref (A_fR K))) := HX.allT_of m0 10 rfl
  have aL : PySem.W.nsIn K mainGlobals "law" = some (some (.ref (A_fL K))) := HX.allT_of m0 11 rfl
  have aW : PySem.W.nsIn K mainGlobals "is_integer_within" = some (some (.ref (A_fW K))) := HX.allT_of m0 12 rfl
  have aA : PySem.W.nsIn K mainGlobals "is_alphabet" = some (some (.ref (A_fA K))) := HX.allT_of m0 13 rfl
  have aCn : PySem.W.nsIn K mainGlobals "count_words" = some (some (.ref (A_fCn K))) := HX.allT_of m0 14 rfl
  have aOv : PySem.W.nsIn K mainGlobals "is_text_over" = some (some (.ref (A_fOv K))) := HX.allT_of m0 15 rfl
  have aIw : PySem.W.nsIn K mainGlobals "is_word" = some (some (.ref (A_fIw K))) := HX.allT_of m0 16 rfl
  have aCb : PySem.W.nsIn K mainGlobals "check_board" = some (some (.ref (A_fCb K))) := HX.allT_of m0 17 rfl
  have aCg : PySem.W.nsIn K mainGlobals "check_guesses" = some (some (.ref (A_fCg K))) := HX.allT_of m0 18 rfl
  have aLt : PySem.W.nsIn K mainGlobals "letters_at" = some (some (.ref (A_fLt K))) := HX.allT_of m0 19 rfl
  have aMc : PySem.W.nsIn K mainGlobals "most_copies" = some (some (.ref (A_fMc K))) := HX.allT_of m0 20 rfl
  have aTb : PySem.W.nsIn K mainGlobals "tried_by" = some (some (.ref (A_fTb K))) := HX.allT_of m0 21 rfl
  have aTr : PySem.W.nsIn K mainGlobals "tried" = some (some (.ref (A_fTr K))) := HX.allT_of m0 22 rfl
  have aEv : PySem.W.nsIn K mainGlobals "everything" = some (some (.ref (A_fEv K))) := HX.allT_of m0 23 rfl
  have aLx : PySem.W.nsIn K mainGlobals "letters_except" = some (some (.ref (A_fLx K))) := HX.allT_of m0 24 rfl
  have aPa : PySem.W.nsIn K mainGlobals "parting" = some (some (.ref (A_fPa K))) := HX.allT_of m1 0 rfl
  have aTw : PySem.W.nsIn K mainGlobals "twins" = some (some (.ref (A_fTw K))) := HX.allT_of m1 1 rfl
  have aTe : PySem.W.nsIn K mainGlobals "tells" = some (some (.ref (A_fTe K))) := HX.allT_of m1 2 rfl
  have aTl : PySem.W.nsIn K mainGlobals "tells_word" = some (some (.ref (A_fTl K))) := HX.allT_of m1 3 rfl
  have aI : PySem.W.findIn K (.ref (A_CB K)) "__init__" = some (some (.ref (A_fI K))) := HX.allT_of m1 4 rfl
  have iI : PySem.W.isFn K (.ref (A_fI K)) = true := HX.allT_of m1 5 rfl
  have aRp : PySem.W.findIn K (.ref (A_CB K)) "__repr__" = some (some (.ref (A_fRp K))) := HX.allT_of m1 6 rfl
  have iRp : PySem.W.isFn K (.ref (A_fRp K)) = true := HX.allT_of m1 7 rfl
  have aPi : PySem.W.findIn K (.ref (A_CP K)) "__init__" = some (some (.ref (A_fPi K))) := HX.allT_of m1 8 rfl
  have iPi : PySem.W.isFn K (.ref (A_fPi K)) = true := HX.allT_of m1 9 rfl
  have aPf : PySem.W.findIn K (.ref (A_CP K)) "first_pair" = some (some (.ref (A_fPf K))) := HX.allT_of m1 10 rfl
  have iPf : PySem.W.isFn K (.ref (A_fPf K)) = true := HX.allT_of m1 11 rfl
  have aPs : PySem.W.findIn K (.ref (A_CP K)) "pair_seen_at" = some (some (.ref (A_fPs K))) := HX.allT_of m1 12 rfl
  have iPs : PySem.W.isFn K (.ref (A_fPs K)) = true := HX.allT_of m1 13 rfl
  have aPw : PySem.W.findIn K (.ref (A_CP K)) "pair_with" = some (some (.ref (A_fPw K))) := HX.allT_of m1 14 rfl
  have iPw : PySem.W.isFn K (.ref (A_fPw K)) = true := HX.allT_of m1 15 rfl
  have aPy : PySem.W.findIn K (.ref (A_CP K)) "ways_from" = some (some (.ref (A_fPy K))) := HX.allT_of m1 16 rfl
  have iPy : PySem.W.isFn K (.ref (A_fPy K)) = true := HX.allT_of m1 17 rfl
  have aPo : PySem.W.findIn K (.ref (A_CP K)) "pair_of" = some (some (.ref (A_fPo K))) := HX.allT_of m1 18 rfl
  have iPo : PySem.W.isFn K (.ref (A_fPo K)) = true := HX.allT_of m1 19 rfl
  have aPd : PySem.W.findIn K (.ref (A_CP K)) "word_of" = some (some (.ref (A_fPd K))) := HX.allT_of m1 20 rfl
  have iPd : PySem.W.isFn K (.ref (A_fPd K)) = true := HX.allT_of m1 21 rfl
  have aIGs : PySem.W.findIn K (.ref (A_CGs K)) "__init__" = some (some (.ref (A_fIGs K))) := HX.allT_of m1 22 rfl
  have iIGs : PySem.W.isFn K (.ref (A_fIGs K)) = true := HX.allT_of m1 23 rfl
  have aINb : PySem.W.findIn K (.ref (A_CNb K)) "__init__" = some (some (.ref (A_fINb K))) := HX.allT_of m1 24 rfl
  have iINb : PySem.W.isFn K (.ref (A_fINb K)) = true := HX.allT_of m2 0 rfl
  have gtc : PySem.W.specialIn K (.builtin "object.__class__") "__get__" = some (some (.builtin "getset_descriptor.__get__")) := HX.allT_of m2 1 rfl
  have tkc : PySem.W.takesIn K (.builtin "object.__class__") = some true := HX.allT_of m2 2 rfl
  have ibIn : PySem.W.isClsIn K (A_CIn K) = true := HX.allT_of m2 3 rfl
  have tbIn : PySem.W.typeIn K (.ref (A_CIn K)) = some (.type "type") := HX.allT_of m2 4 rfl
  obtain ⟨_, _, _, _, _, _, _, _, _, _, _, _, _, _, xGs⟩ := HX.excB_of (HX.allT_at m2 (i := 5) rfl)
  have saGs : PySem.W.findIn K (.ref (A_CGs K)) "__setattr__" = some (some (.builtin "object.__setattr__")) := HX.allT_of m2 6 rfl
  have ebGs : PySem.W.subIn K (.ref (A_CGs K)) (.type "BaseException") = some true := HX.allT_of m2 7 rfl
  have tyGs : PySem.W.typeIn K (.ref (A_CGs K)) = some (.type "type") := HX.allT_of m2 8 rfl
  have kpGs : PySem.W.keepIn K (.ref (A_CGs K)) = true := HX.allT_of m2 9 rfl
  have noGs : PySem.W.findIn K (.ref (A_CGs K)) "index" = some none := HX.allT_of m2 10 rfl
  have tiGs : PySem.W.typeIn K (.ref (A_fIGs K)) = some (.type "function") := HX.allT_of m2 11 rfl
  have gaGs : PySem.W.findIn K (.ref (A_CGs K)) "__getattribute__" = some (some (.builtin "BaseException.__getattribute__")) := HX.allT_of m2 12 rfl
  have ggGs : PySem.W.findIn K (.ref (A_CGs K)) "__getattr__" = some none := HX.allT_of m2 13 rfl
  have hdGs : PySem.W.hasDictIn K (A_CGs K) = true := HX.allT_of m2 14 rfl
  have acGs : PySem.W.findIn K (.ref (A_CGs K)) "__class__" = some (some (.builtin "object.__class__")) := HX.allT_of m2 15 rfl
  have obGs : PySem.W.mroIn K (A_CGs K) (.type "object") = some true := HX.allT_of m2 16 rfl
  have ssGs : PySem.W.subIn K (.ref (A_CGs K)) (.ref (A_CGs K)) = some true := HX.allT_of m2 17 rfl
  have sBGs : PySem.W.subIn K (.ref (A_CGs K)) (.ref (A_CIn K)) = some true := HX.allT_of m2 18 rfl
  have sPGs : PySem.W.subIn K (.ref (A_CGs K)) (.type "ValueError") = some true := HX.allT_of m2 19 rfl
  obtain ⟨_, _, _, _, _, _, _, _, _, _, _, _, _, _, xNb⟩ := HX.excB_of (HX.allT_at m2 (i := 20) rfl)
  have saNb : PySem.W.findIn K (.ref (A_CNb K)) "__setattr__" = some (some (.builtin "object.__setattr__")) := HX.allT_of m2 21 rfl
  have ebNb : PySem.W.subIn K (.ref (A_CNb K)) (.type "BaseException") = some true := HX.allT_of m2 22 rfl
  have tyNb : PySem.W.typeIn K (.ref (A_CNb K)) = some (.type "type") := HX.allT_of m2 23 rfl
  have kpNb : PySem.W.keepIn K (.ref (A_CNb K)) = true := HX.allT_of m2 24 rfl
  have noNb : PySem.W.findIn K (.ref (A_CNb K)) "value" = some none := HX.allT_of m3 0 rfl
  have tiNb : PySem.W.typeIn K (.ref (A_fINb K)) = some (.type "function") := HX.allT_of m3 1 rfl
  have gaNb : PySem.W.findIn K (.ref (A_CNb K)) "__getattribute__" = some (some (.builtin "BaseException.__getattribute__")) := HX.allT_of m3 2 rfl
  have ggNb : PySem.W.findIn K (.ref (A_CNb K)) "__getattr__" = some none := HX.allT_of m3 3 rfl
  have hdNb : PySem.W.hasDictIn K (A_CNb K) = true := HX.allT_of m3 4 rfl
  have acNb : PySem.W.findIn K (.ref (A_CNb K)) "__class__" = some (some (.builtin "object.__class__")) := HX.allT_of m3 5 rfl
  have obNb : PySem.W.mroIn K (A_CNb K) (.type "object") = some true := HX.allT_of m3 6 rfl
  have ssNb : PySem.W.subIn K (.ref (A_CNb K)) (.ref (A_CNb K)) = some true := HX.allT_of m3 7 rfl
  have sBNb : PySem.W.subIn K (.ref (A_CNb K)) (.ref (A_CIn K)) = some true := HX.allT_of m3 8 rfl
  have sPNb : PySem.W.subIn K (.ref (A_CNb K)) (.type "ValueError") = some true := HX.allT_of m3 9 rfl
  have sNb_Gs : PySem.W.subIn K (.ref (A_CNb K)) (.ref (A_CGs K)) = some false := HX.allT_of m3 10 rfl
  obtain ⟨_, nML⟩ := HX.intB_of (HX.allT_at m3 (i := 11) rfl)
  obtain ⟨_, nMM⟩ := HX.intB_of (HX.allT_at m3 (i := 12) rfl)
  obtain ⟨_, nLO⟩ := HX.strB_of (HX.allT_at m3 (i := 13) rfl)
  obtain ⟨_, nMG⟩ := HX.intB_of (HX.allT_at m3 (i := 14) rfl)
  have zlen : PySem.W.nsIn K mainGlobals "len" = some none := HX.allT_of m3 15 rfl
  have zint : PySem.W.nsIn K mainGlobals "int" = some none := HX.allT_of m3 16 rfl
  have zabs : PySem.W.nsIn K mainGlobals "abs" = some none := HX.allT_of m3 17 rfl
  have zdivmod : PySem.W.nsIn K mainGlobals "divmod" = some none := HX.allT_of m3 18 rfl
  have zisinstance : PySem.W.nsIn K mainGlobals "isinstance" = some none := HX.allT_of m3 19 rfl
  have zbool : PySem.W.nsIn K mainGlobals "bool" = some none := HX.allT_of m3 20 rfl
  have zstr : PySem.W.nsIn K mainGlobals "str" = some none := HX.allT_of m3 21 rfl
  have zrange : PySem.W.nsIn K mainGlobals "range" = some none := HX.allT_of m3 22 rfl
  have zrepr : PySem.W.nsIn K mainGlobals "repr" = some none := HX.allT_of m3 23 rfl
  have zall : PySem.W.nsIn K mainGlobals "all" = some none := HX.allT_of m3 24 rfl
  have zmax : PySem.W.nsIn K mainGlobals "max" = some none := HX.allT_of m4 0 rfl
  have zmin : PySem.W.nsIn K mainGlobals "min" = some none := HX.allT_of m4 1 rfl
  have ztuple : PySem.W.nsIn K mainGlobals "tuple" = some none := HX.allT_of m4 2 rfl
  have zValueError : PySem.W.nsIn K mainGlobals "ValueError" = some none := HX.allT_of m4 3 rfl
  have zzip : PySem.W.nsIn K mainGlobals "zip" = some none := HX.allT_of m4 4 rfl
  have zenumerate : PySem.W.nsIn K mainGlobals "enumerate" = some none := HX.allT_of m4 5 rfl
  have zdict : PySem.W.nsIn K mainGlobals "dict" = some none := HX.allT_of m4 6 rfl
  have pg : PySem.W.plainGet K (A_CB K) Str.empty = true := HX.allT_of m4 7 rfl
  have hd : PySem.W.hasDictIn K (A_CB K) = true := HX.allT_of m4 8 rfl
  have po : PySem.W.plainOver K (A_CB K) = true := HX.allT_of m4 9 rfl
  have sa : PySem.W.findIn K (.ref (A_CB K)) "__setattr__" = some (some (.builtin "object.__setattr__")) := HX.allT_of m4 10 rfl
  have mk : PySem.W.makesIn K (A_CB K) = true := HX.allT_of m4 11 rfl
  have kc : PySem.W.keepIn K (.ref (A_CB K)) = true := HX.allT_of m4 12 rfl
  have naL : PySem.W.findIn K (.ref (A_CB K)) "letters" = some none := HX.allT_of m4 13 rfl
  have naN : PySem.W.findIn K (.ref (A_CB K)) "length" = some none := HX.allT_of m4 14 rfl
  have naS : PySem.W.findIn K (.ref (A_CB K)) "size" = some none := HX.allT_of m4 15 rfl
  have ac : PySem.W.findIn K (.ref (A_CB K)) "__class__" = some (some (.builtin "object.__class__")) := HX.allT_of m4 16 rfl
  have ob : PySem.W.mroIn K (A_CB K) (.type "object") = some true := HX.allT_of m4 17 rfl
  have kitO : PySem.W.kitOne K (.ref (A_CB K)) (.ref (A_CB K)) = some true := HX.allT_of m4 18 rfl
  have kitNoneType : PySem.W.kitOne K (.type "NoneType") (.ref (A_CB K)) = some false := HX.allT_of m4 19 rfl
  have kitbool : PySem.W.kitOne K (.type "bool") (.ref (A_CB K)) = some false := HX.allT_of m4 20 rfl
  have kitint : PySem.W.kitOne K (.type "int") (.ref (A_CB K)) = some false := HX.allT_of m4 21 rfl
  have kitstr : PySem.W.kitOne K (.type "str") (.ref (A_CB K)) = some false := HX.allT_of m4 22 rfl
  have kittuple : PySem.W.kitOne K (.type "tuple") (.ref (A_CB K)) = some false := HX.allT_of m4 23 rfl
  have kitlist : PySem.W.kitOne K (.type "list") (.ref (A_CB K)) = some false := HX.allT_of m4 24 rfl
  have kitdict : PySem.W.kitOne K (.type "dict") (.ref (A_CB K)) = some false := HX.allT_of m5 0 rfl
  have pgCP : PySem.W.plainGet K (A_CP K) Str.empty = true := HX.allT_of m5 1 rfl
  have hdCP : PySem.W.hasDictIn K (A_CP K) = true := HX.allT_of m5 2 rfl
  have poCP : PySem.W.plainOver K (A_CP K) = true := HX.allT_of m5 3 rfl
  have saCP : PySem.W.findIn K (.ref (A_CP K)) "__setattr__" = some (some (.builtin "object.__setattr__")) := HX.allT_of m5 4 rfl
  have mkiCP : PySem.W.makesIn K (A_CP K) = true := HX.allT_of m5 5 rfl
  have kcCP : PySem.W.keepIn K (.ref (A_CP K)) = true := HX.allT_of m5 6 rfl
  have naCPletters : PySem.W.findIn K (.ref (A_CP K)) "letters" = some none := HX.allT_of m5 7 rfl
  have naCPlength : PySem.W.findIn K (.ref (A_CP K)) "length" = some none := HX.allT_of m5 8 rfl
  have naCPuntried : PySem.W.findIn K (.ref (A_CP K)) "untried" = some none := HX.allT_of m5 9 rfl
  have naCPcopies : PySem.W.findIn K (.ref (A_CP K)) "copies" = some none := HX.allT_of m5 10 rfl
  have naCPasked_letters : PySem.W.findIn K (.ref (A_CP K)) "asked_letters" = some none := HX.allT_of m5 11 rfl
  have naCPasked_copies : PySem.W.findIn K (.ref (A_CP K)) "asked_copies" = some none := HX.allT_of m5 12 rfl
  exact all_mk X G hfa gCB gCP gCIn gCGs gCNb aB lB cB kB aD lD cD kD aOf lOf cOf kOf aGt lGt cGt kGt aBa lBa cBa kBa aR lR cR kR aL lL cL kL aW lW cW kW aA lA cA kA aCn lCn cCn kCn aOv lOv cOv kOv aIw lIw cIw kIw aCb lCb cCb kCb aCg lCg cCg kCg aLt lLt cLt kLt aMc lMc cMc kMc aTb lTb cTb kTb aTr lTr cTr kTr aEv lEv cEv kEv aLx lLx cLx kLx aPa lPa cPa kPa aTw lTw cTw kTw aTe lTe cTe kTe aTl lTl cTl kTl aI iI lI cI kI aRp iRp lRp cRp kRp aPi iPi lPi cPi kPi aPf iPf lPf cPf kPf aPs iPs lPs cPs kPs aPw iPw lPw cPw kPw aPy iPy lPy cPy kPy aPo iPo lPo cPo kPo aPd iPd lPd cPd kPd aIGs iIGs lIGs cIGs kIGs aINb iINb lINb cINb kINb gtc tkc ibIn tbIn xGs saGs ebGs tyGs kpGs noGs tiGs gaGs ggGs hdGs acGs obGs ssGs sBGs sPGs xNb saNb ebNb tyNb kpNb noNb tiNb gaNb ggNb hdNb acNb obNb ssNb sBNb sPNb sNb_Gs nML nMM nLO nMG zlen zint zabs zdivmod zisinstance zbool zstr zrange zrepr zall zmax zmin ztuple zValueError zzip zenumerate zdict pg hd po sa mk kc naL naN naS ac ob kitO kitNoneType kitbool kitint kitstr kittuple kitlist kitdict pgCP hdCP poCP saCP mkiCP kcCP naCPletters naCPlength naCPuntried naCPcopies naCPasked_letters naCPasked_copies hPR nnR hCR
end Gm
open PySem PySem.W PySem.Calls PyProof.Rows
theorem PySem.Challenge.cw_guessmarks_k18_lists_refused_holds : PySem.Challenge.rw_guessmarks_k18_lists_refused.Holds := by
  w_on; o_law
  refine HandSHeadRun.head_any (r := OpenLaw.row PySem.Challenge.rw_guessmarks_k18_lists_refused) (q := view (OpenLaw.row PySem.Challenge.rw_guessmarks_k18_lists_refused).prog [45]) (H := Gm.hkH) (ob := Gm.obH) (M := 12000) (loose := Gm.namesH) (d := HandSHeadRun.topDef (OpenLaw.row PySem.Challenge.rw_guessmarks_k18_lists_refused).prog 45) (kwd := []) Gm.obH_eq
    (by kernel_rfl) (fun s => by kernel_rfl) Gm.runH (by kernel_rfl) (by kernel_rfl) (by kernel_rfl) (by rfl) (by first | assumption | decide +kernel) (by decide +kernel) ⟨rfl, rfl, rfl, rfl, rfl, by decide +kernel⟩ ?hw ?hc
  case hw => w_witness2
  case hc =>
    refine L2.walkGE (l := PySem.Challenge.rw_guessmarks_k18_lists_refused) (n := 63) (k := 9) (x := "_law_script") rfl (by decide) (by kernel_rfl) ⟨rfl, by decide, by decide⟩ (by first | kernel_rfl | decide +kernel) ?F
    intro w mg fa h Y G hmg0
    obtain ⟨K, KX, c⟩ := Y
    have hmg : mg ("law" : PySem.Str) = some (.ref fa) := by
      have e : (HandSHeadRun.topDef (OpenLaw.row PySem.Challenge.rw_guessmarks_k18_lists_refused).prog 45).name = ("law" : PySem.Str) := by kernel_rfl
      rw [← e]
      exact hmg0
    obtain ⟨fd, cs, hC, hb, hF⟩ := Gm.of_says (P := (PySem.Challenge.rw_guessmarks_k18_lists_refused).prog) (w := w) KX G hmg c
    exact ⟨K, fd, cs, _, KX, hC, hb, fun H a ns hl hT hS => ⟨hT, a, ns, rfl, hS, hl, fun _ => rfl⟩, hF⟩

